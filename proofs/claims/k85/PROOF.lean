import PyProof.Rows.All
import KE.KIntText
import OpenK.KEqL
import KE.KNestM
import KE.KRevSl
import KE.KTryMore
import KE.KMinKey
import KE.KLam
import PySem.Challenge.RW_evenpass_k85_what_a_desk_tells_of_nets
set_option Elab.async false
set_option linter.all false
set_option genSizeOf false
set_option compiler.extract_closed false
set_option maxRecDepth 100000
set_option maxHeartbeats 4000000
local macro_rules|`(#where)=>return Lean.mkNullNode ((<-((List.range 1255).map (s!"o_{·}")++"heap_1255 tree_1254 heap_39 tree_1197 tree_1062 tree_1017 tree_878 view_39 tree_1118 tree_785 tree_630 tree_711 tree_501 tree_480 tree_398 tree_318 sts_1198 tree_964 tree_245 sts_1119 sts_502 sts_319 sts_715 tree_194 sts_399 sts_246 tree_179 tree_164 sts_1063 tree_149 sts_965 sts_195 tree_134 sts_1021 sts_879 sts_786 sts_49 tree_119 sts_481 tree_92 sts_93 heap_46 sts_150 sts_135 sts_120 sts_165 sts_180 tree_47 env_41".splitOn " ").mapM fun x=>`(theorem $(Lean.mkIdent (.mkSimple s!"tw{(`h0++.mkSimple x).hash}")) : True:=⟨⟩)).toArray)
namespace PySem.W.Fast
#where
theorem tw8081639333964727171:True:=⟨⟩
theorem tw9053879742412750924:True:=⟨⟩
end PySem.W.Fast
set_option maxHeartbeats 0 in
open_top h0 for PySem.Challenge.rw_evenpass_k85_what_a_desk_tells_of_nets
open PySem
variable {us aM vs:List Value} {u cd pm ct oc:Value} {a it C f:Addr} {h aF:Heap} {items:Array Value} {α β:Type} {P prog:Program} {w:World} {g':Array GenState} {t' i n tk:Nat} {ch fp:List Addr} {N ps:List Str} {x qual:Str} {A:Around} {E Q:Value->Shared->Prop} {e tg:Expr} {s:Shared} {pos pos' p:Pos} {aq:List (Addr×Obj)} {op:CmpOp} {K:PySem.W.Frag} {es:List Expr} {body:List Stmt} {lo hi:Int} {mA mg:Str->Option Value} {pl:Sem Bool} {R:Result->Shared->Prop} {kw:List (Str×Value)} {env:Env} {fd:FuncData} {outer:List Env} {kindOf:Str->Option NameKind} {scope:Scope} {params:Arguments} {an od:Option Addr} {osl:Array (Option Value)}
section
local macro_rules | `(tactic| lk) => `(tactic| first | lia | omega)
local macro_rules | `(tactic| k_in) => `(tactic| first | exact Or.inl rfl | exact Or.inr rfl)
local macro_rules | `(tactic| k_ne) => `(tactic| first | decide | lia | omega)
local macro_rules | `(tactic| k_go) => `(tactic| decide +kernel)
local macro_rules | `(tactic| k_dec) => `(tactic| walk_at "b1")
local macro_rules | `(tactic| k_sub) => `(tactic| walk_at "b2")
def U7:=@Sum.inl.inj
def kh:=@decide_eq_false
def DN:=@beq_eq_false_iff_ne
def U8:=@Sum.inr.inj
def uE:=@PySem.Paired.length
def bF:=@if_pos
def bw:=@if_neg
def gw:=@Option.some.inj
def cJ:=@PySem.Heap.lt_size
def eV:=@PySem.Heap.get?_push_size
def j9:=@Nat.lt_of_lt_of_le
def qP:=@Nat.lt_irrefl
def fG:=@Nat.ne_of_lt
def TV:=@PySem.W.hideAll_get
def G6:=@List.mem_filter
def sO:=@List.mem_range
def eU:=@Nat.le_trans
def Dr:=@Nat.le_of_lt
def TX:=@List.filterMap_cons
def iU:=@List.mem_cons_self
def gK:=@List.mem_cons_of_mem
def gn:=@List.mem_cons
def bL:=@Ne.symm
def o9:=@List.mem_append
def Ag:=@List.mem_append_left
def gb:=@List.getElem?_eq_some_iff
def G7:=@List.getElem?_set_self
def G8:=@List.getElem?_set_ne
def jc:=@PySem.wpAny_mono
def adZ:=@PySem.Calls.Name_function_global
def pZ:=@PySem.wpAny_truthy_bool
def sS:=@Array.length_toList
def gM:=@congrArg
def vV:=@PySem.wpAny_execs_nil
def G9:=@PySem.wpAny_execs_cons
def aW:=@PySem.wpAny_bind
def mX:=@PySem.wpAny_holding
def Ma:=@PySem.wpAny_standAt
def Ah:=@PySem.wpAny_passesOwn
def iV:=@Bool.false_ne_true
def vW:=@Nat.ne_of_gt
def cB:=@PySem.wpAny_pure
def TY:=@PySem.wpAny_pyNext_list_item
def T7:=@PySem.wpAny_pyNext_list_end
def Mf:=@Int.mul_one
def Ds:=@PySem.wpAny_pyIter_list
def cP:=@PySem.Heap.get?_push_of_some
def bJ:=@Nat.le_refl
def Mg:=@PySem.wpAny_pyIter_tuple
def Ai:=@PyProof.Rows.callWith_type1
def T8:=@List.mem_filterMap
def iW:=@List.mem_append_right
def d_:=@Nat.zero_le
def T9:=@Int.fdiv_eq_ediv_of_nonneg
def ad0:=@PyProof.noPylong_small
def vX:=@Bool.eq_iff_iff
def uy:=@PySem.sizeLine_eq
def fL:=@List.size_toArray
def ad1:=@Array.mem_toList_iff
def T_:=@PySem.W.plainGet_of
def oh:=@beq_iff_eq
def gj:=@List.length_cons
def Mh:=@PySem.W.looks_findIn
def iC:=@List.map_cons
def bD:=@List.length_map
def qd:=@True.intro
def sU:=@PySem.Heap.size_push
def Ua:=@Nat.le_of_eq
def Aj:=@Nat.lt_succ_self
def qR:=@PySem.W.kia_one
def Ub:=@PySem.W.kitx_list
def Uc:=@PySem.Calls.spliced_nil
def Ud:=@PySem.Calls.spliced_cons
def kO:=@List.append_nil
def Ak:=@PySem.wpAny_call
def uz:=@PySem.codeAny_mono
def Al:=@PySem.wpAny_Call_Name_kw
def G_:=@PySem.W.callWith_K
def ad2:=@PySem.W.methodCall_KW
def Am:=@Nat.le_succ
def vY:=@List.nodup_cons
def Ue:=@List.of_mem_zip
def ad3:=@PySem.W.cellsFrom_some
def Mi:=@Option.isSome_iff_exists
def eF:=@List.length_take
def Ao:=@PySem.mem_of_lookup
def Aq:=@List.getElem?_append_right
def Hf:=@List.getElem?_replicate
def ou:=@List.getElem?_append_left
def lN:=@List.getElem?_map
def fQ:=@List.mem_of_getElem?
def dj:=@List.length_append
def uD:=@List.length_replicate
def Dt:=@PySem.wpAny_loadPart'
def Ug:=@PySem.noFill_tuple_add
def Uh:=@PySem.F.slot_tuple_add
def Ui:=@PySem.F.entry_tuple_add
def Uj:=@PySem.F.args_tuple_add_2
def o_:=@Int.toNat_natCast
def Ar:=@if_false
def Kf:=@Prod.ext
def rZ:=@if_true
def nO:=@PySem.wpAny_field
def jO:=@List.length_drop
def Cu:=@PySem.wpAny_callSpecial?_slot
def Cv:=@PyProof.Rows.slot_tuple_getitem
def Cw:=@PySem.wpAny_call_entry
def Kg:=@PySem.wpAny_typeOf
def vo:=@Bool.and_eq_true
def su:=@PySem.wpAny_newObj_type
def Kh:=@List.map_nil
def uh:=@PySem.typeIs_str
def Kl:=@PySem.Heap.get?_update_self
def vp:=@PySem.Heap.get?_update_other
def jW:=@List.length_set
def zU:=@List.any_cons
def vq:=@PySem.typeIs_int
def Ry:=@PySem.Calls.evalArgs_plain
def kI:=@List.replicate_succ
def sy:=@List.flatten_cons
def zV:=@List.append_assoc
def um:=@List.foldl_cons
def mD:=@PySem.call_meets
def Km:=@List.length_singleton
def Rz:=@Nat.add_comm
def RB:=@List.nil_append
def Ko:=@PySem.wpAny_binaryOp_repeat_ref
def Kq:=@PySem.F.fills_int_mul
def xR:=@PySem.F.slot_int_rmul
def Kr:=@PySem.F.slot_int_index
def Ks:=@PySem.F.entry_int_rmul
def Ku:=@PySem.F.args_int_rmul_2
def Kv:=@Nat.mul_comm
def d7:=@decide_eq_true
def Kw:=@Nat.lt_of_le_of_lt
def Cy:=@Or.inr
def Cz:=@List.forIn_cons
def vA:=@List.lookup_cons
def CG:=@Option.map_some
def xU:=@List.all_eq_true
def Gv:=@PySem.Walks.list
def CJ:=@List.getElem?_eq_none_iff
def Ky:=@List.mem_iff_getElem
def RD:=@List.getElem_mem
def vB:=@PySem.codeAny_builtin
def RG:=@PySem.F.entry_max_loop
def xV:=@PySem.Around.under_plainId
def zW:=@PySem.F.plain_max_loop
def oW:=@PySem.wpAny_seqItems
def sE:=@PySem.wpAny_tryCatch
def CK:=@PySem.wpAny_updateSeq
def sG:=@PySem.wpAny_letGo
def gG:=@List.take_length
def Kz:=@List.take_add_one
def vC:=@PySem.plainId_quiet
def iu:=@List.mem_singleton
def CN:=@PySem.wpAny_rule
def RJ:=@Nat.succ_ne_self
def KC:=@Nat.lt_succ_of_lt
def zX:=@PyProof.Rows.boot_max
def CP:=@List.length_pos_iff
def KH:=@List.mem_of_mem_take
def RK:=@List.mem_of_mem_drop
def acB:=@PyProof.noPylong_of_log2
def iM:=@of_decide_eq_true
def vD:=@List.foldl_append
def RL:=@List.map_set
def dF:=@List.map_append
def qJ:=@Int.le_trans
def sH:=@Bool.or_eq_true
def CQ:=@decide_eq_true_eq
def kJ:=@Int.le_refl
def KJ:=@PySem.F.slot_tuple_iterator_next
def acC:=@PySem.F.entry_tuple_iterator_next
def acD:=@PySem.F.args_tuple_iterator_next_1
def Gw:=@PySem.Heap.SameBut.update
def RM:=@PySem.AutoSeq1.wpAny_loadPart'
def CT:=@PySem.Value.type.inj
def acE:=@PySem.wpAny_letOwnedTupleGo_enum
def KN:=@PySem.wpAny_pyIter_enum
def vG:=@Nat.min_eq_left
def RN:=@Nat.pow_succ
def RP:=@Int.mul_left_comm
def KQ:=@List.getElem?_toArray
def KR:=@PySem.wpAny_pyIter_zip
def vH:=@Nat.le_add_right
def Gx:=@Nat.pow_pos
def uo:=@Nat.pow_le_pow_right
def mW:=@List.range_succ
def RQ:=@List.getElem?_range
def sI:=@List.take_of_length_le
def RV:=@List.length_eq_zero_iff
def vI:=@List.filter_append
def gW:=@List.mem_map
def KY:=@List.map_map
def RX:=@List.map_congr_left
def CV:=@List.not_mem_nil
def acF:=@PySem.F.excBase_ValueError
def KZ:=@PySem.W.Looks.ld
def CW:=@PySem.wpAny_onRaise
def acG:=@PySem.F.attr_ValueError
def K1:=@PySem.wpAny_attempt
def RZ:=@Nat.add_mul
def acH:=@List.dropLast_concat_getLast
def R0:=@Nat.sub_self
def CZ:=@List.replicate_succ'
def R3:=@List.getElem?_zip_eq_some
def R4:=@List.getElem?_eq_getElem
def C_:=@PySem.wpAny_setField_rec
def R5:=@PySem.wpAny_updateSeq_pair
def K3:=@PySem.F.slot_zip_next
def K_:=@Nat.zero_add
def acI:=@List.range_eq_range'
def xW:=@List.length_range
def R6:=@Array.toArray_toList
def uq:=@Nat.not_lt_zero
def acJ:=@List.length_erase_of_mem
def acK:=@List.mem_of_mem_erase
def acL:=@List.Pairwise.imp_of_mem
def xX:=@List.find?_cons
def R7:=@List.cons_append
def R8:=@List.length_nil
def xY:=@Nat.lt_trans
def R9:=@Option.map_eq_some_iff
def La:=@PySem.tupleKind_room_in1
def acM:=@PySem.F.slot_dict_getitem
def R_:=@PySem.F.slot_dict_get
def acN:=@PySem.F.entry_dict_get
def acO:=@PySem.F.args_dict_get_2
def Gy:=@PySem.F.slot_tuple_mul
def Sd:=@PySem.F.entry_tuple_mul
def Sg:=@PySem.F.args_tuple_mul_2
def Sh:=@PySem.F.entry_max_loop
def zY:=@PySem.F.plain_max_loop
def Dc:=@ne_true_of_eq_false
def Dd:=@PySem.F.slot_str_split
def Df:=@PySem.F.entry_str_split
def Sq:=@PySem.F.args_str_split_2
def Lb:=@PySem.sizeLine_eq
def Ss:=@PySem.F.args_str_split_3
def Sv:=@PySem.StrLaws.subAt_one
def Gz:=@List.sum_cons
def acP:=@Nat.mul_le_mul_right
def Ld:=@Nat.mul_le_mul
def GC:=@List.cons.inj
def nQ:=@decide_eq_true_iff
def Le:=@List.range'_append_1
def acQ:=@List.getElem?_cons_succ
def acR:=@List.extract_toArray
def acS:=@List.extract_eq_drop_take'
def Lf:=@List.drop_drop
def Sw:=@List.drop_left
def acT:=@PySem.W.KIN.val_back
def Sx:=@List.mem_or_eq_of_mem_set
def acU:=@List.getElem?_of_mem
def acV:=@List.drop_of_length_le
def Sy:=@PySem.boot_len
def SJ:=@List.flatMap_append
def iQ:=@PySem.W.mg_of
def Dg:=@Int.emod_nonneg
def GD:=@Int.emod_lt_of_pos
def iR:=@PySem.PassesOwn.never
def ux:=@PySem.F.plainAttrs_list
def zZ:=@PySem.F.slot_list_append
def z6:=@PySem.F.type_list_append
def qK:=@Int.zero_add
def nU:=@PySem.F.plainAttrs_str
def acW:=@PySem.F.slot_str_startswith
def acX:=@PySem.F.type_str_startswith
def SM:=@Array.getElem?_toList
def acY:=@PySem.F.slot_str_partition
def acZ:=@PySem.F.type_str_partition
def z7:=@PySem.F.slot_str_split
def z8:=@PySem.F.type_str_split
def Lg:=@PySem.F.slot_str_join
def Lh:=@PySem.F.type_str_join
def SN:=@PySem.F.slot_list_extend
def SQ:=@PySem.F.type_list_extend
def SX:=@PySem.PassesOwn.leaving
def ac0:=@PyProof.Rows.boot_min
open Char (toNat)
open False (elim)
open ForInStep (yield)
open Lean (mkIdent)
open List (Nodup Pairwise Sublist foldl map range range' replicate)
open Nat (gcd toDigits)
open PySem.Builtin.Builtins (bindParams)
open PySem.Builtin.List (listTooLong)
open PySem.Builtin.Range (rangeSize)
open PySem.Builtin.Slice (sliceAdjust sliceApplied slicePlaces)
open PySem.Builtin.SmallTypes (nextOf ownedTupleHandOut ownedTupleIsFree)
open PySem.Builtin.Str (occurrences partsBetween strSliceIndices strSub subAt)
open PySem.Builtin.Tuple (tupleExact tupleItemsOf)
open PySem.Data (fields)
open PySem.Heap (ExtBut FlyingW IsList IsTuple SameBut)
open PySem.Obj (mapSeq)
open PySem.PyData (canLay0 canLayAll0 depthAll)
open PySem.Str (empty ofString)
open PySem.StrLaws (occBody)
open PySem.Txt (partition splitMax startswith)
open PySem.Value (bytes float type)
open PySem.W (Looks clsIn codeIn emptyDict excIn exmOne findIn fnOf handedIn hasDictIn hideAll instObj isFn keepIn kitAny kitOne lookIn makesIn methodObj mroIn nsIn plainGet plainOver specialIn tabIn takerIn takesIn)
namespace L2
abbrev jE:=Str×Int×Int
abbrev pA:=Option Value
abbrev mY:=List Env
abbrev gk:=List Nat
abbrev aub:=List (List Int)
abbrev oA:=List Expr
abbrev oE:=List (Str×Addr)
abbrev Av:=Unit->Shared->Prop
abbrev lO:=Value->Shared->Prop
abbrev bR:=List Str
abbrev aU:=List Int
abbrev jq:=List Addr
abbrev jf:=Option Addr
abbrev cG:=List Value
abbrev fV:=Array Value
abbrev qX:=Array pA
abbrev dH:=Str->pA
abbrev bI:=PySem.W.Frag
abbrev aK:=List (Int×Int)
section
open PySem.Spec PyProof.Rows
abbrev dR:=Sum Int Str
abbrev gQ:=List (dR×Value)
def DP:dR->Value->Bool
 |.inl k,v=>Value.isInt k v
 |.inr x,v=>Value.isStrOf x v
def arT (w:World):dR->Int
 |.inl k=>hashInt k
 |.inr x=>hashStr w x
theorem u9:∀ {k:dR} {v:Value},DP k v=true->(∃ i t,k=Sum.inl i/\v=Value.int i t)\/(∃ x t,k=Sum.inr x/\v=Value.str x t)
 |.inl i,v,h=>by obtain ⟨t,e⟩:=Value.isInt_shape (k:=i) (v:=v) h;exact .inl ⟨i,t,rfl,e⟩
 |.inr x,v,h=>by obtain ⟨t,e⟩:=Value.isStrOf_shape (x:=x) (v:=v) h;exact .inr ⟨x,t,rfl,e⟩
theorem ai1 (i:Int) (t:Tok):DP (.inl i) (.int i t)=true:=by simp [DP,Value.isInt]
theorem ai2 (x:Str) (t:Tok):DP (.inr x) (.str x t)=true:=by simp [DP,Value.isStrOf]
theorem apt (a b:Int):decide ((Sum.inl a:dR)=Sum.inl b)=(a == b):=by
 by_cases e:a=b
 ·subst e;simp
 ·have h:¬ (Sum.inl a:dR)=Sum.inl b:=λq=>e (U7 q);rw [kh h];exact (DN.mpr e).symm
theorem apu (a b:Str):decide ((Sum.inr a:dR)=Sum.inr b)=decide (a=b):=by
 by_cases e:a=b
 ·subst e;simp
 ·have h:¬ (Sum.inr a:dR)=Sum.inr b:=λq=>e (U8 q);rw [kh h,kh e]
theorem apv (a:Int) (b:Str):decide ((Sum.inl a:dR)=Sum.inr b)=false:=kh (λq=>nomatch q)
theorem apw (a:Str) (b:Int):decide ((Sum.inr a:dR)=Sum.inl b)=false:=kh (λq=>nomatch q)
def jD (prog:Program) (w:World):PySem.KeyKind prog w dR where
 is:=DP
 hash:=arT w
 inj:=λv a b g d=>by
  rcases u9 g with ⟨i,t,rfl,rfl⟩|⟨x,t,rfl,rfl⟩
  ·rcases u9 d with ⟨j,u,rfl,e⟩|⟨y,u,rfl,e⟩
   ·injection e with e1 _;rw [e1]
   ·exact nomatch e
  ·rcases u9 d with ⟨j,u,rfl,e⟩|⟨y,u,rfl,e⟩
   ·exact nomatch e
   ·injection e with e1 _;rw [e1]
 byValue:=λk v h=>by
  rcases u9 h with ⟨i,t,rfl,rfl⟩|⟨x,t,rfl,rfl⟩<;>rfl
 pyHash:=λc h=>by
  rcases u9 c with ⟨i,t,rfl,rfl⟩|⟨x,t,rfl,rfl⟩
  ·exact wpAny_pyHash_int h
  ·exact wpAny_pyHash_str h
 eqBool:=λl c h=>by
  rcases u9 l with ⟨i,t,rfl,rfl⟩|⟨x,t,rfl,rfl⟩
  ·rcases u9 c with ⟨j,u,rfl,rfl⟩|⟨y,u,rfl,rfl⟩
   ·rw [apt] at h;exact wpAny_eqBool_int h
   ·rw [apv] at h;exact SeqAt.EqAt.int_str i t y u _ _ _ _ h
  ·rcases u9 c with ⟨j,u,rfl,rfl⟩|⟨y,u,rfl,rfl⟩
   ·rw [apw] at h;exact SeqAt.EqAt.str_int x t j u _ _ _ _ h
   ·rw [apu] at h;exact wpAny_eqBool_str h
 «strs»:=λk x t v h=>by
  rcases u9 h with ⟨i,u,rfl,e⟩|⟨y,u,rfl,e⟩
  ·exact nomatch e
  ·injection e with e1 _
   subst e1
   cases v<;>rfl
theorem ahh (prog:Program) (w:World) (i:Int) (t:Tok):(jD prog w).is (.inl i) (.int i t)=true:=ai1 i t
theorem Qc (prog:Program) (w:World) (x:Str) (t:Tok):(jD prog w).is (.inr x) (.str x t)=true:=ai2 x t
inductive V where
 |non|bl (b:Bool)|int (i:Int)|str (x:Str)|pO (b:Array UInt8)|flt (b:UInt64)|ref (a:Addr)|ty (n:String)
 deriving DecidableEq
abbrev aD:=List V
abbrev dh:=List (dR×V)
def cC:V->Value->Prop
 |.non,u=>u=Value.none
 |.bl b,u=>u=Value.bool b
 |.int i,u=>∃ t,u=Value.int i t
 |.str x,u=>∃ t,u=Value.str x t
 |.pO b,u=>∃ t,u=bytes b t
 |.flt b,u=>∃ t,u=float b t
 |.ref a,u=>u=Value.ref a
 |.ty n,u=>u=type n
abbrev bY:aD->cG->Prop:=Paired cC
theorem bY.length {xs:aD} (r:bY xs us):xs.length=us.length:=uE r
theorem bY.get:∀ {xs:aD} {us:cG} {i:Nat} {x:V},bY xs us->xs[i]?=some x->∃ u,us[i]?=some u/\cC x u
 |_,_,_,_,.nil,e=>by simp at e
 |_,_,0,_,.cons r _,e=>by simp at e;subst e;exact ⟨_,rfl,r⟩
 |_,_,i+1,x,.cons _ t,e=>by obtain ⟨u,h1,h2⟩:=bY.get (i:=i) (x:=x) t (by simpa using e);exact ⟨u,by simpa using h1,h2⟩
theorem bY.set {x:V} (r:cC x u):∀ {xs:aD} {us:cG} (i:Nat),bY xs us->bY (xs.set i x) (us.set i u)
 |_,_,_,.nil=>.nil
 |_,_,0,.cons _ t=>.cons r t
 |_,_,i+1,.cons q t=>.cons q (bY.set r i t)
theorem bY.append:∀ {xs ys:aD} {us ws:cG},bY xs us->bY ys ws->bY (xs++ys) (us++ws)
 |_,_,_,_,.nil,s=>s
 |_,_,_,_,.cons r t,s=>.cons r (bY.append t s)
theorem bY.take:∀ {xs:aD} {us:cG} (n:Nat),bY xs us->bY (xs.take n) (us.take n)
 |_,_,0,_=>.nil
 |_,_,_+1,.nil=>.nil
 |_,_,n+1,.cons r t=>.cons r (bY.take n t)
theorem bY.drop:∀ {xs:aD} {us:cG} (n:Nat),bY xs us->bY (xs.drop n) (us.drop n)
 |_,_,0,r=>r
 |_,_,_+1,.nil=>.nil
 |_,_,n+1,.cons _ t=>bY.drop n t
def lY:Option V->pA->Prop
 |some v,some u=>cC v u
 |none,none=>True
 |_,_=>False
def KV {κ:Type}:List (κ×V)->List (κ×Value)->Prop:=Paired λ(p:κ×V) (q:κ×Value)=>p.1=q.1/\cC p.2 q.2
def kV:dR->V
 |.inl i=>.int i
 |.inr x=>.str x
inductive HO where
  |lst (xs:aD)
  |tup (xs:aD)
  |dK (aV:dh)|dT (aV:List (List dR×V))
  |set (S:Int->Bool) (n:Nat)
  |ins (C dx:Addr) (fs:List (Str×V))
  |own (x:Addr)
  |xd (fs:List (Str×V))
  |met (f x:Addr)
  |rng (lo hi:Int)
  |oK (o:Obj) (u:HO)
  |iy (q:jE)
  |ext (φ:Heap->Prop)
abbrev Hp:=Addr->Option HO
abbrev auc:=Nat->aD->Hp->Prop
def upd (H:Hp) (a:Addr) (o:HO):Hp:=λb=>if b=a then some o else H b
theorem aO {H:Hp} {o:HO}:upd H a o a=some o:=by unfold upd;rw [bF rfl]
theorem bh {H:Hp} {b:Addr} {o:HO} (h:b≠a):upd H a o b=H b:=by unfold upd;rw [bw h]
theorem Dh {H:Hp} {o u:HO}:upd (upd H a o) a u=upd H a u:=by
 funext b;unfold upd;split<;>rfl
theorem oJ {H:Hp} {b:Addr} {o u:HO} (h:H a=some o) (h':H b=some u) (d:o≠u):a≠b:=by intro e;subst e;rw [h] at h';exact d (gw h')
theorem cH {H:Hp} {b:Addr} {o:HO} (h:H a=some o) (h':H b=none):a≠b:=by intro e;subst e;rw [h] at h';cases h'
def oF (h:Heap) (a:Addr) (items:fV):Prop:=∃ o,h.get? a=some o/\o.cls=.type "tuple"/\∃ n,o.data=.seq items n/\o.dict=none
theorem oF.tup {h:Heap} {a:Addr} {items:fV} (x:oF h a items):IsTup h a items:=let ⟨o,e,c,n,d,_⟩:=x;⟨o,e,c,n,d⟩
theorem oF.lt (x:oF h a items):a<h.objs.size:=let ⟨_,e,_⟩:=x;cJ e
theorem oF.new (h:Heap) (items:fV):oF (h.push { cls:=.type "tuple",data:=.seq items }) h.objs.size items:=⟨_,eV _ rfl,rfl,_,rfl,rfl⟩
section
variable (P:Program) (w:World)
def dU (H:Hp) (h:Heap) (a:Addr):HO->Prop
 |.lst xs=>xs.length<=sizeLine/\∃ (aM:cG) (n:Nat),bY xs aM/\h.get? a=some { cls:=.type "list",data:=.seq aM.toArray n }
 |.tup xs=>xs.length<=sizeLine/\∃ aM:cG,bY xs aM/\oF h a aM.toArray
 |.dK aV=>aV.length<=sizeLine/\(a == sysModules)=false/\∃ vs,KV aV vs/\h.DictOf (jD P w) a vs
 |.dT aV=>aV.length<=sizeLine/\(a == sysModules)=false/\∃ xs:List (List dR×Addr×Value),
   Paired (λ(p:List dR×V) (q:List dR×Addr×Value)=>p.1=q.1/\H q.2.1=some (.tup (p.1.map kV))/\cC p.2 q.2.2) aV xs /\
   ∃ o es b,h.get? a=some o/\o.ExactDict/\o.data=.dict es b/\es.toList=xs.map (entryOfKey (tupleKind (jD P w)))/\(xs.map (·.1)).Nodup
 |.set S n=>h.SetOf (intKind P w) a S n
 |.ins C dx fs=>H dx=some (.own a)/\fs.length<=1000/\dx≠a/\h.get? a=some (instObj C dx) /\
   ∃ mA,h.Ns1 dx mA/\(∀ f,lY (fs.lookup f) (mA f))/\PySem.Within mA (fs.map (·.1))
 |.own _=>∃ o,h.get? a=some o
 |.xd fs=>∃ mA,h.Ns1 a mA/\∀ f,lY (fs.lookup f) (mA f)
 |.rng lo hi=>∃ t u v,h.get? a=some { cls:=.type "range",data:=.fields #[.int lo t,.int hi u,.int 1 v] }
 |.oK o u=>h.get? a=some o/\dU H h a u
 |.iy q=>h.get? a=some { cls:=.none,data:=.fields #[] }\/∃ c,h.get? a=some { cls:=.none,data:=.fields #[rawInt q.2.1,rawInt q.2.2,.ref c] }/\H c=some (.own a)/\h.CodeRec (.ref c) q.1
 |.met f x=>h.get? a=some (methodObj (.ref f) (.ref x))
 |.ext φ=>φ h/\(∃ o,h.get? a=some o)/\∀ h1 h2:Heap,φ h1->(∀ o,h1.get? a=some o->h2.get? a=some o)->φ h2
def gU (H:Hp) (h:Heap):Prop:=∀ a o,H a=some o->dU P w H h a o
end
section
variable {H H':Hp} {h':Heap} {o:HO}
theorem dU.lt (x:dU P w H h a o):a<h.objs.size:=by
 cases o with
 |lst xs=>obtain ⟨_,_,_,_,e⟩:=x;exact cJ e
 |tup xs=>obtain ⟨_,_,_,p⟩:=x;exact p.lt
 |dK aV=>obtain ⟨_,_,_,_,o,_,_,e,_⟩:=x;exact cJ e
 |dT aV=>obtain ⟨_,_,_,_,o,_,_,e,_⟩:=x;exact cJ e
 |set S n=>obtain ⟨o,_,_,_,e,_⟩:=x;exact cJ e
 |ins C dx fs=>obtain ⟨_,_,_,e,_⟩:=x;exact cJ e
 |own y=>obtain ⟨_,e⟩:=x;exact cJ e
 |xd fs=>obtain ⟨_,⟨_,_,_,e,_⟩,_⟩:=x;exact cJ e
 |rng lo hi=>obtain ⟨_,_,_,e⟩:=x;exact cJ e
 |oK b u=>obtain ⟨e,_⟩:=x;exact cJ e
 |iy q =>
  rcases (show h.get? a=some { cls:=.none,data:=.fields #[] }\/∃ c,h.get? a=some { cls:=.none,data:=.fields #[rawInt q.2.1,rawInt q.2.2,.ref c] }/\H c=some (.own a)/\h.CodeRec (.ref c) q.1 from x) with e|⟨_,e,_⟩
  ·exact cJ e
  ·exact cJ e
 |met f y=>exact cJ (show h.get? a=some _ from x)
 |ext φ=>obtain ⟨_,⟨_,e⟩,_⟩:=x;exact cJ e
theorem Paired.MP {F G:α->β->Prop}:∀ {l₁:List α} {l₂:List β},Paired F l₁ l₂->(∀ a b,F a b->G a b)->Paired G l₁ l₂
 |_,_,.nil,_=>.nil
 |_,_,.cons r t,f=>.cons (f _ _ r) (Paired.MP t f)
theorem dU.stay (x:dU P w H h a o) (k:∀ b u,(b=a\/H b=some (.own a))->h.get? b=some u->h'.get? b=some u) (ho:∀ b,H b=some (.own a)->H' b=some (.own a)) (ht:∀ b xs,H b=some (.tup xs)->H' b=some (.tup xs)):dU P w H' h' a o:=by
 induction o with
 |lst xs=>obtain ⟨z,aM,n,r,e⟩:=x;exact ⟨z,aM,n,r,k _ _ (.inl rfl) e⟩
 |tup xs=>obtain ⟨z,aM,r,g,e,c⟩:=x;exact ⟨z,aM,r,g,k _ _ (.inl rfl) e,c⟩
 |dK aV=>obtain ⟨z,y,vs,r,g,es,i,e,c⟩:=x;exact ⟨z,y,vs,r,g,es,i,k _ _ (.inl rfl) e,c⟩
 |dT aV =>obtain ⟨z,y,xs,r,g,es,i,e,c⟩:=x;exact ⟨z,y,xs,Paired.MP r λp q z=>⟨z.1,ht _ _ z.2.1,z.2.2⟩,g,es,i,k _ _ (.inl rfl) e,c⟩
 |set S n=>obtain ⟨g,es,i,t,e,c⟩:=x;exact ⟨g,es,i,t,k _ _ (.inl rfl) e,c⟩
 |ins C dx fs =>obtain ⟨d,z,I,e,mA,⟨od,es,i,m,c⟩,r⟩:=x;exact ⟨ho _ d,z,I,k _ _ (.inl rfl) e,mA,⟨od,es,i,k _ _ (.inr d) m,c⟩,r⟩
 |own y=>obtain ⟨g,e⟩:=x;exact ⟨g,k _ _ (.inl rfl) e⟩
 |xd fs=>obtain ⟨mA,⟨od,es,i,e,c⟩,r⟩:=x;exact ⟨mA,⟨od,es,i,k _ _ (.inl rfl) e,c⟩,r⟩
 |rng lo hi=>obtain ⟨t,u,v,e⟩:=x;exact ⟨t,u,v,k _ _ (.inl rfl) e⟩
 |oK g u D=>obtain ⟨e,q⟩:=x;exact ⟨k _ _ (.inl rfl) e,D q⟩
 |iy q =>
  rcases (show h.get? a=some { cls:=.none,data:=.fields #[] }\/∃ c,h.get? a=some { cls:=.none,data:=.fields #[rawInt q.2.1,rawInt q.2.2,.ref c] }/\H c=some (.own a)/\h.CodeRec (.ref c) q.1 from x) with e|⟨c,e,l,J,oc,vs,t,B,j,rest⟩
  ·exact .inl (k a _ (.inl rfl) e)
  ·cases B;exact .inr ⟨c,k a _ (.inl rfl) e,ho c l,c,oc,vs,t,rfl,k c _ (.inr l) j,rest⟩
 |met f y =>have e:h.get? a=some (methodObj (.ref f) (.ref y)):=x;show h'.get? a=some (methodObj (.ref f) (.ref y));exact k a _ (.inl rfl) e
 |ext φ=>obtain ⟨p,⟨o,e⟩,st⟩:=x;exact ⟨st _ _ p λo q=>k _ _ (.inl rfl) q,⟨o,k _ _ (.inl rfl) e⟩,st⟩
theorem gU.lt (x:gU P w H h) (e:H a=some o):a<h.objs.size:=(x a o e).lt
theorem gU.fresh (x:gU P w H h) (e:h.objs.size<=a):H a=none:=by
 cases q:H a with
 |none=>rfl
 |some u=>exact absurd (j9 (x.lt q) e) (qP _)
theorem gU.kept (x:gU P w H h) (k:∀ b u,h.get? b=some u->h'.get? b=some u):gU P w H h':=λa o e =>
 (x a o e).stay (λb u _ q=>k b u q) (λ_ q=>q) λ_ _ q=>q
theorem gU.laid (x:gU P w H h) (k:∀ b u,h.get? b=some u->h'.get? b=some u) (hp:h.objs.size<=a) (new:dU P w (upd H a o) h' a o):gU P w (upd H a o) h':=λb u e=>by
 have g:=x.fresh hp;by_cases d:b=a
 ·subst d;rw [aO] at e;cases e;exact new
 ·rw [bh d] at e;exact (x b u e).stay (λc v _ q=>k c v q) (λc q=>by rw [bh (cH q g)];exact q) λc xs q=>by rw [bh (cH q g)];exact q
end
def Rd (H:Hp) (a:Addr) (u:HO):Prop:=H a=some u\/∃ o,H a=some (.oK o u)
theorem Rd.ok {H:Hp} {u:HO} (r:Rd H a u) (x:gU P w H h):dU P w H h a u:=by
 rcases r with r|⟨o,r⟩
 ·exact x a u r
 ·obtain ⟨_,q⟩:=x a _ r;exact q
def Ib:Option HO->Prop
 |some (.lst _)=>True
 |some (.dK _)=>True
 |some (.dT _)=>True
 |some (.set _ _)=>True
 |some (.ins _ _ _)=>True
 |some (.ext _)=>True
 |_=>False
section
variable {H:Hp} {h':Heap} {x e:Addr} {o':HO}
theorem gU.write (ok:gU P w H h) (mu:Ib (H x)) (he:e=x\/H e=some (.own x)) (k:∀ b u,b≠e->h.get? b=some u->h'.get? b=some u) (heo:∃ u,h'.get? e=some u) (new:dU P w (upd H x o') h' x o'):gU P w (upd H x o') h':=λb u q=>by
 have d:∀ c y,H c=some (.own y)->c≠x:=λc y r z=>by subst z;rw [r] at mu;exact mu
 have j:∀ c xs,H c=some (.tup xs)->c≠x:=λc xs r z=>by subst z;rw [r] at mu;exact mu
 by_cases i:b=x
 ·subst i;rw [aO] at q;cases q;exact new
 ·rw [bh i] at q;by_cases a:b=e
  ·have l:H b=some (.own x):=by
    rcases he with z|z
    ·exact absurd (a.trans z) i
    ·rw [a];exact z
   rw [q] at l;cases l;obtain ⟨v,m⟩:=heo;exact ⟨v,by rw [a];exact m⟩
  ·refine (ok b u q).stay (λc v g r=>k c v ?_ r) (λc r=>by rw [bh (d c b r)];exact r) λc xs r=>by rw [bh (j c xs r)];exact r
   rcases g with rfl|g
   ·exact a
   ·rintro rfl;rcases he with z|z
    ·exact d c b g z
    ·rw [g] at z;cases z;exact i rfl
end
structure Un (fs ex:jq) (H H':Hp) (h h':Heap):Prop where
 keep:∀ b o,h.get? b=some o->H b=none->b∉fs->b∉ex->h'.get? b=some o
 slot:∀ b o,h.get? b=some o->H b=none->b∈fs->b∉ex->∃ sl,h'.get? b=some { o with slots:=sl }
 free:∀ b o,h.get? b=some o->H b=none->b∉ex->H' b=none
 there:∀ b o,h.get? b=some o->b∉ex->∃ o',h'.get? b=some o'
 tups:∀ b xs,H b=some (.tup xs)->H' b=some (.tup xs)
 lZ:∀ b o u,H b=some (.oK o u)->H' b=some (.oK o u)
 iw:∀ b ps,H b=some (.iy ps)->H' b=some (.iy ps)/\∀ c o,H c=some (.own b)->h.get? c=some o->H' c=some (.own b)/\h'.get? c=some o
section
variable {fs fs' ex ex':jq} {H H1 H2:Hp} {h1 h2 h':Heap} {x e:Addr} {o:HO}
theorem Un.any (u:Un fs ex H H1 h h1) {b:Addr} {ob:Obj} (q:h.get? b=some ob) (n:H b=none) (hx:b∉ex):∃ sl,h1.get? b=some { ob with slots:=sl }:=by
 by_cases a:b∈fs
 ·exact u.slot b ob q n a hx
 ·exact ⟨ob.slots,u.keep b ob q n a hx⟩
theorem Un.trans (a:Un fs ex H H1 h h1) (b:Un fs ex H1 H2 h1 h2):Un fs ex H H2 h h2 where
 keep:=λc g q n j i=>b.keep c g (a.keep c g q n j i) (a.free c g q n i) j i
 slot:=λc g q n j i=>by obtain ⟨sl,k⟩:=a.slot c g q n j i;obtain ⟨l,m⟩:=b.slot c _ k (a.free c g q n i) j i;exact ⟨l,m⟩
 free:=λc g q n i=>by obtain ⟨o',k⟩:=a.there c g q i;exact b.free c o' k (a.free c g q n i) i
 there:=λc g q i=>by obtain ⟨o',k⟩:=a.there c g q i;exact b.there c o' k i
 tups:=λc xs q=>b.tups c xs (a.tups c xs q)
 lZ:=λc g xs q=>b.lZ c g xs (a.lZ c g xs q)
 iw:=λc ps q=>⟨(b.iw c ps (a.iw c ps q).1).1,λd o e x=>let z:=(a.iw c ps q).2 d o e x;(b.iw c ps (a.iw c ps q).1).2 d o z.1 z.2⟩
theorem Un.kept (k:∀ b u,h.get? b=some u->h'.get? b=some u):Un fs ex H H h h':=⟨λb a q _ _ _=>k b a q,λb a q _ _ _=>⟨a.slots,k b a q⟩,λ_ _ _ n _=>n,λb a q _=>⟨a,k b a q⟩,λ_ _ q=>q,λ_ _ _ q=>q,λ_ _ q=>⟨q,λc o e x=>⟨e,k c o x⟩⟩⟩
theorem Un.refl:Un fs ex H H h h:=Un.kept λ_ _ q=>q
theorem Un.laid (k:∀ b u,h.get? b=some u->h'.get? b=some u) (hp:h.objs.size<=a) (hn:H a=none):Un fs ex H (upd H a o) h h' where
 keep:=λb u q _ _ _=>k b u q
 slot:=λb u q _ _ _=>⟨u.slots,k b u q⟩
 free:=λb u q n _=>by rw [bh (fG (j9 (cJ q) hp))];exact n
 there:=λb u q _=>⟨u,k b u q⟩
 tups:=λb xs q=>by rw [bh (cH q hn)];exact q
 lZ:=λb u xs q=>by rw [bh (cH q hn)];exact q
 iw:=λb ps q=>⟨by rw [bh (cH q hn)];exact q,λc u e x=>⟨by rw [bh (cH e hn)];exact e,k c u x⟩⟩
theorem Un.write (mu:Ib (H x)) (he:e=x\/H e=some (.own x)) (k:∀ b u,b≠e->h.get? b=some u->h'.get? b=some u) (heo:∃ u,h'.get? e=some u):Un fs ex H (upd H x o) h h':=by
 have j:∀ b,H b=none->b≠x:=λb n z=>by subst z;rw [n] at mu;exact mu
 have i:∀ b,H b=none->b≠e:=λb n z=>by
  subst z;rcases he with r|r
  ·exact j b n r
  ·rw [n] at r;cases r
 have a:∀ b u,H b=some u->¬ Ib (some u)->b≠x:=λb u q nm z=>by subst z;rw [q] at mu;exact nm mu
 refine ⟨λb u q n _ _=>k b u (i b n) q,λb u q n _ _=>⟨u.slots,k b u (i b n) q⟩,λb u q n _=>by rw [bh (j b n)];exact n,λb u q _=>?_,
  λb xs q=>by rw [bh (a b _ q λz=>z)];exact q,λb u xs q=>by rw [bh (a b _ q λz=>z)];exact q,λb ps q=>⟨by rw [bh (a b _ q λz=>z)];exact q,λc u g x=>⟨by rw [bh (a c _ g λz=>z)];exact g,k c u (λz=>he.elim (λr=>a c _ g (λz=>z) (z.trans r)) λr=>by rw [<-z,g] at r;cases r;rw [q] at mu;exact mu) x⟩⟩⟩
 by_cases d:b=e
 ·subst d;exact heo
 ·exact ⟨u,k b u d q⟩
theorem Un.mono (u:Un fs ex H H1 h h1) (hs:∀ b∈fs,b∈fs') (hx:∀ b∈ex,b∈ex'):Un fs' ex' H H1 h h1:=⟨λb c q n d a=>u.keep b c q n (λz=>d (hs b z)) λz=>a (hx b z),λ_ _ q n _ a=>u.any q n λz=>a (hx _ z),λb c q n a=>u.free b c q n λz=>a (hx b z),λb c q a=>u.there b c q λz=>a (hx b z),u.tups,u.lZ,u.iw⟩
end
def jA (h:Heap) (H:Hp):jq:=(range h.objs.size).filter λa=>(H a).isSome
def uH (h:Heap) (H:Hp):Heap:=hideAll h (jA h H)
theorem ai3 (h:Heap) (H:Hp):(uH h H).objs.size=h.objs.size:=PySem.W.hideAll_size _ _
theorem ald {H:Hp} {b:Addr} {o:Obj} (e:h.get? b=some o) (n:H b=none):(uH h H).get? b=some o:=TV _ e λa=>by have q:(H b).isSome=true:=(G6.mp a).2;rw [n] at q;simp at q
theorem anz {H:Hp} {b:Addr} {o:Obj} (e:(uH h H).get? b=some o):h.get? b=some o/\H b=none:=by
 have a:h.get? b=some o:=PySem.W.of_hideAll (jA h H) e;refine ⟨a,?_⟩;cases q:H b with
 |none=>rfl
 |some x =>have c:b∈jA h H:=G6.mpr ⟨sO.mpr (cJ a),by simp [q]⟩;have z:(uH h H).get? b=none:=PySem.W.hideAll_none (jA h H) c;rw [z] at e;cases e
structure Mod (K:bI) (mg:dH) (aF:Heap):Prop where
 yS:K.In aF
 glob:aF.Ns mainGlobals mg
 blt:∃ mb,aF.Ns builtinsNs mb/\∀ x:Str,x≠"__name__"->mb x=bootBuiltins x
 nolimit:aF.NoLimit
structure Cx where
 prog:Program
 w:World
 K:bI
 mg:Str->pA
 aF:Heap
 A:Around
 N:bR
 s₀:Shared
 H₀:Hp
 env:Env
 outer:mY
 stack:mY
 ex:jq
 fn:Str->Bool
 calm:Bool
 pn:List (Addr×Obj)
 xe:Value->Shared->Prop
def dY (l:mY):jq:=l.filterMap (·.frame)
abbrev Cx.fs (X:Cx):jq:=dY X.outer
def Np (sc:Scope) (x:Str):Prop:=sc.names.lookup x=some .local\/sc.names.lookup x=some .cell\/sc.names.lookup x=some .free
def wA (sc:Scope) (x:Str):Prop:=sc.names.lookup x=some .local\/sc.names.lookup x=some .cell
def Look (env:Env) (h:Heap) (m:dH) (x:Str) (u:Value):Prop :=
 (env.kindOf x=some .local/\m x=some u)\/((env.kindOf x=some .cell\/env.kindOf x=some .free)/\∃ c,env.cells.lookup x=some c/\h.IsCell c (some u))
structure Cx.Ok (X:Cx):Prop where
 mod:Mod X.K X.mg X.aF
 kind:X.env.scope.kind=.function
 glob:X.env.globals=mainGlobals
 blt:X.env.builtins=builtinsNs
 above:X.s₀.heap.objs.size<=X.env.locals
 inj:∀ x y c,X.env.cells.lookup x=some c->X.env.cells.lookup y=some c->x=y
 has:∀ x,(X.env.kindOf x=some .cell\/X.env.kindOf x=some .free)->∃ c,X.env.cells.lookup x=some c
 cab:∀ x c,X.fn x=true->X.env.cells.lookup x=some c->X.s₀.heap.objs.size<=c
 hd:X.calm=true->X.A.handled=none
 frames:X.A.frames=some X.stack
 stk:X.stack=X.outer\/(X.stack=X.env::X.outer/\X.env.frame=some X.env.locals)
 Nq:∀ b∈X.ex,b≠X.env.locals/\∀ x c,X.env.cells.lookup x=some c->c≠b
 bs:∀ b o,X.aF.get? b=some o->X.s₀.heap.get? b=some o/\X.H₀ b=none
 tV:X.aF.objs.size<=X.s₀.heap.objs.size
 Ea:∀ b o,X.aF.get? b=some o->b∉X.ex
 Eb:∀ b∈X.ex,b∉X.fs
 ql:X.s₀.heap.FunFrames X.aF X.outer
 uN:∀ b∈X.fs,X.H₀ b=none
structure aJ (X:Cx) (aq:List (Addr×Obj)) (σ:List (Option V)) (H:Hp) (s:Shared):Prop where
 ok:X.Ok
 os:s.os=X.s₀.os
 bare:AllBare s.gens
 aF:Un X.fs X.ex X.H₀ H X.s₀.heap s.heap
 loc:∃ m,s.heap.Ns X.env.locals m/\∀ (i:Nat) (x:Str) (v:V),X.N[i]?=some x->σ[i]?=some (some v)->Np X.env.scope x->∃ u,cC v u/\Look X.env s.heap m x u
 cell:∀ x c,X.env.cells.lookup x=some c->∃ v,s.heap.IsCell c v
 free:H X.env.locals=none
 m5:∀ x c,X.env.cells.lookup x=some c->H c=none
 pin:∀ p∈X.pn++aq,s.heap.get? p.1=some p.2/\H p.1=none/\p.1≠X.env.locals/\p.1∉X.fs/\∀ v,p.2.data≠.cell v
 hok:gU X.prog X.w H s.heap
 len:σ.length=X.N.length
section
variable {X:Cx} {σ:List (Option V)} {H H':Hp} {h':Heap}
theorem Cx.Ok.arV (ok:X.Ok) {b:Addr} {o:Obj} (e:X.aF.get? b=some o):b∉X.fs:=λa=>by have:=(ok.ql.mem a).1;rw [e] at this;cases this
theorem aJ.bs (I:aJ X aq σ H s):∀ b o,X.aF.get? b=some o->s.heap.get? b=some o/\H b=none:=λb o e =>
 ⟨I.aF.keep b o (I.ok.bs b o e).1 (I.ok.bs b o e).2 (I.ok.arV e) (I.ok.Ea b o e),I.aF.free b o (I.ok.bs b o e).1 (I.ok.bs b o e).2 (I.ok.Ea b o e)⟩
theorem aJ.bk (I:aJ X aq σ H s):∀ b o,X.aF.get? b=some o->s.heap.get? b=some o:=λb o e=>(I.bs b o e).1
theorem aJ.mod (I:aJ X aq σ H s):Mod X.K X.mg X.aF:=I.ok.mod
theorem aJ.fO (I:aJ X aq σ H s):X.K.In s.heap:=I.ok.mod.yS.keeps I.bk
theorem aJ.nolimit (I:aJ X aq σ H s):s.heap.NoLimit:=I.ok.mod.nolimit.keeps I.bk
theorem aJ.lt (I:aJ X aq σ H s):X.env.locals<s.heap.objs.size:=let ⟨_,a,_⟩:=I.loc;a.lt
theorem aJ.sz (I:aJ X aq σ H s):X.s₀.heap.objs.size<=s.heap.objs.size:=eU I.ok.above (Dr I.lt)
theorem aJ.arW (I:aJ X aq σ H s) (h:s.heap.objs.size<=a):a∉X.fs:=λb=>by obtain ⟨_,o,c,_⟩:=I.ok.ql.mem b;exact absurd (j9 (cJ c) (eU I.sz h)) (qP _)
theorem aJ.qw (I:aJ X aq σ H s):∀ x c,X.env.cells.lookup x=some c->c≠X.env.locals:=λx c e z=>by obtain ⟨v,o,g,d⟩:=I.cell x c e;obtain ⟨m,⟨o',es,i,a,b,_⟩,_⟩:=I.loc;rw [z,a] at g;cases g;rw [b] at d;cases d
theorem aJ.ql (I:aJ X aq σ H s):s.heap.FunFrames X.aF X.outer:=by
 have all:∀ (l:mY),(∀ b∈dY l,b∈X.fs)->X.s₀.heap.FunFrames X.aF l->s.heap.FunFrames X.aF l:=by
  intro l;induction l with
  |nil=>intro _ _;trivial
  |cons env r n =>rintro g ⟨m,⟨L,o,d,k,i,j⟩,hr⟩;have c:L∈X.fs:=g L (by unfold dY;rw [TX,d];exact iU);obtain ⟨sl,e⟩:=I.aF.slot L o i (I.ok.uN L c) c λz=>I.ok.Eb L z c;exact ⟨m,⟨L,_,d,k,e,j⟩,n (λb a=>g b (by unfold dY;rw [TX,d];exact gK _ a)) hr⟩
 exact all X.outer (λ_ a=>a) I.ok.ql
theorem aJ.stack (I:aJ X aq σ H s):s.heap.FunFrames X.aF X.stack:=by
 rcases I.ok.stk with e|⟨e,b⟩
 ·rw [e];exact I.ql
 ·rw [e];obtain ⟨m,a,_⟩:=I.loc;refine .cons (by rw [I.ok.kind];decide) b a ?_ I.ql;exact Heap.get?_none_of_le (eU I.ok.tV I.ok.above)
theorem aJ.Mj (I:aJ X aq σ H s):∀ b∈dY X.stack,b∈X.env.locals::X.fs:=λb a=>by
 rcases I.ok.stk with e|⟨e,c⟩
 ·rw [e] at a;exact gK _ a
 ·rw [e] at a;unfold dY at a;rw [TX,c] at a;exact a
theorem aJ.Di (I:aJ X aq σ H s):∀ b∈dY X.stack,H b=none:=λb a=>by
 rcases gn.mp (I.Mj b a) with e|a
 ·rw [e];exact I.free
 ·obtain ⟨_,o,c,_⟩:=I.ok.ql.mem a;exact I.aF.free b o c (I.ok.uN b a) λz=>I.ok.Eb b z a
theorem aJ.step {d':Drawn} (I:aJ X aq σ H s) (hch:∀ b∈ch,(b∈X.ex\/X.s₀.heap.objs.size<=b)/\b≠X.env.locals/\(∀ x c,X.env.cells.lookup x=some c->c≠b)/\∀ p∈X.pn++aq,p.1≠b) (keep:∀ b o,b≠X.env.locals->b∉X.fs->b∉ch->s.heap.get? b=some o->H b=none->h'.get? b=some o) (slot:∀ b o,b≠X.env.locals->b∈X.fs->b∉ch->s.heap.get? b=some o->H b=none->∃ sl,h'.get? b=some { o with slots:=sl }) (free:∀ b o,b∉ch->s.heap.get? b=some o->H b=none->H' b=none) (there:∀ b o,b∉ch->s.heap.get? b=some o->∃ o',h'.get? b=some o') (tups:∀ b xs,H b=some (.tup xs)->H' b=some (.tup xs)) (lZ:∀ b o u,H b=some (.oK o u)->H' b=some (.oK o u)) (iw:∀ b ps,H b=some (.iy ps)->H' b=some (.iy ps)/\∀ c o,H c=some (.own b)->s.heap.get? c=some o->H' c=some (.own b)/\h'.get? c=some o) (ns:∀ m,s.heap.Ns X.env.locals m->h'.Ns X.env.locals m) (hok:gU X.prog X.w H' h') (hg:AllBare g') : aJ X aq σ H' { s with heap:=h',gens:=g',drawn:=d',toks:=t' }:=by
 have C:∀ b o,X.s₀.heap.get? b=some o->b≠X.env.locals:=λb o e=>fG (j9 (cJ e) I.ok.above);have D:∀ b o,X.s₀.heap.get? b=some o->b∉X.ex->b∉ch:=λb o e a t=>by
  rcases (hch b t).1 with z|z
  ·exact a z
  ·exact absurd (j9 (cJ e) z) (qP _)
 have g:∀ x c,X.env.cells.lookup x=some c->∀ v,s.heap.IsCell c v->h'.IsCell c v:=λx c e v ⟨o,y,M⟩=>by
  have B:c∉ch:=λz=>(hch c z).2.2.1 x c e rfl;by_cases N:c∈X.fs
  ·obtain ⟨sl,q⟩:=slot c o (I.qw x c e) N B y (I.m5 x c e);exact ⟨_,q,M⟩
  ·exact ⟨o,keep c o (I.qw x c e) N B y (I.m5 x c e),M⟩
 refine ⟨I.ok,I.os,hg,⟨λb o e n t a=>?_,λb o e n t a=>?_,λb o e n a=>?_,λb o e a=>?_,λb xs e=>tups b xs (I.aF.tups b xs e),λb o xs e=>lZ b o xs (I.aF.lZ b o xs e),λb ps e=>?_⟩,?_,λx c e=>?_,?_,λx c e=>?_,λp R=>?_,hok,I.len⟩
 ·exact keep b o (C b o e) t (D b o e a) (I.aF.keep b o e n t a) (I.aF.free b o e n a)
 ·obtain ⟨sl,j⟩:=I.aF.slot b o e n t a;obtain ⟨J,L⟩:=slot b _ (C b o e) t (D b o e a) j (I.aF.free b o e n a);exact ⟨J,L⟩
 ·obtain ⟨o',j⟩:=I.aF.there b o e a;exact free b o' (D b o e a) j (I.aF.free b o e n a)
 ·obtain ⟨o',j⟩:=I.aF.there b o e a;exact there b o' (D b o e a) j
 ·exact ⟨(iw b ps (I.aF.iw b ps e).1).1,λc o j x=>let z:=(I.aF.iw b ps e).2 c o j x;(iw b ps (I.aF.iw b ps e).1).2 c o z.1 z.2⟩
 ·obtain ⟨m,W,V⟩:=I.loc;refine ⟨m,ns m W,λi x v j L U=>?_⟩;obtain ⟨u,r,l⟩:=V i x v j L U;refine ⟨u,r,?_⟩;rcases l with l|⟨k,c,e,z⟩
  ·exact .inl l
  ·exact .inr ⟨k,c,e,g x c e _ z⟩
 ·obtain ⟨v,z⟩:=I.cell x c e;exact ⟨v,g x c e v z⟩
 ·obtain ⟨m,⟨o,_,_,y,_⟩,_⟩:=I.loc;exact free _ o (λz=>(hch _ z).2.1 rfl) y I.free
 ·obtain ⟨v,o,y,M⟩:=I.cell x c e;exact free c o (λz=>(hch c z).2.2.1 x c e rfl) y (I.m5 x c e)
 ·obtain ⟨e,n,S,O,d⟩:=I.pin p R;have B:p.1∉ch:=λz=>(hch p.1 z).2.2.2 p R rfl;exact ⟨keep p.1 p.2 S O B e n,free p.1 p.2 B e n,S,O,d⟩
theorem aJ.un (I:aJ X aq σ H s) (u:Un X.fs [] H H' s.heap h') (hok:gU X.prog X.w H' h'):aJ X aq σ H' { s with heap:=h',toks:=t' }:=by obtain ⟨m,⟨o,es,q,i,r⟩,_⟩:=id I.loc;obtain ⟨sl,l⟩:=u.any i I.free (by simp);exact I.step (g':=s.gens) (d':=s.drawn) (ch:=[]) (λ_ z=>nomatch z) (λb o _ c _ e n=>u.keep b o e n c (by simp)) (λb o _ c _ e n=>u.slot b o e n c (by simp)) (λb o _ e n=>u.free b o e n (by simp)) (λb o _ e=>u.there b o e (by simp)) u.tups u.lZ u.iw (λp k=>by obtain ⟨o',g,d,a,j⟩:=k;rw [i] at a;cases a;exact ⟨_,g,d,l,j⟩) hok I.bare
theorem aJ.call {d':Drawn} (I:aJ X aq σ H s) (u:Un (dY X.stack) ch H H' s.heap h') (hok:gU X.prog X.w H' h') (hg:AllBare g') (hch:∀ b∈ch,(b∈X.ex\/X.s₀.heap.objs.size<=b)/\b≠X.env.locals/\(∀ x c,X.env.cells.lookup x=some c->c≠b)/\∀ p∈X.pn++aq,p.1≠b) : aJ X aq σ H' { s with heap:=h',gens:=g',drawn:=d',toks:=t' }:=by obtain ⟨m,⟨o,es,y,k,r⟩,_⟩:=id I.loc;obtain ⟨sl,j⟩:=u.any k I.free λz=>(hch _ z).2.1 rfl;exact I.step (ch:=ch) hch (λb o j l a e n=>u.keep b o e n (λz=>(gn.mp (I.Mj b z)).elim j l) a) (λb o _ _ a e n=>u.any e n a) (λb o a e n=>u.free b o e n a) (λb o a e=>u.there b o e a) u.tups u.lZ u.iw (λv t=>by obtain ⟨o',i,g,d,q⟩:=t;rw [k] at d;cases d;exact ⟨_,i,g,j,q⟩) hok hg
theorem aJ.turned (I:aJ X aq σ H s) (k:∀ b o,b≠it->s.heap.get? b=some o->h'.get? b=some o) (hn:H it=none) (hL:it≠X.env.locals) (h1:it∈X.ex\/X.s₀.heap.objs.size<=it) (h2:∀ x c,X.env.cells.lookup x=some c->c≠it) (h3:∀ p∈X.pn++aq,p.1≠it):aJ X aq σ H { s with heap:=h',toks:=t' }:=by
 have d:∀ b u,H b=some u->b≠it:=λb u e z=>by rw [z,hn] at e;cases e
 refine I.step (g':=s.gens) (d':=s.drawn) (ch:=[it]) (λb i=>?_) (λb o _ _ a e _=>k b o (λz=>a (by simp [z])) e) (λb o _ _ a e _=>⟨o.slots,k b o (λz=>a (by simp [z])) e⟩) (λ_ _ _ _ n=>n) (λb o a e=>⟨o,k b o (λz=>a (by simp [z])) e⟩) (λ_ _ e=>e) (λ_ _ _ e=>e) (λb ps e=>⟨e,λc o g x=>⟨g,k c o (d c _ g) x⟩⟩) (λm l=>?_) (λb u e=>?_) I.bare
 ·have e:b=it:=by simpa using i
  subst e;exact ⟨h1,hL,h2,h3⟩
 ·obtain ⟨o,es,t,j,r⟩:=l;exact ⟨o,es,t,k _ o (bL hL) j,r⟩
 ·refine (I.hok b u e).stay (λc v a q=>k c v ?_ q) (λ_ q=>q) λ_ _ q=>q;rcases a with z|z
  ·rw [z];exact d b u e
  ·exact d c _ z
theorem aJ.tok (I:aJ X aq σ H s) (t:Nat):aJ X aq σ H { s with toks:=t }:=I.un (h':=s.heap) (t':=t) Un.refl I.hok
theorem aJ.kept (I:aJ X aq σ H s) (k:∀ b u,s.heap.get? b=some u->h'.get? b=some u):aJ X aq σ H { s with heap:=h',toks:=t' }:=I.un (Un.kept k) (I.hok.kept k)
theorem aJ.laid {o:HO} (I:aJ X aq σ H s) (k:∀ b u,s.heap.get? b=some u->h'.get? b=some u) (hp:s.heap.objs.size<=a) (new:dU X.prog X.w (upd H a o) h' a o) : aJ X aq σ (upd H a o) { s with heap:=h',toks:=t' }:=I.un (Un.laid k hp (I.hok.fresh hp)) (I.hok.laid k hp new)
theorem aJ.write {x e:Addr} {o:HO} (I:aJ X aq σ H s) (mu:Ib (H x)) (he:e=x\/H e=some (.own x)) (k:∀ b u,b≠e->s.heap.get? b=some u->h'.get? b=some u) (heo:∃ u,h'.get? e=some u) (new:dU X.prog X.w (upd H x o) h' x o):aJ X aq σ (upd H x o) { s with heap:=h',toks:=t' }:=I.un (Un.write mu he k heo) (I.hok.write mu he k heo new)
theorem aJ.weak {σ':List (Option V)} (I:aJ X aq σ H s) (hl:σ'.length=σ.length) (w:∀ (i:Nat) v,σ'[i]?=some (some v)->σ[i]?=some (some v)):aJ X aq σ' H s:=⟨I.ok,I.os,I.bare,I.aF,let ⟨m,e,a⟩:=I.loc;⟨m,e,λi x v c d b=>a i x v c (w i v d) b⟩,I.cell,I.free,I.m5,I.pin,I.hok,hl.trans I.len⟩
theorem aJ.GF {aeD:List (Addr×Obj)} (I:aJ X aq σ H s) (h:∀ p∈aeD,s.heap.get? p.1=some p.2/\H p.1=none/\p.1≠X.env.locals/\p.1∉X.fs/\∀ v,p.2.data≠.cell v):aJ X aeD σ H s:=⟨I.ok,I.os,I.bare,I.aF,I.loc,I.cell,I.free,I.m5,λp a=>(o9.mp a).elim (λz=>I.pin p (Ag _ z)) (h p),I.hok,I.len⟩
theorem Q5 (hN:N.Nodup) {j:Nat} (a:N[i]?=some x) (b:N[j]?=some x):i=j:=by obtain ⟨h1,c⟩:=gb.mp a;obtain ⟨h2,d⟩:=gb.mp b;exact (List.getElem_inj hN).mp (c.trans d.symm)
theorem aa_ {M:Model} {v:V} {Q:Av} (I:aJ X aq σ H s) (hN:X.N.Nodup) (hi:X.N[i]?=some x) (hx:wA X.env.scope x) (r:cC v u) (h:∀ s',aJ X aq (σ.set i (some v)) H s'->(∃ a,SameBut a s.heap s'.heap/\(a=X.env.locals\/X.env.cells.lookup x=some a))->Q () s') (hf:X.fn x=true\/X.env.scope.names.lookup x=some .local:=by first|exact .inl rfl|exact .inr rfl|assumption):wpAny M A (storeName X.env x u) Q E s:=by
 obtain ⟨m,hn,hl⟩:=id I.loc;have W:(X.env.scope.kind == .class || (X.env.scope.kind == .module && X.env.locals != X.env.globals))=false:=by rw [I.ok.kind];rfl
 have hiσ:i<σ.length:=by rw [I.len];exact (gb.mp hi).1
 have qw:=I.qw;have tracked:∀ {a:Addr} {h':Heap},(∃ o,s.heap.get? a=some o/\H a=none)->SameBut a s.heap h'->gU X.prog X.w H h':=λ{a h'} ha g b ob e=>by
  obtain ⟨_,_,B⟩:=ha;refine (I.hok b ob e).stay (λc Y t q=>(g.2 c ?_).trans q) (λ_ q=>q) λ_ _ q=>q;rintro rfl;rcases t with rfl|t
  ·rw [B] at e;cases e
  ·rw [B] at t;cases t
 rcases hx with D|D
 ·refine wpAny_storeName_local D hn (λh' hn' g=>?_) W;obtain ⟨oL,_,_,hoL,_⟩:=id hn;refine h _ ⟨I.ok,I.os,I.bare,⟨λb o e n J hx=>?_,λb o e n J hx=>?_,I.aF.free,λb o e hx=>?_,I.aF.tups,I.aF.lZ,λb ps e=>⟨(I.aF.iw b ps e).1,λd o l x1=>let z:=(I.aF.iw b ps e).2 d o l x1;⟨z.1,(g.2 d (cH z.1 I.free)).trans z.2⟩⟩⟩,⟨_,hn',λj y v' l C e3=>?_⟩,λy c e=>?_,I.free,I.m5,λp hp=>?_,tracked ⟨oL,hoL,I.free⟩ g,by simpa using I.len⟩ ⟨_,g,.inl rfl⟩
  ·exact (g.2 b (fG (j9 (cJ e) I.ok.above))).trans (I.aF.keep b o e n J hx)
  ·obtain ⟨sl,l⟩:=I.aF.slot b o e n J hx;exact ⟨sl,(g.2 b (fG (j9 (cJ e) I.ok.above))).trans l⟩
  ·obtain ⟨o',l⟩:=I.aF.there b o e hx;exact ⟨o',(g.2 b (fG (j9 (cJ e) I.ok.above))).trans l⟩
  ·by_cases O:j=i
   ·subst O;rw [hi] at l;cases l;rw [G7 hiσ] at C;cases C;exact ⟨u,r,.inl ⟨D,by simp⟩⟩
   ·rw [G8 (bL O)] at C;obtain ⟨u',r',q⟩:=hl j y v' l C e3;refine ⟨u',r',?_⟩;rcases q with ⟨k,e⟩|⟨k,c,e,z⟩
    ·refine .inl ⟨k,?_⟩;have:y≠x:=λe=>O (Q5 hN l (e ▸ hi));simp [this,e]
    ·exact .inr ⟨k,c,e,z.sameBut g (qw y c e)⟩
  ·obtain ⟨Y,z⟩:=I.cell y c e;exact ⟨Y,z.sameBut g (qw y c e)⟩
  ·obtain ⟨e,n,ne,nf,d⟩:=I.pin p hp;exact ⟨(g.2 p.1 ne).trans e,n,ne,nf,d⟩
 ·have L:X.fn x=true:=by
   rcases hf with z|z
   ·exact z
   ·rw [z] at D;cases D
  obtain ⟨c,t⟩:=I.ok.has x (.inl D);obtain ⟨Y,z⟩:=I.cell x c t;refine wpAny_storeName_cell I.ok.kind D t z (λh' R g=>?_);obtain ⟨oc,U,arX⟩:=id z;refine h { s with heap:=h' } ⟨I.ok,I.os,I.bare,⟨λb o e n J hx=>?_,λb o e n J hx=>?_,I.aF.free,λb o e hx=>?_,I.aF.tups,I.aF.lZ,λb ps e=>⟨(I.aF.iw b ps e).1,λd o l x1=>let z:=(I.aF.iw b ps e).2 d o l x1;⟨z.1,(g.2 d (cH z.1 (I.m5 x c t))).trans z.2⟩⟩⟩,⟨m,hn.sameBut g (bL (qw x c t)),λj y v' l C e3=>?_⟩,λy c' e=>?_,I.free,I.m5,λp hp=>?_,tracked ⟨oc,U,I.m5 x c t⟩ g,by simpa using I.len⟩ ⟨c,g,.inr t⟩
  ·exact (g.2 b (fG (j9 (cJ e) (I.ok.cab x c L t)))).trans (I.aF.keep b o e n J hx)
  ·obtain ⟨sl,l⟩:=I.aF.slot b o e n J hx;exact ⟨sl,(g.2 b (fG (j9 (cJ e) (I.ok.cab x c L t)))).trans l⟩
  ·obtain ⟨o',l⟩:=I.aF.there b o e hx;exact ⟨o',(g.2 b (fG (j9 (cJ e) (I.ok.cab x c L t)))).trans l⟩
  ·by_cases O:j=i
   ·subst O;rw [hi] at l;cases l;rw [G7 hiσ] at C;cases C;exact ⟨u,r,.inr ⟨.inl D,c,t,R⟩⟩
   ·rw [G8 (bL O)] at C;obtain ⟨u',r',q⟩:=hl j y v' l C e3;refine ⟨u',r',?_⟩;rcases q with q|⟨k,c',e,z'⟩
    ·exact .inl q
    ·refine .inr ⟨k,c',e,z'.sameBut g ?_⟩;rintro rfl;exact O (Q5 hN l (I.ok.inj _ _ _ e t ▸ hi))
  ·by_cases S:c'=c
   ·subst S;exact ⟨_,R⟩
   ·obtain ⟨w2,z2⟩:=I.cell y c' e;exact ⟨w2,z2.sameBut g S⟩
  ·obtain ⟨e,n,ne,nf,d⟩:=I.pin p hp;refine ⟨(g.2 p.1 ?_).trans e,n,ne,nf,d⟩;intro q;rw [q,U] at e;have q':oc=p.2:=gw e;exact d Y (by rw [<-q'];exact arX)
theorem Gf {M:Model} {v:V} {Q:Av} (I:aJ X aq σ H s) (hN:X.N.Nodup) (hi:X.N[i]?=some x) (hx:wA X.env.scope x) (r:cC v u) (h:∀ s',aJ X aq (σ.set i (some v)) H s'->Q () s') (hf:X.fn x=true\/X.env.scope.names.lookup x=some .local:=by first|exact .inl rfl|exact .inr rfl|assumption):wpAny M A (storeName X.env x u) Q E s:=aa_ I hN hi hx r (λs' a _=>h s' a) hf
theorem aJ.call' {s':Shared} (I:aJ X aq σ H s) (ho:s'.os=s.os) (u:Un (dY X.stack) ch H H' s.heap s'.heap) (hok:gU X.prog X.w H' s'.heap) (hg:AllBare s'.gens) (hch:∀ b∈ch,(b∈X.ex\/X.s₀.heap.objs.size<=b)/\b≠X.env.locals/\(∀ x c,X.env.cells.lookup x=some c->c≠b)/\∀ p∈X.pn++aq,p.1≠b):aJ X aq σ H' s':=by obtain ⟨h',g',d',t',o'⟩:=s';have e:o'=s.os:=ho;subst e;exact I.call (g':=g') (t':=t') (d':=d') u hok hg hch
end
abbrev XK:=Value->jf->Hp->Prop
abbrev St:=List (Option V)
abbrev VK:=V->Hp->Prop
abbrev TE:=St->Hp->VK->Prop
abbrev TT:=St->Hp->(Bool->Hp->Prop)->Prop
abbrev TA:=St->Hp->(aD->Hp->Prop)->Prop
structure lQ where
 nx:St->Hp->Prop
 rt:VK
 bk:St->Hp->Prop:=λ_ _=>False
 ct:St->Hp->Prop:=λ_ _=>False
abbrev TS:=lQ->St->Hp->Prop
def EP (X:Cx) (aq:List (Addr×Obj)) (σ:St) (Q:VK) (u:Value) (s':Shared):Prop:=∃ v H',aJ X aq σ H' s'/\cC v u/\Q v H'
def TP (X:Cx) (aq:List (Addr×Obj)) (σ:St) (Q:Bool->Hp->Prop) (b:Bool) (s':Shared):Prop:=∃ H',aJ X aq σ H' s'/\Q b H'
def AP (X:Cx) (aq:List (Addr×Obj)) (σ:St) (Q:aD->Hp->Prop) (us:cG) (s':Shared):Prop:=∃ vs H',aJ X aq σ H' s'/\bY vs us/\Q vs H'
def SP (X:Cx) (aq:List (Addr×Obj)) (D:lQ) (f:Flow) (s':Shared):Prop :=
 match f with
 |.next=>∃ σ' H',aJ X aq σ' H' s'/\D.nx σ' H'
 |.brk=>∃ σ' H',aJ X aq σ' H' s'/\D.bk σ' H'
 |.cont=>∃ σ' H',aJ X aq σ' H' s'/\D.ct σ' H'
 |.ret u=>∃ v σ' H',aJ X aq σ' H' s'/\cC v u/\D.rt v H'
def PE (X:Cx) (e:Expr) (t:TE):Prop :=
 ∀ (aq:List (Addr×Obj)) (s:Shared) (σ:St) (H:Hp) (Q:VK),aJ X aq σ H s->t σ H Q->wpAny (model X.prog X.w) X.A (eval e X.env) (EP X aq σ Q) X.xe s
def PT (X:Cx) (e:Expr) (t:TT):Prop :=
 ∀ (aq:List (Addr×Obj)) (s:Shared) (σ:St) (H:Hp) (Q:Bool->Hp->Prop),aJ X aq σ H s->t σ H Q->wpAny (model X.prog X.w) X.A (isTrue e X.env (eval e X.env)) (TP X aq σ Q) X.xe s
def PW (X:Cx) (e:Expr) (t:TT):Prop :=
 ∀ (vJ:Sem Value) (aq:List (Addr×Obj)) (s:Shared) (σ:St) (H:Hp) (Q:Bool->Hp->Prop),aJ X aq σ H s->t σ H Q->wpAny (model X.prog X.w) X.A (isTrue e X.env vJ) (TP X aq σ Q) X.xe s
theorem PW.pt {X:Cx} {t:TT} (h:PW X e t):PT X e t:=h _
def PA (X:Cx) (es:oA) (t:TA):Prop :=
 ∀ (pos:Pos) (aq:List (Addr×Obj)) (s:Shared) (σ:St) (H:Hp) (Q:aD->Hp->Prop),aJ X aq σ H s->t σ H Q->wpAny (model X.prog X.w) X.A (spliced (backTo pos (starEach es X.env))) (AP X aq σ Q) X.xe s
def PS (X:Cx) (st:Stmt) (t:TS):Prop :=
 ∀ (aq:List (Addr×Obj)) (s:Shared) (σ:St) (H:Hp) (D:lQ),aJ X aq σ H s->t D σ H->wpAny (model X.prog X.w) X.A (exec st X.env) (SP X aq D) X.xe s
def mR (X:Cx) (st:List Stmt) (t:TS):Prop :=
 ∀ (aq:List (Addr×Obj)) (s:Shared) (σ:St) (H:Hp) (D:lQ),aJ X aq σ H s->t D σ H->wpAny (model X.prog X.w) X.A (execs st X.env) (SP X aq D) X.xe s
theorem bH {t:Sem α} {Q Q':α->Shared->Prop} {M:Model} (h:wpAny M A t Q E s) (hQ:∀ a s,Q a s->Q' a s):wpAny M A t Q' E s:=jc h hQ λ_ _ x=>x
section
variable {X:Cx}
inductive ae4 (i:Nat) (σ:St) (H:Hp) (Q:VK):Prop
 |mk (v:V) (e:σ[i]?=some (some v)) (q:Q v H)
def HD (i:Nat):TE:=ae4 i
def tC (v:V):TE:=λ_ H Q=>Q v H
theorem apx (hN:X.N[i]?=some x) (hv:Np X.env.scope x) (hd:(x == ("__debug__":Str))=false:=by decide) (hcd:(x == ("__classdict__":Str))=false:=by decide):PE X (.Name x pos) (HD i):=by
 rintro aq s σ H Q I ⟨v,e,h⟩;obtain ⟨m,k,j⟩:=I.loc;obtain ⟨u,r,l⟩:=j i x v hN e hv;have d:EP X aq σ Q u s:=⟨v,H,I,r,h⟩;rcases l with ⟨b,n⟩|⟨b,c,g,a⟩
 ·exact wpAny_Name (wpAny_loadName_local I.ok.kind b k n d) hd
 ·rcases b with b|b
  ·exact wpAny_Name (wpAny_loadName_cell I.ok.kind b g a d) hd
  ·exact wpAny_Name (wpAny_loadName_free I.ok.kind b g a d hcd) hd
theorem aA {i j pos}:PE X (.Constant (.int i) j pos) (tC (.int i)):=λ_ _ _ H _ I h=>wpAny_Constant_int ⟨.int i,H,I.tok _,⟨_,rfl⟩,h⟩
theorem pF {b j pos}:PE X (.Constant (.bool b) j pos) (tC (.bl b)):=λ_ _ _ H _ I h=>Constant_bool ⟨.bl b,H,I,rfl,h⟩
theorem kW {j pos}:PE X (.Constant .none j pos) (tC .non):=λ_ _ _ H _ I h=>Constant_none ⟨.non,H,I,rfl,h⟩
theorem bA {x j pos}:PE X (.Constant (.str x) j pos) (tC (.str x)):=λ_ _ _ H _ I h=>Calls.Constant_str ⟨.str x,H,I.tok _,⟨_,rfl⟩,h⟩
def Gl (X:Cx) (x:Str):Prop:=X.env.kindOf x=some .globalImplicit
theorem z9 {σ:St} {H:Hp} (I:aJ X aq σ H s) (hg:Gl X x) (hm:X.mg x=some u) (h:Q u s) (hd:(x == ("__debug__":Str))=false:=by decide):wpAny (model X.prog X.w) X.A (eval (.Name x pos) X.env) Q E s:=adZ I.ok.kind hg (Calls.loadGlobal_global (by rw [I.ok.glob];exact I.mod.glob.keeps I.bk) hm h) hd
theorem sV {σ:St} {H:Hp} (I:aJ X aq σ H s) (hg:Gl X x) (hm:X.mg x=none) (hv:bootBuiltins x=some u) (h:Q u s) (hn:x≠"__name__":=by decide) (hd:(x == ("__debug__":Str))=false:=by decide):wpAny (model X.prog X.w) X.A (eval (.Name x pos) X.env) Q E s:=by obtain ⟨a,h1,h2⟩:=I.mod.blt;exact adZ I.ok.kind hg (Calls.loadGlobal_builtin (by rw [I.ok.glob];exact I.mod.glob.keeps I.bk) hm (by rw [I.ok.blt];exact h1.keeps I.bk) ((h2 x hn).trans hv) h) hd
theorem xZ {v:V} (hg:Gl X x) (hm:X.mg x=some u) (r:cC v u) (hd:(x == ("__debug__":Str))=false:=by decide):PE X (.Name x pos) (tC v):=λ_ _ _ H _ I h=>z9 I hg hm ⟨v,H,I,r,h⟩ hd
theorem Aa {v:V} (hg:Gl X x) (hm:X.mg x=none) (hv:bootBuiltins x=some u) (r:cC v u) (hn:x≠"__name__":=by decide) (hd:(x == ("__debug__":Str))=false:=by decide):PE X (.Name x pos) (tC v):=λ_ _ _ H _ I h=>sV I hg hm hv ⟨v,H,I,r,h⟩ hn hd
inductive HF (x:V) (H:Hp) (Q:Bool->Hp->Prop):Prop
 |mk (c:Bool) (e:x=.bl c) (q:Q c H)
inductive OfI (x:V) (H:Hp) (Q:Int->Hp->Prop):Prop
 |mk (i:Int) (e:x=.int i) (q:Q i H)
inductive U9 (n:Nat) (o:HO) (H:Hp) (Q:VK):Prop
 |mk (l:n<=sizeLine) (q:∀ p,H p=none->Q (.ref p) (upd H p o))
variable {a b:Expr} {ta tb:TE}
def PC (X:Cx) (op:CmpOp) (a b:Expr) (t:TE):Prop :=
 ∀ (aq:List (Addr×Obj)) (s:Shared) (σ:St) (H:Hp) (Q:VK),aJ X aq σ H s->t σ H Q ->
  wpAny (model X.prog X.w) X.A (eval a X.env) (λv c=>wpAny (model X.prog X.w) X.A (eval b X.env) (λu d=>wpAny (model X.prog X.w) X.A (compareOp op v u) (EP X aq σ Q) X.xe d) X.xe c) X.xe s
def tB (t:TE):TT:=λσ H Q=>t σ H λx H1=>HF x H1 Q
theorem ad4 {t:TE} (h:PC X op a b t) (h1:behindInMarks op b=false:=by first|exact atZ _ (by decide) (by decide)|rfl):PT X (.Compare a [op] [b] pos) (tB t):=by intro aq s σ H Q I g;refine wpAny_isTrue_Compare1 (bH (h aq s σ H _ I g) λv k h1=>bH h1 λu m h2=>bH h2 λc l ⟨x,H1,e,j,i⟩=>?_) h1;obtain ⟨d,rfl,q⟩:=i;cases j;exact pZ ⟨H1,e,q⟩
theorem kY {t:TE} (h:PE X e t) (he:∀ vJ,isTrue e X.env vJ=(do let v <-vJ;standAt e.pos;holding [v] (truthy v)):=by intro _;rfl):PT X e (tB t):=by intro aq s σ H Q I b;refine isTrue_plain (bH (h aq s σ H _ I b) λv i ⟨x,H1,a,c,g⟩=>?_) (he _);obtain ⟨d,rfl,q⟩:=g;cases c;exact pZ ⟨H1,a,q⟩
variable {tA Nt:TT} {rest:oA}
def arY (t u:TT):TT:=λσ H Q=>t σ H λc H1=>if c=true then u σ H1 Q else Q false H1
def tOr (t u:TT):TT:=λσ H Q=>t σ H λc H1=>if c=true then Q true H1 else u σ H1 Q
def arZ (t:TT):TT:=λσ H Q=>t σ H λc H1=>Q (!c) H1
theorem ac1 (ha:PT X a tA):PW X (.BoolOp .And [a] pos) tA:=by
 intro b aq s σ H Q I h;refine isTrue_and (bH (ha aq s σ H Q I h) λc d e=>?_);cases c with
 |true=>exact isTrue_and_nil e
 |false=>exact e
theorem vZ (ha:PT X a tA):PW X (.BoolOp .Or [a] pos) tA:=by
 intro b aq s σ H Q I h;refine isTrue_or (bH (ha aq s σ H Q I h) λc d e=>?_);cases c with
 |false=>exact isTrue_or_nil e
 |true=>exact e
theorem ad5 (ha:PT X a tA) (hb:PW X (.BoolOp .And (b::rest) pos) Nt):PW X (.BoolOp .And (a::b::rest) pos) (arY tA Nt):=by
 intro g aq s σ H Q I h;refine isTrue_and (bH (ha aq s σ H _ I h) λc i ⟨H1,d,e⟩=>?_);cases c with
 |true=>exact hb g aq i σ H1 Q d e
 |false=>exact ⟨H1,d,e⟩
theorem tD (ha:PT X a tA) (hb:PW X (.BoolOp .Or (b::rest) pos) Nt):PW X (.BoolOp .Or (a::b::rest) pos) (tOr tA Nt):=by
 intro g aq s σ H Q I h;refine isTrue_or (bH (ha aq s σ H _ I h) λc i ⟨H1,d,e⟩=>?_);cases c with
 |true=>exact ⟨H1,d,e⟩
 |false=>exact hb g aq i σ H1 Q d e
theorem kZ (ha:PT X a tA):PT X (.UnaryOp .Not a pos) (arZ tA):=by intro aq s σ H Q I h;exact isTrue_not (ha aq s σ H (λc H1=>Q (!c) H1) I h)
def aqH (ta tb:TE):TE:=λσ H Q=>ta σ H λx H1=>HF x H1 λc H1=>if c=true then tb σ H1 Q else Q (.bl false) H1
def ar0 (ta tb:TE):TE:=λσ H Q=>ta σ H λx H1=>HF x H1 λc H1=>if c=true then Q (.bl true) H1 else tb σ H1 Q
def aqI (ta:TE):TE:=λσ H Q=>ta σ H λx H1=>HF x H1 λc H1=>Q (.bl (!c)) H1
theorem qT {op} {t:TE} (h:PE X a t):PE X (.BoolOp op [a] pos) t:=λaq s σ H Q I b=>BoolOp_one (h aq s σ H Q I b)
theorem qe (ha:PE X a ta) (hb:PE X (.BoolOp .And (b::rest) pos) tb):PE X (.BoolOp .And (a::b::rest) pos) (aqH ta tb):=by
 intro aq s σ H Q I h;refine BoolOp_and (bH (ha aq s σ H _ I h) λv i ⟨x,H1,e,g,d⟩=>?_);obtain ⟨c,rfl,d⟩:=d;cases g;refine pZ ?_;cases c with
 |true=>exact hb aq i σ H1 Q e d
 |false=>exact ⟨.bl false,H1,e,rfl,d⟩
theorem aeE (ha:PE X a ta) (hb:PE X (.BoolOp .Or (b::rest) pos) tb):PE X (.BoolOp .Or (a::b::rest) pos) (ar0 ta tb):=by
 intro aq s σ H Q I h;refine BoolOp_or (bH (ha aq s σ H _ I h) λv i ⟨x,H1,e,g,d⟩=>?_);obtain ⟨c,rfl,d⟩:=d;cases g;refine pZ ?_;cases c with
 |false=>exact hb aq i σ H1 Q e d
 |true=>exact ⟨.bl true,H1,e,rfl,d⟩
theorem Uk (ha:PE X a ta):PE X (.UnaryOp .Not a pos) (aqI ta):=by intro aq s σ H Q I h;refine UnaryOp_ (bH (ha aq s σ H _ I h) λv g ⟨x,H1,d,e,b⟩=>?_);obtain ⟨c,rfl,b⟩:=b;cases e;exact not_of (pZ ⟨.bl (!c),H1,d,rfl,b⟩)
def tIf (t:TT) (ta tb:TE):TE:=λσ H Q=>t σ H λc H1=>if c=true then ta σ H1 Q else tb σ H1 Q
theorem ud {c:Expr} (hc:PT X c tA) (ha:PE X a ta) (hb:PE X b tb):PE X (.IfExp c a b pos) (tIf tA ta tb):=by
 intro aq s σ H Q I h;refine wpAny_IfExp (bH (hc aq s σ H _ I h) λd i ⟨H1,e,g⟩=>?_);cases d with
 |true=>exact ha aq i σ H1 Q e g
 |false=>exact hb aq i σ H1 Q e g
end
def dB (K:bI) (H:Hp) (a:Addr) (xs:aD):Prop :=
 Rd H a (.lst xs) \/
  ∃ (o:Obj) (aM:fV) (n:Nat),K.lookup a=some o/\o.cls=.type "list"/\o.dict=none/\o.data=.seq aM n/\aM.size<=sizeLine/\bY xs aM.toList
def fY (K:bI) (H:Hp) (a:Addr) (xs:aD):Prop :=
 Rd H a (.tup xs) \/
  ∃ (o:Obj) (aM:fV) (n:Nat),K.lookup a=some o/\o.cls=.type "tuple"/\o.data=.seq aM n/\aM.size<=sizeLine/\bY xs aM.toList
def ar3:Value->Option V
 |.none=>some .non
 |.bool b=>some (.bl b)
 |.int i _=>some (.int i)
 |.str x _=>some (.str x)
 |.bytes b _=>some (.pO b)
 |.float b _=>some (.flt b)
 |.ref a=>some (.ref a)
 |.type n=>some (.ty n)
 |_=>none
theorem cC.abs {x:V} (r:cC x u):ar3 u=some x:=by
 cases x with
 |non=>cases r;rfl
 |bl _=>cases r;rfl
 |int _=>obtain ⟨t,rfl⟩:=r;rfl
 |str _=>obtain ⟨t,rfl⟩:=r;rfl
 |pO _=>obtain ⟨t,rfl⟩:=r;rfl
 |flt _=>obtain ⟨t,rfl⟩:=r;rfl
 |ref _=>cases r;rfl
 |ty _=>cases r;rfl
theorem cC.inj {x y:V} (r:cC x u) (q:cC y u):x=y:=gw (r.abs.symm.trans q.abs)
theorem bY.inj {xs ys:aD} (h:bY xs us):bY ys us->xs=ys:=by
 induction h generalizing ys with
 |nil=>intro k;cases k;rfl
 |cons r t a=>intro k;cases k with|cons r' t'=>rw [r.inj r',a t']
section
variable {X:Cx} {σ:St} {H:Hp} {xs ys:aD}
theorem dB.of (h:H a=some (.lst xs)):dB K H a xs:=.inl (.inl h)
def aQ:=@dB.of
theorem fY.of (h:H a=some (.tup xs)):fY K H a xs:=.inl (.inl h)
def aX:=@fY.of
theorem aJ.list (I:aJ X aq σ H s) (h:dB X.K H a xs):∃ aM:cG,bY xs aM/\PlainL s.heap a aM.toArray/\xs.length<=sizeLine:=by
 rcases h with h|⟨o,aM,n,d,b,g,c,i,r⟩
 ·obtain ⟨z,aM,n,r,e⟩:=h.ok I.hok;exact ⟨aM,r,⟨_,n,e,rfl,rfl,rfl⟩,z⟩
 ·refine ⟨aM.toList,r,⟨o,n,I.fO a o d,b,g,by simpa using c⟩,?_⟩;have e:=r.length;simp only [sS] at e;lk
theorem aJ.tuple (I:aJ X aq σ H s) (h:fY X.K H a xs):∃ aM:cG,bY xs aM/\IsTup s.heap a aM.toArray/\xs.length<=sizeLine:=by
 rcases h with h|⟨o,aM,n,d,b,c,g,r⟩
 ·obtain ⟨z,aM,r,p⟩:=h.ok I.hok;exact ⟨aM,r,p.tup,z⟩
 ·refine ⟨aM.toList,r,⟨o,I.fO a o d,b,n,by simpa using c⟩,?_⟩;have e:=r.length;simp only [sS] at e;lk
theorem aJ.Gg (I:aJ X aq σ H s) (h:dB X.K H a xs) (h':dB X.K H a ys):xs=ys:=by
 obtain ⟨aM,r,⟨o,n,e,_,_,d⟩,_⟩:=I.list h;obtain ⟨its',g,⟨o',i,c,_,_,b⟩,_⟩:=I.list h';rw [e] at c;cases c;rw [d] at b;injection b with d1 _;have:aM=its':=by simpa using gM Array.toList d1
 subst this;exact r.inj g
theorem aJ.Qt (I:aJ X aq σ H s) (h:fY X.K H a xs) (h':fY X.K H a ys):xs=ys:=by
 obtain ⟨aM,r,⟨o,e,_,n,d⟩,_⟩:=I.tuple h;obtain ⟨its',g,⟨o',c,_,i,b⟩,_⟩:=I.tuple h';rw [e] at c;cases c;rw [d] at b;injection b with d1 _;have:aM=its':=by simpa using gM Array.toList d1
 subst this;exact r.inj g
end
abbrev Cx.wish (X:Cx) (E:lO):Cx:={ X with xe:=E }
abbrev Cx.rE (X:Cx):Cx:=X.wish λ_ _=>False
theorem Cx.Ok.wish {X:Cx} (ok:X.Ok) (E:lO):(X.wish E).Ok:=⟨ok.mod,ok.kind,ok.glob,ok.blt,ok.above,ok.inj,ok.has,ok.cab,ok.hd,ok.frames,ok.stk,ok.Nq,ok.bs,ok.tV,ok.Ea,ok.Eb,ok.ql,ok.uN⟩
theorem Cx.Ok.oG {X:Cx} (ok:(X.wish E).Ok):X.Ok:=⟨ok.mod,ok.kind,ok.glob,ok.blt,ok.above,ok.inj,ok.has,ok.cab,ok.hd,ok.frames,ok.stk,ok.Nq,ok.bs,ok.tV,ok.Ea,ok.Eb,ok.ql,ok.uN⟩
section
variable {X:Cx} {σ:St} {H:Hp}
theorem aJ.wish (I:aJ X aq σ H s) (E:lO):aJ (X.wish E) aq σ H s:=⟨I.ok.wish E,I.os,I.bare,I.aF,I.loc,I.cell,I.free,I.m5,I.pin,I.hok,I.len⟩
theorem aJ.oG (I:aJ (X.wish E) aq σ H s):aJ X aq σ H s:=⟨I.ok.oG,I.os,I.bare,I.aF,I.loc,I.cell,I.free,I.m5,I.pin,I.hok,I.len⟩
theorem SP.oG {D:lQ} {f:Flow} {s':Shared} (h:SP (X.wish E) aq D f s'):SP X aq D f s':=by
 cases f with
 |next=>obtain ⟨σ',H',I,q⟩:=h;exact ⟨σ',H',I.oG,q⟩
 |brk=>obtain ⟨σ',H',I,q⟩:=h;exact ⟨σ',H',I.oG,q⟩
 |cont=>obtain ⟨σ',H',I,q⟩:=h;exact ⟨σ',H',I.oG,q⟩
 |ret u=>obtain ⟨v,σ',H',I,r,q⟩:=h;exact ⟨v,σ',H',I.oG,r,q⟩
theorem mR.rE {st:List Stmt} {t:TS} (h:mR X.rE st t):mR X st t:=λaq s σ H D I a =>
 jc (h aq s σ H D (I.wish _) a) (λ_ _ q=>q.oG) λ_ _ z=>elim z
end
section
variable {X:Cx} {st:Stmt} {rest:List Stmt} {t u:TS} {te:TE}
def aqJ:TS:=λD σ H=>D.nx σ H
def Vv (t u:TS):TS:=λD σ H=>t { D with nx:=u D } σ H
theorem cj:mR X [] aqJ:=λ_ _ σ H _ I h=>vV ⟨σ,H,I,h⟩
theorem aL (h1:PS X st t) (h2:mR X rest u):mR X (st::rest) (Vv t u):=by
 intro aq s σ H D I h;refine G9 (bH (h1 aq s σ H { D with nx:=u D } I h) λf b q=>?_);cases f with
 |next =>obtain ⟨σ',H',a,q⟩:=q;exact h2 aq b σ' H' D a q
 |ret v=>exact q
 |brk=>exact q
 |cont=>exact q
theorem aP (h1:PS X st t):mR X [st] t:=by
 intro aq s σ H D I h;refine G9 (bH (h1 aq s σ H D I h) λf a q=>?_);cases f with
 |next=>exact vV q
 |ret v=>exact q
 |brk=>exact q
 |cont=>exact q
theorem aJ.quiet {σ:St} {H:Hp} (I:aJ X aq σ H s):interactive X.env=false:=by simp [interactive,I.ok.kind]
def aqK (te:TE):TS:=λD σ H=>te σ H λ_ H1=>D.nx σ H1
theorem pX (he:PE X e te) (hs:swapsWith e none pos.line X.env=pure false:=by rfl):PS X (.Expr e pos) (aqK te):=by intro aq s σ H D I h;exact wpAny_Expr_any (bH (he aq s σ H _ I h) (by rintro v d ⟨x,H1,a,c,b⟩;exact ⟨σ,H1,a,b⟩)) I.quiet hs
def ae5 (te:TE):TS:=λD σ H=>te σ H D.rt
theorem bf (he:PE X e te):PS X (.Return (some e) pos) (ae5 te):=by intro aq s σ H D I h;exact wpAny_Return_some (bH (he aq s σ H _ I h) (by rintro v d ⟨x,H1,a,b,c⟩;exact ⟨x,σ,H1,a,b,c⟩))
def yK (c:TT) (t u:TS):TS:=λD σ H=>c σ H λb H1=>if b=true then t D σ H1 else u D σ H1
theorem cu {c:Expr} {a b:List Stmt} {tc:TT} (hc:PT X c tc) (ha:mR X a t) (hb:mR X b u):PS X (.If c a b pos) (yK tc t u):=by
 intro aq s σ H D I h;refine wpAny_If (bH (hc aq s σ H _ I h) λd i ⟨H1,e,g⟩=>?_);cases d with
 |true=>exact ha aq i σ H1 D e g
 |false=>exact hb aq i σ H1 D e g
def apy:TS:=λ_ _ _=>False
theorem rR:PS X st apy:=λ_ _ _ _ _ _ h=>h.elim
end
abbrev TG:=V->St->Hp->(St->Hp->Prop)->Prop
abbrev yU:=aD->St->Hp->(St->Hp->Prop)->Prop
def PG (X:Cx) (target:Expr) (t:TG):Prop :=
 ∀ (aq:List (Addr×Obj)) (s:Shared) (σ:St) (H:Hp) (v:V) (u:Value) (Q:St->Hp->Prop),aJ X aq σ H s->cC v u->t v σ H Q ->
  wpAny (model X.prog X.w) X.A (assign target X.env u) (λ_ s'=>∃ σ' H',aJ X aq σ' H' s'/\Q σ' H') X.xe s
def Ig (X:Cx) (ts:oA) (t:yU):Prop :=
 ∀ (aq:List (Addr×Obj)) (s:Shared) (σ:St) (H:Hp) (vs:aD) (us:cG) (Q:St->Hp->Prop),aJ X aq σ H s->bY vs us->t vs σ H Q ->
  wpAny (model X.prog X.w) X.A (assignInOrder ((assignEach ts X.env).map (·.2)) us) (λ_ s'=>∃ σ' H',aJ X aq σ' H' s'/\Q σ' H') X.xe s
abbrev Vw:=V->V->V->Hp->(Hp->Prop)->Prop
def ae6 (X:Cx) (t:Vw):Prop :=
 ∀ (aq:List (Addr×Obj)) (s:Shared) (σ:St) (H:Hp) (o i v:V) (a b u:Value) (Q:Hp->Prop),aJ X aq σ H s->cC o a->cC i b->cC v u->t o i v H Q ->
  wpAny (model X.prog X.w) X.A (setItem a b u) (λ_ s'=>∃ H',aJ X aq σ H' s'/\Q H') X.xe s
abbrev Nu:=V->V->Hp->VK->Prop
def Wi (X:Cx) (op:Operator) (t:Nu):Prop :=
 ∀ (aq:List (Addr×Obj)) (s:Shared) (σ:St) (H:Hp) (x y:V) (v u:Value) (Q:VK),aJ X aq σ H s->cC x v->cC y u->t x y H Q ->
  wpAny (model X.prog X.w) X.A (inplaceOp op v u) (EP X aq σ Q) X.xe s
section
variable {X:Cx}
def kj (i:Nat):TG:=λv σ H Q=>Q (σ.set i (some v)) H
theorem anA (hN:X.N.Nodup) (hi:X.N[i]?=some x) (hx:wA X.env.scope x) (hf:X.fn x=true\/X.env.scope.names.lookup x=some .local:=by first|exact .inl rfl|exact .inr rfl|assumption):PG X (.Name x pos) (kj i):=by intro aq s σ H v u Q I r h;exact wpAny_assign_Name (Gf I hN hi hx r (λs' a=>⟨_,H,a,h⟩) hf)
def ar4:yU:=λvs σ H Q=>vs=[]/\Q σ H
def aqL (t:TG) (u:yU):yU:=λvs σ H Q=>∃ v r,vs=v::r/\t v σ H λσ' H'=>u r σ' H' Q
theorem oX:Ig X [] ar4:=by rintro aq s σ H vs us Q I r ⟨e,h⟩;subst e;cases r;exact assignInOrder_nil ⟨σ,H,I,h⟩
theorem ig {t:TG} {u:yU} (h1:PG X e t) (h2:Ig X es u) (hs:(assignEach (e::es) X.env).map (·.2)=assign e X.env::(assignEach es X.env).map (·.2):=by rfl):Ig X (e::es) (aqL t u):=by
 rintro aq s σ H vs us Q I r ⟨v,i,b,h⟩;subst b;cases r with
 |cons r g =>rw [hs];refine assignInOrder_cons (bH (h1 aq s σ H _ _ _ I r h) λ_ d ⟨σ1,H1,a,c⟩=>?_);exact h2 aq d σ1 H1 _ _ Q a g c
def ae7 (K:bI) (n:Nat) (t:yU):TG:=λv σ H Q=>∃ a xs,v=.ref a/\fY K H a xs/\xs.length=n/\t xs σ H Q
theorem pB {k:Nat} {t:yU} (hc:X.calm=true) (h:Ig X es t) (hn:(assignEach es X.env).length=n:=by rfl) (hst:(assignEach es X.env).findIdx? (·.1)=none:=by rfl):PG X (.Tuple es k pos) (ae7 X.K n t):=by rintro aq s σ H v u Q I r ⟨a,xs,g,l,m,i⟩;subst g;cases r;obtain ⟨aM,c,j,q⟩:=I.tuple l;refine assign_Tuple_tuple (I.ok.hd hc) j (by simp [hn,<-m,c.length]) hst λh' p=>?_;have d:aJ X aq σ H { s with heap:=h' }:=I.kept (t':=s.toks) λb o e=>p b o (fG (cJ e)) e;exact h aq _ σ H xs _ Q d (by simpa using c) i
def ar5 (to ti:TE) (t:Vw):TG:=λv σ H Q=>to σ H λo H1=>ti σ H1 λi H2=>t o i v H2 λa=>Q σ a
theorem sW {o i:Expr} {to ti:TE} {t:Vw} (ho:PE X o to) (hi:PE X i ti) (hs:ae6 X t) (ha:∀ v,assign (.Subscript o i pos) X.env v=(do
   let ov <-holding [v] (eval o X.env);let iv <-holding [v,ov] (eval i X.env)
   standAt pos
   holding [v,ov,iv] (setItem ov iv v)
   release [v,ov,iv] []):=by intro _;rfl):PG X (.Subscript o i pos) (ar5 to ti t):=by
 intro aq s σ H v u Q I r h;rw [ha];exact aW (mX (bH (ho aq s σ H _ I h) (by rintro ov c ⟨x,H1,a,j,b⟩;exact aW (mX (bH (hi aq c σ H1 _ a b) (by rintro iv k ⟨y,H2,l,m,n⟩;exact aW (Ma (aW (mX (bH (hs aq k σ H2 x y v ov iv u _ l j m r n) (by rintro _ p ⟨d,g,e⟩;exact wpAny_release ⟨σ,d,g,e⟩)))))))))))
def yL (te:TE) (g:TG):TS:=λD σ H=>te σ H λx H1=>g x σ H1 D.nx
theorem mG {te:TE} {g:TG} (he:PE X e te) (hg:PG X tg g) (hs:swapsWithSole [tg] e pos.line X.env=pure false:=by rfl) (hw:swappedStores [tg] e X.env=pure none:=by rfl) (h1:(assignEach [tg] X.env).map (·.2)=[assign tg X.env]:=by rfl):PS X (.Assign [tg] e pos) (yL te g):=by intro aq s σ H D I h;refine wpAny_Assign_stores (bH (he aq s σ H _ I h) λv d ⟨x,H1,a,b,c⟩=>?_) hs hw;rw [h1];exact bH (hg aq d σ H1 x v _ a b c) λ_ i q=>q
theorem apz {te:TE} (hN:X.N.Nodup) (hi:X.N[i]?=some x) (hx:wA X.env.scope x) (he:PE X e te) (hs:swapsWith e (some (.Name x pos')) pos.line X.env=pure false:=by rfl) (hf:X.fn x=true\/X.env.scope.names.lookup x=some .local:=by first|exact .inl rfl|exact .inr rfl|assumption) : PS X (.Assign [.Name x pos'] e pos) (yL te (kj i)):=by intro aq s σ H D I h;refine wpAny_Assign_Name (bH (he aq s σ H _ I h) λv j ⟨y,H1,a,b,c⟩=>?_) hs;exact Gf a hN hi hx b (λg d=>⟨_,H1,d,c⟩) hf
def ar6 (i:Nat) (te:TE) (ti:Nu):TS:=λD σ H=>ae4 i σ H λx H=>te σ H λy H1=>ti x y H1 λz H2=>D.nx (σ.set i (some z)) H2
theorem Ul {te:TE} {op:Operator} {ti:Nu} (hN:X.N.Nodup) (hi:X.N[i]?=some x) (hx:wA X.env.scope x) (he:PE X e te) (ho:Wi X op ti) (hf:X.fn x=true\/X.env.scope.names.lookup x=some .local:=by first|exact .inl rfl|exact .inr rfl|assumption) : PS X (.AugAssign (.Name x pos') op e pos) (ar6 i te ti):=by
 rintro aq s σ H D I ⟨v,n,h⟩;obtain ⟨m,M,C⟩:=I.loc;have d:Np X.env.scope x:=by rcases hx with k|k;exact .inl k;exact .inr (.inl k)
 obtain ⟨u,r,l⟩:=C i x v hi n d;refine wpAny_AugAssign_Name ?_;have g:wpAny (model X.prog X.w) X.A (eval e X.env) (λw L=>wpAny (model X.prog X.w) X.A (inplaceOp op u w) (λr S=>wpAny (model X.prog X.w) X.A (storeName X.env x r) (λ_=>SP X aq D .next) X.xe S) X.xe L) X.xe s:=by refine bH (he aq s σ H _ I h) λw q ⟨y,H1,j,B,p⟩=>?_;refine bH (ho aq q σ H1 v y u w _ j r B p) λz W ⟨Y,H2,J,R,U⟩=>?_;exact Gf J hN hi hx R (λV t=>⟨_,H2,t,U⟩) hf
 rcases l with ⟨a,O⟩|⟨a,c,o,b⟩
 ·exact wpAny_loadName_local I.ok.kind a M O g
 ·rcases a with a|a
  ·exact wpAny_loadName_cell I.ok.kind a o b g
  ·rcases hx with k|k
   ·have:X.env.scope.names.lookup x=some .free:=a;rw [k] at this;cases this
   ·have:X.env.scope.names.lookup x=some .free:=a;rw [k] at this;cases this
end
section
variable {X:Cx}
def Um (c:TT) (tb:TS):TS:=λD σ H=>∃ W:Nat->St->Hp->Prop,(∃ m,W m σ H)/\∀ m σ H,W m σ H ->
 c σ H λb H1=>if b=true then ∃ N:St->Hp->Prop,(∀ σ' H',N σ' H'->∃ a,a<m/\W a σ' H')/\tb { D with nx:=N,ct:=N,bk:=D.nx } σ H1 else D.nx σ H1
theorem JT {c:Expr} {tc:TT} {tb:TS} (hp:PassesOwn (model X.prog X.w) X.A X.env X.xe) (hc:PT X c tc) (hb:mR X body tb):PS X (.While c body [] pos) (Um tc tb):=by
 rintro aq s σ H D I ⟨W,⟨t,w0⟩,a⟩;refine wpAny_While (codeAny_whileLoop (λn s'=>∃ σ' H',aJ X aq σ' H' s'/\W n σ' H') ?_ t ⟨σ,H,I,w0⟩);rintro n r ⟨σ1,H1,q,x⟩;refine Ah hp (bH (hc aq r σ1 H1 _ q (a n σ1 H1 x)) λb u ⟨H2,o,g⟩=>?_);cases b with
 |true =>
  obtain ⟨N,p,g⟩:=g;rw [bF rfl];refine Ah hp (bH (hb aq u σ1 H2 _ o g) λf y e=>?_);cases f with
  |next =>obtain ⟨σ3,d,i,m⟩:=e;obtain ⟨l,k,j⟩:=p σ3 d m;exact ⟨l,k,σ3,d,i,j⟩
  |cont =>obtain ⟨σ3,d,i,m⟩:=e;obtain ⟨l,k,j⟩:=p σ3 d m;exact ⟨l,k,σ3,d,i,j⟩
  |brk=>exact e
  |ret v=>exact e
 |false =>rw [bw iV];exact vV ⟨σ1,H2,o,g⟩
end
structure It where
 go:Nat->Hp->Prop
 oM:Nat->Hp->V->Hp->Prop
 stop:Nat->Hp->Prop
def i_ (X:Cx) (aq:List (Addr×Obj)) (H:Hp) (b:Addr):Prop :=
 H b=none/\b≠X.env.locals/\b∉X.fs/\(b∈X.ex\/X.s₀.heap.objs.size<=b)/\(∀ x c,X.env.cells.lookup x=some c->c≠b)/\∀ p∈X.pn++aq,p.1≠b
theorem aJ.m8 {X:Cx} {σ:St} {H H':Hp} {b:Addr} (I:aJ X aq σ H s) (hb:s.heap.objs.size<=b) (hn:H' b=none):i_ X aq H' b:=by
 refine ⟨hn,vW (j9 I.lt hb),I.arW hb,.inr (eU I.sz hb),λx c e z=>?_,λp a z=>?_⟩
 ·obtain ⟨v,q⟩:=I.cell x c e;exact absurd (j9 q.lt (by rw [z];exact hb)) (qP _)
 ·exact absurd (j9 (cJ (I.pin p a).1) (by rw [z];exact hb)) (qP _)
structure sX (P:Program) (w:World) (K:bI) (tg:Expr) (J:It) (fp:jq) (it:Addr) (tn:Nat->Heap->Prop):Prop where
 mem:it∈fp
 obj:∀ i h,tn i h->∀ b∈fp,∃ o,h.get? b=some o/\∀ v,o.data≠.cell v
 keep:∀ i h h',tn i h->(∀ b∈fp,∀ o,h.get? b=some o->h'.get? b=some o)->tn i h'
 item:∀ (X:Cx),X.prog=P->X.w=w->X.K=K->X.calm=true->∀ (i:Nat) (aq:List (Addr×Obj)) (s:Shared) (σ:St) (H:Hp) (E:lO),aJ X aq σ H s->(∀ b∈fp,i_ X aq H b)->tn i s.heap->J.go i H ->
  wpAny (model P w) X.A (pyNext (.ref it)) (λr s1=>∃ u,r=some u /\
   wpAny (model P w) X.A (letOwnedTupleGo tg (.ref it) u) (λ_ s2=>∃ x H',aJ X aq σ H' s2/\cC x u/\J.oM i H x H'/\tn (i+1) s2.heap/\∀ b∈fp,H' b=none) E s1) E s
 done:∀ (X:Cx),X.prog=P->X.w=w->X.K=K->X.calm=true->∀ (i:Nat) (aq:List (Addr×Obj)) (s:Shared) (σ:St) (H:Hp) (E:lO),aJ X aq σ H s->(∀ b∈fp,i_ X aq H b)->tn i s.heap->J.stop i H ->
  wpAny (model P w) X.A (pyNext (.ref it)) (λr s1=>r=none/\aJ X aq σ H s1) E s
 self:∀ (A:Around) (i:Nat) (s:Shared) (Q:lO) (E:lO),tn i s.heap->Q (.ref it) s->wpAny (model P w) A (pyIter (.ref it)) Q E s
abbrev TI:=St->Hp->(It->Hp->Prop)->Prop
def U_ (X:Cx) (aq:List (Addr×Obj)) (σ:St) (tg:Expr) (R:It->Hp->Prop) (itv:Value) (s2:Shared):Prop :=
 ∃ (it:Addr) (fp:jq) (a:Nat->Heap->Prop) (J:It) (H':Hp),itv=.ref it/\aJ X aq σ H' s2/\sX X.prog X.w X.K tg J fp it a/\a 0 s2.heap/\(∀ b∈fp,i_ X aq H' b)/\R J H'
def PI (X:Cx) (tg jr:Expr) (wi:TI):Prop :=
 ∀ (aq:List (Addr×Obj)) (s:Shared) (σ:St) (H:Hp) (R:It->Hp->Prop),aJ X aq σ H s->wi σ H R ->
  wpAny (model X.prog X.w) X.A (eval jr X.env) (λv a=>wpAny (model X.prog X.w) X.A (pyIter v) (U_ X aq σ tg R) X.xe a) X.xe s
theorem DQ {M:Model} {o:Obj} {n:String} {vs:fV} {Q:Av} (ho:s.heap.get? it=some o) (hc:o.cls=.type n) (hd:o.data=.fields vs) (hn:["enumerate","zip","dict_itemiterator","dict_reverseitemiterator","odict_iterator","itertools.zip_longest","itertools.pairwise"].contains n=false) (hQ:Q () s):wpAny M A (letOwnedTupleGo tg (.ref it) u) Q E s:=by
 unfold letOwnedTupleGo;cases tg<;>first
  |exact cB hQ
  |(cases u<;>first
    |exact cB hQ
    |(refine aW (wpAny_load ho ?_)
      rw [hc,hd];show wpAny M A (if (["enumerate","zip","dict_itemiterator","dict_reverseitemiterator","odict_iterator","itertools.zip_longest","itertools.pairwise"].contains n && vs[0]? == some (rawInt _))=true then _ else _) Q E s;rw [bw (by intro h;rw [hn,Bool.false_and] at h;cases h)];exact cB hQ))
def yV (K:bI) (a:Addr):It :=
 ⟨λi H=>∃ xs x,dB K H a xs/\xs[i]?=some x,λi H x H'=>H'=H/\∀ xs,dB K H a xs->xs[i]?=some x,λi H=>∃ xs,dB K H a xs/\xs.length<=i⟩
def yW (K:bI) (a:Addr):It :=
 ⟨λi H=>∃ xs x,fY K H a xs/\xs[i]?=some x,λi H x H'=>H'=H/\∀ xs,fY K H a xs->xs[i]?=some x,λi H=>∃ xs,fY K H a xs/\xs.length<=i⟩
def wO (lo:Int) (n:Nat):It:=⟨λi _=>i<n,λi H x H'=>H'=H/\x=.int (lo+i),λi _=>n<=i⟩
theorem ai4 (a it:Addr):sX P w K tg (yV K a) [it] it (λi h=>h.IsListIter it a i) where
 mem:=by simp
 obj:=λi h st b g=>by
  have e:b=it:=by simpa using g
  subst e;obtain ⟨o,e,c,d⟩:=st;exact ⟨o,e,λv z=>by rw [d] at z;cases z⟩
 keep:=λi h h' st k=>st.at λo e=>k it (by simp) o e
 item:=by intro X r m hK J i aq s σ H E I l st n;subst r m hK;obtain ⟨xs,x,j,D⟩:=n;obtain ⟨aM,y,p,V⟩:=I.list j;obtain ⟨u,W,S⟩:=y.get D;obtain ⟨f0,C,O,t,q,B⟩:=l it (by simp);refine TY st p.isList (x:=u) (by simpa using W) λh' L U=>?_;have M:aJ X aq σ H { s with heap:=h' }:=I.turned (t':=s.toks) (λb o g e=>(U.2 b g).trans e) f0 C t q B;obtain ⟨o,e,c,d⟩:=id L;exact ⟨u,rfl,DQ (s:={ s with heap:=h' }) e c d (by decide) ⟨x,H,M,S,⟨rfl,λys N=>by rw [I.Gg N j];exact D⟩,L,λb g=>(l b g).1⟩⟩
 done:=by intro X r m hK J i aq s σ H E I l st n;subst r m hK;obtain ⟨xs,j,D⟩:=n;obtain ⟨aM,y,p,V⟩:=I.list j;obtain ⟨f0,C,O,t,q,B⟩:=l it (by simp);have Y:=y.length;exact T7 (I.ok.hd J) st p.isList (by simp;lk) λh' R=>⟨rfl,I.turned (t':=s.toks) (λb o g e=>R b o g e) f0 C t q B⟩
 self:=λ_ _ _ _ _ st h=>wpAny_pyIter_listiter st h
theorem ahV (a it:Addr):sX P w K tg (yW K a) [it] it (λi h=>h.IsTupleIter it a i) where
 mem:=by simp
 obj:=λi h st b g=>by
  have e:b=it:=by simpa using g
  subst e;obtain ⟨o,e,c,d⟩:=st;exact ⟨o,e,λv z=>by rw [d] at z;cases z⟩
 keep:=λi h h' st k=>st.at λo e=>k it (by simp) o e
 item:=by intro X r m hK J i aq s σ H E I l st n;subst r m hK;obtain ⟨xs,x,j,D⟩:=n;obtain ⟨aM,y,p,V⟩:=I.tuple j;obtain ⟨u,W,S⟩:=y.get D;obtain ⟨f0,C,O,t,q,B⟩:=l it (by simp);refine wpAny_pyNext_tuple_item st (show s.heap.IsTuple a aM.toArray from p) (x:=u) (by simpa using W) λh' L U=>?_;have M:aJ X aq σ H { s with heap:=h' }:=I.turned (t':=s.toks) (λb o g e=>(U.2 b g).trans e) f0 C t q B;obtain ⟨o,e,c,d⟩:=id L;exact ⟨u,rfl,DQ (s:={ s with heap:=h' }) e c d (by decide) ⟨x,H,M,S,⟨rfl,λys N=>by rw [I.Qt N j];exact D⟩,L,λb g=>(l b g).1⟩⟩
 done:=by intro X r m hK J i aq s σ H E I l st n;subst r m hK;obtain ⟨xs,j,D⟩:=n;obtain ⟨aM,y,p,V⟩:=I.tuple j;obtain ⟨f0,C,O,t,q,B⟩:=l it (by simp);have Y:=y.length;exact wpAny_pyNext_tuple_end (I.ok.hd J) st (show s.heap.IsTuple a aM.toArray from p) (by simp;lk) λh' R=>⟨rfl,I.turned (t':=s.toks) (λb o g e=>R b o g e) f0 C t q B⟩
 self:=λ_ _ _ _ _ st h=>wpAny_pyIter_tupleiter st h
theorem ahW (it:Addr) (lo:Int) (n:Nat):sX P w K tg (wO lo n) [it] it (λi h=>IsRangeIter h it (lo+(i:Nat)*1) ((n:Int)-(i:Nat)) 1) where
 mem:=by simp
 obj:=λi h st b a=>by
  have e:b=it:=by simpa using a
  subst e;exact ⟨_,st,λv z=>by have D:fields _=Data.cell v:=z;cases D⟩
 keep:=λi h h' st k=>k it (by simp) _ st
 item:=by intro X m g hK d i aq s σ H E I c st j;subst m g hK;obtain ⟨f0,r,y,p,l,q⟩:=c it (by simp);have W:=Walks.range (prog:=X.prog) (w:=X.w) (I.ok.hd d) it lo 1 n;refine W.item i s _ _ j st λv h' tk C u kk=>?_;obtain ⟨t,rfl⟩:=C;have x:aJ X aq σ H { s with heap:=h',toks:=tk }:=I.turned (λb o a e=>kk b o (by simpa using a) e) f0 r p l q;refine ⟨_,rfl,DQ (s:={ s with heap:=h',toks:=tk }) (n:="range_iterator") u rfl rfl (by decide) ⟨.int (lo+i),H,x,⟨t,?_⟩,⟨rfl,rfl⟩,u,λb a=>(c b a).1⟩⟩;rw [Mf]
 done:=by intro X m g hK d i aq s σ H E I c st j;subst m g hK;obtain ⟨f0,r,y,p,l,q⟩:=c it (by simp);exact wpAny_pyNext_range_end (I.ok.hd d) st (by have:n<=i:=j;lk) λh' B=>⟨rfl,I.turned (t':=s.toks) (λb o a e=>B b o a e) f0 r p l q⟩
 self:=λ_ _ _ _ _ st h=>wpAny_pyIter_rangeiter st h
section
variable {X:Cx}
def aqM (K:bI) (tl:TE):TI:=λσ H R=>tl σ H λx H1=>∃ a,x=.ref a/\(∃ xs,dB K H1 a xs)/\R (yV K a) H1
def ar7 (K:bI) (tl:TE):TI:=λσ H R=>tl σ H λx H1=>∃ a,x=.ref a/\(∃ xs,fY K H1 a xs)/\R (yW K a) H1
theorem lM {l:Expr} {tl:TE} (hl:PE X l tl):PI X tg l (aqM X.K tl):=by
 intro aq s σ H R I h;refine bH (hl aq s σ H _ I h) λv d ⟨x,H1,c,k,g⟩=>?_;obtain ⟨a,e,⟨xs,j⟩,q⟩:=g;subst e;cases k;obtain ⟨aM,m,p,n⟩:=c.list j;refine Ds p.isList ⟨d.heap.objs.size,[d.heap.objs.size],_,_,H1,rfl,c.kept (t':=d.toks) λb o e=>cP _ e,ai4 a _,⟨_,eV _ rfl,rfl,rfl⟩,λb i=>?_,q⟩;have e:b=d.heap.objs.size:=by simpa using i
 subst e;exact c.m8 (bJ _) (c.hok.fresh (bJ _))
theorem oH {l:Expr} {tl:TE} (hl:PE X l tl):PI X tg l (ar7 X.K tl):=by
 intro aq s σ H R I h;refine bH (hl aq s σ H _ I h) λv c ⟨x,H1,d,k,g⟩=>?_;obtain ⟨a,e,⟨xs,j⟩,q⟩:=g;subst e;cases k;obtain ⟨aM,m,p,n⟩:=d.tuple j;refine Mg (show c.heap.IsTuple a aM.toArray from p) ⟨c.heap.objs.size,[c.heap.objs.size],_,_,H1,rfl,d.kept (t':=c.toks) λb o e=>cP _ e,ahV a _,⟨_,eV _ rfl,rfl,rfl⟩,λb i=>?_,q⟩;have e:b=c.heap.objs.size:=by simpa using i
 subst e;exact d.m8 (bJ _) (d.hok.fresh (bJ _))
theorem ale {σ:St} {H:Hp} {R:It->Hp->Prop} {t u v:Tok} (I:aJ X aq σ H s) (h1:-(2 ^ 62)<=lo) (h2:lo<2 ^ 62) (h3:-(2 ^ 62)<=hi) (h4:hi<2 ^ 62) (q:R (wO lo (hi-lo).toNat) H):wpAny (model X.prog X.w) X.A (pyIter (.ref s.heap.objs.size)) (U_ X aq σ tg R) E { s with heap:=s.heap.push { cls:=.type "range",data:=.fields #[.int lo t,.int hi u,.int 1 v] },toks:=tk }:=by
 refine wpAny_pyIter_range (IsRange.new ..) (small_one h1 h2 h3 h4) ?_;have a:aJ X aq σ H { s with heap:=s.heap.push { cls:=.type "range",data:=.fields #[.int lo t,.int hi u,.int 1 v] },toks:=tk }:=I.kept λb o e=>cP _ e;refine ⟨(s.heap.push { cls:=.type "range",data:=.fields #[.int lo t,.int hi u,.int 1 v] }).objs.size,[(s.heap.push { cls:=.type "range",data:=.fields #[.int lo t,.int hi u,.int 1 v] }).objs.size],_,_,H,rfl,a.kept (t':=tk) λb o e=>cP _ e,ahW _ lo (hi-lo).toNat,?_,λb d=>?_,q⟩
 ·have c:lo+((0:Nat):Int)*1=lo:=by simp
  have g:(((hi-lo).toNat:Nat):Int)-((0:Nat):Int)=rangeSize lo hi 1:=by rw [rangeSize_one];split<;>lk
  show IsRangeIter _ _ (lo+((0:Nat):Int)*1) ((((hi-lo).toNat:Nat):Int)-((0:Nat):Int)) 1;rw [c,g];exact eV _ rfl
 ·have e:b=(s.heap.push { cls:=.type "range",data:=.fields #[.int lo t,.int hi u,.int 1 v] }).objs.size:=by simpa using d
  subst e;exact a.m8 (bJ _) (a.hok.fresh (bJ _))
def aqN (ta:TA):TI:=λσ H R=>ta σ H λvs H1=>∃ j:Int,vs=[.int j]/\-(2 ^ 62)<=j/\j<2 ^ 62/\R (wO 0 j.toNat) H1
theorem jU {a:Expr} {ta:TA} (hg:Gl X "range") (hm:X.mg "range"=none) (ha:PA X [a] ta) (hs:starEach [a] X.env=[(false,eval a X.env)]:=by rfl):PI X tg (.Call (.Name "range" p) [a] [] pos) (aqN ta):=by
 intro aq s σ H R I h;refine Call_ (sV I hg hm boot_range (Ai (bH (ha pos aq s σ H _ I h) λus k ⟨vs,H1,c,d,b⟩=>?_) hs rfl));obtain ⟨j,e,b,i,q⟩:=b;subst e;cases d with
 |cons r g =>cases g;obtain ⟨t,rfl⟩:=r;exact call_range_1 (ale c (by lk) (by lk) b i (by simpa using q))
def ar8 (wi:TI) (g:TG) (tb:TS):TS:=λD σ H=>wi σ H λJ H1=>∃ W:Nat->Nat->St->Hp->Prop,(∃ m,W 0 m σ H1)/\∀ i m σ H,W i m σ H ->
 (J.stop i H/\D.nx σ H)\/(J.go i H/\∃ N:St->Hp->Prop,(∀ σ' H',N σ' H'->∃ a,a<m/\W (i+1) a σ' H')/\∀ x H',J.oM i H x H'->g x σ H' λσ2 H2=>tb { D with nx:=N,ct:=N,bk:=D.nx } σ2 H2)
def Du (fp:jq) (h:Heap):List (Addr×Obj):=fp.filterMap λb=>(h.get? b).map λo=>(b,o)
theorem JF {b:Addr} {o:Obj} (hb:b∈fp) (e:h.get? b=some o):(b,o)∈Du fp h:=T8.mpr ⟨b,hb,by rw [e];rfl⟩
theorem ai5 {p:Addr×Obj} (hp:p∈Du fp h):p.1∈fp/\h.get? p.1=some p.2:=by
 obtain ⟨b,a,e⟩:=T8.mp hp;cases q:h.get? b with
 |none=>rw [q] at e;cases e
 |some o =>rw [q] at e;have c:(b,o)=p:=gw e;subst c;exact ⟨a,q⟩
theorem aJ.pinned {σ:St} {H:Hp} (I:aJ X aq σ H s) (hf:∀ b∈fp,i_ X aq H b) (ho:∀ b∈fp,∃ o,s.heap.get? b=some o/\∀ v,o.data≠.cell v):aJ X (aq++Du fp s.heap) σ H s:=I.GF λp g=>(o9.mp g).elim (λz=>I.pin p (iW _ z)) λz=>by obtain ⟨a,e⟩:=ai5 z;obtain ⟨f0,i,j,_⟩:=hf p.1 a;obtain ⟨o,c,d⟩:=ho p.1 a;rw [e] at c;cases c;exact ⟨e,f0,i,j,d⟩
theorem aJ.xO {pl:List (Addr×Obj)} {σ:St} {H:Hp} (I:aJ X (aq++pl) σ H s):aJ X aq σ H s:=I.GF λp a=>I.pin p (iW _ (Ag _ a))
theorem jd {jr:Expr} {wi:TI} {g:TG} {tb:TS} (hp:PassesOwn (model X.prog X.w) X.A X.env X.xe) (hc:X.calm=true) (hi:PI X tg jr wi) (hg:PG X tg g) (hb:mR X body tb) (hs:∀ x,foldedSetIterable jr X.env x=pure x:=by intro _;rfl):PS X (.For tg jr body [] pos) (ar8 wi g tb):=by
 intro aq s σ H D I h;refine wpAny_For (bH (hi aq s σ H _ I h) λv s1 h1=>bH h1 λitv s2 h2=>?_) hs;obtain ⟨it,fp,U,J,H2,e,I2,T,R,f2,W,⟨m0,w0⟩,q⟩:=h2;subst e
 -- what stays true of the iterator's objects through the loop
 have c:∀ {H':Hp},(∀ b∈fp,H' b=none)->∀ b∈fp,i_ X aq H' b:=λhn b hb=>⟨hn b hb,(f2 b hb).2⟩;refine codeAny_forLoop_any (λn s'=>∃ i σ' H',aJ X aq σ' H' s'/\U i s'.heap/\(∀ b∈fp,H' b=none)/\W i n σ' H') ?_ m0 ⟨0,σ,H2,I2,R,λb hb=>(f2 b hb).1,w0⟩;rintro n V ⟨i,σ3,B,Y,t,z,w3⟩;rcases q i n σ3 B w3 with ⟨y,qn⟩|⟨go,N,hN,step⟩
 ·refine Ah hp (bH (T.done X rfl rfl rfl hc i aq V σ3 B X.xe Y (c z) t y) λr s4 ⟨hr,I4⟩=>?_);subst hr;exact vV ⟨σ3,B,I4,qn⟩
 ·refine Ah hp (bH (T.item X rfl rfl rfl hc i aq V σ3 B X.xe Y (c z) t go) λr s4 ⟨u,hr,h4⟩=>?_);subst hr;refine Ah hp (bH h4 λ_ S ⟨x,H5,I5,r5,y5,C,L⟩=>?_);have M:=I5.pinned (c L) (T.obj _ _ C);refine Ah hp (bH (hg _ S σ3 H5 x u _ M r5 (step x H5 y5)) λ_ s6 ⟨σ6,H6,I6,q6⟩=>Ah hp (bH (hb _ s6 σ6 H6 _ I6 q6) λf O l=>?_));have j:∀ {σ7:St} {a:Hp},aJ X (aq++Du fp S.heap) σ7 a O->N σ7 a->∃ m,m<n/\∃ i σ' H',aJ X aq σ' H' O/\U i O.heap/\(∀ b∈fp,H' b=none)/\W i m σ' H':=λ{σ7 a} k p=>by obtain ⟨m',hm,w7⟩:=hN σ7 a p;refine ⟨m',hm,i+1,σ7,a,k.xO,T.keep _ _ _ C λb hb o e=>(k.pin (b,o) (iW _ (iW _ (JF hb e)))).1,λb hb=>?_,w7⟩;obtain ⟨o,e,d⟩:=T.obj _ _ C b hb;exact (k.pin (b,o) (iW _ (iW _ (JF hb e)))).2.1
  cases f with
  |next=>obtain ⟨σ7,a,k,p⟩:=l;exact j k p
  |cont=>obtain ⟨σ7,a,k,p⟩:=l;exact j k p
  |brk=>obtain ⟨σ7,a,k,l⟩:=l;exact ⟨σ7,a,k.xO,l⟩
  |ret v=>obtain ⟨x7,σ7,a,k,r7,l⟩:=l;exact ⟨x7,σ7,a,k.xO,r7,l⟩
end
theorem zM {xs:aD} {g:TG} {tb:TS} {D:lQ} {σ:St} {H:Hp} (Pv:Nat->St->Hp->Prop) (h0:Pv 0 σ H) (hl:∀ i σ H,i<=xs.length->Pv i σ H->dB K H a xs) (hs:∀ i x σ H,xs[i]?=some x->Pv i σ H->g x σ H λσ2 H2=>tb { D with nx:=Pv (i+1),ct:=Pv (i+1),bk:=D.nx } σ2 H2) (hd:∀ σ H,Pv xs.length σ H->D.nx σ H) : ∃ W:Nat->Nat->St->Hp->Prop,(∃ m,W 0 m σ H)/\∀ i m σ H,W i m σ H ->((yV K a).stop i H/\D.nx σ H)\/((yV K a).go i H/\∃ N:St->Hp->Prop,(∀ σ' H',N σ' H'->∃ m',m'<m/\W (i+1) m' σ' H')/\∀ x H',(yV K a).oM i H x H'->g x σ H' λσ2 H2=>tb { D with nx:=N,ct:=N,bk:=D.nx } σ2 H2):=by
 refine ⟨λi m σ H=>m=xs.length-i/\i<=xs.length/\Pv i σ H,⟨xs.length,by simp,d_ _,h0⟩,?_⟩;rintro i m σ H ⟨rfl,hi,p⟩;have q:=hl i σ H hi p;by_cases b:i<xs.length
 ·refine .inr ⟨⟨xs,xs[i],q,by simp [b]⟩,Pv (i+1),λσ' H' c=>⟨xs.length-(i+1),by lk, rfl,b,c⟩,λx H' y=>?_⟩;obtain ⟨e,y⟩:=y;subst e;exact hs i x σ _ (y xs q) p
 ·have e:i=xs.length:=by lk
  subst e;exact .inl ⟨⟨xs,q,bJ _⟩,hd σ H p⟩
theorem Li {xs:aD} {g:TG} {tb:TS} {D:lQ} {σ:St} {H:Hp} (Pv:Nat->St->Hp->Prop) (h0:Pv 0 σ H) (hl:∀ i σ H,i<=xs.length->Pv i σ H->fY K H a xs) (hs:∀ i x σ H,xs[i]?=some x->Pv i σ H->g x σ H λσ2 H2=>tb { D with nx:=Pv (i+1),ct:=Pv (i+1),bk:=D.nx } σ2 H2) (hd:∀ σ H,Pv xs.length σ H->D.nx σ H) : ∃ W:Nat->Nat->St->Hp->Prop,(∃ m,W 0 m σ H)/\∀ i m σ H,W i m σ H ->((yW K a).stop i H/\D.nx σ H)\/((yW K a).go i H/\∃ N:St->Hp->Prop,(∀ σ' H',N σ' H'->∃ m',m'<m/\W (i+1) m' σ' H')/\∀ x H',(yW K a).oM i H x H'->g x σ H' λσ2 H2=>tb { D with nx:=N,ct:=N,bk:=D.nx } σ2 H2):=by
 refine ⟨λi m σ H=>m=xs.length-i/\i<=xs.length/\Pv i σ H,⟨xs.length,by simp,d_ _,h0⟩,?_⟩;rintro i m σ H ⟨rfl,hi,p⟩;have q:=hl i σ H hi p;by_cases b:i<xs.length
 ·refine .inr ⟨⟨xs,xs[i],q,by simp [b]⟩,Pv (i+1),λσ' H' c=>⟨xs.length-(i+1),by lk, rfl,b,c⟩,λx H' y=>?_⟩;obtain ⟨e,y⟩:=y;subst e;exact hs i x σ _ (y xs q) p
 ·have e:i=xs.length:=by lk
  subst e;exact .inl ⟨⟨xs,q,bJ _⟩,hd σ H p⟩
theorem u_ {g:TG} {tb:TS} {D:lQ} {σ:St} {H:Hp} (Pv:Nat->St->Hp->Prop) (h0:Pv 0 σ H) (hs:∀ i σ H,i<n->Pv i σ H->g (.int (lo+i)) σ H λσ2 H2=>tb { D with nx:=Pv (i+1),ct:=Pv (i+1),bk:=D.nx } σ2 H2) (hd:∀ σ H,Pv n σ H->D.nx σ H) : ∃ W:Nat->Nat->St->Hp->Prop,(∃ m,W 0 m σ H)/\∀ i m σ H,W i m σ H ->((wO lo n).stop i H/\D.nx σ H)\/((wO lo n).go i H/\∃ N:St->Hp->Prop,(∀ σ' H',N σ' H'->∃ m',m'<m/\W (i+1) m' σ' H')/\∀ x H',(wO lo n).oM i H x H'->g x σ H' λσ2 H2=>tb { D with nx:=N,ct:=N,bk:=D.nx } σ2 H2):=by
 refine ⟨λi m σ H=>m=n-i/\i<=n/\Pv i σ H,⟨n,by simp,d_ _,h0⟩,?_⟩;rintro i m σ H ⟨rfl,hi,p⟩;by_cases a:i<n
 ·refine .inr ⟨a,Pv (i+1),λσ' H' b=>⟨n-(i+1),by lk, rfl,a,b⟩,λx H' y=>?_⟩;obtain ⟨e,y⟩:=y;subst e y;exact hs i σ _ a p
 ·have e:i=n:=by lk
  subst e;exact .inl ⟨bJ _,hd σ H p⟩
theorem alf {c:TT} {tb:TS} {D:lQ} {σ:St} {H:Hp} (Pv:St->Hp->Prop) (μ:St->Hp->Nat) (h0:Pv σ H) (hs:∀ σ H,Pv σ H->c σ H λb H1=>if b=true then tb { D with nx:=λσ' H'=>Pv σ' H'/\μ σ' H'<μ σ H,ct:=λσ' H'=>Pv σ' H'/\μ σ' H'<μ σ H,bk:=D.nx } σ H1 else D.nx σ H1) (mono:∀ σ H Q Q',(∀ b H1,Q b H1->Q' b H1)->c σ H Q->c σ H Q'):Um c tb D σ H:=by
 refine ⟨λm σ H=>m=μ σ H/\Pv σ H,⟨_,rfl,h0⟩,?_⟩;rintro m σ H ⟨rfl,p⟩;refine mono σ H _ _ (λb H1 q=>?_) (hs σ H p);cases b with
 |true=>exact ⟨_,by rintro σ' H' ⟨a,l⟩;exact ⟨_,l,rfl,a⟩,q⟩
 |false=>exact q
abbrev R2:=V->V->Hp->VK->Prop
def dN (X:Cx) (f:Value->Value->Sem Value) (r:R2):Prop :=
 ∀ (aq:List (Addr×Obj)) (s:Shared) (σ:St) (H:Hp) (x y:V) (v u:Value) (Q:VK),aJ X aq σ H s->cC x v->cC y u->r x y H Q ->
  wpAny (model X.prog X.w) X.A (f v u) (EP X aq σ Q) X.xe s
def Wm (X:Cx) (f:Value->Sem Value) (r:V->Hp->VK->Prop):Prop :=
 ∀ (aq:List (Addr×Obj)) (s:Shared) (σ:St) (H:Hp) (x:V) (v:Value) (Q:VK),aJ X aq σ H s->cC x v->r x H Q ->
  wpAny (model X.prog X.w) X.A (f v) (EP X aq σ Q) X.xe s
def iZ (X:Cx) (f:Value) (r:aD->Hp->VK->Prop):Prop :=
 ∀ (aq:List (Addr×Obj)) (s:Shared) (σ:St) (H:Hp) (xs:aD) (us:cG) (Q:VK),aJ X aq σ H s->bY xs us->r xs H Q ->
  wpAny (model X.prog X.w) X.A (call f us) (EP X aq σ Q) X.xe s
def ar9 (X:Cx) (r:V->Hp->(Bool->Hp->Prop)->Prop):Prop :=
 ∀ (aq:List (Addr×Obj)) (s:Shared) (σ:St) (H:Hp) (x:V) (v:Value) (Q:Bool->Hp->Prop),aJ X aq σ H s->cC x v->r x H Q ->
  wpAny (model X.prog X.w) X.A (truthy v) (TP X aq σ Q) X.xe s
def uO (r:R2) (ta tb:TE):TE:=λσ H Q=>ta σ H λx H1=>tb σ H1 λy H2=>r x y H2 Q
def tUn (r:V->Hp->VK->Prop) (ta:TE):TE:=λσ H Q=>ta σ H λx H1=>r x H1 Q
inductive RIP (C:Int->Int->Prop) (g:Int->Int->V) (x:V) (y:V) (H:Hp) (Q:VK):Prop
 |mk (i:_) (j:_) (h1:x=.int i) (h2:y=.int j) (h3:C i j) (h4:Q (g i j) H)
def rI (C:Int->Int->Prop) (g:Int->Int->V):R2:=λx y H Q=>RIP C g x y H Q
inductive ar_ (g:Int->Int->V) (x:V) (y:V) (H:Hp) (Q:VK):Prop
 |mk (i:_) (j:_) (h1:x=.int i) (h2:y=.int j) (h3:Q (g i j) H)
def yX (g:Int->Int->V):R2:=λx y H Q=>ar_ g x y H Q
inductive RUP (g:Int->V) (x:V) (H:Hp) (Q:VK):Prop
 |mk (i:_) (h1:x=.int i) (h2:Q (g i) H)
def rU (g:Int->V):V->Hp->VK->Prop:=λx H Q=>RUP g x H Q
section
variable {X:Cx} {a b c:Expr} {ta tb tc:TE}
theorem Vx (ha:PE X a ta) (hb:PE X b tb) {σ:St} {H:Hp} {R:V->V->Hp->Prop} (I:aJ X aq σ H s) (h:ta σ H λx H1=>tb σ H1 λy H2=>R x y H2) {f:Value->Value->Sem Value} (hf:∀ v u s2 x y H2,aJ X aq σ H2 s2->cC x v->cC y u->R x y H2->wpAny (model X.prog X.w) X.A (f v u) Q X.xe s2) : wpAny (model X.prog X.w) X.A (eval a X.env) (λv s₁=>wpAny (model X.prog X.w) X.A (eval b X.env) (λu s₂=>wpAny (model X.prog X.w) X.A (f v u) Q X.xe s₂) X.xe s₁) X.xe s:=by exact bH (ha aq s σ H _ I h) (by rintro v k ⟨x,H1,c,g,i⟩;exact bH (hb aq k σ H1 _ c i) (by rintro u s2 ⟨y,H2,j,d,e⟩;exact hf v u s2 x y H2 j g d e))
theorem aY {op:Operator} {r:R2} (ho:dN X (binaryOp op) r) (ha:PE X a ta) (hb:PE X b tb):PE X (.BinOp a op b pos) (uO r ta tb):=by intro aq s σ H Q I h;exact wpAny_BinOp (Vx ha hb I h λv u e x y H2 g c d q=>ho aq e σ H2 x y v u Q g c d q)
theorem aeF {op:UnaryOp} {r:V->Hp->VK->Prop} (ho:Wm X (unaryOp op) r) (ha:PE X a ta):PE X (.UnaryOp op a pos) (tUn r ta):=by intro aq s σ H Q I h;exact UnaryOp_ (bH (ha aq s σ H _ I h) (by rintro v e ⟨x,H1,b,c,d⟩;exact ho aq e σ H1 x v Q b c d))
theorem Ep {f:Value->Value->Sem Value} {C:Int->Int->Prop} {g:Int->Int->Int} (rule:∀ (i j:Int) (t u:Tok) (s:Shared) (Q:lO) (E:lO),C i j->Q (.int (g i j) s.toks) { s with toks:=s.toks+1 }->wpAny (model X.prog X.w) X.A (f (.int i t) (.int j u)) Q E s) : dN X f (rI C λi j=>.int (g i j)):=by rintro aq s σ H x y v u Q I b c ⟨i,j,rfl,rfl,a,q⟩;obtain ⟨t,rfl⟩:=b;obtain ⟨t',rfl⟩:=c;exact rule i j t t' s _ _ a ⟨.int (g i j),H,I.tok _,⟨_,rfl⟩,q⟩
theorem ae8 {f:Value->Value->Sem Value} {g:Int->Int->Int} (rule:∀ (i j:Int) (t u:Tok) (s:Shared) (Q:lO) (E:lO),Q (.int (g i j) s.toks) { s with toks:=s.toks+1 }->wpAny (model X.prog X.w) X.A (f (.int i t) (.int j u)) Q E s) : dN X f (yX λi j=>.int (g i j)):=by rintro aq s σ H x y v u Q I a b ⟨i,j,rfl,rfl,q⟩;obtain ⟨t,rfl⟩:=a;obtain ⟨t',rfl⟩:=b;exact rule i j t t' s _ _ ⟨.int (g i j),H,I.tok _,⟨_,rfl⟩,q⟩
theorem M4 {f:Value->Value->Sem Value} {g:Int->Int->Bool} (rule:∀ (i j:Int) (t u:Tok) (s:Shared) (Q:lO) (E:lO),Q (.bool (g i j)) s->wpAny (model X.prog X.w) X.A (f (.int i t) (.int j u)) Q E s) : dN X f (yX λi j=>.bl (g i j)):=by rintro aq s σ H x y v u Q I a b ⟨i,j,rfl,rfl,q⟩;obtain ⟨t,rfl⟩:=a;obtain ⟨t',rfl⟩:=b;exact rule i j t t' s _ _ ⟨.bl (g i j),H,I,rfl,q⟩
def Vy (i j:Int):Prop:=0<j/\j<1073741824
def ae9 (i j:Int):Prop:=0<=j/\j<=1000000/\i.natAbs<2 ^ 64
def HJ (i j:Int):Prop:=(-(2 ^ 64)<i/\i<2 ^ 64)\/(-(2 ^ 64)<j/\j<2 ^ 64)
theorem HJ.ok {i j:Int} (h:HJ i j):IntMulOk i j:=by
 rcases h with ⟨h1,h2⟩|⟨h1,h2⟩
 ·exact .of_left (intBits_le_64 h1 h2)
 ·exact .of_right (intBits_le_64 h1 h2)
theorem gZ:dN X (binaryOp .Add) (yX λi j=>.int (i+j)):=ae8 λ_ _ _ _ _ _ _ q=>add_int q
theorem iI:dN X (binaryOp .Sub) (yX λi j=>.int (i-j)):=ae8 λ_ _ _ _ _ _ _ q=>sub_int q
theorem qg:dN X (binaryOp .Mult) (rI HJ λi j=>.int (i*j)):=Ep λ_ _ _ _ _ _ _ a q=>mul_int q a.ok
theorem oY:dN X (binaryOp .FloorDiv) (rI Vy λi j=>.int (i / j)):=Ep λi j _ _ _ _ _ a q=>by have h1:(0:Int)<j:=a.1;have h2:j<1073741824:=a.2;exact floordiv_int (by lk) (by rw [T9 i (by lk)];exact q) (.inl (ad0 (by lk)))
theorem jY:dN X (binaryOp .Mod) (rI (λ_ j=>0<j) λi j=>.int (i % j)):=Ep λi j _ _ _ _ _ a q=>by have h1:(0:Int)<j:=a;exact mod_int' (by lk) (by rw [Int.fmod_eq_emod_of_nonneg i (by lk)];exact q)
theorem Ml:dN X (binaryOp .Pow) (rI ae9 λi j=>.int (i ^ j.toNat)):=Ep λ_ _ _ _ _ _ _ a q=>pow_int_small a.1 a.2.1 a.2.2 q
theorem alg:dN X (inplaceOp .FloorDiv) (rI Vy λi j=>.int (i / j)):=Ep λi j _ _ _ _ _ a q=>by have h1:(0:Int)<j:=a.1;have h2:j<1073741824:=a.2;exact ifloordiv_int (by lk) (by rw [T9 i (by lk)];exact q) (.inl (ad0 (by lk)))
theorem unI {f:Value->Sem Value} {g:Int->Int} (rule:∀ (i:Int) (t:Tok) (s:Shared) (Q:lO) (E:lO),Q (.int (g i) s.toks) { s with toks:=s.toks+1 }->wpAny (model X.prog X.w) X.A (f (.int i t)) Q E s) : Wm X f (rU λi=>.int (g i)):=by rintro aq s σ H x v Q I a ⟨i,rfl,q⟩;obtain ⟨t,rfl⟩:=a;exact rule i t s _ _ ⟨.int (g i),H,I.tok _,⟨_,rfl⟩,q⟩
theorem ad6:Wm X (unaryOp .USub) (rU λi=>.int (-i)):=unI λ_ _ _ _ _ q=>neg_int q
end
def ae_:V->V->Bool
 |.non,.non=>true|.non,.int _=>true|.int _,.non=>true|.non,.bl _=>true|.bl _,.non=>true|.non,.str _=>true|.str _,.non=>true
 |.int _,.int _=>true|.bl _,.bl _=>true|.str _,.str _=>true|.pO _,.pO _=>true
 |.int _,.str _=>true|.str _,.int _=>true|.bl _,.str _=>true|.str _,.bl _=>true
 |_,_=>false
inductive pK (x:V) (y:V) (H:Hp) (Q:VK):Prop
 |mk  (h1:ae_ x y=true) (h2:Q (.bl (decide (x=y))) H)
def rEq:R2:=λx y H Q=>pK  x y H Q
inductive ae' (x:V) (y:V) (H:Hp) (Q:VK):Prop
 |mk  (h1:ae_ x y=true) (h2:Q (.bl (!decide (x=y))) H)
def rNe:R2:=λx y H Q=>ae'  x y H Q
theorem ac2 {i j:Int}:decide (V.int i=V.int j)=(i == j):=by rw [vX];simp
theorem ad7 {i j:Bool}:decide (V.bl i=V.bl j)=(i == j):=by rw [vX];simp
theorem ac3 {i j:Str}:decide (V.str i=V.str j)=(i == j):=by rw [vX];simp
theorem ac4 {i j:Array UInt8}:decide (V.pO i=V.pO j)=(i.toList == j.toList):=by rw [vX];cases i;cases j;simp
section
variable {X:Cx} {a b c:Expr} {ta tb tc:TE}
theorem gq {σ:St} {H:Hp} {Q:VK} {k k':Bool} (I:aJ X aq σ H s) (q:Q (.bl k) H) (e:k=k'):EP X aq σ Q (.bool k') s:=by subst e;exact ⟨.bl k,H,I,rfl,q⟩
theorem cT:dN X (compareOp .Eq) rEq:=by
 rintro aq s σ H x y v u Q I c a ⟨b,q⟩;cases x with
 |non =>
  cases c;cases y with
  |non=>cases a;exact PySem.EqNone.eq_none_none (gq I q (by simp))
  |bl j=>cases a;exact PySem.EqNone.eq_none_bool (gq I q (by simp))
  |int j=>obtain ⟨t',rfl⟩:=a;exact PySem.EqNone.eq_none_int (gq I q (by simp))
  |str j=>obtain ⟨t',rfl⟩:=a;exact PySem.EqNone.eq_none_str (gq I q (by simp))
  |_=>exact absurd (show false=true from b) iV
 |bl i =>
  cases c;cases y with
  |non=>cases a;exact PySem.EqNone.eq_bool_none (gq I q (by simp))
  |bl j=>cases a;exact eq_bool (gq I q ad7)
  |str j=>obtain ⟨t',rfl⟩:=a;exact PySem.EqMixed.eq_bool_str (gq I q (by simp))
  |_=>exact absurd (show false=true from b) iV
 |int i =>
  obtain ⟨t,rfl⟩:=c;cases y with
  |non=>cases a;exact PySem.EqNone.eq_int_none (gq I q (by simp))
  |int j=>obtain ⟨t',rfl⟩:=a;exact eq_int (gq I q ac2)
  |str j=>obtain ⟨t',rfl⟩:=a;exact PySem.EqMixed.eq_int_str (gq I q (by simp))
  |_=>exact absurd (show false=true from b) iV
 |str i =>
  obtain ⟨t,rfl⟩:=c;cases y with
  |non=>cases a;exact PySem.EqNone.eq_str_none (gq I q (by simp))
  |bl j=>cases a;exact PySem.EqMixed.eq_str_bool (gq I q (by simp))
  |int j=>obtain ⟨t',rfl⟩:=a;exact PySem.EqMixed.eq_str_int (gq I q (by simp))
  |str j=>obtain ⟨t',rfl⟩:=a;exact eq_str (gq I q ac3)
  |_=>exact absurd (show false=true from b) iV
 |pO i =>
  obtain ⟨t,rfl⟩:=c;cases y with
  |pO j=>obtain ⟨t',rfl⟩:=a;exact PySem.W.eq_bytes (gq I q ac4)
  |_=>exact absurd (show false=true from b) iV
 |_=>cases y<;>exact absurd (show false=true from b) iV
theorem pG:dN X (compareOp .NotEq) rNe:=by
 rintro aq s σ H x y v u Q I c a ⟨b,q⟩;cases x with
 |non =>
  cases c;cases y with
  |non=>cases a;exact PySem.EqNone.ne_none_none (gq I q (by simp))
  |bl j=>cases a;exact PySem.EqNone.ne_none_bool (gq I q (by simp))
  |int j=>obtain ⟨t',rfl⟩:=a;exact PySem.EqNone.ne_none_int (gq I q (by simp))
  |str j=>obtain ⟨t',rfl⟩:=a;exact PySem.EqNone.ne_none_str (gq I q (by simp))
  |_=>exact absurd (show false=true from b) iV
 |bl i =>
  cases c;cases y with
  |non=>cases a;exact PySem.EqNone.ne_bool_none (gq I q (by simp))
  |bl j=>cases a;exact ne_bool (gq I q (gM not ad7))
  |str j=>obtain ⟨t',rfl⟩:=a;exact PySem.EqMixed.ne_bool_str (gq I q (by simp))
  |_=>exact absurd (show false=true from b) iV
 |int i =>
  obtain ⟨t,rfl⟩:=c;cases y with
  |non=>cases a;exact PySem.EqNone.ne_int_none (gq I q (by simp))
  |int j=>obtain ⟨t',rfl⟩:=a;exact ne_int (gq I q (gM not ac2))
  |str j=>obtain ⟨t',rfl⟩:=a;exact PySem.EqMixed.ne_int_str (gq I q (by simp))
  |_=>exact absurd (show false=true from b) iV
 |str i =>
  obtain ⟨t,rfl⟩:=c;cases y with
  |non=>cases a;exact PySem.EqNone.ne_str_none (gq I q (by simp))
  |bl j=>cases a;exact PySem.EqMixed.ne_str_bool (gq I q (by simp))
  |int j=>obtain ⟨t',rfl⟩:=a;exact PySem.EqMixed.ne_str_int (gq I q (by simp))
  |str j=>obtain ⟨t',rfl⟩:=a;exact ne_str (gq I q (gM not ac3))
  |_=>exact absurd (show false=true from b) iV
 |pO i =>
  obtain ⟨t,rfl⟩:=c;cases y with
  |pO j=>obtain ⟨t',rfl⟩:=a;exact PySem.W.ne_bytes (gq I q (gM not ac4))
  |_=>exact absurd (show false=true from b) iV
 |_=>cases y<;>exact absurd (show false=true from b) iV
theorem Va:dN X (compareOp .Lt) (yX λi j=>.bl (decide (i<j))):=M4 λ_ _ _ _ _ _ _ q=>lt_int q
theorem tE:dN X (compareOp .LtE) (yX λi j=>.bl (decide (i<=j))):=M4 λ_ _ _ _ _ _ _ q=>le_int q
theorem tG:dN X (compareOp .Gt) (yX λi j=>.bl (decide (j<i))):=M4 λ_ _ _ _ _ _ _ q=>gt_int q
theorem aeG:dN X (compareOp .GtE) (yX λi j=>.bl (decide (j<=i))):=M4 λ_ _ _ _ _ _ _ q=>ge_int q
theorem aa':dN X (compareOp .In) (λx y H Q=>∃ i j,x=.str i/\y=.str j/\Q (.bl (!(occurrences j i 0 j.length 1).isEmpty)) H):=by rintro aq s σ H x y v u Q I a b ⟨i,j,rfl,rfl,q⟩;obtain ⟨t,rfl⟩:=a;obtain ⟨t',rfl⟩:=b;exact in_str (gq I q rfl)
theorem yr:dN X (compareOp .Is) (λx y H Q=>y=.non/\Q (.bl (decide (x=.non))) H):=by
 rintro aq s σ H x y v u Q I a b ⟨rfl,q⟩;cases b;refine is_none_gen (gq I q ?_);cases x<;>first
  |(cases a;rfl)
  |(obtain ⟨t,rfl⟩:=a;rfl)
theorem Lj:dN X (compareOp .IsNot) (λx y H Q=>y=.non/\Q (.bl (!decide (x=.non))) H):=by
 rintro aq s σ H x y v u Q I a b ⟨rfl,q⟩;cases b;refine isnot_none_gen (gq I q ?_);cases x<;>first
  |(cases a;rfl)
  |(obtain ⟨t,rfl⟩:=a;rfl)
theorem ad8 (b:Expr) (h:op≠.In:=by decide) (h2:op≠.NotIn:=by decide):behindInMarks op b=false:=by
 have a:(op == CmpOp.In)=false:=by cases op<;>first|rfl|exact absurd rfl h
 have c:(op == CmpOp.NotIn)=false:=by cases op<;>first|rfl|exact absurd rfl h2
 cases b<;>simp [behindInMarks,a,c]
theorem S5 {r:R2} (ho:dN X (compareOp op) r) (ha:PE X a ta) (hb:PE X b tb) (hm:behindInMarks op b=false):PE X (.Compare a [op] [b] pos) (uO r ta tb):=by intro aq s σ H Q I h;exact wpAny_Compare1 (Vx ha hb I h λv u e x y H2 g c d q=>ho aq e σ H2 x y v u Q g c d q) hm
def Mv (t:TE):TT:=λσ H Q=>t σ H λx H'=>HF x H' Q
theorem Lk {r:R2} (ho:dN X (compareOp op) r) (ha:PE X a ta) (hb:PE X b tb) (hm:behindInMarks op b=false):PT X (.Compare a [op] [b] pos) (Mv (uO r ta tb)):=by
 intro aq s σ H Q I h;refine wpAny_isTrue_Compare1 (bH (ha aq s σ H _ I h) λv i ⟨x,H1,d,n,g⟩=>bH (hb aq i σ H1 _ d g) λu o ⟨y,H2,p,t,B⟩ =>
  bH (ho aq o σ H2 x y v u _ p n t B) λc C ⟨z,j,m,q,k,e,l⟩=>?_) hm
 subst e;cases q;exact pZ ⟨j,m,l⟩
def ad9 (r r':R2) (ta tb tc:TE):TE:=λσ H Q=>ta σ H λx H1=>tb σ H1 λy H2=>r x y H2 λz a=>∃ k,z=.bl k /\
 (if k=true then tc σ a λc b=>r' y c b Q else Q (.bl false) a)
theorem abL {op':CmpOp} {r r':R2} (ho:dN X (compareOp op) r) (ho':dN X (compareOp op') r') (ha:PE X a ta) (hb:PE X b tb) (hc:PE X c tc) (hm:lastMarks [op,op'] [b,c]=false:=by with_unfolding_all rfl):PE X (.Compare a [op,op'] [b,c] pos) (ad9 r r' ta tb tc):=by
 intro aq s σ H Q I h;refine Compare_chain (bH (ha aq s σ H _ I h) λv q ⟨x,H1,m,C,p⟩=>chain_link (bH (hb aq q σ H1 _ m p) λu D ⟨y,H2,J,l,S⟩ =>
  bH (ho aq D σ H2 x y v u _ J C l S) λd t ⟨z,g,j,L,k,e,i⟩=>?_)) hm
 subst e;cases L;refine pZ ?_;cases k with
 |false=>exact ite_ff ⟨.bl false,g,j,rfl,i⟩
 |true=>exact ite_tt (chain_last (bH (hc aq t σ g _ j i) (by rintro R n ⟨M,o,N,O,B⟩;exact ho' aq n σ o y M u R Q N l O B)))
theorem Q6 {op':CmpOp} {r r':R2} (ho:dN X (compareOp op) r) (ho':dN X (compareOp op') r') (ha:PE X a ta) (hb:PE X b tb) (hc:PE X c tc) (hm:lastMarks [op,op'] [b,c]=false:=by with_unfolding_all rfl):PT X (.Compare a [op,op'] [b,c] pos) (Mv (ad9 r r' ta tb tc)):=by
 intro aq s σ H Q I h;refine isTrue_chain (bH (ha aq s σ H _ I h) λv B ⟨x,H1,m,M,p⟩=>test_link (bH (hb aq B σ H1 _ m p) λu N ⟨y,H2,O,l,q2⟩ =>
  bH (ho aq N σ H2 x y v u _ O M l q2) λd D ⟨z,g,j,U,k,e,i⟩=>?_)) hm
 subst e;cases U;refine pZ ?_;cases k with
 |false =>obtain ⟨k',q,S⟩:=i;cases q;exact ite_ff ⟨g,j,S⟩
 |true =>refine ite_tt (test_last (bH (hc aq D σ g _ j i) λw' n ⟨V,o,W,Y,J⟩=>bH (ho' aq n σ o y V u w' _ W l Y J) λd' s5 ⟨z2,L,t,r5,k2,R,C⟩=>?_));subst R;cases r5;exact pZ ⟨L,t,C⟩
def afa (K:bI) (x:V) (H:Hp) (k:Bool):Prop :=
 match x with
 |.non=>k=false
 |.bl b=>k=b
 |.int i=>k=(i != 0)
 |.str y=>y.length<=sizeLine/\k=((y.length:Int) != 0)
 |.pO y=>y.size<=sizeLine/\k=((y.size:Int) != 0)
 |.ref p=>(∃ xs,dB K H p xs/\k=!xs.isEmpty)\/(∃ xs,fY K H p xs/\k=!xs.isEmpty)\/∃ aV,H p=some (.dK aV)/\k=!aV.isEmpty
 |_=>False
theorem ahX {κ:Type} {aV:List (κ×V)} {vs:List (κ×Value)} (r:KV aV vs):(!vs.isEmpty)=!aV.isEmpty:=by cases r<;>rfl
theorem aaU {xs:aD} (r:bY xs aM):(!aM.toArray.isEmpty)=!xs.isEmpty:=by cases r<;>simp
theorem Aw:(sizeLine:Nat)<2 ^ 63:=by rw [uy];decide
theorem apA:ar9 X (λx H Q=>∃ k,afa X.K x H k/\Q k H):=by
 rintro aq s σ H x v Q I c ⟨k,e,q⟩;have o:=Aw;have u:sizeLine=16777216:=uy;cases x with
 |non =>cases c;have a:k=false:=e;subst a;exact truthy_none ⟨H,I,q⟩
 |bl b =>cases c;have a:k=b:=e;subst a;exact pZ ⟨H,I,q⟩
 |int i =>obtain ⟨t,rfl⟩:=c;have a:k=(i != 0):=e;subst a;exact PySem.P.truthy_int ⟨H,I,q⟩
 |str y =>obtain ⟨t,rfl⟩:=c;obtain ⟨n,a⟩:y.length<=sizeLine/\k=((y.length:Int) != 0):=e;subst a;exact PySem.P.truthy_str (by lk) ⟨H,I.tok _,q⟩
 |pO y =>obtain ⟨t,rfl⟩:=c;obtain ⟨n,a⟩:y.size<=sizeLine/\k=((y.size:Int) != 0):=e;subst a;exact PySem.W.truthy_bytes (by lk) ⟨H,I.tok _,q⟩
 |ref p =>
  cases c;have a:(∃ xs,dB X.K H p xs/\k=!xs.isEmpty)\/(∃ xs,fY X.K H p xs/\k=!xs.isEmpty)\/∃ aV,H p=some (.dK aV)/\k=!aV.isEmpty:=e;rcases a with ⟨xs,d,a⟩|⟨xs,d,a⟩|⟨aV,d,a⟩
  ·subst a;obtain ⟨aM,r,pl,g⟩:=I.list d;have j:=r.length;exact wpAny_truthy_list pl.isList (by simp only [fL];lk) ⟨H,I.tok _,by rw [aaU r];exact q⟩
  ·subst a;obtain ⟨aM,r,pl,g⟩:=I.tuple d;have j:=r.length;exact truthy_tuple pl (by simp only [fL];lk) ⟨H,I.tok _,by rw [aaU r];exact q⟩
  ·subst a;obtain ⟨g,l,vs,r,m⟩:aV.length<=sizeLine/\(p == sysModules)=false/\∃ vs,KV aV vs/\s.heap.DictOf (jD X.prog X.w) p vs:=I.hok p _ d;have j:aV.length=vs.length:=uE r;exact wpAny_truthy_dict l m (by lk) ⟨H,I.tok _,by rw [ahX r];exact q⟩
 |_=>exact (show False from e).elim
theorem dZ:dN X (binaryOp .Add) (λx y H Q=>∃ i j,x=.str i/\y=.str j/\i.length+j.length<=sizeLine/\Q (.str (i++j)) H):=by rintro aq s σ H x y v u Q I a c ⟨i,j,rfl,rfl,b,q⟩;obtain ⟨t,rfl⟩:=a;obtain ⟨t',rfl⟩:=c;exact add_str (λt' tk=>⟨.str (i++j),H,I.tok _,⟨_,rfl⟩,q⟩) b
theorem qM {x:V} (r:bY [x] us):∃ u,us=[u]/\cC x u:=by
 cases r with
 |cons b a=>cases a;exact ⟨_,rfl,b⟩
theorem Ln {x y:V} (r:bY [x,y] us):∃ u w',us=[u,w']/\cC x u/\cC y w':=by
 cases r with
 |cons d c =>
  cases c with
  |cons a b=>cases b;exact ⟨_,_,rfl,d,a⟩
inductive aaD (K:bI) (xs:aD) (H:Hp) (Q:VK):Prop
 |mk (i:_) (j:_) (h1:xs=[.int i,.int j]) (h2:Q (.int (if j>i then j else i)) H)
theorem FQ (hc:X.calm=true):iZ X (.builtin "max") (aaD X.K):=by
 rintro aq s σ H xs us Q I r ⟨i,j,rfl,q⟩;obtain ⟨u,b,rfl,⟨t,rfl⟩,⟨t',rfl⟩⟩:=Ln r;refine max_two_ints (I.ok.hd hc) λh' tk k=>⟨_,H,I.kept k,?_,q⟩;by_cases a:j>i
 ·rw [bF a,bF a];exact ⟨_,rfl⟩
 ·rw [bw a,bw a];exact ⟨_,rfl⟩
inductive ahi (K:bI) (xs:aD) (H:Hp) (Q:VK):Prop
 |mk (i:_) (j:_) (h1:xs=[.int i,.int j]) (h2:Q (.int (if j<i then j else i)) H)
theorem ai6 (hc:X.calm=true):iZ X (.builtin "min") (ahi X.K):=by
 rintro aq s σ H xs us Q I r ⟨i,j,rfl,q⟩;obtain ⟨u,b,rfl,⟨t,rfl⟩,⟨t',rfl⟩⟩:=Ln r;refine min_two_ints (I.ok.hd hc) λh' tk k=>⟨_,H,I.kept k,?_,q⟩;by_cases a:j<i
 ·rw [bF a,bF a];exact ⟨_,rfl⟩
 ·rw [bw a,bw a];exact ⟨_,rfl⟩
theorem FT:iZ X (.type "int") (λxs H Q=>(∃ i,xs=[.int i]/\Q (.int i) H)\/∃ k,xs=[.bl k]/\Q (.int (if k then 1 else 0)) H):=by
 intro aq s σ H xs us Q I r h;rcases h with ⟨i,rfl,q⟩|⟨k,rfl,q⟩
 ·obtain ⟨u,rfl,t,rfl⟩:=qM r;exact call_int_int ⟨.int i,H,I,⟨_,rfl⟩,q⟩
 ·obtain ⟨u,rfl,a⟩:=qM r;cases a;exact call_int_bool ⟨.int (if k then 1 else 0),H,I.tok _,⟨_,rfl⟩,q⟩
inductive aak (K:bI) (xs:aD) (H:Hp) (Q:VK):Prop
 |mk (i:_) (h1:xs=[.int i]) (h2:i.natAbs.log2<1920) (h3:Q (.str (toString i)) H)
theorem qD:iZ X (.type "str") (aak X.K):=by rintro aq s σ H xs us Q I r ⟨i,rfl,a,q⟩;obtain ⟨u,rfl,t,rfl⟩:=qM r;exact PySem.P.str_of_int a ⟨.str _,H,I.tok _,⟨_,rfl⟩,q⟩
end
structure Bc (h:Heap) (x dx C:Addr) (mA:dH):Prop where
 obj:h.get? x=some (instObj C dx)
 ns:h.Ns1 dx mA
 ne:dx≠x
theorem ai7 {dx:Addr} (n:h.Ns1 dx mA):∃ od,h.get? dx=some od/\∀ name,lookIn name od=some (mA name):=by
 obtain ⟨o,es,l,k,j,d,_,c⟩:=n;refine ⟨o,k,λname=>?_⟩;have e:=c name;unfold nsFind findBy at e;rw [<-Array.find?_toList] at e;unfold lookIn;rw [j];dsimp only;split
 ·rename_i y q;rw [q] at e;exact gM some e
 ·rename_i q;rw [q] at e;have a:es.toList.any (·.refKey)=false:=by rw [List.any_eq_false];intro y g;obtain ⟨z,t,b⟩:=d y (ad1.mp g);simp [DictEntry.refKey,b]
  have i:¬ es.toList.any (·.refKey)=true:=by rw [a];exact iV
  rw [bw i];exact gM some e
theorem Bc.look {x dx:Addr} (I:Bc h x dx C mA):∃ od,PySem.W.InstAt h x (instObj C dx) C (some od)/\∀ name,lookIn name od=some (mA name) :=
 let ⟨od,a,b⟩:=ai7 I.ns
 ⟨od,⟨I.obj,rfl,rfl,a⟩,b⟩
section
variable {x dx:Addr} {name:Str} {v:Value}
theorem get_map {expr:Bool} (X:K.In s.heap) (I:Bc s.heap x dx C mA) (hg:plainGet K C name=true) (hh:hasDictIn K C=true) (ha:findIn K (.ref C) name=some none) (hv:mA name=some v) (hv':handedIn v=true) (h:Q v { s with toks:=s.toks+1 }) : wpAny (model prog w) A (getAttr (.ref x) name expr) Q E s:=by obtain ⟨od,J,a⟩:=I.look;exact PySem.W.get_value X J (T_ hg).1 (PySem.W.findObj_own hh ha rfl (by rw [a,hv])) hv' h
theorem alh {Q:Value×cG->Shared->Prop} (X:K.In s.heap) (I:Bc s.heap x dx C mA) (hg:plainGet K C name=true) (hf:findIn K (.ref C) name=some (some (.ref f))) (ht:isFn K (.ref f)=true) (hv:mA name=none) (h:Q (.ref f,[.ref x]) s) : wpAny (model prog w) A (getMethod (.ref x) name pl) Q E s:=by obtain ⟨od,J,a⟩:=I.look;exact PySem.W.method_fn X J (T_ hg).1 (T_ hg).2 hf (oh.mp ht) (by show (lookIn name od).map (·.isSome)=some false;rw [a,hv];rfl) h
theorem ai8 {ns:bR} {Q:Av} (X:K.In s.heap) (I:Bc s.heap x dx C mA) (hs:findIn K (.ref C) "__setattr__"=some (some (.builtin "object.__setattr__"))) (hp:plainOver K C=true) (ht:takerIn K C name=some none) (hh:hasDictIn K C=true) (hw:PySem.Within mA ns) (hsz:ns.length<=sizeLine) (h:∀ h',Bc h' x dx C (λy=>if y=name then some v else mA y)->SameBut dx s.heap h'->Q () { s with heap:=h',toks:=s.toks+2 }) : wpAny (model prog w) A (setAttr (.ref x) name v) Q E s:=by obtain ⟨od,J,o⟩:=I.look;refine PySem.W.set_plain X J hs (PySem.W.osa_open (s:={ s with toks:=s.toks+1 }) (r:=none) X J hp ht λb=>?_);obtain ⟨cd,k,g⟩:=PySem.W.any_some hh;have n:s.heap.get? x=some ⟨.ref C,some dx,.plain,#[]⟩:=I.obj;refine aW (cB (aW (aW (wpAny_loadPart n (aW (Looks.here (s:={ s with toks:=s.toks+1 }) (PySem.W.looks_clsIn X k) ?_))))));rw [g];refine cB (a:=some dx) (aW (cB (aW (wpAny_nsSet1 (s:={ s with toks:=s.toks+1 }) I.ns λh' c d=>?_))));obtain ⟨p,l,m,i,j,e⟩:=c.count (PySem.Within.cons name v hw);exact aW (wpAny_lookBehind i (by rw [j];exact pastItsLine_dict (eU e (by rw [gj];lk))) (cB (h _ ⟨(d.2 _ (bL I.ne)).trans I.obj,c,I.ne⟩ d)))
theorem ali (X:K.In s.heap) (hm:makesIn K C=true) (hi:findIn K (.ref C) "__init__"=some (some (.ref f))) (hf:PySem.W.typeIn K (.ref f)=some (.type "function")) (h:codeAny (model prog w) (A.under (.builtin "type.__call__" ⟨.ref C::vs,kw⟩)) (.call (.ref f) ⟨.ref (s.heap.objs.size+1)::vs,kw⟩) (PySem.W.InitBack (s.heap.objs.size+1) R) { s with heap:=(s.heap.push emptyDict).push (instObj C s.heap.objs.size) }) : codeAny (model prog w) A (.call (.ref C) ⟨vs,kw⟩) R s:=by obtain ⟨c,g,d,t,b⟩:=s;exact PySem.W.make_core (PySem.W.makes_of X hm) (Mh X hi) (λa=>PySem.W.bind_fn X a hf) (.inl rfl) h
end
def j4 (f:Str) (v:V):List (Str×V)->List (Str×V)
 |[]=>[(f,v)]
 |(g,x)::r=>if g=f then (g,v)::r else (g,x)::j4 f v r
theorem zG (f g:Str) (v:V):∀ fs:List (Str×V),(j4 f v fs).lookup g=if g=f then some v else fs.lookup g
 |[]=>by
  show List.lookup g [(f,v)]=_;by_cases h:g=f
  ·have a:(g == f)=true:=oh.mpr h;simp only [List.lookup,a,bF h]
  ·have a:(g == f)=false:=DN.mpr h;simp only [List.lookup,a,bw h]
 |(k,x)::r=>by
  have c:=zG f g v r;rw [show j4 f v ((k,x)::r)=(if k=f then (k,v)::r else (k,x)::j4 f v r) from rfl];by_cases b:k=f
  ·rw [bF b];by_cases h:g=k
   ·have a:(g == k)=true:=oh.mpr h;simp only [List.lookup,a,bF (h.trans b)]
   ·have a:(g == k)=false:=DN.mpr h;simp only [List.lookup,a,bw (λe:g=f=>h (e.trans b.symm))]
  ·rw [bw b];by_cases h:g=k
   ·have a:(g == k)=true:=oh.mpr h;simp only [List.lookup,a,bw (λe:g=f=>b (h.symm.trans e))]
   ·have a:(g == k)=false:=DN.mpr h;simp only [List.lookup,a];exact c
theorem Qu (f:Str) (v:V):∀ fs:List (Str×V),f∈(j4 f v fs).map (·.1)/\∀ g,g∈fs.map (·.1)->g∈(j4 f v fs).map (·.1)
 |[]=>⟨by simp [j4],λg h=>by simp at h⟩
 |(k,x)::r=>by
  obtain ⟨i1,i2⟩:=Qu f v r;rw [show j4 f v ((k,x)::r)=(if k=f then (k,v)::r else (k,x)::j4 f v r) from rfl];by_cases a:k=f
  ·rw [bF a];subst a;exact ⟨by simp,λg h=>by simpa using h⟩
  ·rw [bw a];refine ⟨?_,λg h=>?_⟩
   ·rw [iC];exact gK _ i1
   ·rw [iC] at h ⊢;rcases gn.mp h with e|e
    ·exact gn.mpr (.inl e)
    ·exact gK _ (i2 g e)
theorem aaE (f:Str) (v:V):∀ fs:List (Str×V),(j4 f v fs).length<=fs.length+1
 |[]=>by simp [j4]
 |(k,x)::r=>by
  have b:=aaE f v r;rw [show j4 f v ((k,x)::r)=(if k=f then (k,v)::r else (k,x)::j4 f v r) from rfl];by_cases a:k=f
  ·rw [bF a,gj,gj];lk
  ·rw [bw a,gj,gj];lk
theorem lY.some_of {v:V} {o:pA} (r:lY (some v) o):∃ u,o=some u/\cC v u:=by
 cases o with
 |none=>exact (show False from r).elim
 |some u=>exact ⟨u,rfl,r⟩
theorem lY.none_of {o:pA} (r:lY none o):o=none:=by
 cases o with
 |none=>rfl
 |some u=>exact (show False from r).elim
theorem ai9 {v:V} (r:cC v u):handedIn u=true:=by
 cases v with
 |non=>cases (show u=Value.none from r);rfl
 |bl b=>cases (show u=Value.bool b from r);rfl
 |int i=>obtain ⟨t,e⟩:=(show ∃ t,u=Value.int i t from r);cases e;rfl
 |str x=>obtain ⟨t,e⟩:=(show ∃ t,u=Value.str x t from r);cases e;rfl
 |pO b=>obtain ⟨t,e⟩:=(show ∃ t,u=bytes b t from r);cases e;rfl
 |flt b=>obtain ⟨t,e⟩:=(show ∃ t,u=float b t from r);cases e;rfl
 |ref a=>cases (show u=Value.ref a from r);rfl
 |ty n=>cases (show u=type n from r);rfl
section
variable {H H':Hp} {h':Heap} {dx:Addr} {fs fs':List (Str×V)}
theorem Lp (hok:gU P w H h) (e:H a=some (.ins C dx fs)):∃ mA,Bc h a dx C mA/\(∀ f,lY (fs.lookup f) (mA f))/\PySem.Within mA (fs.map (·.1))/\fs.length<=1000/\H dx=some (.own a):=by obtain ⟨d,z,c,b,mA,n,r,q⟩:=(show dU P w H h a (.ins C dx fs) from hok a _ e);exact ⟨mA,⟨b,n,c⟩,r,q,z,d⟩
end
structure qY (K:bI) (C:Addr):Prop where
 pg:plainGet K C empty=true
 hd:hasDictIn K C=true
 po:plainOver K C=true
 sa:findIn K (.ref C) "__setattr__"=some (some (.builtin "object.__setattr__"))
theorem qY.get (c:qY K C) (f:Str):plainGet K C f=true:=c.pg
def yt (K:bI) (C:Addr) (f:Str):Prop:=findIn K (.ref C) f=some none
theorem yt.taker {f:Str} (n:yt K C f):takerIn K C f=some none:=by unfold takerIn;rw [show findIn K (.ref C) f=some none from n];rfl
structure Hg (K:bI) (C:Addr) (m:Str) (f:Addr):Prop where
 at_:findIn K (.ref C) m=some (some (.ref f))
 fn:isFn K (.ref f)=true
 kp:keepIn K (.ref f)=true
section
variable {X:Cx} {σ:St} {H:Hp} {dx:Addr} {fs:List (Str×V)} {f:Str} {v:V}
theorem ahY {b:Bool} (I:aJ X aq σ H s) (e:H a=some (.ins C dx fs)) (c:qY X.K C) (n:yt X.K C f) (l:fs.lookup f=some v) (h:∀ u s',aJ X aq σ H s'->cC v u->Q u s'):wpAny (model X.prog X.w) A (getAttr (.ref a) f b) Q E s:=by obtain ⟨mA,O,r,_,_,_⟩:=Lp I.hok e;obtain ⟨u,g,d⟩:=lY.some_of (v:=v) (o:=mA f) (by rw [<-l];exact r f);exact get_map I.fO O (c.get f) c.hd n g (ai9 d) (h u _ (I.tok _) d)
theorem aaV {m:Str} {g:Addr} {Q:Value×cG->Shared->Prop} (I:aJ X aq σ H s) (e:H a=some (.ins C dx fs)) (c:qY X.K C) (k:Hg X.K C m g) (l:fs.lookup m=none) (h:Q (.ref g,[.ref a]) s):wpAny (model X.prog X.w) A (getMethod (.ref a) m pl) Q E s:=by obtain ⟨mA,O,r,_,_,_⟩:=Lp I.hok e;have b:mA m=none:=lY.none_of (by rw [<-l];exact r m);exact alh I.fO O (c.get m) k.at_ k.fn b h
theorem ahZ {y:V} {Q:Av} (I:aJ X aq σ H s) (e:H a=some (.ins C dx fs)) (c:qY X.K C) (n:yt X.K C f) (hl:fs.length<1000) (ry:cC y u) (h:∀ s',aJ X aq σ (upd H a (.ins C dx (j4 f y fs))) s'->Q () s'):wpAny (model X.prog X.w) A (setAttr (.ref a) f u) Q E s:=by
 obtain ⟨mA,O,r,wi,_,i⟩:=Lp I.hok e;have t:(fs.map (·.1)).length<=sizeLine:=by rw [bD,uy];lk
 refine ai8 I.fO O c.sa c.po n.taker c.hd wi t λh' d m=>h _ ?_;have p:∃ o,h'.get? dx=some o:=let ⟨o,_,_,k,_⟩:=d.ns;⟨o,k⟩;refine I.write (x:=a) (e:=dx) (by rw [e];exact qd) (.inr i) (λb q l z=>(m.2 b l).trans z) p ⟨by rw [bh O.ne];exact i,?_,O.ne,d.obj,_,d.ns,λg=>?_,λg j=>?_⟩
 ·have:=aaE f y fs;lk
 ·show lY ((j4 f y fs).lookup g) (if g=f then some u else mA g);rw [zG];by_cases q:g=f
  ·rw [bF q,bF q];exact ry
  ·rw [bw q,bw q];exact r g
 ·by_cases q:g=f
  ·rw [q];exact (Qu f y fs).1
  ·refine (Qu f y fs).2 g (wi g λz=>j ?_);show (if g=f then some u else mA g)=none;rw [bw q];exact z
theorem aJ.made (I:aJ X aq σ H s):aJ X aq σ (upd (upd H s.heap.objs.size (.own (s.heap.objs.size+1))) (s.heap.objs.size+1) (.ins C s.heap.objs.size [])) { s with heap:=(s.heap.push emptyDict).push (instObj C s.heap.objs.size) }:=by
 have c:(s.heap.push emptyDict).get? s.heap.objs.size=some emptyDict:=eV s.heap rfl;have l:((s.heap.push emptyDict).push (instObj C s.heap.objs.size)).get? (s.heap.objs.size+1)=some (instObj C s.heap.objs.size):=by have:=eV (s.heap.push emptyDict) (o:=instObj C s.heap.objs.size) rfl;rwa [sU] at this
 have i:(s.heap.push emptyDict).Ns s.heap.objs.size (λ_=>none):=⟨emptyDict,#[],_,c,rfl,(λe g=>absurd g (by simp)),λ_=>rfl⟩;have j:=I.laid (a:=s.heap.objs.size) (o:=.own (s.heap.objs.size+1)) (h':=s.heap.push emptyDict) (t':=s.toks) (λb u q=>cP _ q) (bJ _) ⟨_,c⟩;refine j.laid (a:=s.heap.objs.size+1) (o:=.ins C s.heap.objs.size []) (t':=s.toks) (λb u q=>cP _ q) (Ua (sU _ _)) ?_;have d:s.heap.objs.size≠s.heap.objs.size+1:=fG (Aj _);refine ⟨by rw [bh d,aO],d_ _,d,l,λ_=>none,(Heap.Ns1.of_empty i).at λo q=>cP _ q,λ_=>qd,λy k=>absurd rfl k⟩
theorem anB {f:Str} (hb:attributeBase e f env (eval e env)=eval e env) (h:wpAny (model prog w) A (eval e env) (λo s₁=>wpAny (model prog w) A (getAttr o f true) Q E s₁) E s):wpAny (model prog w) A (eval (.Attribute e f pos) env) Q E s:=Attribute_any_ h (by rw [arm_eval_Attribute,hb])
end
inductive aqO (K:bI) (f:Str) (x:V) (H:Hp) (Q:VK):Prop
 |mk (a C dx:Addr) (fs:List (Str×V)) (v:V) (e:x=.ref a) (h:H a=some (.ins C dx fs)) (c:qY K C) (n:yt K C f) (l:fs.lookup f=some v) (q:Q v H)
def ar' (K:bI) (ta:TE) (f:Str):TE:=λσ H Q=>ta σ H λx H1=>aqO K f x H1 Q
def asa (K:bI) (ta tv:TE) (f:Str):TS:=λD σ H=>tv σ H λy H1=>ta σ H1 λx H2=>∃ a C dx fs,x=.ref a/\H2 a=some (.ins C dx fs)/\qY K C/\yt K C f/\fs.length<1000 /\
 D.nx σ (upd H2 a (.ins C dx (j4 f y fs)))
section
variable {X:Cx} {o value:Expr} {f:Str} {tpos:Pos} {ta tv:TE}
theorem Mp (he:PE X e ta) (hb:attributeBase e f X.env (eval e X.env)=eval e X.env):PE X (.Attribute e f pos) (ar' X.K ta f):=by intro aq s σ H Q I h;refine anB hb (bH (he aq s σ H _ I h) λu j ⟨x,H1,b,g,a,C,dx,fs,v,ex,ea,c,n,l,q⟩=>?_);subst ex;obtain rfl:u=Value.ref a:=g;exact ahY b ea c n l λk m i d=>⟨v,H1,i,d,q⟩
theorem ad_ (ha:PE X o ta) (hv:PE X value tv) (hs:swapsWith value (some (.Attribute o f pos')) pos.line X.env=pure false):PS X (.Assign [.Attribute o f pos'] value pos) (asa X.K ta tv f):=by intro aq s σ H D I h;refine plainObj_wpAny_Assign_Attribute (bH (hv aq s σ H _ I h) λu d ⟨y,H1,b,k,q⟩=>bH (ha aq d σ H1 _ b q) λe r ⟨x,H2,j,g,a,C,dx,fs,ex,ea,c,n,l,m⟩=>?_) hs;subst ex;obtain rfl:e=Value.ref a:=g;exact ahZ j ea c n l k λp i=>⟨σ,_,i,m⟩
end
section
variable {X:Cx} {σ:St} {H:Hp} {c:Value} {b:Bool}
inductive jh (K:bI) (H:Hp):V->Value->Prop where
 |non:jh K H .non (.type "NoneType")
 |bl (x:Bool):jh K H (.bl x) (.type "bool")
 |int (i:Int):jh K H (.int i) (.type "int")
 |str (x:Str):jh K H (.str x) (.type "str")
 |flt (x:UInt64):jh K H (.flt x) (.type "float")
 |lst {a:Addr} {xs:aD} (e:H a=some (.lst xs)):jh K H (.ref a) (.type "list")
 |oK {a:Addr} {o:Obj} {xs:aD} (e:H a=some (.oK o (.lst xs))):jh K H (.ref a) (.type "list")
 |tup {a:Addr} {xs:aD} (e:H a=some (.tup xs)):jh K H (.ref a) (.type "tuple")
 |dK {a:Addr} {aV:dh} (e:H a=some (.dK aV)):jh K H (.ref a) (.type "dict")
 |dT {a:Addr} {aV:List (List dR×V)} (e:H a=some (.dT aV)):jh K H (.ref a) (.type "dict")
 |ins {a C dx:Addr} {fs:List (Str×V)} (e:H a=some (.ins C dx fs)) (cl:qY K C) (ha:findIn K (.ref C) "__class__"=some (some (.builtin "object.__class__")))
   (hn:specialIn K (.builtin "object.__class__") "__get__"=some (some (.builtin "getset_descriptor.__get__"))) (htk:takesIn K (.builtin "object.__class__")=some true)
   (hm:mroIn K C (.type "object")=some true):jh K H (.ref a) (.ref C)
theorem ai_ {x:V} {t:Value} (I:aJ X aq σ H s) (rx:cC x u) (ty:jh X.K H x t) (e:kitOne X.K t c=some b) (h:∀ tk,Q (.bool b) { s with toks:=tk }) : wpAny (model X.prog X.w) A (call (.builtin "isinstance") [u,c]) Q E s:=by
 cases ty with
 |non=>cases (show u=Value.none from rx);exact qR PySem.W.kitx_none I.fO qd e (λz=>nomatch z) h
 |bl y=>cases (show u=Value.bool y from rx);exact qR PySem.W.kitx_bool I.fO qd e (λz=>nomatch z) h
 |int i=>obtain ⟨t,q⟩:=(show ∃ t,u=Value.int i t from rx);cases q;exact qR PySem.W.kitx_int I.fO qd e (λz=>nomatch z) h
 |str y=>obtain ⟨t,q⟩:=(show ∃ t,u=Value.str y t from rx);cases q;exact qR PySem.W.kitx_str I.fO qd e (λz=>nomatch z) h
 |flt y=>obtain ⟨t,q⟩:=(show ∃ t,u=float y t from rx);cases q;exact qR PySem.W.kitx_float I.fO qd e (λz=>nomatch z) h
 |@lst a xs ea =>cases (show u=Value.ref a from rx);obtain ⟨_,_,n,_,h1⟩:=(show dU X.prog X.w H s.heap a (.lst xs) from I.hok a _ ea);exact qR Ub I.fO ⟨_,h1,rfl⟩ e (λz=>nomatch z) h
 |@oK a j xs ea =>cases (show u=Value.ref a from rx);obtain ⟨_,_,_,n,_,h1⟩:=(show dU X.prog X.w H s.heap a (.oK j (.lst xs)) from I.hok a _ ea);exact qR Ub I.fO ⟨_,h1,rfl⟩ e (λz=>nomatch z) h
 |@tup a xs ea =>cases (show u=Value.ref a from rx);obtain ⟨_,_,_,p⟩:=(show dU X.prog X.w H s.heap a (.tup xs) from I.hok a _ ea);obtain ⟨o,h1,h2,_⟩:=p;exact qR PySem.W.kitx_tuple I.fO ⟨o,h1,h2⟩ e (λz=>nomatch z) h
 |@dK a aV ea =>cases (show u=Value.ref a from rx);obtain ⟨_,_,vs,_,p⟩:=(show dU X.prog X.w H s.heap a (.dK aV) from I.hok a _ ea);obtain ⟨o,es,r,h1,h2,_⟩:=p;exact qR PySem.W.kitx_dict I.fO ⟨o,h1,h2.1⟩ e (λz=>nomatch z) h
 |@dT a aV ea =>cases (show u=Value.ref a from rx);obtain ⟨_,_,xs,_,o,es,r,h1,h2,_⟩:=(show dU X.prog X.w H s.heap a (.dT aV) from I.hok a _ ea);exact qR PySem.W.kitx_dict I.fO ⟨o,h1,h2.1⟩ e (λz=>nomatch z) h
 |@ins a C dx fs ea g k l d m =>cases (show u=Value.ref a from rx);obtain ⟨mA,O,_⟩:=Lp I.hok ea;obtain ⟨od,J,_⟩:=O.look;exact qR (PySem.W.kitx_own (g.get _) g.hd k l d m) I.fO J e (λz=>nomatch z) h
end
structure dW (k:Nat) (A:Around):Prop where
 hd:A.handled=none
 dp:A.depth+3*k+5<recursionLimit
 un:A.units+16*k+200<cLine
 gd:A.guards=some []
theorem dW.mono {j k:Nat} (r:dW k A) (h:j<=k):dW j A:=⟨r.hd,by have:=r.dp;lk, by have:=r.un;lk, r.gd⟩
theorem dW.deeper {k:Nat} (r:dW (k+1) A) (env:Env):dW k (A.deeper env):=⟨r.hd,by have:=r.dp;show A.depth+1+3*k+5<_;lk, by have:=r.un;show A.units+3+16*k+200<_;lk, r.gd⟩
theorem dW.in1 {k:Nat} (r:dW (k+1) A):dW k A.in1:=⟨r.hd,by have:=r.dp;show A.depth+3*k+5<_;lk, by have:=r.un;show A.units+1+16*k+200<_;lk, r.gd⟩
theorem ah0:(A.under (.builtin "type.__call__" ⟨.ref C::us,kw⟩)).depth=A.depth+1:=by
 first|rfl|simp [Around.under,Code.weight,Code.isCreation,Code.isGuard,Code.isCaller,Code.frames,Code.isFrame,guardIds]
theorem ah1:(A.under (.builtin "type.__call__" ⟨.ref C::us,kw⟩)).units=A.units+1:=by
 first|rfl|simp [Around.under,Code.cUnits,Code.frames,Code.isFrame]
theorem ahj:(A.under (.builtin "type.__call__" ⟨.ref C::us,kw⟩)).guards=A.guards:=by
 first|rfl|(simp [Around.under,Code.guards,Code.isGuard,guardIds,pushGuards])
theorem dW.make {k:Nat} (r:dW (k+1) A) (C:Addr) (us:cG) (kw:List (Str×Value)):dW k (A.under (.builtin "type.__call__" ⟨.ref C::us,kw⟩)):=⟨r.hd,by have:=r.dp;rw [ah0];lk, by have:=r.un;rw [ah1];lk, by rw [ahj];exact r.gd⟩
theorem dW.depth {k:Nat} (r:dW k A):A.depth<recursionLimit:=by have:=r.dp;lk
theorem dW.units {k:Nat} (r:dW k A):A.units+64<cLine:=by have:=r.un;lk
theorem dW.ad' {k:Nat} (r:dW k A):A.units<cLine:=by have:=r.un;lk
def Bd:TA:=λ_ H Q=>Q [] H
def yC (ta:TE) (tr:TA):TA:=λσ H Q=>ta σ H λx H1=>tr σ H1 λxs H2=>Q (x::xs) H2
section
variable {X:Cx} {te:TE} {t:TA}
theorem au:PA X [] Bd:=λ_ _ _ _ H Q I h=>Uc ⟨[],H,I,.nil,h⟩
theorem ak (ha:PE X e te) (hr:PA X es t) (hs:starEach (e::es) X.env=(false,eval e X.env)::starEach es X.env:=by rfl):PA X (e::es) (yC te t):=by intro pos aq s σ H Q I h;rw [hs];show wpAny _ _ (spliced ((false,eval e X.env)::backTo pos (starEach es X.env))) _ _ s;refine Ud (bH (ha aq s σ H _ I h) λu c ⟨x,H1,a,d,b⟩=>?_);exact bH (hr pos aq c σ H1 _ a b) (by rintro us k ⟨xs,H2,g,i,j⟩;exact ⟨x::xs,H2,g,.cons d i,j⟩)
def afb (t:TA):TE:=λσ H Q=>t σ H λxs H1=>U9 xs.length (.tup xs) H1 Q
def asb (t:TA):TE:=λσ H Q=>t σ H λxs H1=>U9 xs.length (.lst xs) H1 Q
theorem cU {x1} (h:PA X es t):PE X (.Tuple es x1 pos) (afb t):=by intro aq s σ H Q I d;refine wpAny_Tuple_spliced (bH (h pos aq s σ H _ I d) λus a ⟨xs,H1,c,r,z,q⟩=>⟨by rw [<-r.length];exact z,?_⟩);have g:H1 a.heap.objs.size=none:=c.hok.fresh (bJ _);refine ⟨.ref a.heap.objs.size,upd H1 a.heap.objs.size (.tup xs),c.laid (t':=a.toks) (λb u e=>cP _ e) (bJ _) ?_,rfl,q _ g⟩;exact ⟨z,us,r,⟨_,eV _ rfl,rfl,_,rfl,rfl⟩⟩
theorem cQ (h:PA X es t):PE X (.List es pos) (asb t):=by intro aq s σ H Q I d;refine wpAny_List_spliced (bH (h pos aq s σ H _ I d) λus a ⟨xs,H1,c,r,z,q⟩=>⟨by rw [<-r.length];exact z,?_⟩);have g:H1 a.heap.objs.size=none:=c.hok.fresh (bJ _);refine ⟨.ref a.heap.objs.size,upd H1 a.heap.objs.size (.lst xs),c.laid (t':=a.toks) (λb u e=>cP _ e) (bJ _) ?_,rfl,q _ g⟩;exact ⟨z,us,0,r,eV _ rfl⟩
end
abbrev Sp:=aD->Hp->VK->XK->Prop
abbrev nE (f:aD->Hp->VK->Prop):Sp:=λv H Q _=>f v H Q
abbrev qx:=mY->Hp->Shared->XK->Value->Shared->Prop
structure Bf (P:Program) (w:World) (K:bI) (mg:dH) (aF:Heap) (A:Around) (outer:mY) (s:Shared) (H:Hp):Prop where
 frames:A.frames=some outer
 mod:Mod K mg aF
 bs:∀ b o,aF.get? b=some o->s.heap.get? b=some o/\H b=none
 tV:aF.objs.size<=s.heap.objs.size
 ql:s.heap.FunFrames aF outer
 uN:∀ b∈dY outer,H b=none
 hok:gU P w H s.heap
 bare:AllBare s.gens
def CE (outer:mY) (P:Program) (w:World) (H:Hp) (s:Shared) (Q:VK) (u:Value) (s':Shared):Prop :=
 ∃ v H',s'.os=s.os/\AllBare s'.gens/\Un (dY outer) [] H H' s.heap s'.heap/\gU P w H' s'.heap/\cC v u/\Q v H'
def CR (CX:qx) (outer:mY) (P:Program) (w:World) (H:Hp) (s:Shared) (Q:VK) (E:XK) (r:Result) (s':Shared):Prop :=
 match r with
 |.ok (.ret u)=>CE outer P w H s Q u s'
 |.ok _=>False
 |.error e=>CX outer H s E e s'
structure dz (P:Program) (w:World) (K:bI) (mg:dH) (aF:Heap) (CX:qx) (k:Nat) (f:Addr) (fd:FuncData) (ps:bR) (sp:Sp):Prop where
 len:∀ vs H Q E,sp vs H Q E->vs.length=ps.length
 run:∀ (A:Around) (outer:mY) (s:Shared) (H:Hp) (args:Args) (us:cG) (vs:aD) (Q:VK) (E:XK),dW k A->Bf P w K mg aF A outer s H->BindsTo s fd args (ps.zip us)->bY vs us->sp vs H Q E ->
  codeAny (model P w) A (.call (.ref f) args) (CR CX outer P w H s Q E) s
theorem dz.mono {CX:qx} {j k:Nat} {sp:Sp} (F:dz P w K mg aF CX j f fd ps sp) (h:j<=k) : dz P w K mg aF CX k f fd ps sp:=⟨F.len,λA outer s H a us vs Q E hr=>F.run A outer s H a us vs Q E (hr.mono h)⟩
theorem dz.imp {CX:qx} {k:Nat} {sp uP:Sp} (F:dz P w K mg aF CX k f fd ps sp) (h:∀ vs H Q E,uP vs H Q E->sp vs H Q E):dz P w K mg aF CX k f fd ps uP:=⟨λvs H Q E q=>F.len vs H Q E (h _ _ _ _ q),λA outer s H a us vs Q E hr b d e c=>F.run A outer s H a us vs Q E hr b d e (h _ _ _ _ c)⟩
theorem Bf.make {H:Hp} (e:Bf P w K mg aF A outer s H) (C:Addr) (us:cG) (kw:List (Str×Value)) : Bf P w K mg aF (A.under (.builtin "type.__call__" ⟨.ref C::us,kw⟩)) outer s H:=⟨by first|exact e.frames|(simpa [Around.under,Code.envs,Code.isFrame,pushEnvs] using e.frames),e.mod,e.bs,e.tV,e.ql,e.uN,e.hok,e.bare⟩
section
variable {X:Cx} {σ:St} {H:Hp} {s':Shared}
theorem aJ.env0 (I:aJ X aq σ H s):Bf X.prog X.w X.K X.mg X.aF X.A X.stack s H:=⟨I.ok.frames,I.ok.mod,I.bs,eU I.ok.tV I.sz,I.stack,I.Di,I.hok,I.bare⟩
theorem aJ.after {Q:VK} (I:aJ X aq σ H s) (h:CE X.stack X.prog X.w H s Q u s'):EP X aq σ Q u s':=by obtain ⟨v,H',i,a,un,c,r,q⟩:=h;obtain ⟨j,g,d,t,e⟩:=s';obtain rfl:e=s.os:=i;exact ⟨v,H',I.call (h':=j) (g':=g) (d':=d) (t':=t) (ch:=[]) un c a (λb z=>absurd z (by simp)),r,q⟩
end
def Vb (sp:Sp) (lD:aD) (E:XK) (t:TA):TE:=λσ H Q=>t σ H λvs H1=>sp (vs++lD) H1 Q E
inductive aeH (C:Addr) (m:Str) (x:V) (H:Hp) (Q:Prop):Prop
 |mk (a dx:Addr) (fs:List (Str×V)) (e:x=.ref a) (h:H a=some (.ins C dx fs)) (n:fs.lookup m=none) (q:Q)
def aeI (C:Addr) (m:Str) (sp:Sp) (lD:aD) (E:XK) (ta:TE) (t:TA):TE:=λσ H Q=>ta σ H λx H1=>aeH C m x H1 (t σ H1 λvs H2=>sp (x::(vs++lD)) H2 Q E)
def aeJ (C:Addr) (sp:Sp) (lD:aD) (E:XK) (t:TA):TE:=λσ H Q=>t σ H λvs H1=>∀ x dx,H1 x=none->H1 dx=none->dx≠x ->
 sp (.ref x::(vs++lD)) (upd (upd H1 dx (.own x)) x (.ins C dx [])) (λv H2=>v=.non/\Q (.ref x) H2) E
def oZ (K:bI) (fd:FuncData) (ps:bR) (ds:cG):Prop :=
 ∀ (s:Shared) (us:cG),K.In s.heap->(us++ds).length=ps.length->BindsTo s fd ⟨us,[]⟩ (ps.zip (us++ds))
theorem oZ.all (h:∀ us:cG,us.length=ps.length->bindArgs fd ⟨us,[]⟩=pure (ps.zip us)):oZ K fd ps []:=λs us _ a=>by rw [kO] at a ⊢;exact .of_eq (h us a)
def zN (CX:qx) (X:Cx) (E:XK):Prop:=∀ (aq:List (Addr×Obj)) (σ:St) (H:Hp) (s:Shared) (e:Value) (s':Shared),aJ X aq σ H s->CX X.stack H s E e s'->X.xe e s'
section
variable {X:Cx} {CX:qx} {k:Nat} {sp:Sp} {lD:aD} {ds:cG} {E:XK} {m:Str} {apos:Pos} {o:Expr} {ta:TE} {t:TA}
theorem Uo {σ:St} {H:Hp} {Q:VK} {vs:aD} (F:dz X.prog X.w X.K X.mg X.aF CX k f fd ps sp) (hr:dW k X.A) (hb:oZ X.K fd ps ds) (hd:bY lD ds) (hx:zN CX X E) (I:aJ X aq σ H s) (r:bY vs us) (h:sp (vs++lD) H Q E):wpAny (model X.prog X.w) X.A (call (.ref f) us) (EP X aq σ Q) X.xe s:=by
 have b:bY (vs++lD) (us++ds):=r.append hd;have c:(us++ds).length=ps.length:=by rw [<-b.length];exact F.len _ _ _ _ h
 refine Ak (uz (F.run X.A X.stack s H ⟨us,[]⟩ (us++ds) (vs++lD) Q E hr I.env0 (hb s us I.fO c) b h) λr s' a=>?_);cases r with
 |error e=>exact hx aq σ H s e s' I a
 |ok d =>
  cases d with
  |ret u=>exact I.after a
  |next=>exact elim a
  |brk=>exact elim a
  |cont=>exact elim a
theorem ac5 (F:dz X.prog X.w X.K X.mg X.aF CX k f fd ps sp) (hr:dW k X.A) (hg:Gl X x) (hm:X.mg x=some (.ref f)) (hk:keepIn X.K (.ref f)=true) (hb:oZ X.K fd ps ds) (hd:bY lD ds) (hx:zN CX X E) (ha:PA X (e::es) t) (hdb:(x == ("__debug__":Str))=false:=by decide) (he:starEach (e::es) X.env=(false,eval e X.env)::starEach es X.env:=by rfl) (hpl:(backTo pos (starEach es X.env)).any (·.1)=false:=by rfl) : PE X (.Call (.Name x p) (e::es) [] pos) (Vb sp lD E t):=by intro aq s σ H Q I h;refine Al (z9 I hg hm ?_ hdb);refine G_ (h₀:=X.aF) I.ok.mod.yS hk (bH (ha pos aq s σ H _ I h) λus b ⟨vs,H1,a,r,q⟩=>⟨a.fO,?_⟩) he hpl;exact Uo F hr hb hd hx a r q
theorem anC (he:PE X o ta) (c:qY X.K C) (hm:Hg X.K C m f) (F:dz X.prog X.w X.K X.mg X.aF CX k f fd ps sp) (hr:dW k X.A) (hb:oZ X.K fd ps ds) (hd:bY lD ds) (hx:zN CX X E) (ha:PA X (e::es) t) (hst:starEach (e::es) X.env=(false,eval e X.env)::starEach es X.env:=by rfl) (hpl:(backTo pos (starEach es X.env)).any (·.1)=false:=by rfl) (ht:eval (.Call (.Attribute o m apos) (e::es) [] pos) X.env=(do
   let ov <-eval o X.env
   standAt apos.atName
   let (f,first) <-holding [ov] (getMethod ov m pl)
   callWith pos f first (backTo pos (starEach (e::es) X.env)) (backToKw pos (keywordEach [] X.env))):=by rfl) :
  PE X (.Call (.Attribute o m apos) (e::es) [] pos) (aeI C m sp lD E ta t):=by
 intro aq s σ H Q I h;refine ad2 (pl:=pl) (bH (he aq s σ H _ I h) λu g ⟨x,H1,b,i,a,dx,fs,ex,ea,l,q⟩=>?_) ht;subst ex;obtain rfl:u=Value.ref a:=i;refine aaV b ea c hm l (G_ (first:=[.ref a]) (h₀:=X.aF) I.ok.mod.yS hm.kp (bH (ha pos aq g σ H1 _ b q) λus n ⟨vs,H2,d,r,j⟩=>⟨d.fO,?_⟩) hst hpl);exact Uo (us:=.ref a::us) (vs:=.ref a::vs) F hr hb hd hx d (.cons rfl r) j
structure Vz (K:bI) (C f:Addr):Prop where
 makes:makesIn K C=true
 init:findIn K (.ref C) "__init__"=some (some (.ref f))
 fn:isFn K (.ref f)=true
 kp:keepIn K (.ref C)=true
theorem alj {σ:St} {H:Hp} {Q:VK} {vs:aD} (M:Vz X.K C f) (F:dz X.prog X.w X.K X.mg X.aF CX k f fd ps sp) (hr:dW (k+1) X.A) (hb:oZ X.K fd ps ds) (hd:bY lD ds) (hx:zN CX X E) (I:aJ X aq σ H s) (r:bY vs us) (h:∀ x dx,H x=none->H dx=none->dx≠x->sp (.ref x::(vs++lD)) (upd (upd H dx (.own x)) x (.ins C dx [])) (λv H2=>v=.non/\Q (.ref x) H2) E) : wpAny (model X.prog X.w) X.A (call (.ref C) us) (EP X aq σ Q) X.xe s:=by
 have d:=h (s.heap.objs.size+1) s.heap.objs.size (I.hok.fresh (Am _)) (I.hok.fresh (bJ _)) (fG (Aj _));have b:=aJ.made (C:=C) I;have c:bY (V.ref (s.heap.objs.size+1)::(vs++lD)) (Value.ref (s.heap.objs.size+1)::(us++ds)):=.cons rfl (r.append hd);have j:(Value.ref (s.heap.objs.size+1)::us++ds).length=ps.length:=by have e:=c.length;rw [F.len _ _ _ _ d] at e;exact e.symm
 refine Ak (ali (f:=f) I.fO M.makes M.init (oh.mp M.fn) (uz (F.run _ X.stack _ _ ⟨Value.ref (s.heap.objs.size+1)::us,[]⟩ (Value.ref (s.heap.objs.size+1)::(us++ds)) _ _ E (hr.make C us []) (b.env0.make C us []) (hb _ (Value.ref (s.heap.objs.size+1)::us) b.fO j) c d) λr s' a=>?_));cases r with
 |error e=>exact hx aq σ _ _ e s' b a
 |ok m =>
  cases m with
  |ret u =>obtain ⟨v,H',i,n,g,l⟩:=b.after a;subst g;exact ⟨n,⟨V.ref (s.heap.objs.size+1),H',i,rfl,l⟩⟩
  |next=>exact elim a
  |brk=>exact elim a
  |cont=>exact elim a
theorem alk (M:Vz X.K C f) (F:dz X.prog X.w X.K X.mg X.aF CX k f fd ps sp) (hr:dW (k+1) X.A) (hg:Gl X x) (hm:X.mg x=some (.ref C)) (hb:oZ X.K fd ps ds) (hd:bY lD ds) (hx:zN CX X E) (hdb:(x == ("__debug__":Str))=false:=by decide):PE X (.Call (.Name x p) [] [] pos) (aeJ C sp lD E Bd):=by intro aq s σ H Q I h;refine Al (z9 I hg hm ?_ hdb);exact PySem.W.callWith_K0 I.fO M.kp (alj (us:=[]) M F hr hb hd hx I .nil h)
end
structure mF (N P:bR) (sc:Scope):Prop where
 kind:sc.kind=.function
 co:sc.isCoroutine=false
 gen:sc.isGenerator=false
 nd:N.Nodup
 pre:N.take P.length=P
 par:∀ x∈P,sc.names.lookup x=some .local\/sc.names.lookup x=some .cell
 apB:∀ y∈sc.names,y.2≠.free
theorem abb:∀ {binds:List (Str×Value)} {m:dH},(∀ v,(x,v)∉binds)->bindL kindOf binds m x=m x
 |[],_,_=>rfl
 |(n,v)::r,m,h=>by
  unfold bindL;rw [abb λw a=>h w (gK _ a)];split
  ·have:x≠n:=by rintro rfl;exact h v iU
   simp [this]
  ·rfl
theorem abd:∀ {binds:List (Str×Value)} {m:dH},(∀ v,(x,v)∉binds)->bindC kindOf binds m x=m x
 |[],_,_=>rfl
 |(n,v)::r,m,h=>by
  unfold bindC;rw [abd λw a=>h w (gK _ a)];split
  ·rfl
  ·have:x≠n:=by rintro rfl;exact h v iU
   simp [this]
theorem abe {v:Value}:∀ {P:bR} {vs:cG} {i:Nat} {m:dH},P.Nodup->P[i]?=some x->vs[i]?=some v->kindOf x=some .local ->bindL kindOf (P.zip vs) m x=some v
 |[],_,_,_,_,h,_,_=>by simp at h
 |_::_,[],_,_,_,_,h,_=>by simp at h
 |p::P,w::vs,0,m,nd,h1,h2,hk=>by simp at h1 h2;subst h1;subst h2;show bindL kindOf ((p,w)::P.zip vs) m p=_;unfold bindL;rw [abb λv a=>(vY.mp nd).1 (Ue a).1,bF hk];simp
 |p::P,w::vs,i+1,m,nd,h1,h2,hk=>by show bindL kindOf ((p,w)::P.zip vs) m x=_;unfold bindL;exact abe (i:=i) (vY.mp nd).2 (by simpa using h1) (by simpa using h2) hk
theorem abf {v:Value}:∀ {P:bR} {vs:cG} {i:Nat} {m:dH},P.Nodup->P[i]?=some x->vs[i]?=some v->kindOf x≠some .local ->bindC kindOf (P.zip vs) m x=some v
 |[],_,_,_,_,h,_,_=>by simp at h
 |_::_,[],_,_,_,_,h,_=>by simp at h
 |p::P,w::vs,0,m,nd,h1,h2,hk=>by simp at h1 h2;subst h1;subst h2;show bindC kindOf ((p,w)::P.zip vs) m p=_;unfold bindC;rw [abd λv a=>(vY.mp nd).1 (Ue a).1,bw hk];simp
 |p::P,w::vs,i+1,m,nd,h1,h2,hk=>by show bindC kindOf ((p,w)::P.zip vs) m x=_;unfold bindC;exact abf (i:=i) (vY.mp nd).2 (by simpa using h1) (by simpa using h2) hk
def start (N:bR) (vs:aD):St:=vs.map some++replicate (N.length-vs.length) none
def Bg (CX:qx) (P:Program) (w:World) (K:bI) (mg:dH) (aF:Heap) (N:bR) (qual:Str) (scope:Scope) (f:Addr) (cd:Value) (A:Around) (outer:mY) (s:Shared) (H:Hp) (E:XK):Cx where
 prog:=P
 w:=w
 K:=K
 mg:=mg
 aF:=aF
 A:=A.deeper (envOfC qual scope s.heap.objs.size f cd)
 N:=N
 s₀:=s
 H₀:=H
 env:=envOfC qual scope s.heap.objs.size f cd
 outer:=outer
 stack:=envOfC qual scope s.heap.objs.size f cd::outer
 ex:=[]
 calm:=true
 fn:=λ_=>true
 pn:=[]
 xe:=λe s'=>wpAny (model P w) (A.deeper (envOfC qual scope s.heap.objs.size f cd)) (leaving (envOfC qual scope s.heap.objs.size f cd) e) (λ_ a=>CX outer H s E e a) (λb a=>CX outer H s E b a) s'
theorem abM {sc:Scope} (h:sc.names.lookup x=some .cell):∃ c,(cellsFrom n sc.names []).lookup x=some c:=by have q:=ad3 sc.names n [] (.inl h);exact Mi.mp q
theorem ai' {CX:qx} {s1:Shared} {H:Hp} {E:XK} {vs:aD} (S:mF N ps scope) (hd:A.handled=none) (e0:Bf P w K mg aF A outer s H) (hl:vs.length=ps.length) (r:bY vs us) (x:InCallC s s.heap.objs.size (bindL (envOfC qual scope s.heap.objs.size f cd).kindOf (ps.zip us) λ_=>none) (cellsFrom (s.heap.objs.size+1) scope.names []) (bindC (envOfC qual scope s.heap.objs.size f cd).kindOf (ps.zip us) λ_=>none) s1) : aJ (Bg CX P w K mg aF N qual scope f cd A outer s H E) [] (start N vs) H s1:=by
 have C:ps.length<=N.length:=by have:=gM List.length S.pre;rw [eF] at this;lk
 obtain ⟨h1,tk,rfl,m⟩:=x.done;have l:∀ b:Addr,b∉(Bg CX P w K mg aF N qual scope f cd A outer s H E).ex:=λb z=>absurd (show b∈([]:jq) from z) (by simp);refine ⟨⟨e0.mod,S.kind,rfl,rfl,bJ _,λy z c h1 h2=>?_,λy d=>?_,λy c _ h=>?_,λ_=>hd,Around.frames_deeper e0.frames,.inr ⟨rfl,rfl⟩,λb z=>absurd z (l b),e0.bs,e0.tV,λb _ _=>l b,λb z=>absurd z (l b),e0.ql,e0.uN⟩,
  rfl,e0.bare,Un.kept m,⟨_,x.toInCall.ns,λi y v h1 h2 D=>?_⟩,λy c h=>⟨_,x.cell y c h⟩,e0.hok.fresh (bJ _),λy c h=>?_,λp j=>absurd (show p∈([]:List (Addr×Obj)) from j) (by simp),e0.hok.kept m,?_⟩
 ·exact name_of_addr x.apart (Ao h1) (Ao h2)
 ·have d:scope.names.lookup y=some .cell\/scope.names.lookup y=some .free:=d;rcases d with d|d
  ·exact abM d
  ·exact absurd rfl (S.apB _ (Ao d))
 ·exact Dr (x.above y c (Ao h))
 ·have hi:i<vs.length:=by
   unfold start at h2;by_cases hi:i<vs.length
   ·exact hi
   ·rw [Aq (by simpa using hi)] at h2;rw [Hf] at h2;split at h2<;>cases h2
  have t:vs[i]?=some v:=by
   unfold start at h2;rw [ou (by simpa using hi),lN] at h2;cases e:vs[i]? with
   |none=>rw [e] at h2;cases h2
   |some a=>rw [e] at h2;cases h2;rfl
  obtain ⟨u,o,B⟩:=r.get t;have j:ps[i]?=some y:=by rw [<-S.pre,List.getElem?_take_of_lt (by lk)];exact h1
  have g:ps.Nodup:=by rw [<-S.pre];exact S.nd.sublist (List.take_sublist _ _)
  refine ⟨u,B,?_⟩;rcases S.par y (fQ j) with k|k
  ·exact .inl ⟨k,abe g j o k⟩
  ·obtain ⟨c,e⟩:=abM (n:=s.heap.objs.size+1) k;refine .inr ⟨.inl k,c,e,?_⟩;have q:=x.cell y c e;rw [abf g j o (by show scope.names.lookup y≠_;rw [k];decide)] at q;exact q
 ·exact e0.hok.fresh (Dr (x.above y c (Ao h)))
 ·unfold start;show _=N.length;rw [dj,bD,uD];lk
theorem Vc {CX:qx} {k:Nat} {name:Str} {dV kV doc cdv:Value} {sp:Sp} (cX:K.lookup f=some ⟨oc,od,.func (fnOf name qual params body scope dV kV doc pm an cdv ct),osl⟩) (hcd:codeIn K cdv qual=true) (S:mF N ps scope) (len:∀ vs H Q E,sp vs H Q E->vs.length=ps.length) (hbody:∀ (A:Around) (outer:mY) (s:Shared) (H:Hp) (vs:aD) (Q:VK) (E:XK),dW k (A.deeper (envOfC qual scope s.heap.objs.size f cdv))->sp vs H Q E ->∃ t,mR (Bg CX P w K mg aF N qual scope f cdv A outer s H E) body t/\t { nx:=λ_ H'=>Q .non H',rt:=Q } (start N vs) H) : dz P w K mg aF CX (k+1) f (fnOf name qual params body scope dV kV doc pm an cdv ct) ps sp:=by
 refine ⟨len,λA outer s H m us vs Q E hr g D r d=>?_⟩;have O:=len _ _ _ _ d;have KX:K.In s.heap:=g.mod.yS.keeps λb o e=>(g.bs b o e).1;have i:s.heap.NoLimit:=g.mod.nolimit.keeps λb o e=>(g.bs b o e).1;have a:∀ y∈ps.zip us,scope.names.lookup y.1=some .local\/(scope.names.lookup y.1=some .cell/\((cellsFrom (s.heap.objs.size+1) scope.names []).lookup y.1).isSome=true):=λ⟨n,v⟩ C=>by
  rcases S.par n (Ue C).1 with q|q
  ·exact .inl q
  ·exact .inr ⟨q,ad3 _ _ _ (.inl q)⟩
 refine codeAny_call_function hr.depth (KX _ _ cX) rfl S.co S.gen rfl (PySem.W.codeRec_of KX hcd) (D _ _ _ _ (wpAny_newFunctionEnv_cells S.kind a λenv z l x=>?_));subst z;refine ⟨i.keeps x.toInCall.keep,codeAny_func ?_⟩;obtain ⟨t,L,M⟩:=hbody A outer s H vs Q E (hr.deeper _) d;have I:aJ (Bg CX P w K mg aF N qual scope f cdv A outer s H E) [] (start N vs) H l:=ai' S hr.hd g O r x;refine jc (L [] l (start N vs) H _ I M) (λB s' c=>?_) λe s' c=>c;have p:∀ {σ':St} {H':Hp} {v:V} {u:Value},aJ (Bg CX P w K mg aF N qual scope f cdv A outer s H E) [] σ' H' s'->cC v u->Q v H'->CE outer P w H s Q u s':=λ{σ' H' v u} J j q=>⟨v,H',J.os,J.bare,J.aF,J.hok,j,q⟩;cases B with
 |ret u =>obtain ⟨v,σ',H',J,j,q⟩:=c;exact p J j q
 |next =>obtain ⟨σ',H',J,q⟩:=c;exact p (v:=V.non) (u:=Value.none) J rfl q
 |brk =>obtain ⟨_,_,_,q⟩:=c;exact elim q
 |cont =>obtain ⟨_,_,_,q⟩:=c;exact elim q
section
variable {X:Cx} {t:TA} {id T:String} {r:aD->Hp->VK->Prop}
def Nv (r:aD->Hp->VK->Prop) (t:TA):TE:=λσ H Q=>t σ H λvs H1=>r vs H1 Q
theorem jC (hc:iZ X (.builtin id) r) (hg:Gl X x) (hm:X.mg x=none) (hv:bootBuiltins x=some (.builtin id)) (ha:PA X (e::es) t) (hn:x≠"__name__":=by decide) (hdb:(x == ("__debug__":Str))=false:=by decide) (he:starEach (e::es) X.env=(false,eval e X.env)::starEach es X.env:=by rfl) (hpl:(backTo pos (starEach es X.env)).any (·.1)=false:=by rfl):PE X (.Call (.Name x p) (e::es) [] pos) (Nv r t):=by intro aq s σ H Q I h;refine Al (sV I hg hm hv ?_ hn hdb);exact PyProof.Rows.callWith_builtin1 (bH (ha pos aq s σ H _ I h) (by rintro us d ⟨vs,H1,a,b,c⟩;exact hc aq d σ H1 vs us Q a b c)) he hpl
theorem dM (hc:iZ X (.type T) r) (hg:Gl X x) (hm:X.mg x=none) (hv:bootBuiltins x=some (.type T)) (ha:PA X (e::es) t) (hn:x≠"__name__":=by decide) (hdb:(x == ("__debug__":Str))=false:=by decide) (he:starEach (e::es) X.env=(false,eval e X.env)::starEach es X.env:=by rfl) (hpl:(backTo pos (starEach es X.env)).any (·.1)=false:=by rfl):PE X (.Call (.Name x p) (e::es) [] pos) (Nv r t):=by intro aq s σ H Q I h;refine Al (sV I hg hm hv ?_ hn hdb);exact Ai (bH (ha pos aq s σ H _ I h) (by rintro us d ⟨vs,H1,a,b,c⟩;exact hc aq d σ H1 vs us Q a b c)) he hpl
end
end
variable {t:Addr} {vl vu:Value}
namespace HT
open PyProof.Rows
section
section
open PySem.SeqAt
open PySem.AutoSeq1 (wpAny_loadPart')
open PySem.MeetsSeq PySem.MeetsSeq2 PySem.MeetsSeq3
end
section
theorem anD {b:Addr} {ws:cG} (ht:IsTup s.heap t vs.toArray) (hb:IsTup s.heap b ws.toArray) (hv:vs≠[]) (h1:ws=[]->Q (.ref t) s) (h2:ws≠[]->Q (.ref s.heap.objs.size) { s with heap:=s.heap.push { cls:=.type "tuple",data:=.seq (vs++ws).toArray } }) (hsz:vs.length+ws.length<=sizeLine):wpAny (model prog w) A (binaryOp .Add (.ref t) (.ref b)) Q E s:=by
 obtain ⟨⟨cls,p,data,sl⟩,k,m,n,q⟩:=id ht;obtain ⟨⟨o,i,l,g⟩,a,c,n2,d⟩:=id hb;simp only at m q c d;subst m q c d;have e:vs.toArray++ws.toArray=(vs++ws).toArray:=by simp
 by_cases j:ws=[]
 ·exact concat_meets ⟨_,k,rfl⟩ ⟨_,a,rfl⟩ Ug seq_tuple_add Uh Ui (Uj _ _) (tuple_addW1 t b vs.toArray ws.toArray n n2 p i sl g (by simpa using hv) (by simp [j])) ⟨k,a,h1 j⟩
 ·refine concat_meets ⟨_,k,rfl⟩ ⟨_,a,rfl⟩ Ug seq_tuple_add Uh Ui (Uj _ _) (tuple_addW2 t b vs.toArray ws.toArray n n2 p i sl g (by simpa using hv) (by simpa using j) (by rw [fL,fL];exact hsz)) ⟨k,a,?_⟩;rw [e];exact h2 j
def bV (n d:Nat):Option Int->Nat
 |none=>d
 |some v=>if v<0 then (v+(n:Int)).toNat else min v.toNat n
theorem zO (n d:Nat):bV n d none=d:=rfl
theorem Ab (n d k:Nat):bV n d (some (k:Int))=min k n:=by show (if (k:Int)<0 then ((k:Int)+(n:Int)).toNat else min (k:Int).toNat n)=min k n;rw [bw (by lk),o_]
theorem apC (n d:Nat) (hd:d<=n) (o:Option Int):bV n d o<=n:=by
 cases o with
 |none=>exact hd
 |some v =>
  show (if v<0 then (v+(n:Int)).toNat else min v.toNat n)<=n;by_cases a:v<0
  ·rw [bF a];lk
  ·rw [bw a];exact Nat.min_le_right _ _
theorem ac6 (v:Int) (n d:Nat):(if v<0 then max (v+(n:Int)) 0 else min v (n:Int))=((bV n d (some v):Nat):Int):=by
 show (if v<0 then max (v+(n:Int)) 0 else min v (n:Int))=(((if v<0 then (v+(n:Int)).toNat else min v.toNat n):Nat):Int);by_cases a:v<0
 ·simp only [bF a];lk
 ·simp only [bw a];lk
theorem ah2 (lo hi:Option Int) (n:Nat):sliceAdjust lo hi 1 (n:Int)=(((bV n 0 lo:Nat):Int),((bV n n hi:Nat):Int)):=by
 have h1:¬ ((1:Int)<0):=by lk
 unfold sliceAdjust;simp only [h1,Ar];refine Kf ?_ ?_
 ·cases lo with
  |none=>rfl
  |some v=>exact ac6 v n 0
 ·cases hi with
  |none=>rfl
  |some v=>exact ac6 v n n
theorem ah3 (i j:Nat):slicePlaces (i:Int) (j:Int) 1=j-i:=by
 unfold slicePlaces;have h1:(1:Int)>0:=by lk
 simp only [h1,rZ,Int.ediv_one];split<;>lk
theorem aaW {v:Value} {o:Option Int} {Q:Option Int->Shared->Prop} (p:IsPart v o) (h:Q o s):wpAny (model prog w) A (Builtin.Slice.slicePartIndex v) Q E s:=by
 cases p with
 |none=>exact slicePart_none h
 |int i t=>exact slicePart_int h
theorem aae {sl:Addr} {lo hi:Option Int} {Q:Int×Int×Nat->Shared->Prop} (hs:s.heap.IsSliceOf sl vl vu .none) (pl:IsPart vl lo) (pu:IsPart vu hi) (h:Q (((bV n 0 lo:Nat):Int),1,bV n n hi-bV n 0 lo) s):wpAny (model prog w) A (sliceApplied (.ref sl) (pure (n:Int))) Q E s:=by obtain ⟨d,b,c,a⟩:=id hs;unfold sliceApplied Builtin.Slice.sliceFields;refine aW (aW (nO b a (x:=vl) rfl (aW (nO b a (x:=vu) rfl (aW (nO b a (x:=.none) rfl (cB (aW (slicePart_none ?_)))))))));show wpAny _ _ (if ((1:Int) == 0)=true then _ else _) _ _ s;rw [bw (by decide)];refine aW (aaW pl (aW (aaW pu (aW (cB ?_)))));show wpAny _ _ (match sliceAdjust lo hi 1 (n:Int) with|(lo,hi)=>pure (lo,(1:Int),slicePlaces lo hi 1)) _ _ s;rw [ah2 lo hi n];show wpAny _ _ (pure (((bV n 0 lo:Nat):Int),(1:Int),slicePlaces ((bV n 0 lo:Nat):Int) ((bV n n hi:Nat):Int) 1)) _ _ s;rw [ah3];exact cB h
theorem alm (xs:fV) (i k:Nat):((range k).filterMap λ(m:Nat)=>xs[((i:Int)+(m:Int)*1).toNat]?).toArray=((xs.toList.drop i).take k).toArray:=by
 have e:(λ(m:Nat)=>xs[((i:Int)+(m:Int)*1).toNat]?)=λm=>xs[i+m]?:=by
  funext m
  have:((i:Int)+(m:Int)*1).toNat=i+m:=by lk
  rw [this]
 rw [e];have:=pick_run xs i k;rw [List.filterMap_map] at this;have a:((λx=>xs[x]?) ∘ λx=>i+x)=λm=>xs[i+m]?:=rfl;rw [a] at this;rw [this]
theorem afY {sl:Addr} {lo hi:Option Int} (ht:IsTup s.heap t items) (hs:s.heap.IsSliceOf sl vl vu .none) (pl:IsPart vl lo) (pu:IsPart vu hi) (hw:¬ (bV items.size 0 lo=0/\bV items.size items.size hi=items.size)) (h:Q (.ref s.heap.objs.size) { s with heap:=s.heap.push { cls:=.type "tuple",data:=.seq ((items.toList.drop (bV items.size 0 lo)).take (bV items.size items.size hi-bV items.size 0 lo)).toArray } }) (hsz:items.size<=sizeLine):wpAny (model prog w) A (getItem (.ref t) (.ref sl)) Q E s:=by
 have a:sizeOk (.seq ((items.toList.drop (bV items.size 0 lo)).take (bV items.size items.size hi-bV items.size 0 lo)).toArray):=by show ((items.toList.drop (bV items.size 0 lo)).take (bV items.size items.size hi-bV items.size 0 lo)).toArray.size<=sizeLine;rw [fL,eF,jO,sS];lk
 have k:bV items.size items.size hi<=items.size:=apC _ _ (bJ _) hi;obtain ⟨g,c,b,i⟩:=id hs;have e:s.TypeIs (.ref sl) "slice":=⟨g,c,b⟩;unfold getItem
 try with_reducible refine mX ?_
 first|refine aW (cB ?_)|skip
 refine aW (wpAny_sequenceKey ht.typeIs (by decide) (aW (Cu (name:=ofString "__getitem__") ht.typeIs Cv (Cw Cv ht.typeIs entry_tuple_getitem ?_ (args_tuple_getitem _ _)))));show wpAny _ _ (tupleItemsOf (.ref t) >>= _) _ _ s;refine aW (tupleItemsOf_ ht (aW (Kg e ?_)));rw [bF (by decide)];refine aW (aae hs pl pu ?_);have d:¬ ((((bV items.size 0 lo:Nat):Int) == 0 && (1:Int) == 1 && (bV items.size items.size hi-bV items.size 0 lo) == items.size)=true):=by intro q;rw [vo,vo] at q;have j:((bV items.size 0 lo:Nat):Int)=0:=eq_of_beq q.1.1;have l:bV items.size items.size hi-bV items.size 0 lo=items.size:=eq_of_beq q.2;exact hw ⟨by lk, by lk⟩
 show wpAny _ _ (if (((bV items.size 0 lo:Nat):Int) == 0 && (1:Int) == 1 && (bV items.size items.size hi-bV items.size 0 lo) == items.size)=true then _ else _) _ _ s;rw [bw d,alm]
 first
  |exact aW (m:=tupleExact _) (su (cB ⟨_,rfl,cB h⟩) a)
  |exact aW (m:=tupleExact _) (su (aW (cB (cB ⟨_,rfl,cB h⟩))) a)
  |exact aW (aW (m:=tupleExact _) (su (cB (cB ⟨_,rfl,cB h⟩)) a))
  |exact aW (aW (m:=tupleExact _) (su (cB ⟨_,rfl,cB h⟩) a))
end
end
end HT
variable {ns:aU} {xs:aD} {σ:St} {H:Hp} {its':cG} {y:V}
section
open PySem.Spec PyProof.Rows
abbrev TO:=St->Hp->(Option Int->Hp->Prop)->Prop
def PO (X:Cx) (e:Option Expr) (t:TO):Prop :=
 ∀ (aq:List (Addr×Obj)) (s:Shared) (σ:St) (H:Hp) (Q:Option Int->Hp->Prop),aJ X aq σ H s->t σ H Q ->
  wpAny (model X.prog X.w) X.A (evalPart e X.env) (λu s'=>∃ o H',aJ X aq σ H' s'/\IsPart u o/\Q o H') X.xe s
def ac7:TO:=λ_ H Q=>Q none H
def aeK (t:TE):TO:=λσ H Q=>t σ H λx H1=>OfI x H1 λi H1=>Q (some i) H1
theorem intsAre_of:∀ {us:cG},bY (ns.map V.int) us->IntsAre us ns:=by
 induction ns with
 |nil=>intro us r;rw [Kh] at r;cases r;exact .nil
 |cons n ns c =>
  intro us r;rw [iC] at r;cases r with
  |cons b a =>obtain ⟨t,e⟩:=b;subst e;exact .cons n t (c a)
section
variable {X:Cx} {te:TE} {lo hi:Option Expr} {tl th:TO} {p2:Pos}
theorem nW:PO X none ac7:=by intro aq s σ H Q I h;rw [evalPart_none];exact cB ⟨none,H,I,.none,h⟩
theorem nY (h:PE X e te):PO X (some e) (aeK te):=by intro aq s σ H Q I b;rw [evalPart_some];refine bH (h aq s σ H _ I b) λu g ⟨x,H1,a,c,d⟩=>?_;obtain ⟨i,rfl,q⟩:=d;obtain ⟨t,rfl⟩:=c;exact ⟨some i,H1,a,.int i t,q⟩
def Er (X:Cx) (r:V->Option Int->Option Int->Hp->VK->Prop):Prop :=
 ∀ (aq:List (Addr×Obj)) (s:Shared) (σ:St) (H:Hp) (x:V) (v vl vu:Value) (lo hi:Option Int) (sl:Addr) (Q:VK),aJ X aq σ H s->cC x v->s.heap.IsSliceOf sl vl vu .none->IsPart vl lo->IsPart vu hi->r x lo hi H Q ->
  ∃ T id,typeLookup (.type T) "__getitem__"=pure (some (.builtin id))/\s.TypeIs v T/\wpAny (model X.prog X.w) X.A (getItem v (.ref sl)) (EP X aq σ Q) X.xe s
def tSl (r:V->Option Int->Option Int->Hp->VK->Prop) (te:TE) (tl th:TO):TE:=λσ H Q=>te σ H λx H1=>tl σ H1 λl H2=>th σ H2 λu a=>r x l u a Q
theorem nG {r:V->Option Int->Option Int->Hp->VK->Prop} (hr:Er X r) (he:PE X e te) (hl:PO X lo tl) (hu:PO X hi th):PE X (.Subscript e (.Slice lo hi none p2) pos) (tSl r te tl th):=by intro aq s σ H Q I h;refine Subscript_ (bH (he aq s σ H _ I h) λv j ⟨x,H1,d,t,i⟩=>wpAny_Slice (bH (hl aq j σ H1 _ d i) λvl y ⟨l,H2,z,pl,C⟩=>bH (hu aq y σ H2 _ z C) λvu a ⟨u,c,p,k,o⟩=>?_));rw [evalPart_none];refine cB ?_;have B:aJ X aq σ c { a with heap:=a.heap.push { cls:=.type "slice",data:=.fields #[vl,vu,.none] } }:=p.kept (t':=a.toks) λb D q=>cP _ q;obtain ⟨T,id,n,m,g⟩:=hr aq { a with heap:=a.heap.push { cls:=.type "slice",data:=.fields #[vl,vu,.none] } } σ c x v vl vu l u a.heap.objs.size Q B t (Heap.IsSliceOf.new ..) pl k o;show wpAny (model X.prog X.w) X.A (subscriptTail e (.Slice lo hi none p2) v (.ref a.heap.objs.size)) (EP X aq σ Q) X.xe { a with heap:=a.heap.push { cls:=.type "slice",data:=.fields #[vl,vu,.none] } };exact tail_any (ops:=[.ref a.heap.objs.size,v]) m n g (by with_unfolding_all rfl)
def fX (xs:aD) (lo hi:Option Int):aD:=(xs.drop (HT.bV xs.length 0 lo)).take (HT.bV xs.length xs.length hi-HT.bV xs.length 0 lo)
theorem aaF (xs:aD) (lo hi:Option Int):(fX xs lo hi).length<=xs.length:=by unfold fX;rw [eF,jO];lk
def asd (K:bI):V->Option Int->Option Int->Hp->VK->Prop:=λx lo hi H Q=>∃ a xs,x=.ref a/\fY K H a xs /\
 ¬ (HT.bV xs.length 0 lo=0/\HT.bV xs.length xs.length hi=xs.length)/\∀ p,H p=none->Q (.ref p) (upd H p (.tup (fX xs lo hi)))
theorem apD:Er X (asd X.K):=by
 intro aq s σ H x v vl vu lo hi sl Q I j k pl i h;obtain ⟨a,xs,rfl,l,g,q⟩:=h;cases j;obtain ⟨aM,r,d,e⟩:=I.tuple l;have c:aM.toArray.size=xs.length:=by rw [fL];exact r.length.symm
 refine ⟨"tuple",_,Cv.lookup,d.typeIs,HT.afY d k pl i (by rw [c];exact g) ?_ (by rw [c];exact e)⟩;rw [c];refine ⟨.ref s.heap.objs.size,_,I.laid (t':=s.toks) (o:=.tup (fX xs lo hi)) (λb m q=>cP _ q) (bJ _) ?_,rfl,q _ (I.hok.fresh (bJ _))⟩;exact ⟨eU (aaF xs lo hi) e,_,(r.drop (HT.bV xs.length 0 lo)).take (HT.bV xs.length xs.length hi-HT.bV xs.length 0 lo),oF.new _ _⟩
def aqP (K:bI):R2:=λx y H Q=>∃ a b xs ys,x=.ref a/\y=.ref b/\fY K H a xs/\fY K H b ys/\xs≠[]/\xs.length+ys.length<=sizeLine /\
 (ys=[]->Q (.ref a) H)/\(ys≠[]->∀ p,H p=none->Q (.ref p) (upd H p (.tup (xs++ys))))
theorem bY.S6 (r:bY xs us):us=[]↔xs=[]:=by
 cases r with
 |nil=>simp
 |cons _ _=>simp
theorem ac8:dN X (binaryOp .Add) (aqP X.K):=by rintro aq s σ H x y v u Q I m n ⟨a,b,xs,ys,rfl,rfl,j,l,p,g,k,r⟩;cases m;cases n;obtain ⟨aM,d,i,_⟩:=I.tuple j;obtain ⟨e,c,p2,_⟩:=I.tuple l;refine HT.anD i p2 (λz=>p (d.S6.mp z)) (λz=>⟨.ref a,H,I,rfl,k (c.S6.mp z)⟩) (λz=>?_) (by rw [<-d.length,<-c.length];exact g);refine ⟨.ref s.heap.objs.size,_,I.laid (t':=s.toks) (o:=.tup (xs++ys)) (λb t q=>cP _ q) (bJ _) ?_,rfl,r (λw=>z (c.S6.mpr w)) _ (I.hok.fresh (bJ _))⟩;exact ⟨by rw [dj];exact g,_,d.append c,oF.new _ _⟩
end
def rF (n:Nat) (i:Int):Option Nat:=if 0<=i then (if i<n then some i.toNat else none) else if -(n:Int)<=i then some (i+n).toNat else none
def gD (xs:List α) (i:Int):Option α:=(rF xs.length i).bind λj=>xs[j]?
theorem ac9 {i:Int} {j:Nat} (h:rF n i=some j):seqIndex? i n=some j/\j<n/\-(n:Int)<=i/\i<n:=by
 unfold rF at h;by_cases a:0<=i
 ·rw [bF a] at h;by_cases h1:i<n
  ·rw [bF h1] at h;have e:i.toNat=j:=gw h;exact ⟨by rw [seqIndex_of a h1,e],by lk, by lk, h1⟩
  ·rw [bw h1] at h;cases h
 ·rw [bw a] at h;by_cases h1:-(n:Int)<=i
  ·rw [bF h1] at h;have e:(i+n).toNat=j:=gw h;exact ⟨by rw [seqIndex_neg (by lk) h1,e],by lk, h1,by lk⟩
  ·rw [bw h1] at h;cases h
theorem S7 {xs:List α} {i:Int} {v:α} (h:gD xs i=some v):∃ j,seqIndex? i xs.length=some j/\xs[j]?=some v/\j<xs.length/\-(xs.length:Int)<=i/\i<xs.length:=by
 unfold gD at h;cases e:rF xs.length i with
 |none=>rw [e] at h;cases h
 |some j =>rw [e] at h;obtain ⟨h1,h2,a,b⟩:=ac9 e;exact ⟨j,h1,h,h2,a,b⟩
theorem vK {xs:List α} {j:Nat} {v:α} (h:xs[j]?=some v):gD xs (j:Int)=some v:=by
 have a:j<xs.length:=(gb.mp h).1;have e:rF xs.length (j:Int)=some j:=by unfold rF;rw [bF (by lk),bF (by lk)];simp
 unfold gD;rw [e];exact h
def S8 (b:Expr):Prop:=∀ o i,subscripted b false o i=operate [o,i] (getItem o i)
def Es (X:Cx) (r:R2):Prop :=
 ∀ (value a:Expr) (aq:List (Addr×Obj)) (s:Shared) (σ:St) (H:Hp) (x y:V) (v u:Value) (Q:VK),aJ X aq σ H s->cC x v->cC y u->r x y H Q ->
  subscripted a false v u=operate [v,u] (getItem v u)->wpAny (model X.prog X.w) X.A (subscriptTail value a v u) (EP X aq σ Q) X.xe s
def Bo (X:Cx) (id:String) (r:V->aD->Hp->VK->Prop):Prop :=
 ∀ (aq:List (Addr×Obj)) (s:Shared) (σ:St) (H:Hp) (x:V) (xs:aD) (v:Value) (us:cG) (Q:VK),aJ X aq σ H s->cC x v->bY xs us->r x xs H Q ->
  wpAny (model X.prog X.w) X.A (call (.builtin id) (v::us)) (EP X aq σ Q) X.xe s
section
variable {X:Cx} {a b:Expr} {ta tb:TE}
theorem qZ {r:R2} (hr:Es X r) (ha:PE X a ta) (hb:PE X b tb) (hs:S8 b):PE X (.Subscript a b pos) (uO r ta tb):=by intro aq s σ H Q I h;exact Subscript_ (Vx ha hb I h λv u e x y H2 g c d q=>hr a b aq e σ H2 x y v u Q g c d q (hs _ _))
inductive aqQ (K:bI) (x:V) (y:V) (H:Hp) (Q:VK):Prop
 |mk (p:_) (xs:_) (i:_) (v:_) (h1:x=.ref p) (h2:y=.int i) (h3:dB K H p xs) (h4:gD xs i=some v) (h5:Q v H)
def VB (K:bI):R2:=λx y H Q=>aqQ K x y H Q
inductive aqR (K:bI) (x:V) (y:V) (H:Hp) (Q:VK):Prop
 |mk (p:_) (xs:_) (i:_) (v:_) (h1:x=.ref p) (h2:y=.int i) (h3:fY K H p xs) (h4:gD xs i=some v) (h5:Q v H)
def M5 (K:bI):R2:=λx y H Q=>aqR K x y H Q
inductive aqS (x:V) (y:V) (H:Hp) (Q:VK):Prop
 |mk (z:_) (i:_) (c:_) (h1:x=.str z) (h2:y=.int i) (h3:z.length<=sizeLine) (h4:gD z.cps.toList i=some c) (h5:Q (.str ⟨#[c]⟩) H)
def ase:R2:=λx y H Q=>aqS  x y H Q
theorem ac_:Es X (VB X.K):=by
 intro value a aq s σ H x y v u Q I n C h d;obtain ⟨p,xs,i,z,rfl,rfl,m,k,q⟩:=h;cases n;obtain ⟨t,rfl⟩:=C;obtain ⟨aM,r,pl,J⟩:=I.list m;obtain ⟨j,h1,h2,L,B,h5⟩:=S7 k;obtain ⟨w,g,l⟩:=r.get h2;have o:=r.length;have D:=Aw;have e:EP X aq σ Q w s:=⟨z,H,I,l,q⟩;by_cases c:0<=i
 ·have b:i.toNat=j:=by rw [seqIndex_of c h5] at h1;exact gw h1
  exact item_listR pl.isList c (by lk) (by rw [b];simpa using g) e d
 ·have b:(i+(aM.toArray.size:Int)).toNat=j:=by rw [seqIndex_neg (by lk) B] at h1;rw [fL,<-o];exact gw h1
  exact subscriptTail_builtinR (x:=w) pl.isList.typeIs slot_list_getitem.lookup (wpAny_getItem_list_neg (Q:=λr s'=>r=w/\EP X aq σ Q r s') pl.isList (by lk) (by rw [fL]<;>lk) (by lk) (by rw [b];simpa using g) ⟨rfl,e⟩) d
theorem aea:Es X (M5 X.K):=by intro value a aq s σ H x y v u Q I e m h k;obtain ⟨p,xs,i,z,rfl,rfl,d,b,q⟩:=h;cases e;obtain ⟨t,rfl⟩:=m;obtain ⟨aM,r,pl,C⟩:=I.tuple d;obtain ⟨j,h1,h2,D,B,h5⟩:=S7 b;obtain ⟨w,n,c⟩:=r.get h2;have g:=r.length;have o:=Aw;have l:EP X aq σ Q w s:=⟨z,H,I,c,q⟩;exact subscriptTail_builtinR (x:=w) pl.typeIs slot_tuple_getitem.lookup (getItem_tuple (j:=j) (Q:=λr s'=>r=w/\EP X aq σ Q r s') pl (by lk) (by lk) (by rw [fL,<-g];exact h1) (by simpa using n) ⟨rfl,l⟩) k
theorem apE:Es X ase:=by
 intro value a aq s σ H x y v u Q I e n h m;obtain ⟨z,i,c,rfl,rfl,p,b,q⟩:=h;obtain ⟨t,rfl⟩:=e;obtain ⟨t',rfl⟩:=n;obtain ⟨j,h1,h2,r,l,h5⟩:=S7 b;have g:z.cps.toList.length=z.length:=by simp [Str.length]
 rw [g] at h1 l h5;have o:=Aw;exact tail_any (uh s z t) slot_str_getitem.lookup (getItem_str (c:=c) (by have d:decide (i < -(2 ^ 63:Int))=false:=kh (by lk);have k:decide (i>=2 ^ 63)=false:=kh (by lk);rw [d,k,Bool.or_false]) (by rw [h1];simpa using h2) ⟨.str ⟨#[c]⟩,H,I.tok _,⟨_,rfl⟩,q⟩) m
theorem ah4 (aM:cG) (n j:Nat) (u:Value):mapSeq (·.setIfInBounds j u) { cls:=.type "list",data:=.seq aM.toArray n }={ cls:=.type "list",data:=.seq (aM.set j u).toArray n }:=by simp [mapSeq]
theorem aJ.lst {aq:List (Addr×Obj)} {σ:St} {H:Hp} {s:Shared} {p:Addr} {xs:aD} (I:aJ X aq σ H s) (h:H p=some (.lst xs)) : ∃ (aM:cG) (n:Nat),bY xs aM/\s.heap.get? p=some { cls:=.type "list",data:=.seq aM.toArray n }/\xs.length<=sizeLine:=by obtain ⟨z,aM,n,r,e⟩:=I.hok p _ h;exact ⟨aM,n,r,e,z⟩
theorem aJ.apF {p:Addr} {ys:aD} {n':Nat} {f:Obj->Obj} (I:aJ X aq σ H s) (h:H p=some (.lst xs)) (ho:s.heap.get? p=some { cls:=.type "list",data:=.seq aM.toArray n }) (hf:f { cls:=.type "list",data:=.seq aM.toArray n }={ cls:=.type "list",data:=.seq its'.toArray n' }) (r:bY ys its') (hz:ys.length<=sizeLine) (t:Nat) : aJ X aq σ (upd H p (.lst ys)) { s with heap:=s.heap.update p f,toks:=t }:=by
 have e:(s.heap.update p f).get? p=some { cls:=.type "list",data:=.seq its'.toArray n' }:=by rw [Kl f ho (by rw [hf]<;>rfl),hf]
 exact I.write (x:=p) (e:=p) (by rw [h];trivial) (.inl rfl) (λb u a q=>(vp _ _ (bL a)).trans q) ⟨_,e⟩ ⟨hz,its',n',r,e⟩
inductive apG (o:V) (i:V) (v:V) (H:Hp) (Q:Hp->Prop):Prop
 |mk (p:_) (xs:_) (k:_) (j:_) (h1:o=.ref p) (h2:i=.int k) (h3:H p=some (.lst xs)) (h4:rF xs.length k=some j) (h5:Q (upd H p (.lst (xs.set j v))))
def aqT:V->V->V->Hp->(Hp->Prop)->Prop:=λo i v H Q=>apG  o i v H Q
theorem rK:ae6 X aqT:=by
 intro aq s σ H o i v D J u Q I x C z h;obtain ⟨p,xs,k,j,rfl,rfl,l,y,q⟩:=h;cases x;obtain ⟨t,rfl⟩:=C;obtain ⟨aM,n,r,a,B⟩:=I.lst l;obtain ⟨h1,h2,m,g⟩:=ac9 y;have b:=r.length;have L:=Aw;have d:aJ X aq σ (upd H p (.lst (xs.set j v))) { s with heap:=s.heap.update p (mapSeq (·.setIfInBounds j u)) }:=I.apF l a (ah4 aM n j u) (r.set z j) (by rw [jW];exact B) s.toks;by_cases e:0<=k
 ·have c:k.toNat=j:=by rw [seqIndex_of e g] at h1;exact gw h1
  exact PySem.W.ki_setAt a e (by lk) (by rw [fL,<-b];exact g) (by rw [c];exact ⟨_,d,q⟩)
 ·have c:(k+(aM.toArray.size:Int)).toNat=j:=by rw [seqIndex_neg (by lk) m] at h1;rw [fL,<-b];exact gw h1
  exact PySem.W.ki_setBack a (by lk) (by rw [fL,<-b];exact m) (by lk) (by rw [c];exact ⟨_,d,q⟩)
theorem agT (lo hi:Option Int) (n:Nat):(sliceBounds lo hi none n).1=((HT.bV n 0 lo:Nat):Int)/\(sliceBounds lo hi none n).2.1=((HT.bV n n hi:Nat):Int)/\(sliceBounds lo hi none n).2.2=1:=by
 refine ⟨?_,?_,rfl⟩
 ·cases lo with
  |none=>simp [sliceBounds,HT.bV]
  |some i =>
   simp only [sliceBounds,HT.bV,Option.getD_none,show (1:Int)>0 by decide,rZ];by_cases h:i<0
   ·simp only [h,rZ]<;>lk
   ·simp only [h,Ar]<;>lk
 ·cases hi with
  |none=>simp [sliceBounds,HT.bV]
  |some i =>
   simp only [sliceBounds,HT.bV,Option.getD_none,show (1:Int)>0 by decide,rZ];by_cases h:i<0
   ·simp only [h,rZ]<;>lk
   ·simp only [h,Ar]<;>lk
theorem agA (aM:cG) (lo hi:Option Int):slicePick aM.toArray lo hi none=((aM.drop (HT.bV aM.length 0 lo)).take (HT.bV aM.length aM.length hi-HT.bV aM.length 0 lo)).toArray:=by obtain ⟨h1,h2,a⟩:=agT lo hi aM.toArray.size;unfold slicePick;rw [h1,h2,a];simp only [sliceRange_one,pick_run,fL]<;>rfl
inductive aqU (K:bI) (x:V) (lo:Option Int) (hi:Option Int) (H:Hp) (Q:VK):Prop
 |mk (a:_) (xs:_) (h1:x=.ref a) (h2:dB K H a xs) (h3:∀ p,H p=none->Q (.ref p) (upd H p (.lst (fX xs lo hi))))
def afc (K:bI):V->Option Int->Option Int->Hp->VK->Prop:=λx lo hi H Q=>aqU K x lo hi H Q
theorem yc:Er X (afc X.K):=by intro aq s σ H x v vl vu lo hi sl Q I e g pl d h;obtain ⟨a,xs,rfl,j,q⟩:=h;cases e;obtain ⟨aM,r,c,i⟩:=I.list j;have k:=r.length;refine ⟨"list",_,slot_list_getitem.lookup,c.isList.typeIs,?_⟩;refine wpAny_getItem_list_slice c.isList g pl d .none (by simp) ?_ (by rw [fL]<;>lk);rw [agA,<-k];refine ⟨.ref s.heap.objs.size,_,I.laid (t':=s.toks) (o:=.lst (fX xs lo hi)) (λb l q=>cP _ q) (bJ _) ?_,rfl,q _ (I.hok.fresh (bJ _))⟩;exact ⟨eU (aaF xs lo hi) i,_,0,(r.drop (HT.bV xs.length 0 lo)).take (HT.bV xs.length xs.length hi-HT.bV xs.length 0 lo),eV _ rfl⟩
def wB:V->Bool
 |.non=>true
 |.bl _=>true
 |.int _=>true
 |.str _=>true
 |_=>false
def tW:V->V->Bool
 |.non,.non=>true
 |.bl a,.bl b=>a == b
 |.bl a,.int b=>(if a then 1 else 0) == b
 |.int a,.bl b=>a == (if b then 1 else 0)
 |.int a,.int b=>a == b
 |.str a,.str b=>a == b
 |_,_=>false
theorem apH {x:V} {v:Value} (ry:cC y u) (rx:cC x v) (fy:wB y=true) (fx:wB x=true):SeqAt.EqAt A s u v (tW y x):=by
 cases y with
 |non =>
  cases ry;cases x with
  |non=>cases rx;exact SeqAt.EqAt.same _
  |bl b=>cases rx;exact SeqAt.EqAt.none_bool b
  |int b=>obtain ⟨t,rfl⟩:=rx;exact SeqAt.EqAt.none_int b t
  |str b=>obtain ⟨t,rfl⟩:=rx;exact SeqAt.EqAt.none_str b t
  |_=>exact absurd (show false=true from fx) iV
 |bl a =>
  cases ry;cases x with
  |non=>cases rx;exact SeqAt.EqAt.bool_none a
  |bl b=>cases rx;exact SeqAt.EqAt.bool_bool a b
  |int b=>obtain ⟨t,rfl⟩:=rx;exact SeqAt.EqAt.bool_int a b t
  |str b=>obtain ⟨t,rfl⟩:=rx;exact SeqAt.EqAt.bool_str a b t
  |_=>exact absurd (show false=true from fx) iV
 |int a =>
  obtain ⟨t',rfl⟩:=ry;cases x with
  |non=>cases rx;exact SeqAt.EqAt.int_none a t'
  |bl b=>cases rx;exact SeqAt.EqAt.int_bool a t' b
  |int b=>obtain ⟨t,rfl⟩:=rx;exact SeqAt.EqAt.int_int a t' b t
  |str b=>obtain ⟨t,rfl⟩:=rx;exact SeqAt.EqAt.int_str a t' b t
  |_=>exact absurd (show false=true from fx) iV
 |str a =>
  obtain ⟨t',rfl⟩:=ry;cases x with
  |non=>cases rx;exact SeqAt.EqAt.str_none a t'
  |bl b=>cases rx;exact SeqAt.EqAt.str_bool a t' b
  |int b=>obtain ⟨t,rfl⟩:=rx;exact SeqAt.EqAt.str_int a t' b t
  |str b=>obtain ⟨t,rfl⟩:=rx;exact SeqAt.EqAt.str_str a t' b t
  |_=>exact absurd (show false=true from fx) iV
 |_=>exact absurd (show false=true from fy) iV
def oN (x:V) (u:Value):Bool:=match u with
 |.none=>tW .non x
 |.bool b=>tW (.bl b) x
 |.int i _=>tW (.int i) x
 |.str z _=>tW (.str z) x
 |_=>false
theorem aeb {x:V} (r:cC y u) (f:wB y=true):oN x u=tW y x:=by
 cases y with
 |non=>cases r;rfl
 |bl b=>cases r;rfl
 |int i=>obtain ⟨t,rfl⟩:=r;rfl
 |str z=>obtain ⟨t,rfl⟩:=r;rfl
 |_=>exact absurd (show false=true from f) iV
theorem GJ {x:V}:∀ {xs:aD} {us:cG},bY xs us->xs.all wB=true->us.any (oN x)=xs.any λy=>tW y x
 |_,_,.nil,_=>rfl
 |y::xs,u::us,.cons r t,f=>by rw [List.all_cons,vo] at f;rw [zU,zU,aeb r f.1,GJ t f.2]
theorem Gh {x:V} {v:Value} (rx:cC x v) (fx:wB x=true):∀ {xs:aD} {us:cG},bY xs us->xs.all wB=true->∀ u∈us,SeqAt.EqAt A s u v (oN x u)
 |_,_,.nil,_=>λu a=>by cases a
 |y::xs,u::us,.cons r t,f=>λb a=>by
  rw [List.all_cons,vo] at f;rcases gn.mp a with rfl|a
  ·rw [aeb r f.1];exact apH r rx f.1 fx
  ·exact Gh rx fx t f.2 b a
def wC (x:V) (xs:aD):Bool:=xs.any λy=>tW y x
inductive asf (K:bI) (neg:Bool) (x:V) (y:V) (H:Hp) (Q:VK):Prop
 |mk (p:_) (xs:_) (h1:y=.ref p) (h2:(dB K H p xs\/fY K H p xs)) (h3:wB x=true) (h4:xs.all wB=true) (h5:Q (.bl (if neg then !wC x xs else wC x xs)) H)
def Wo (K:bI) (neg:Bool):R2:=λx y H Q=>asf K neg x y H Q
theorem aja:dN X (compareOp .In) (Wo X.K false):=by
 rintro aq s σ H x y v u Q I d g ⟨p,xs,rfl,a,c,fs,q⟩;cases g;rcases a with a|a
 ·obtain ⟨aM,r,pl,e⟩:=I.list a;refine SeqAt.in_listAt (oN x) pl.isList (λw b=>Gh d c r fs w (by simpa using b)) ⟨.bl _,H,I,rfl,?_⟩;rw [show aM.toArray.any (oN x)=aM.any (oN x) by simp,GJ r fs];exact q
 ·obtain ⟨aM,r,pl,e⟩:=I.tuple a;refine SeqAt.in_tupleAt (oN x) pl (λw b=>Gh d c r fs w (by simpa using b)) ⟨.bl _,H,I,rfl,?_⟩;rw [show aM.toArray.any (oN x)=aM.any (oN x) by simp,GJ r fs];exact q
theorem agU:dN X (compareOp .NotIn) (Wo X.K true):=by
 rintro aq s σ H x y v u Q I d g ⟨p,xs,rfl,a,c,fs,q⟩;cases g;rcases a with a|a
 ·obtain ⟨aM,r,pl,e⟩:=I.list a;refine SeqAt.notIn_listAt (oN x) pl.isList (λw b=>Gh d c r fs w (by simpa using b)) ⟨.bl _,H,I,rfl,?_⟩;rw [show aM.toArray.any (oN x)=aM.any (oN x) by simp,GJ r fs];exact q
 ·obtain ⟨aM,r,pl,e⟩:=I.tuple a;refine SeqAt.notIn_tupleAt (oN x) pl (λw b=>Gh d c r fs w (by simpa using b)) ⟨.bl _,H,I,rfl,?_⟩;rw [show aM.toArray.any (oN x)=aM.any (oN x) by simp,GJ r fs];exact q
inductive aal (K:bI) (xs:aD) (H:Hp) (Q:VK):Prop
 |mk (p:_) (ys:_) (h1:xs=[.ref p]) (h2:(dB K H p ys\/fY K H p ys)) (h3:Q (.int ys.length) H)
theorem agV:iZ X (.builtin "len") (aal X.K):=by
 rintro aq s σ H xs us Q I r ⟨p,ys,rfl,a,q⟩;obtain ⟨u,rfl,d⟩:=qM r;cases d;have g:=Aw;rcases a with a|a
 ·obtain ⟨aM,b,pl,e⟩:=I.list a;have c:=b.length;exact Calls.call_len_list pl.isList (by simp only [fL]<;>lk) ⟨.int ys.length,H,I.tok _,⟨s.toks+1,by rw [fL,c]⟩,q⟩
 ·obtain ⟨aM,b,pl,e⟩:=I.tuple a;have c:=b.length;exact len_tuple pl (by simp only [fL]<;>lk) ⟨.int ys.length,H,I.tok _,⟨s.toks+1,by rw [fL,c]⟩,q⟩
inductive agi (K:bI) (xs:aD) (H:Hp) (Q:VK):Prop
 |mk (z:_) (h1:xs=[.str z]) (h2:z.length<=sizeLine) (h3:Q (.int z.length) H)
theorem aau:iZ X (.builtin "len") (agi X.K):=by rintro aq s σ H xs us Q I r ⟨z,rfl,b,q⟩;obtain ⟨u,rfl,t,rfl⟩:=qM r;have a:=Aw;exact len_str (by lk) ⟨.int z.length,H,I.tok _,⟨_,rfl⟩,q⟩
inductive agj (K:bI) (xs:aD) (H:Hp) (Q:VK):Prop
 |mk (p:_) (ys:_) (h1:xs=[.ref p]) (h2:(dB K H p ys\/fY K H p ys)) (h3:∀ l,H l=none->Q (.ref l) (upd H l (.lst ys)))
theorem JC:iZ X (.type "list") (agj X.K):=by
 rintro aq s σ H xs us Q I r ⟨p,ys,rfl,c,q⟩;obtain ⟨u,rfl,m⟩:=qM r;cases m;have k:∀ (aM:cG),bY ys aM->ys.length<=sizeLine->∀ (h':Heap) (c':Nat),(∀ b o',s.heap.get? b=some o'->h'.get? b=some o') ->h'.get? s.heap.objs.size=some { cls:=.type "list",dict:=none,data:=.seq aM.toArray c',slots:=#[] }->EP X aq σ Q (.ref s.heap.objs.size) { s with heap:=h' }:=λaM a d h' c' kp e =>
  ⟨.ref s.heap.objs.size,_,I.laid (t':=s.toks) kp (bJ _) (show dU X.prog X.w _ h' _ (.lst ys) from ⟨d,aM,c',a,e⟩),rfl,q _ (I.hok.fresh (bJ _))⟩
 rcases c with c|c
 ·obtain ⟨aM,a,pl,d⟩:=I.list c;have l:=a.length;obtain ⟨o,i,g,n,j⟩:=pl.isList;exact call_list_seq p (.inl rfl) i g j (λh' c' kp e=>k aM a d h' c' kp e) (by simp only [fL]<;>lk)
 ·obtain ⟨aM,a,pl,d⟩:=I.tuple c;have l:=a.length;obtain ⟨o,i,g,n,j⟩:=pl;exact call_list_seq p (.inr rfl) i g j (λh' c' kp e=>k aM a d h' c' kp e) (by simp only [fL]<;>lk)
inductive aag (K:bI) (xs:aD) (H:Hp) (Q:VK):Prop
 |mk (p:_) (ys:_) (h1:xs=[.ref p]) (h2:((dB K H p ys/\∀ l,H l=none->Q (.ref l) (upd H l (.tup ys)))\/(fY K H p ys/\Q (.ref p) H)))
theorem uc:iZ X (.type "tuple") (aag X.K):=by
 rintro aq s σ H xs us Q I r ⟨p,ys,rfl,h⟩;obtain ⟨u,rfl,i⟩:=qM r;cases i;rcases h with ⟨a,q⟩|⟨a,q⟩
 ·obtain ⟨aM,c,pl,g⟩:=I.list a;have k:=c.length;refine call_tuple_list pl.isList (λh' kp=>?_) (by simp only [fL]<;>lk);have d:aJ X aq σ H { s with heap:=h' }:=I.kept (t':=s.toks) kp;have j:aJ X aq σ (upd H h'.objs.size (.tup ys)) { s with heap:=h'.push { cls:=.type "tuple",data:=.seq aM.toArray } }:=d.laid (t':=s.toks) (λb o e=>cP _ e) (bJ _) (show dU X.prog X.w _ _ _ (.tup ys) from ⟨g,aM,c,oF.new _ _⟩);exact ⟨.ref h'.objs.size,_,j,rfl,q _ (d.hok.fresh (bJ _))⟩
 ·obtain ⟨aM,c,pl,g⟩:=I.tuple a;exact call_tuple_same pl ⟨.ref p,H,I,rfl,q⟩
def Wq (K:bI) (T:String) (x:V) (H:Hp):Prop:=match x with
 |.str _=>T="str"
 |.int _=>T="int"
 |.ref p=>(T="list"/\∃ xs,dB K H p xs)\/(T="tuple"/\((∃ o,K.lookup p=some o/\o.cls=.type "tuple"/\o.dict=none)\/∃ xs,H p=some (.tup xs))) \/
   (T="dict"/\((∃ aV,H p=some (.dK aV))\/∃ aV,H p=some (.dT aV)))\/(T="set"/\∃ S n,H p=some (.set S n))
 |_=>False
theorem apI {T:String} {x:V} {v:Value} (I:aJ X aq σ H s) (r:cC x v) (ty:Wq X.K T x H) : s.TypeIs v T/\∀ a,v=.ref a->∃ ob,s.heap.get? a=some ob/\ob.dict=none:=by
 cases x with
 |str z =>obtain ⟨t,rfl⟩:=r;cases (show T="str" from ty);exact ⟨uh s z t,λ_ e=>nomatch e⟩
 |int i =>obtain ⟨t,rfl⟩:=r;cases (show T="int" from ty);exact ⟨vq s i t,λ_ e=>nomatch e⟩
 |ref p =>
  cases r;rcases ty with ⟨rfl,xs,m⟩|⟨rfl,⟨o,b,k,g⟩|⟨xs,b⟩⟩|⟨rfl,b⟩|⟨rfl,S,n,b⟩
  ·obtain ⟨aM,_,pl,_⟩:=I.list m;refine ⟨pl.isList.typeIs,λa e=>?_⟩;cases e;obtain ⟨o,n,e,c,g,_⟩:=pl;exact ⟨o,e,g⟩
  ·refine ⟨⟨o,I.fO p o b,k⟩,λa e=>?_⟩;cases e;exact ⟨o,I.fO _ o b,g⟩
  ·obtain ⟨_,_,_,o,j,l,n,u,q⟩:=(show dU X.prog X.w H s.heap p (.tup xs) from I.hok p _ b);refine ⟨⟨o,j,l⟩,λa e=>?_⟩;cases e;exact ⟨o,j,q⟩
  ·have z:∃ o,s.heap.get? p=some o/\o.ExactDict:=by
    rcases b with ⟨aV,b⟩|⟨aV,b⟩
    ·obtain ⟨_,_,_,_,o,_,_,e,ex,_⟩:=I.hok p _ b;exact ⟨o,e,ex⟩
    ·obtain ⟨_,_,_,_,o,_,_,e,ex,_⟩:=I.hok p _ b;exact ⟨o,e,ex⟩
   obtain ⟨o,e,ex⟩:=z;refine ⟨⟨o,e,ex.1⟩,λa d=>?_⟩;cases d;exact ⟨o,e,ex.2.1⟩
  ·obtain ⟨o,_,_,_,e,ex,_⟩:=I.hok p _ b;refine ⟨⟨o,e,ex.1⟩,λa d=>?_⟩;cases d;exact ⟨o,e,ex.2.1⟩
 |_=>exact elim ty
def tBM (K:bI) (T:String) (r:V->aD->Hp->VK->Prop) (to:TE) (t:TA):TE:=λσ H Q=>to σ H λx H1=>Wq K T x H1/\t σ H1 λxs H2=>r x xs H2 Q
variable {o:Expr} {to:TE} {t:TA} {name:Str} {apos cpos:Pos} {T id:String} {r:V->aD->Hp->VK->Prop}
theorem jg (pa:PlainAttrs T) (slot:Slot T name id) (hty:typeOf (.builtin id)=pure (.type "method_descriptor")) (hm:Bo X id r) (ho:PE X o to) (ha:PA X (e::es) t) (hbase:attributeBase o name X.env (eval o X.env)=eval o X.env:=by rfl) (hfew:((backTo cpos (starEach (e::es) X.env)).all (λx=>!x.1) && (backToKw cpos (keywordEach [] X.env)).all (λx=>x.1.isSome) && decide ((e::es).length+([]:List Keyword).length+(if ([]:List Keyword).isEmpty then 0 else 1)<30))=true:=by rfl) (hline:(apos.endLine == cpos.line)=true:=by rfl) (hs:starEach (e::es) X.env=(false,eval e X.env)::starEach es X.env:=by rfl) (hplain:(backTo cpos (starEach es X.env)).any (·.1)=false:=by rfl) : PE X (.Call (.Attribute o name apos) (e::es) [] cpos) (tBM X.K T r to t):=by intro aq s σ H Q I h;refine wpAny_Call_method_late hbase hfew hline rfl (bH (ho aq s σ H _ I h) λv g ⟨x,H1,a,b,ty,d⟩=>?_);obtain ⟨h1,h2⟩:=apI a b ty;refine ⟨T,id,pa,slot,hty,h1,h2,?_⟩;have c:=ha cpos aq g σ H1 _ a d;rw [hs] at c ⊢;refine Calls.callWith_builtin (by show (false || (backTo cpos (starEach es X.env)).any (·.1))=false;rw [hplain]<;>rfl) (Ry ?_);exact bH c (by rintro us i ⟨vs,H2,j,k,l⟩;exact hm aq i σ H2 x vs v us Q j b k l)
/- xs.append(e),list.index on a module's tuple .. are Bo facts of 06m -/
end
def MtM (X:Cx) (id:String) (r:V->aD->Hp->VK->Prop):Prop :=
 ∀ (aq:List (Addr×Obj)) (s:Shared) (σ:St) (H:Hp) (x:V) (xs:aD) (v:Value) (us:cG) (Q:VK),aJ X aq σ H s->cC x v->bY xs us->r x xs H Q ->
  wpAny (model X.prog X.w) X.A (call (.builtin id) (v::us)) (EP X aq σ Q) X.xe s
theorem bY.one {x:V} (h:bY [x] us):∃ u,us=[u]/\cC x u:=by
 cases h with
 |cons r h=>cases h;exact ⟨_,rfl,r⟩
theorem bY.two {x:V} (h:bY [x,y] us):∃ u v,us=[u,v]/\cC x u/\cC y v:=by
 cases h with
 |cons r h=>cases h with
  |cons q h=>cases h;exact ⟨_,_,rfl,r,q⟩
theorem bY.rep (h:bY xs us):∀ k:Nat,bY (replicate k xs).flatten (replicate k us).flatten
 |0=>.nil
 |k+1=>by rw [kI,kI,sy,sy];exact bY.append h (bY.rep h k)
theorem foldl_rep (aM:cG):∀ (k:Nat) (bU:cG),foldl (λx1 x2=>x1++x2) bU.toArray (replicate k aM.toArray)=(bU++(replicate k aM).flatten).toArray
 |0,bU=>by simp
 |k+1,bU=>by
  have e:bU.toArray++aM.toArray=(bU++aM).toArray:=by simp
  have a:(bU++aM)++(replicate k aM).flatten=bU++(replicate (k+1) aM).flatten:=by rw [kI,sy,zV]
  rw [<-a,<-foldl_rep aM k (bU++aM),<-e,kI,um]
section
variable {X:Cx} {l b:Addr} {ys zs:aD}
theorem aJ.afd {f:fV->fV} (I:aJ X aq σ H s) (hH:H l=some (.lst xs)) (e:s.heap.get? l=some { cls:=.type "list",data:=.seq aM.toArray n }) (hf:f aM.toArray=its'.toArray) (hv:bY ys its') (hz:ys.length<=sizeLine) : aJ X aq σ (upd H l (.lst ys)) { s with heap:=s.heap.update l (mapSeq f),toks:=t' }:=by have q:=PySem.IsL.update e f;rw [hf] at q;exact I.write (x:=l) (e:=l) (by rw [hH];exact trivial) (.inl rfl) (λc u a b=>(vp s.heap (mapSeq f) (bL a)).trans b) ⟨_,q⟩ ⟨hz,its',_,hv,q⟩
theorem aJ.afe (I:aJ X aq σ H s) (hv:bY ys aM) (hz:ys.length<=sizeLine) : aJ X aq σ (upd H s.heap.objs.size (.lst ys)) { s with heap:=s.heap.push { cls:=.type "list",data:=.seq aM.toArray },toks:=t' }:=I.laid (λ_ _ q=>cP _ q) (bJ _) ⟨hz,aM,0,hv,eV _ rfl⟩
theorem aJ.fresh (I:aJ X aq σ H s):H s.heap.objs.size=none:=I.hok.fresh (bJ _)
theorem aJ.Ec (I:aJ X aq σ H s) (hH:H l=some (.lst xs)):xs.length<=sizeLine/\∃ (aM:cG) (n:Nat),bY xs aM/\xs.length=aM.length/\s.heap.get? l=some { cls:=.type "list",data:=.seq aM.toArray n }:=by obtain ⟨z,aM,n,r,e⟩:=I.hok l _ hH;exact ⟨z,aM,n,r,r.length,e⟩
theorem abN (h:n<=sizeLine):listTooLong n=false:=by unfold listTooLong;exact kh (by lk)
end
section
variable {X:Cx}
inductive aln (x:V) (vs:aD) (H:Hp) (Q:VK):Prop
 |mk (l:_) (xs:_) (y:_) (h1:x=.ref l) (h2:vs=[y]) (h3:H l=some (.lst xs)) (h4:xs.length<sizeLine) (h5:Q .non (upd H l (.lst (xs++[y]))))
def anE:V->aD->Hp->VK->Prop:=λx vs H Q=>aln  x vs H Q
theorem xK:MtM X "list.append" anE:=by rintro aq s σ H x vs v us Q I d c ⟨l,xs,y,rfl,rfl,a,i,q⟩;cases d;obtain ⟨u,rfl,b⟩:=c.one;obtain ⟨z,aM,n,r,g,e⟩:=I.Ec a;refine mD F.slot_list_append ⟨_,e,rfl⟩ F.entry_list_append (F.args_list_append_2 _ _) (PySem.list_append l aM.toArray n u (by rw [fL];lk)) ⟨e,.non,_,I.afd (its':=aM++[u]) a e (by simp) (r.append (.cons b .nil)) ?_,rfl,q⟩;rw [dj,Km];lk
inductive alo (x:V) (vs:aD) (H:Hp) (Q:VK):Prop
 |mk (l:_) (b:_) (xs:_) (zs:_) (h1:x=.ref l) (h2:vs=[.ref b]) (h3:H l=some (.lst xs)) (h4:H b=some (.lst zs)) (h5:xs.length+zs.length<=sizeLine) (h6:Q .non (upd H l (.lst (xs++zs))))
def anF:V->aD->Hp->VK->Prop:=λx vs H Q=>alo  x vs H Q
theorem Qv:MtM X "list.extend" anF:=by
 rintro aq s σ H x vs v us Q I k j ⟨l,b,xs,zs,rfl,rfl,d,g,C,q⟩;cases k;obtain ⟨u,rfl,i⟩:=j.one;cases i;obtain ⟨z,aM,n,r,B,e⟩:=I.Ec d;obtain ⟨y,a,n2,p,m,o⟩:=I.Ec g;have c:aM.toArray.size+a.toArray.size<=sizeLine:=by rw [fL,fL];lk
 have t:¬ (!aM.toArray.isEmpty && listTooLong (aM.toArray.size+a.toArray.size))=true:=by rw [abN c,Bool.and_false];exact iV
 refine mD F.slot_list_extend ⟨_,e,rfl⟩ F.entry_list_extend (F.args_list_extend_2 _ _) (AutoSeq1.list_extend_list_list_0 l aM.toArray n b a.toArray n2 t (by rw [fL];lk) (by lk)) ⟨e,o,.non,_,I.afd (its':=aM++a) d e (by simp) (r.append p) ?_,rfl,q⟩;rw [dj];lk
inductive aqV (x:V) (y:V) (H:Hp) (Q:VK):Prop
 |mk (l:_) (b:_) (xs:_) (zs:_) (h1:x=.ref l) (h2:y=.ref b) (h3:H l=some (.lst xs)) (h4:H b=some (.lst zs)) (h5:xs.length+zs.length<=sizeLine) (h6:∀ p,H p=none->Q (.ref p) (upd H p (.lst (xs++zs))))
def ash:R2:=λx y H Q=>aqV  x y H Q
theorem j_:dN X (binaryOp .Add) ash:=by
 rintro aq s σ H x y v u Q I g m ⟨l,b,xs,zs,rfl,rfl,c,d,t,q⟩;cases g;cases m;obtain ⟨z,aM,n,r,p,e⟩:=I.Ec c;obtain ⟨o,a,n2,k,i,j⟩:=I.Ec d;refine PySem.P.add_list e j ?_ (by rw [fL,fL];lk);have ea:aM.toArray++a.toArray=(aM++a).toArray:=by simp
 rw [ea];exact ⟨.ref _,_,I.afe (t':=s.toks) (r.append k) (by rw [dj];lk),rfl,q _ I.fresh⟩
inductive aqW (x:V) (y:V) (H:Hp) (Q:VK):Prop
 |mk (l:_) (k:_) (xs:_) (h1:x=.ref l) (h2:y=.int k) (h3:H l=some (.lst xs)) (h4:-(2 ^ 63)<=k) (h5:k<2 ^ 63) (h6:xs.length*k.toNat<=sizeLine) (h7:∀ p,H p=none->Q (.ref p) (upd H p (.lst (replicate k.toNat xs).flatten)))
def asi:R2:=λx y H Q=>aqW  x y H Q
theorem Qw (xs:List α) (k:Nat):(replicate k xs).flatten.length=k*xs.length:=by
 induction k with
 |zero=>simp
 |succ k a=>rw [kI,sy,dj,a,Nat.succ_mul,Rz]
theorem Ax:dN X (binaryOp .Mult) asi:=by
 rintro aq s σ H x y v u Q I B J ⟨l,k,xs,rfl,rfl,o,h1,h2,j,q⟩;cases B;obtain ⟨t,rfl⟩:=J;obtain ⟨z,aM,n,r,C,e⟩:=I.Ec o;have p:aM.toArray.size*k.toNat<=sizeLine:=by rw [fL,<-C];exact j
 have d:¬ aM.toArray.size*k.toNat>(2 ^ 63-1) / 8:=by
  have:(sizeLine:Nat)<=(2 ^ 63-1) / 8:=by decide
  lk
 have c:¬ (!Builtin.List.listFitsIndex k)=true:=by rw [fitsIndex_both h1 h2];exact iV
 have D:¬ listTooLong (aM.toArray.size*k.toNat)=true:=by rw [abN p];exact iV
 have b:foldl (λg i=>g++i) #[] (replicate (if aM.toArray.isEmpty=true then 0 else k.toNat) aM.toArray)=(replicate k.toNat aM).flatten.toArray:=by
  have f0:∀ m:Nat,foldl (λg i=>g++i) #[] (replicate m aM.toArray)=(replicate m aM).flatten.toArray:=λm=>by have:=foldl_rep aM m [];rw [RB] at this;exact this
  rw [f0];cases aM with
  |nil=>simp
  |cons a L=>rw [bw (by simp)]
 refine Ko (T:="list") (U:="int") (by decide) ⟨_,e,rfl⟩ (λs'=>vq s' k t) noFill_list_mul Kq xR repeat_list Kr.lookup (mD xR (vq s k t) Ks (Ku _ _) (int___rmul___int_list k t l aM.toArray n) ⟨e,rfl,⟨_,e,rfl⟩,mD F.slot_list_mul ⟨_,e,rfl⟩ F.entry_list_mul (F.args_list_mul_2 _ _) (AutoListH.list___mul___list_int_3 l aM.toArray n k t c d D) ⟨e,?_⟩⟩);rw [b];exact ⟨.ref _,_,I.afe (t':=s.toks) (r.rep k.toNat) (by rw [Qw,Kv];exact j),rfl,q _ I.fresh⟩
end
end
variable {q:Program} {loose:bR} {XP:dH->Heap->Prop} {YP:World->Heap->Prop}
namespace Att
open PySem.W PySem.Calls PyProof.Rows
section
theorem af6 {P:Params}:∀ (ns:aU) (vs:cG),WellAll P h vs (ns.map WData.int)->IntsAre vs ns:=by
 intro ns;induction ns with
 |nil =>intro vs w;rw [Kh] at w;cases w;exact .nil
 |cons n ns c =>
  intro vs w;rw [iC] at w;cases w with
  |cons a b =>cases a;exact .cons _ _ (c _ b)
theorem ajb {l:OpenLaw} (hn:l.most=some n) {P:Params} {args:List WData} {vals:cG} (hpre:l.row.toRowW.claim.pre args=true) (hwl:WellAll P h vals args) : ∃ a vs ns,vals=[Value.ref a]/\args=[WData.list (ns.map WData.int)]/\h.get? a=some { cls:=.type "list",data:=.seq vs.toArray }/\IntsAre vs ns/\ns.length<=n:=by
 have e:WShape.hasAll [] args [.list .int]=true:=(pre_splitW hpre).1;have g:l.pre.holds [] { args:=args }=true:=(pre_splitW hpre).2;obtain ⟨d,r,rfl,h1,h2⟩:=hasAllW_cons e;obtain rfl:=hasAllW_nil h2;obtain ⟨xs,rfl,o⟩:=hasW_list h1;obtain ⟨ns,rfl⟩:=items_int o;have p:ns.length<=n:=by
  unfold OpenLaw.pre at g;have c:(WTm.not (.lt (.lit (.int (n:Int))) (.len (.arg 0)))).holds [] { args:=[.list (ns.map .int)] }=true:=by have c:=(holds_andW g).1;rw [hn] at c;exact c
  have h5:=condW_of c (w_not (w_lt w_lit (w_len_list (w_arg rfl))));rw [bD] at h5;refine Nat.le_of_not_lt λq=>?_;have k:(n:Int)<((ns.length:Nat):Int):=by lk
  first
   |(rw [d7 k] at h5;exact absurd h5 (by decide))
   |(simp at h5;lk)
 cases hwl with
 |cons m i =>
  cases i;cases m with
  |list j b=>exact ⟨_,_,ns,rfl,rfl,j,af6 ns _ b,p⟩
theorem ajc (l:OpenLaw) (args:List WData):l.row.toRowW.claim.post args (.bool true) args=true:=postW_of (r:=l.row.toRowW) (X:=(true == true)) (show WShape.has [] (.bool true) .bool=true by first|rfl|decide|simp [WShape.has,WShape.arms,WShape.armsAll]) (show (WTm.eq .res (.lit (.bool true))).value [] { args:=args,res:=some (.bool true),after:=args }=some (.bool (true == true)) from w_eq_bool (w_res rfl) w_lit) rfl
theorem ahk {l:OpenLaw} {d:DefRec} (hn:l.most=some n) (hdf:d.params.defaults=[]) (call:∀ (w:World) (s₀ s₁:Shared) (mg mb:dH) (fa:Addr) (o:Obj) (pm cd doc:Value) (a:Addr) (vs:cG) (ns:aU),Ground q loose [] XP w s₀ mg mb s₁.heap->YP w s₁.heap ->s₁.heap.get? fa=some o->o.data=.func (docDef d.name d.params d.body d.scope pm cd doc)->s₁.heap.CodeRec cd d.name->mg d.name=some (.ref fa) ->s₁.heap.get? a=some { cls:=.type "list",data:=.seq vs.toArray }->IntsAre vs ns->ns.length<=n->s₁.gens=#[] ->codeAny (model l.prog w) callerA (.call (.ref fa) ⟨[.ref a],[]⟩) (λr s'=>r=.ok (.ret (.bool true))/\OldK s₁.heap s'.heap/\s'.os=s₁.os/\AllBare s'.gens) s₁) : WalkO q loose XP YP l.row.toRowW d [] (λf vs=>PySem.call f vs):=by intro w s₀ s₁ mg mb G Y fa o pm cd doc J kV y B i p j t m vals L c k u g z;obtain rfl:J=.none:=Dflts.none p hdf;obtain rfl:kV=.none:=Dflts.noKw p;obtain ⟨a,vs,ns,rfl,rfl,e,b,x⟩:=ajb hn c g;refine enter_call (uz (call w s₀ s₁ mg mb fa o pm cd doc a vs ns G Y y (fd_plain B) i j e b x t) λr s' v=>?_);obtain ⟨rfl,h2,I,C⟩:=v;exact ⟨.inl ⟨.bool true,.bool true,[],rfl,λ_=>rfl,.bool true,ajc l _,λ_=>⟨Pairwise.nil,λ_ D=>(nomatch D)⟩⟩,h2,I,C⟩
section
variable {K:Frag}
end
end
end Att
variable {X:Cx} {st:Stmt} {sp:Sp} {B:Prop} {H1 H2 H':Hp} {l:Addr} {own c:Nat} {g:TG} {tt:TT} {te:TE} {o:HO} {rs:aD} {ws:aK} {aj b:Int} {v:V}
section
open PySem.Spec PyProof.Rows
theorem JL:∀ {vs:cG} {ns:aU},IntsAre vs ns->bY (ns.map V.int) vs
 |_,_,.nil=>.nil
 |_,_,.cons n t h=>.cons ⟨t,rfl⟩ (JL h)
def j8 (s:Stmt) (j:Nat):Stmt:=match s with
 |.ClassDef _ _ _ body _ _ _ _ _ _ _=>body.getD j (.Pass ⟨0,0,0,0⟩)
 |_=>.Pass ⟨0,0,0,0⟩
def jX (s:Stmt):Arguments:=match s with
 |.FunctionDef _ a _ _ _ _ _ _ _ _=>a
 |_=>{ posonlyargs:=[],args:=[],vararg:=none,kwonlyargs:=[],kw_defaults:=[],kwarg:=none,defaults:=[] }
def jk (s:Stmt):List Stmt:=match s with
 |.FunctionDef _ _ b _ _ _ _ _ _ _=>b
 |_=>[]
def dX (s:Stmt):Scope:=match s with
 |.FunctionDef _ _ _ _ _ _ sc _ _ _=>sc
 |_=>{ kind:=.function,names:=[],isGenerator:=false,isCoroutine:=false }
abbrev jj:qx:=λ_ _ _ _ _ _=>False
abbrev E0:XK:=λ_ _ _=>False
theorem Ve:zN jj X E0:=λ_ _ _ _ _ _ _ h=>h.elim
structure tX (K:bI) (x qual:Str) (st:Stmt) (f:Addr) (fd:FuncData):Prop where
 ex:∃ (oc:Value) (od:jf) (kV doc pm:Value) (an:jf) (cdv ct:Value) (osl:qX),
  fd=fnOf x qual (jX st) (jk st) (dX st) .none kV doc pm an cdv ct/\K.lookup f=some ⟨oc,od,.func fd,osl⟩/\codeIn K cdv qual=true
 kp:keepIn K (.ref f)=true
section
theorem tX.ok {k:Nat} (F:tX K x qual st f fd) (S:mF N ps (dX st)) (len:∀ vs H Q E,sp vs H Q E->vs.length=ps.length) (hbody:∀ (cdv:Value) (A:Around) (outer:mY) (s:Shared) (H:Hp) (vs:aD) (Q:VK) (E:XK),dW k (A.deeper (envOfC qual (dX st) s.heap.objs.size f cdv))->sp vs H Q E ->∃ t,mR (Bg jj P w K mg aF N qual (dX st) f cdv A outer s H E).rE (jk st) t/\t { nx:=λ_ H'=>Q .non H',rt:=Q } (start N vs) H):dz P w K mg aF jj (k+1) f fd ps sp:=by obtain ⟨oc,od,kV,c,pm,an,cdv,ct,osl,rfl,d,a⟩:=F.ex;refine Vc d a S len λA outer s H vs Q E hr b=>?_;obtain ⟨t,h,q⟩:=hbody cdv A outer s H vs Q E hr b;exact ⟨t,h.rE,q⟩
theorem tX.binds (F:tX K x qual st f fd) (h:∀ (kV doc pm:Value) (an:jf) (cdv ct:Value) (us:cG),us.length=ps.length->bindArgs (fnOf x qual (jX st) (jk st) (dX st) .none kV doc pm an cdv ct) ⟨us,[]⟩=pure (ps.zip us)):oZ K fd ps []:=by obtain ⟨oc,od,kV,doc,pm,an,cdv,ct,osl,rfl,b,a⟩:=F.ex;exact .all (h kV doc pm an cdv ct)
theorem Hh {kV doc cdv:Value} (l:K.lookup f=some ⟨oc,od,.func (fnOf x qual (jX st) (jk st) (dX st) .none kV doc pm an cdv ct),osl⟩) (c:codeIn K cdv qual=true) (k:keepIn K (.ref f)=true):tX K x qual st f (fnOf x qual (jX st) (jk st) (dX st) .none kV doc pm an cdv ct):=⟨⟨oc,od,kV,doc,pm,an,cdv,ct,osl,rfl,l,c⟩,k⟩
end
theorem mH {k:Nat} (hr:dW k A):A.units+1<cLine:=Kw (Nat.add_le_add_left (by decide:1<=64) _) hr.units
theorem ajd (h:n<=1000):n<sizeLine:=Kw h (by decide)
section
theorem pv (i:Nat) (hN:X.N[i]?=some x:=by rfl) (hv:Np X.env.scope x:=by first|exact Or.inl rfl|exact Cy (Or.inl rfl)|exact Cy (Cy rfl)) (hd:(x == ("__debug__":Str))=false:=by decide) (hcd:(x == ("__classdict__":Str))=false:=by decide):PE X (.Name x pos) (HD i):=apx hN hv hd hcd
end
theorem kE {c A:Prop} [Decidable c] (h1:c->A) (h2:¬ c->B):if c then A else B:=by
 by_cases h:c
 ·rw [bF h];exact h1 h
 ·rw [bw h];exact h2 h
def aG (H H':Hp):Prop:=∀ b o,H b=some o->H' b=some o
theorem aG.refl (H:Hp):aG H H:=λ_ _ h=>h
def cO:=@aG.refl
theorem aG.trans (a:aG H H1) (b:aG H1 H2):aG H H2:=λc o h=>b c o (a c o h)
def aB:=@aG.trans
theorem aG.free (e:aG H H') (h:H' l=Option.none):H l=Option.none:=by
 cases q:H l with
 |none=>rfl
 |some o =>rw [e l o q] at h;cases h
theorem aG.seq (e:aG H H') (h:dB K H a xs):dB K H' a xs:=by
 rcases h with (h|⟨o,h⟩)|h
 ·exact .inl (.inl (e _ _ h))
 ·exact .inl (.inr ⟨o,e _ _ h⟩)
 ·exact .inr h
def m6 (env:Env):List (Str×NameKind)->oE->oE
 |[],bU=>bU
 |(n,k)::r,bU=>if k == .free then m6 env r ((n,(env.cells.lookup n).getD 0)::bU) else m6 env r bU
theorem S9 {f:Str×NameKind->oE->Sem (ForInStep oE)} (hf:∀ n k bU,f (n,k) bU=if k == .free then (do let a <-cellOf env n;pure (yield ((n,a)::bU))) else pure (yield bU)) : ∀ (names:List (Str×NameKind)) (bU:oE),(∀ p∈names,p.2=.free->∃ a,env.cells.lookup p.1=some a) ->(forIn names bU f:Sem oE)=pure (m6 env names bU)
 |[],bU,_=>rfl
 |(n,k)::r,bU,h=>by
  rw [Cz,hf];unfold m6;by_cases b:(k == NameKind.free)=true
  ·rw [bF b,bF b];obtain ⟨a,d⟩:=h (n,k) iU (by simpa using b);have e:cellOf env n=pure a:=by unfold cellOf;rw [show env.cells.lookup n=some a from d]
   rw [e,show env.cells.lookup n=some a from d];simp only [pure_bind];exact S9 hf r _ λp c=>h p (gK _ c)
  ·rw [bw b,bw b,pure_bind];exact S9 hf r _ λp c=>h p (gK _ c)
theorem agk (h:∀ p∈scope.names,p.2=.free->∃ a,env.cells.lookup p.1=some a):closureFor scope env=pure (m6 env scope.names []):=by
 simp only [closureFor];rw [S9 (env:=env) (λn k c=>?_) scope.names [] h]
 ·rfl
 ·by_cases b:(k == NameKind.free)=true
  ·simp only [b,rZ]
  ·simp only [b,Ar]
theorem S_:∀ {names:List (Str×NameKind)} {bU:oE},(∀ p∈names,p.2=.free->∃ a,env.cells.lookup p.1=some a)->∀ p∈m6 env names bU,p∈bU\/(env.cells.lookup p.1=some p.2)
 |[],bU,_,p,hp=>.inl hp
 |(n,k)::r,bU,h,p,hp=>by
  unfold m6 at hp;have hr:∀ p∈r,p.2=.free->∃ a,env.cells.lookup p.1=some a:=λp hp=>h p (gK _ hp);by_cases b:(k == NameKind.free)=true
  ·rw [bF b] at hp;obtain ⟨a,c⟩:=h (n,k) iU (by simpa using b);rcases S_ hr p hp with q|q
   ·rcases gn.mp q with q|q
    ·subst q;right;show env.cells.lookup n=some ((env.cells.lookup n).getD 0);rw [show env.cells.lookup n=some a from c];rfl
    ·exact .inl q
   ·exact .inr q
  ·rw [bw b] at hp;exact S_ hr p hp
theorem Tc:∀ {names:List (Str×NameKind)} {bU:oE},∀ p∈bU,p∈m6 env names bU
 |[],bU,p,hp=>hp
 |(n,k)::r,bU,p,hp=>by
  unfold m6;by_cases a:(k == NameKind.free)=true
  ·rw [bF a];exact Tc p (gK _ hp)
  ·rw [bw a];exact Tc p hp
theorem Lq:∀ {names:List (Str×NameKind)} {bU:oE} {x:Str},(x,NameKind.free)∈names->∃ a,(x,a)∈m6 env names bU
 |[],_,_,h=>by cases h
 |(n,k)::r,bU,x,h=>by
  unfold m6;rcases gn.mp h with q|q
  ·cases q;rw [bF (show (NameKind.free == NameKind.free)=true from rfl)];exact ⟨_,Tc _ iU⟩
  ·by_cases b:(k == NameKind.free)=true
   ·rw [bF b];exact Lq q
   ·rw [bw b];exact Lq q
theorem Qd:∀ {l:List (Str×β)} {x:Str} {b:β},(x,b)∈l->∃ b',l.lookup x=some b'
 |[],_,_,h=>by cases h
 |(n,k)::r,x,b,h=>by
  rw [vA];cases a:x == n with
  |true=>exact ⟨k,rfl⟩
  |false =>
   rcases gn.mp h with q|q
   ·cases q;simp at a
   ·exact Qd q
theorem Fx:∀ {l:List (Str×β)} {x:Str} {b:β},l.lookup x=some b->(x,b)∈l
 |[],_,_,h=>by simp at h
 |(n,k)::r,x,b,h=>by
  rw [vA] at h;cases a:x == n with
  |true =>
   rw [a] at h;have:x=n:=by simpa using a
   subst this;cases h;exact iU
  |false =>rw [a] at h;exact gK _ (Fx h)
theorem aam {env:Env} {x:Str}:∀ (names:List (Str×NameKind)),(names.map λ(p:Str×NameKind)=>match p with|(n,k)=>if (k == .free && env.scope.kind == .function && env.kindOf n == some .cell) then (n,NameKind.cell) else (n,k)).lookup x = (names.lookup x).map λk=>if (k == .free && env.scope.kind == .function && env.kindOf x == some .cell) then NameKind.cell else k
 |[]=>rfl
 |(n,k)::r=>by
  have c:=@aam env x r;rw [iC];show List.lookup x ((if (k == NameKind.free && env.scope.kind == .function && env.kindOf n == some .cell)=true then (n,NameKind.cell) else (n,k))::_)=_;cases b:x == n with
  |true =>
   have e:x=n:=by simpa using b
   subst e;by_cases a:(k == NameKind.free && env.scope.kind == .function && env.kindOf x == some .cell)=true
   ·rw [bF a];simp only [vA,b,CG,bF a]
   ·rw [bw a];simp only [vA,b,CG,bw a]
  |false =>
   by_cases a:(k == NameKind.free && env.scope.kind == .function && env.kindOf n == some .cell)=true
   ·rw [bF a];simp only [vA,b];exact c
   ·rw [bw a];simp only [vA,b];exact c
theorem aap:(relabel scope env).names.lookup x=(scope.names.lookup x).map λk=>if (k == .free && env.scope.kind == .function && env.kindOf x == some .cell) then NameKind.cell else k :=
 aam scope.names
def pC (X:Cx) (N':bR) (scope:Scope) (cl:oE) (C:Addr) (s:Shared) (H:Hp) (fp:jq) (pn:List (Addr×Obj)):Cx :=
 { X with N:=N',s₀:=s,H₀:=H,env:=compEnvC scope cl C X.env,outer:=X.stack,stack:=X.stack,ex:=fp,fn:=λ_=>false,pn:=pn,xe:=λ_ _=>False }
def Wk:St->St->Prop
 |[],[]=>True
 |a::r,b::q=>(a=none\/a=b)/\Wk r q
 |_,_=>False
theorem Wk.len:∀ {a b:St},Wk a b->a.length=b.length
 |[],[],_=>rfl
 |_::_,_::_,h=>by simp [Wk.len h.2]
 |[],_::_,h=>elim h
 |_::_,[],h=>elim h
theorem Wk.get:∀ {a b:St},Wk a b->∀ (i:Nat) v,a[i]?=some (some v)->b[i]?=some (some v)
 |[],[],_,i,v,h=>by simp at h
 |x::r,y::q,h,0,v,e=>by
  simp at e;rcases h.1 with z|z
  ·rw [z] at e;cases e
  ·simp [<-z,e]
 |x::r,y::q,h,i+1,v,e=>by simp at e ⊢;exact Wk.get h.2 i v e
 |[],_::_,h,_,_,_=>elim h
 |_::_,[],h,_,_,_=>elim h
def gR (own:Nat) (cN:gk) (σ:St):St:=replicate own none++cN.map λj=>(σ[j]?).join
def Ih (X:Cx) (ifs:oA) (t:TT):Prop :=
 ∀ (aq:List (Addr×Obj)) (s:Shared) (σ:St) (H:Hp) (Q:Bool->Hp->Prop),aJ X aq σ H s->t σ H Q ->
  wpAny (model X.prog X.w) X.A (forIn ifs true λc r=>if r=true then do let ok <-isTrue c X.env (eval c X.env);pure (yield ok) else pure (yield r)) (TP X aq σ Q) X.xe s
def afg:TT:=λ_ H Q=>Q true H
theorem mZ {A B:Hp->Prop} (h:A H):afg σ H (λb H3=>if b=true then A H3 else B H3):=by
 show if true=true then A H else B H
 rw [bF rfl];exact h
theorem anG:Ih X [] afg:=λ_ _ _ H _ I h=>wpAny_tests_nil ⟨H,I,h⟩
theorem GK {c:Expr} {t:TT} (h:PT X c t):Ih X [c] t:=λaq s σ H Q I q=>wpAny_tests_one (h aq s σ H Q I q)
theorem ahl {elt target jr:Expr} {ifs:oA} {it bU:Value} (I:Nat->Shared->Prop) (turn:∀ n s,I n s->wpAny (model prog w) A (pyNext it) (λr s₁=>match r with
   |none=>R (.ok .next) s₁
   |some v=>wpAny (model prog w) A (letOwnedTupleGo target it v) (λ_ s₁'=>wpAny (model prog w) A (assign target env v) (λ_ s₂ =>
     wpAny (model prog w) A (forIn ifs true λc r=>if r=true then do let ok <-isTrue c env (eval c env);pure (yield ok) else pure (yield r)) (λok s₃ =>
      if ok=true then wpAny (model prog w) A (eval elt env) (λx s₄ =>
       wpAny (model prog w) A (call (.builtin "list.append") [bU,x]) (λ_ s₅=>∃ m,m<n/\I m s₅) (λ_ _=>False) s₄) (λ_ _=>False) s₃
      else ∃ m,m<n/\I m s₃) (λ_ _=>False) s₂) (λ_ _=>False) s₁') (λ_ _=>False) s₁) (λ_ _=>False) s)
  (n:Nat) (h:I n s) :
  codeAny (model prog w) A (.compLoop (.ListComp elt [⟨target,jr,ifs,0⟩] scope pos) 0 it bU env) R s:=by
 refine codeAny_loop rfl I (λn s g=>?_) n h;show wpAny _ A ((compTurn (.ListComp elt [⟨target,jr,ifs,0⟩] scope pos) 0 it bU env).onRaise (λx=>do noteFrame x env;theTreesLotGoes x)) _ _ s;refine wpAny_noted ?_;rw [compTurn_list];refine aW (Ma (aW (jc (turn n s g) (λr s₁ b=>?_) λ_ _ h'=>elim h')));cases r with
 |none=>exact cB b
 |some v =>
  refine aW (jc b (λ_ s₁' a=>?_) λ_ _ h'=>elim h');refine aW (jc a (λ_ s₂ i=>aW (jc i (λok s₃ d=>?_) λ_ _ h'=>elim h')) λ_ _ h'=>elim h');cases ok with
  |false=>exact cB ⟨rfl,d⟩
  |true =>exact aW (aW (jc d (λx s₄ e=>aW (jc e (λ_ s₅ j=>cB (cB ⟨rfl,j⟩)) λ_ _ h'=>elim h')) λ_ _ h'=>elim h'))
def Vf (wi:TI) (own:Nat) (cN:gk) (g:TG) (tt:TT) (te:TE):TE:=λσ H Q=>wi σ H λJ H1=>∀ l,H1 l=none->∃ W:Nat->Nat->aD->Hp->Prop,(∃ m,W 0 m [] (upd H1 l (.lst []))) /\
 ∀ i m ys H,W i m ys H->H l=some (.lst ys)/\((J.stop i H/\Q (.ref l) H)\/(J.go i H/\ys.length<sizeLine/\∃ N:aD->Hp->Prop,(∀ a H',N a H'->∃ e,e<m/\W (i+1) e a H') /\
  ∀ x H',J.oM i H x H'->g x (gR own cN σ) H' λσ2 H2=>Wk (gR own cN σ) σ2 /\
  tt σ2 H2 λb d=>if b=true then te σ2 d λy c=>c l=some (.lst ys)/\N (ys++[y]) (upd c l (.lst (ys++[y]))) else N ys d))
section
variable {elt jr:Expr} {ifs:oA} {wi:TI} {h_:bR} {cN:List (Str×Nat)}
theorem alp {h₁:Heap} (I:aJ X aq σ H s) (hf:∀ b∈fp,i_ X aq H b) (hfl:∀ b∈fp,b<s.heap.objs.size) (hkind:scope.kind=.function) (hcell:∀ y∈scope.names,y.2≠.cell) (hfree:∀ p∈scope.names,p.2=.free->X.env.scope.names.lookup p.1=some .cell) (Vg:∀ c∈cN,X.N[c.2]?=some c.1/\X.env.scope.names.lookup c.1=some .cell/\scope.names.lookup c.1=some .free) (hn:h₁.Ns s.heap.objs.size (λ_=>none)) (hk:∀ b o,s.heap.get? b=some o->h₁.get? b=some o): aJ (pC X (h_++cN.map (·.1)) scope (m6 X.env scope.names []) s.heap.objs.size s H fp (X.pn++aq)) [] (gR h_.length (cN.map (·.2)) σ) H { s with heap:=h₁,toks:=tk }:=by
 have t:∀ p∈scope.names,p.2=.free->∃ a,X.env.cells.lookup p.1=some a:=λp hp S=>I.ok.has p.1 (.inl (hfree p hp S));have l:∀ {x:Str} {c:Addr},(m6 X.env scope.names []).lookup x=some c->X.env.cells.lookup x=some c:=λ{x c} e=>by
  rcases S_ t _ (Fx e) with q|q
  ·cases q
  ·exact q
 have clt:∀ {x:Str} {c:Addr},X.env.cells.lookup x=some c->c<s.heap.objs.size:=λ{x c} e=>by obtain ⟨v,q⟩:=I.cell x c e;exact q.lt
 refine ⟨⟨I.ok.mod,?_,I.ok.glob,I.ok.blt,bJ _,λx y c h1 h2=>I.ok.inj x y c (l h1) (l h2),λx hx=>?_,λx c h=>(by cases h),I.ok.hd,I.ok.frames,.inl rfl,λb C=>⟨fG (hfl b C),λx c e=>(hf b C).2.2.2.2.1 x c (l e)⟩,λb o e=>I.bs b o e,eU I.ok.tV I.sz,λb o e z=>?_,λb C z=>?_,I.stack,I.Di⟩,rfl,I.bare,Un.kept hk,⟨_,hn,λi x v h1 h2 h3=>?_⟩,λx c e=>?_,I.hok.fresh (bJ _),λx c e=>I.m5 x c (l e),λp hp=>?_,I.hok.kept hk,?_⟩
 ·show (relabel scope X.env).kind=.function;exact hkind
 ·-- a cell for each free name
  have D:(relabel scope X.env).names.lookup x=some .cell\/(relabel scope X.env).names.lookup x=some .free:=hx;rw [aap] at D;have r:scope.names.lookup x=some .free:=by
   cases q:scope.names.lookup x with
   |none=>rw [q] at D;simp at D
   |some k =>
    have U:=hcell _ (Fx q);rw [q] at D;cases k with
    |free=>rfl
    |cell=>exact absurd rfl U
    |_=>simp at D
  obtain ⟨a,M⟩:=Lq (env:=X.env) (bU:=[]) (Fx r);exact Qd M
 ·-- the aF t no iterator of ours
  rcases (hf b z).2.2.2.1 with q|q
  ·exact I.ok.Ea b o e q
  ·exact absurd (j9 (cJ e) (eU I.ok.tV q)) (qP _)
 ·rcases gn.mp (I.Mj b z) with q|q
  ·exact (hf b C).2.1 q
  ·exact (hf b C).2.2.1 q
 ·-- captured names
  have hi:h_.length<=i:=by
   unfold gR at h2;by_cases hi:h_.length<=i
   ·exact hi
   ·rw [ou (by simp;lk),Hf] at h2;split at h2<;>cases h2
  have g:(h_++cN.map (·.1))[i]?=some x:=h1;unfold gR at h2;rw [Aq (by simp;lk),uD,lN,lN] at h2;rw [Aq hi,lN] at g;cases L:cN[i-h_.length]? with
  |none=>rw [L] at g;cases g
  |some c =>
   rw [L] at g h2;have ex:c.1=x:=gw g;have B:(σ[c.2]?).join=some v:=gw h2;have R:σ[c.2]?=some (some v):=by
    cases q:σ[c.2]? with
    |none=>rw [q] at B;cases B
    |some z=>rw [q] at B;simp at B;rw [B]
   obtain ⟨k1,J,V⟩:=Vg c (fQ L);rw [ex] at k1 J V;obtain ⟨m,hm,hl⟩:=I.loc;obtain ⟨u,ru,cX⟩:=hl c.2 x v k1 R (.inr (.inl J));refine ⟨u,ru,.inr ⟨.inl ?_,?_⟩⟩
   ·show (relabel scope X.env).names.lookup x=some .cell;rw [aap,V];have r:X.env.scope.kind=.function:=I.ok.kind;have e2:X.env.kindOf x=some .cell:=J;simp [r,e2]
   ·rcases cX with ⟨z,_⟩|⟨_,cc,r,e2⟩
    ·have z':X.env.scope.names.lookup x=some .local:=z;rw [J] at z';cases z'
    ·obtain ⟨a,M⟩:=Lq (env:=X.env) (bU:=[]) (Fx V);obtain ⟨a',j⟩:=Qd M;have e3:a'=cc:=gw ((l j).symm.trans r);rw [e3] at j;obtain ⟨o,W,Y⟩:=e2;exact ⟨cc,j,o,hk _ _ W,Y⟩
 ·obtain ⟨v,o,W,Y⟩:=I.cell x c (l e);exact ⟨v,o,hk _ _ W,Y⟩
 ·have O:p∈X.pn++aq:=by have:p∈(X.pn++aq)++[]:=hp;simpa using this
  obtain ⟨e,n,ne,nf,d⟩:=I.pin p O;refine ⟨hk _ _ e,n,fG (cJ e),λz=>?_,d⟩;rcases gn.mp (I.Mj p.1 z) with q|q
  ·exact ne q
  ·exact nf q
 ·show (gR h_.length (cN.map (·.2)) σ).length=(h_++cN.map (·.1)).length;unfold gR;simp
theorem abO (h_:bR) (cN:List (Str×Nat)) (hc:X.calm=true) (hi:PI X tg jr wi) (hg:∀ cl C s H fp pn,PG (pC X (h_++cN.map (·.1)) scope cl C s H fp pn) tg g) (ht:∀ cl C s H fp pn,Ih (pC X (h_++cN.map (·.1)) scope cl C s H fp pn) ifs tt) (he:∀ cl C s H fp pn,PE (pC X (h_++cN.map (·.1)) scope cl C s H fp pn) elt te) (hkind:scope.kind=.function) (hcell:∀ y∈scope.names,y.2≠.cell) (hfr:(scope.names.all λp=>p.2 != .free || X.env.scope.names.lookup p.1 == some .cell)=true) (hcp:(cN.all λc=>X.N[c.2]? == some c.1 && (X.env.scope.names.lookup c.1 == some .cell && scope.names.lookup c.1 == some .free))=true) (hnames:∀ x∈scope.names,x.2=.local->scope.names.lookup x.1=some .local) (hs:∀ x,foldedSetIterable jr X.env x=pure x) {cp:Pos} {use:Option (Value->Sem Unit)} {QQ:lO} {Q:VK} (I:aJ X aq σ H s) (h:Vf wi h_.length (cN.map (·.2)) g tt te σ H Q) (after:∀ (s3 s5:Shared) (σ5:St) (H3 H5:Hp) (ac:Addr) (fp:jq),aJ X aq σ H3 s3->(∀ b∈fp,i_ X aq H3 b)->aJ (pC X (h_++cN.map (·.1)) scope (m6 X.env scope.names []) s3.heap.objs.size s3 H3 fp (X.pn++aq)) [] σ5 H5 s5->Q (.ref ac) H5->compPost (model X.prog X.w) X.A X.xe use QQ (.ref ac) s3.heap.objs.size (.ok .next) s5) : wpAny (model X.prog X.w) X.A (comprehension (.ListComp elt [⟨tg,jr,ifs,0⟩] scope pos) scope X.env cp (newList []) false (eval jr X.env) use) QQ X.xe s:=by
 have j:∀ p∈scope.names,p.2=.free->X.env.scope.names.lookup p.1=some .cell:=λp L e=>by have z:=xU.mp hfr p L;rw [e] at z;simpa using z
 have Vg:∀ c∈cN,X.N[c.2]?=some c.1/\X.env.scope.names.lookup c.1=some .cell/\scope.names.lookup c.1=some .free:=λc hc=>by have z:=xU.mp hcp c hc;simpa using z
 have has:∀ p∈scope.names,p.2=.free->∃ a,X.env.cells.lookup p.1=some a:=λp L hfr=>I.ok.has p.1 (.inl (j p L hfr));refine wpAny_comprehension_free (use:=use) rfl hs (agk has) hkind hnames (bH (hi aq s σ H _ I h) λv s1 h1=>bH h1 λitv k h2=>?_);obtain ⟨it,fp,tn,J,H2,rfl,I2,T,st2,f2,red⟩:=h2;have hf2:H2 k.heap.objs.size=none:=I2.hok.fresh (bJ _);obtain ⟨W,⟨m0,w0⟩,l⟩:=red k.heap.objs.size hf2;refine su ?_;generalize q:k.heap.objs.size=ac at hf2 l w0 ⊢;have I3:aJ X aq σ (upd H2 ac (.lst [])) { k with heap:=k.heap.push { cls:=.type "list",dict:=none,data:=.seq ([]:cG).toArray } }:=by subst q;exact I2.laid (t':=k.toks) (o:=.lst []) (λb u e=>cP _ e) (bJ _) ⟨d_ _,[],0,.nil,eV _ rfl⟩
 generalize R:({ k with heap:=k.heap.push { cls:=.type "list",dict:=none,data:=.seq ([]:cG).toArray } }:Shared)=s3 at I3 ⊢;have asj:=T.obj 0 k.heap st2;have fne:∀ b∈fp,b≠ac:=λb d z=>by obtain ⟨o,e,_⟩:=asj b d;exact absurd (cJ e) (by rw [z,q];exact qP _)
 have f3:∀ b∈fp,i_ X aq (upd H2 ac (.lst [])) b:=λb d=>⟨by rw [bh (fne b d)];exact (f2 b d).1,(f2 b d).2⟩;have O:tn 0 s3.heap:=T.keep 0 _ _ st2 λb d o e=>by subst R;exact cP _ e
 have Nx:∀ b∈fp,b<s3.heap.objs.size:=λb d=>by obtain ⟨o,e,_⟩:=T.obj 0 s3.heap O b d;exact cJ e
 have acl:ac<s3.heap.objs.size:=by subst R;subst q;simp [sU]
 refine wpAny_newFunctionEnv hcell (by intro y hy;simp at hy) (λh₁ B hsb₁=>?_) hkind;have old:∀ b o,s3.heap.get? b=some o->h₁.get? b=some o:=λb o e=>hsb₁.extBut b o (fG (cJ e)) (cP _ e);have I4:=alp (h_:=h_) (cN:=cN) (tk:=s3.toks+([]:List (Str×Value)).length) I3 f3 Nx hkind hcell j Vg B old;have M:tn 0 h₁:=T.keep 0 _ _ O λb d o e=>old b o e;let Y:=pC X (h_++cN.map (·.1)) scope (m6 X.env scope.names []) s3.heap.objs.size s3 (upd H2 ac (.lst [])) fp (X.pn++aq);have m:∀ s4:Shared,s4={ s3 with heap:=h₁,toks:=s3.toks+([]:List (Str×Value)).length }->codeAny (model X.prog X.w) X.A (.compLoop (.ListComp elt [⟨tg,jr,ifs,0⟩] scope pos) 0 (.ref it) (.ref ac) (compEnvC scope (m6 X.env scope.names []) s3.heap.objs.size X.env)) (compPost (model X.prog X.w) X.A X.xe use QQ (.ref ac) s3.heap.objs.size) s4:=by
  rintro s4 rfl;refine ahl (λn s'=>∃ i ys H',aJ Y [] (gR h_.length (cN.map (·.2)) σ) H' s'/\tn i s'.heap/\(∀ b∈fp,H' b=none)/\W i n ys H') ?_ m0 ⟨0,[],_,I4,M,λb d=>(f3 b d).1,w0⟩;rintro n s6 ⟨i,ys,H6,I6,D,V,w6⟩;obtain ⟨Ny,alt⟩:=l i n ys H6 w6;have VD:∀ {H':Hp},(∀ b∈fp,H' b=none)->∀ b∈fp,i_ Y [] H' b:=λ{H'} hn b d =>
   ⟨hn b d,fG (Nx b d),I6.ok.Eb b d,.inl d,(I6.ok.Nq b d).2,λp L z=>(f3 b d).2.2.2.2.2 p (by have hp':p∈(X.pn++aq)++[]:=L;simpa using hp') z⟩
  rcases alt with ⟨U,qn⟩|⟨go,hsz,N,hN,step⟩
  ·refine bH (T.done Y rfl rfl rfl hc i [] s6 _ H6 _ I6 (VD V) D U) λr s7 ⟨hr,I7⟩=>?_;subst hr;exact after _ s7 _ _ H6 _ _ I3 f3 I7 qn
  ·refine bH (T.item Y rfl rfl rfl hc i [] s6 _ H6 _ I6 (VD V) D go) λr s7 ⟨u,hr,h7⟩=>?_;subst hr;refine bH h7 λ_ s8 ⟨x,H8,I8,r8,y8,Wr,fr8⟩=>?_;have I8':=I8.pinned (VD fr8) (T.obj _ _ Wr);have eY:∀ {σ':St} {H':Hp} {s':Shared},aJ Y ([]++Du fp s8.heap) σ' H' s'->tn (i+1) s'.heap/\∀ b∈fp,H' b=none:=λ{σ' H' s'} J =>
    ⟨T.keep _ _ _ Wr λb d o e=>(J.pin (b,o) (iW _ (iW _ (JF d e)))).1,λb d=>by obtain ⟨o,e,_⟩:=T.obj _ _ Wr b d;exact (J.pin (b,o) (iW _ (iW _ (JF d e)))).2.1⟩
   refine bH (hg _ _ _ _ _ _ _ s8 _ H8 x u _ I8' r8 (step x H8 y8)) λ_ s9 ⟨σ9,H9,I9,wk,q9⟩=>bH (ht _ _ _ _ _ _ _ s9 σ9 H9 _ I9 q9) λb s10 ⟨iG,Ws,Nz⟩=>?_;cases b with
   |false =>rw [bw iV] at Nz ⊢;obtain ⟨m',t,w'⟩:=hN _ _ Nz;obtain ⟨e1,e2⟩:=eY Ws;exact ⟨m',t,i+1,ys,iG,(Ws.weak wk.len wk.get).xO,e1,e2,w'⟩
   |true =>rw [bF rfl] at Nz ⊢;refine bH (he _ _ _ _ _ _ _ s10 σ9 iG _ Ws Nz) λy Wu ⟨yv,yZ,I11,r11,asl,q11⟩=>?_;obtain ⟨m',t,w'⟩:=hN _ _ q11;refine bH (xK (X:=Y) (Du fp s8.heap) Wu σ9 yZ (.ref ac) [yv] (.ref ac) [y] (λv H'=>H'=upd yZ ac (.lst (ys++[yv]))) I11 rfl (.cons r11 .nil) ⟨ac,ys,yv,rfl,rfl,asl,hsz,rfl⟩) λ_ s12 ⟨Et,m_,S,_,e12⟩=>?_;subst e12;obtain ⟨e1,e2⟩:=eY S;exact ⟨m',t,i+1,_,_,(S.weak wk.len wk.get).xO,e1,e2,w'⟩
 exact codeAny_compStart_list (m _ rfl) (T.self _ 0 _ _ _ M (m _ rfl))
theorem gJ (h_:bR) (cN:List (Str×Nat)) (hc:X.calm=true) (hi:PI X tg jr wi) (hg:∀ cl C s H fp pn,PG (pC X (h_++cN.map (·.1)) scope cl C s H fp pn) tg g) (ht:∀ cl C s H fp pn,Ih (pC X (h_++cN.map (·.1)) scope cl C s H fp pn) ifs tt) (he:∀ cl C s H fp pn,PE (pC X (h_++cN.map (·.1)) scope cl C s H fp pn) elt te) (hkind:scope.kind=.function:=by rfl) (hcell:∀ y∈scope.names,y.2≠.cell:=by decide) (hfr:(scope.names.all λp=>p.2 != .free || X.env.scope.names.lookup p.1 == some .cell)=true:=by rfl) (hcp:(cN.all λc=>X.N[c.2]? == some c.1 && (X.env.scope.names.lookup c.1 == some .cell && scope.names.lookup c.1 == some .free))=true:=by rfl) (hnames:∀ x∈scope.names,x.2=.local->scope.names.lookup x.1=some .local:=by decide) (hs:∀ x,foldedSetIterable jr X.env x=pure x:=by intro _;rfl) : PE X (.ListComp elt [⟨tg,jr,ifs,0⟩] scope pos) (Vf wi h_.length (cN.map (·.2)) g tt te):=by
 intro aq s σ H Q I h;rw [eval_ListComp];refine abO h_ cN hc hi hg ht he hkind hcell hfr hcp hnames hs I h λD R σ5 J B M fp L l j q=>?_;obtain ⟨m,O,_⟩:=j.loc;refine ⟨m,O,λh' a=>?_⟩;have r:B D.heap.objs.size=none:=j.free;refine ⟨.ref M,B,?_,rfl,q⟩;have i:=j.aF;have u:Un (dY X.stack) fp J B D.heap h':=⟨λb o e n d k=>a.extBut b o (fG (cJ e)) (i.keep b o e n d k),λb o e n d k=>by
   obtain ⟨sl,z⟩:=i.slot b o e n d k;exact ⟨sl,a.extBut b _ (fG (cJ e)) z⟩,i.free,λb o e k=>by
   obtain ⟨o',z⟩:=i.there b o e k;exact ⟨o',a.extBut b _ (fG (cJ e)) z⟩,i.tups,i.lZ,λb ps q=>⟨(i.iw b ps q).1,λc o S x=>let z:=(i.iw b ps q).2 c o S x;⟨z.1,a.extBut c o (cH z.1 r) z.2⟩⟩⟩
 refine L.call' (s':={ R with heap:=h' }) (ch:=fp) j.os u (λb u e=>?_) j.bare (λb d=>⟨(l b d).2.2.2.1,(l b d).2.1,(l b d).2.2.2.2.1,(l b d).2.2.2.2.2⟩);refine (j.hok b u e).stay (λc v hc z=>a.extBut c v ?_ z) (λ_ z=>z) λ_ _ z=>z;rintro rfl;rcases hc with t|t
 ·rw [t,e] at r;cases r
 ·rw [r] at t;cases t
theorem Qi {spos:Pos} (hN:X.N.Nodup) (hix:X.N[i]?=some x) (hxl:wA X.env.scope x) (h_:bR) (cN:List (Str×Nat)) (hc:X.calm=true) (hi:PI X tg jr wi) (hg:∀ cl C s H fp pn,PG (pC X (h_++cN.map (·.1)) scope cl C s H fp pn) tg g) (ht:∀ cl C s H fp pn,Ih (pC X (h_++cN.map (·.1)) scope cl C s H fp pn) ifs tt) (he:∀ cl C s H fp pn,PE (pC X (h_++cN.map (·.1)) scope cl C s H fp pn) elt te) (hkind:scope.kind=.function:=by rfl) (hcell:∀ y∈scope.names,y.2≠.cell:=by decide) (hfr:(scope.names.all λp=>p.2 != .free || X.env.scope.names.lookup p.1 == some .cell)=true:=by rfl) (hcp:(cN.all λc=>X.N[c.2]? == some c.1 && (X.env.scope.names.lookup c.1 == some .cell && scope.names.lookup c.1 == some .free))=true:=by rfl) (hnames:∀ x∈scope.names,x.2=.local->scope.names.lookup x.1=some .local:=by decide) (hs:∀ x,foldedSetIterable jr X.env x=pure x:=by intro _;rfl) (hsw:swapsWith (.ListComp elt [⟨tg,jr,ifs,0⟩] scope pos) (some (.Name x pos')) spos.line X.env=pure true:=by rfl) (hf:X.fn x=true\/X.env.scope.names.lookup x=some .local:=by first|exact .inl rfl|exact .inr rfl|assumption) : PS X (.Assign [.Name x pos'] (.ListComp elt [⟨tg,jr,ifs,0⟩] scope pos) spos) (yL (Vf wi h_.length (cN.map (·.2)) g tt te) (kj i)):=by
 intro aq s σ H D I h;rw [exec_Assign_Name_used _ _ _ _ hsw];refine aW (Ma (aW ?_));show wpAny _ X.A (do let _ <-comprehension (.ListComp elt [⟨tg,jr,ifs,0⟩] scope pos) scope X.env _ (newList []) false (eval jr X.env) (some (assign (.Name x pos') X.env))) _ _ s;refine aW (bH (Q:=λ_ s'=>∃ σ' H',aJ X aq σ' H' s'/\D.nx σ' H') (abO (Q:=λv H'=>D.nx (σ.set i (some v)) H') h_ cN hc hi hg ht he hkind hcell hfr hcp hnames hs I h λn u σ5 H3 r J fp B l k q=>?_) λ_ s' S=>cB (cB S));obtain ⟨m,Y,_⟩:=k.loc;have L:r n.heap.objs.size=none:=k.free;have O:aJ X aq σ r u:=B.call' (s':=u) (ch:=fp) k.os k.aF k.hok k.bare (λb j=>⟨(l b j).2.2.2.1,(l b j).2.1,(l b j).2.2.2.2.1,(l b j).2.2.2.2.2⟩);have d:=B.m8 (bJ _) L;show wpAny _ X.A (assign (.Name x pos') X.env (.ref J)) _ _ u;refine wpAny_assign_Name (aa_ O hN hix hxl (v:=.ref J) rfl (λW R ⟨a,V,M⟩=>?_) hf);have U:n.heap.objs.size≠a:=by
  rcases M with z|z
  ·rw [z];exact d.2.1
  ·exact bL (d.2.2.2.2.1 x a z)
 exact ⟨m,Y.sameBut V U,λh' t=>⟨_,r,R.turned (it:=n.heap.objs.size) (t':=W.toks) (λb o j e=>t.extBut b o j e) L d.2.1 d.2.2.2.1 d.2.2.2.2.1 d.2.2.2.2.2,q⟩⟩
theorem qG {cN:gk} {R:Hp->Prop} (Pv:Nat->aD->Hp->Prop) (h0:Pv 0 [] (upd H1 l (.lst []))) (hz:n<=sizeLine) (hl:∀ i ys H,Pv i ys H->H l=some (.lst ys)/\ys.length<=i) (hs:∀ i ys H,i<n->Pv i ys H->g (.int (lo+i)) (gR own cN σ) H λσ2 H2=>Wk (gR own cN σ) σ2 /\tt σ2 H2 λb H3=>if b=true then te σ2 H3 λy H4=>H4 l=some (.lst ys)/\Pv (i+1) (ys++[y]) (upd H4 l (.lst (ys++[y]))) else Pv (i+1) ys H3) (hd:∀ ys H,Pv n ys H->R H) : ∃ W:Nat->Nat->aD->Hp->Prop,(∃ m,W 0 m [] (upd H1 l (.lst []))) /\∀ i m ys H,W i m ys H->H l=some (.lst ys)/\(((wO lo n).stop i H/\R H)\/((wO lo n).go i H/\ys.length<sizeLine/\∃ N:aD->Hp->Prop,(∀ ys' H',N ys' H'->∃ m',m'<m/\W (i+1) m' ys' H') /\∀ x H',(wO lo n).oM i H x H'->g x (gR own cN σ) H' λσ2 H2=>Wk (gR own cN σ) σ2 /\tt σ2 H2 λb H3=>if b=true then te σ2 H3 λy H4=>H4 l=some (.lst ys)/\N (ys++[y]) (upd H4 l (.lst (ys++[y]))) else N ys H3)):=by
 refine ⟨λi m ys H=>m=n-i/\i<=n/\Pv i ys H,⟨n,by simp,d_ _,h0⟩,?_⟩;rintro i m ys H ⟨rfl,hi,p⟩;obtain ⟨c,j⟩:=hl i ys H p;refine ⟨c,?_⟩;by_cases a:i<n
 ·refine .inr ⟨a,by lk, Pv (i+1),λys' H' d=>⟨n-(i+1),by lk, rfl,a,d⟩,λx H' y=>?_⟩;obtain ⟨e,y⟩:=y;subst e y;exact hs i ys _ a p
 ·have e:i=n:=by lk
  subst e;exact .inl ⟨bJ _,hd ys H p⟩
theorem rO {cN:gk} {R:Hp->Prop} (Pv:Nat->aD->Hp->Prop) (h0:Pv 0 [] (upd H1 l (.lst []))) (hz:xs.length<=sizeLine) (hl:∀ i ys H,i<=xs.length->Pv i ys H->dB K H a xs/\H l=some (.lst ys)/\ys.length<=i) (hs:∀ i x ys H,xs[i]?=some x->Pv i ys H->g x (gR own cN σ) H λσ2 H2=>Wk (gR own cN σ) σ2 /\tt σ2 H2 λb H3=>if b=true then te σ2 H3 λy H4=>H4 l=some (.lst ys)/\Pv (i+1) (ys++[y]) (upd H4 l (.lst (ys++[y]))) else Pv (i+1) ys H3) (hd:∀ ys H,Pv xs.length ys H->R H) : ∃ W:Nat->Nat->aD->Hp->Prop,(∃ m,W 0 m [] (upd H1 l (.lst []))) /\∀ i m ys H,W i m ys H->H l=some (.lst ys)/\(((yV K a).stop i H/\R H)\/((yV K a).go i H/\ys.length<sizeLine/\∃ N:aD->Hp->Prop,(∀ ys' H',N ys' H'->∃ m',m'<m/\W (i+1) m' ys' H') /\∀ x H',(yV K a).oM i H x H'->g x (gR own cN σ) H' λσ2 H2=>Wk (gR own cN σ) σ2 /\tt σ2 H2 λb H3=>if b=true then te σ2 H3 λy H4=>H4 l=some (.lst ys)/\N (ys++[y]) (upd H4 l (.lst (ys++[y]))) else N ys H3)):=by
 refine ⟨λi m ys H=>m=xs.length-i/\i<=xs.length/\Pv i ys H,⟨xs.length,by simp,d_ _,h0⟩,?_⟩;rintro i m ys H ⟨rfl,hi,p⟩;obtain ⟨q,d,k⟩:=hl i ys H hi p;refine ⟨d,?_⟩;by_cases c:i<xs.length
 ·refine .inr ⟨⟨xs,xs[i],q,by simp [c]⟩,by lk, Pv (i+1),λys' H' j=>⟨xs.length-(i+1),by lk, rfl,c,j⟩,λx H' y=>?_⟩;obtain ⟨e,y⟩:=y;subst e;exact hs i x ys _ (y xs q) p
 ·have e:i=xs.length:=by lk
  subst e;exact .inl ⟨⟨xs,q,bJ _⟩,hd ys H p⟩
theorem rT {cN:gk} {R:Hp->Prop} (Pv:Nat->aD->Hp->Prop) (h0:Pv 0 [] (upd H1 l (.lst []))) (hz:xs.length<=sizeLine) (hl:∀ i ys H,i<=xs.length->Pv i ys H->fY K H a xs/\H l=some (.lst ys)/\ys.length<=i) (hs:∀ i x ys H,xs[i]?=some x->Pv i ys H->g x (gR own cN σ) H λσ2 H2=>Wk (gR own cN σ) σ2 /\tt σ2 H2 λb H3=>if b=true then te σ2 H3 λy H4=>H4 l=some (.lst ys)/\Pv (i+1) (ys++[y]) (upd H4 l (.lst (ys++[y]))) else Pv (i+1) ys H3) (hd:∀ ys H,Pv xs.length ys H->R H) : ∃ W:Nat->Nat->aD->Hp->Prop,(∃ m,W 0 m [] (upd H1 l (.lst []))) /\∀ i m ys H,W i m ys H->H l=some (.lst ys)/\(((yW K a).stop i H/\R H)\/((yW K a).go i H/\ys.length<sizeLine/\∃ N:aD->Hp->Prop,(∀ ys' H',N ys' H'->∃ m',m'<m/\W (i+1) m' ys' H') /\∀ x H',(yW K a).oM i H x H'->g x (gR own cN σ) H' λσ2 H2=>Wk (gR own cN σ) σ2 /\tt σ2 H2 λb H3=>if b=true then te σ2 H3 λy H4=>H4 l=some (.lst ys)/\N (ys++[y]) (upd H4 l (.lst (ys++[y]))) else N ys H3)):=by
 refine ⟨λi m ys H=>m=xs.length-i/\i<=xs.length/\Pv i ys H,⟨xs.length,by simp,d_ _,h0⟩,?_⟩;rintro i m ys H ⟨rfl,hi,p⟩;obtain ⟨q,d,k⟩:=hl i ys H hi p;refine ⟨d,?_⟩;by_cases c:i<xs.length
 ·refine .inr ⟨⟨xs,xs[i],q,by simp [c]⟩,by lk, Pv (i+1),λys' H' j=>⟨xs.length-(i+1),by lk, rfl,c,j⟩,λx H' y=>?_⟩;obtain ⟨e,y⟩:=y;subst e;exact hs i x ys _ (y xs q) p
 ·have e:i=xs.length:=by lk
  subst e;exact .inl ⟨⟨xs,q,bJ _⟩,hd ys H p⟩
end
section
def asn (K:bI) (neg:Bool):R2:=λx y H Q=>∃ (a b:Addr) (ns c:aU),x=.ref a/\y=.ref b/\dB K H a (ns.map V.int)/\dB K H b (c.map V.int)/\Q (.bl (if neg then !decide (ns=c) else decide (ns=c))) H
theorem aec (hu:X.A.units+64<cLine):dN X (compareOp .NotEq) (asn X.K true):=by rintro aq s σ H x y v u Q I i l ⟨a,b,ns,m,rfl,rfl,e,g,q⟩;cases i;cases l;obtain ⟨aM,j,d,_⟩:=I.list e;obtain ⟨c,k,p2,_⟩:=I.list g;exact PySem.W.ne_intsK d.isList (intsAre_of j) p2.isList (intsAre_of k) hu ⟨.bl _,H,I,rfl,q⟩
def apJ (K:bI):R2:=λx y H Q=>∃ (a b:Addr) (xs:aD),x=.ref a/\y=.ref b/\dB K H a xs/\dB K H b []/\Q (.bl (decide (xs=[]))) H
theorem abP (hu:X.A.units<cLine):dN X (compareOp .Eq) (apJ X.K):=by
 rintro aq s σ H x y v u Q I k n ⟨a,b,xs,rfl,rfl,g,i,q⟩;cases k;cases n;obtain ⟨aM,l,c,_⟩:=I.list g;obtain ⟨d,m,p2,_⟩:=I.list i;cases m;cases l with
 |nil=>exact SeqAt.eq_listAt (e:=λ_=>true) c.isList p2.isList rfl hu (λj h1 h2=>absurd h1 (by simp)) ⟨.bl true,H,I,rfl,by simpa using q⟩
 |cons r o=>exact SeqAt.eq_list_lengthsAt c.isList p2.isList (by simp) hu ⟨.bl false,H,I,rfl,by simpa using q⟩
inductive agB (K:bI) (xs:aD) (H:Hp) (Q:VK):Prop
 |mk (x:_) (T:_) (t:_) (b:_) (h1:xs=[x,.ty T]) (h2:jh K H x t) (h3:kitOne K t (.type T)=some b) (h4:Q (.bl b) H)
theorem Fy:iZ X (.builtin "isinstance") (agB X.K):=by rintro aq s σ H xs us Q I r ⟨x,T,t,b,rfl,ty,e,q⟩;obtain ⟨u,v,rfl,a,c⟩:=r.two;cases c;exact ai_ I a ty e λtk=>⟨.bl b,H,I.tok tk,rfl,q⟩
inductive ahm (K:bI) (xs:aD) (H:Hp) (Q:VK):Prop
 |mk (p:Addr) (bs:List Bool) (h1:xs=[.ref p]) (h2:dB K H p (bs.map V.bl)) (h3:Q (.bl (bs.all id)) H)
theorem Qx (hc:X.calm=true):iZ X (.builtin "all") (ahm X.K):=by
 rintro aq s σ H xs us Q I r ⟨p,bs,rfl,m,q⟩;obtain ⟨u,rfl,l⟩:=r.one;cases l;obtain ⟨aM,j,pl,O⟩:=I.list m;have J:p<s.heap.objs.size:=by obtain ⟨o,n,e,_⟩:=pl;exact cJ e
 refine call_all_walk (Ds pl.isList ⟨_,_,_,_,_,_,λi=>bs.getD i true,rfl,Gv (A:=X.A.in1) (I.ok.hd hc) s.heap.objs.size p (fG J) aM.toArray,⟨⟨_,eV _ rfl,rfl,rfl⟩,?_⟩,?_,λh' tk t=>?_⟩)
 ·obtain ⟨o,n,e,c,d,N⟩:=pl;exact ⟨o,cP _ e,c,n,N⟩
 ·intro i v s' M R C L;have hi:aM[i]?=some v:=by simpa using C
  have k:=j.length;cases e:bs[i]? with
  |none =>
   have h1:aM.length<=i:=by have:=CJ.mp e;rw [<-k,bD];exact this
   rw [CJ.mpr h1] at hi;cases hi
  |some b =>
   have B:(bs.map V.bl)[i]?=some (.bl b):=by rw [lN,e];rfl
   obtain ⟨u,x,l⟩:=j.get B;rw [hi] at x;cases x;cases l;have y:bs.getD i true=b:=by simp [List.getD,e]
   have a:M (bs.getD i true) s':=L;rw [y] at a;exact pZ a
 ·have k:aM.toArray.size=bs.length:=by have:=j.length;rw [bD] at this;simp [this]
  have e:(range aM.toArray.size).all (λi=>bs.getD i true)=bs.all id:=by
   rw [k];clear q k j m t;rw [vX,xU,xU];constructor
   ·intro h b D;obtain ⟨i,hi,rfl⟩:=Ky.mp D;have:=h i (by simpa using hi);simpa [List.getD,hi] using this
   ·intro h i hi;have g:i<bs.length:=by simpa using hi
    have:=h bs[i] (RD g);simpa [List.getD,g] using this
  refine ⟨.bl (bs.all id),H,?_,gM Value.bool e,q⟩
  ·exact I.kept (t':=tk) λb o e=>t b o (by
    intro z;have:b=s.heap.objs.size:=by simpa using z
    exact absurd (cJ e) (by rw [this];exact qP _)) (cP _ e)
def q8 (ns:aU) (m:Int):Prop:=m∈ns/\∀ a∈ns,a<=m
theorem alq {B:Addr} {vals:cG} (hh:A.handled=none) (hi:IntsAre vals ns) (h1:l≠it) (h2:B≠it) (h3:B≠l) : ∀ (k j:Nat) (s:Shared) (m:Int) (t:Tok) (c:Nat),ns.length-j=k->j<=ns.length->s.heap.IsListIter it l j->s.heap.IsList l vals.toArray->q8 (ns.take j) m ->s.heap.get? B=some { cls:=.type "list",dict:=none,data:=.seq #[.int m t,.int m t] c,slots:=#[] } ->(∀ (m':Int) (t':Tok) h' tk,q8 ns m'->(∀ b o,b≠it->b≠B->s.heap.get? b=some o->h'.get? b=some o)->R (.ok (.ret (.int m' t'))) { s with heap:=h',toks:=tk }) ->codeAny (model P w) A (.builtin "max.loop" ⟨[.ref it,.none,.ref B],kw⟩) R s:=by
 have nm:(toString "max"++toString ".loop":String)="max.loop":=by decide
 have fU:=hi.length;intro k;induction k with
 |zero =>
  intro j s m t c hk S st sl v z d;have U:j=ns.length:=by lk
  subst U;refine vB RG ?_;rw [xV zW _];show wpAny (model P w) A.in1 (seqItems? (.ref B) >>= _) _ _ s;refine aW (oW z rfl ?_);show wpAny (model P w) A.in1 (tryCatch (pyNext (.ref it)) _ >>= _) _ _ s;refine aW (sE (T7 hh st sl (by simp;lk) λh' L=>?_));have g:=L B _ h2 z;show wpAny (model P w) A.in1 (updateSeq B (λ_=>#[]) >>= _) _ _ _;refine aW (CK g rfl (aW (sG (cB ?_))));rw [gG] at v;exact d m t _ s.toks v λb o r n2 e=>(vp _ _ (bL n2)).trans (L b o r e)
 |succ k M =>
  intro j s m t c hk S st sl v z d;have lt:j<ns.length:=by lk
  obtain ⟨i,Y⟩:∃ i,vals[j]?=some (.int ns[j] i):=by
   have O:(ns.map V.int)[j]?=some (.int ns[j]):=by rw [lN];simp [lt]
   obtain ⟨u,hu,i,rfl⟩:=(JL hi).get O;exact ⟨i,hu⟩
  refine vB RG ?_;rw [xV zW _];show wpAny (model P w) A.in1 (seqItems? (.ref B) >>= _) _ _ s;refine aW (oW z rfl ?_);show wpAny (model P w) A.in1 (tryCatch (pyNext (.ref it)) _ >>= _) _ _ s;refine aW (sE (TY st sl (x:=.int ns[j] i) (by simpa using Y) λh' N W=>?_));have keep:∀ b o,b≠it->s.heap.get? b=some o->h'.get? b=some o:=λb o n e=>(W.2 b n).trans e;have g:=keep B _ h2 z;have C:h'.IsList l vals.toArray:=sl.at λo e=>keep l o h1 e;show wpAny (model P w) A.in1 (tryCatch (holding [Value.int ns[j] i,Value.int ns[j] i] (richCompare .Gt (Value.int ns[j] i) (Value.int m t) >>= _)) _ >>= _) _ _ _;refine aW (sE (mX (aW (gt_int (show _ from (aW (mX (pZ (aW (sG (cB ?_)))))))))));have y:ns.take (j+1)=ns.take j++[ns[j]]:=by rw [Kz];simp [lt]
  by_cases J:m<ns[j]
  ·rw [d7 J];simp only [rZ];refine aW (CK g rfl (aW (sG ?_)));rw [nm];refine cB ⟨vC zW _,M (j+1) _ ns[j] i _ (by lk) lt ?_ ?_ ?_ (Kl _ g rfl) λm' t' p tk I kk=>?_⟩
   ·exact N.at λo e=>(vp _ _ h2).trans e
   ·exact C.at λo e=>(vp _ _ h3).trans e
   ·rw [y];exact ⟨iW _ (iu.mpr rfl),λa D=>by
     rcases o9.mp D with q|q
     ·have:=v.2 a q;lk
     ·have:a=ns[j]:=by simpa using q
      lk⟩
   ·exact d m' t' p tk I λb o r n2 e=>kk b o r n2 ((vp _ _ (bL n2)).trans (keep b o r e))
  ·rw [kh J];simp only [Bool.false_eq_true,Ar];refine aW (sG ?_);rw [nm];refine cB ⟨vC zW _,M (j+1) _ m t c (by lk) lt N C ?_ g λm' t' p tk I kk=>?_⟩
   ·rw [y];exact ⟨Ag _ v.1,λa D=>by
     rcases o9.mp D with q|q
     ·exact v.2 a q
     ·have:a=ns[j]:=by simpa using q
      lk⟩
   ·exact d m' t' p tk I λb o r n2 e=>kk b o r n2 (keep b o r e)
theorem alr {B:Addr} {vals:cG} {d:Value} (hh:A.handled=none) (hi:IntsAre vals ns) (h1:l≠it) (h2:B≠it) (h3:B≠l) (st:s.heap.IsListIter it l 0) (sl:s.heap.IsList l vals.toArray) (hB:s.heap.get? B=some { cls:=.type "list",dict:=none,data:=.seq #[] c,slots:=#[] }) (nil:ns=[]->∀ h',(∀ b o,b≠it->b≠B->s.heap.get? b=some o->h'.get? b=some o)->R (.ok (.ret d)) { s with heap:=h' }) (done:ns≠[]->∀ (m':Int) (t':Tok) h' tk,q8 ns m'->(∀ b o,b≠it->b≠B->s.heap.get? b=some o->h'.get? b=some o)->R (.ok (.ret (.int m' t'))) { s with heap:=h',toks:=tk }) : codeAny (model P w) A (.builtin "max.loop" ⟨[.ref it,.none,.ref B],[("default",d)]⟩) R s:=by
 have nm:(toString "max"++toString ".loop":String)="max.loop":=by decide
 have t:=hi.length;refine vB RG ?_;rw [xV zW _];show wpAny (model P w) A.in1 (seqItems? (.ref B) >>= _) _ _ s;refine aW (oW hB rfl ?_);show wpAny (model P w) A.in1 (tryCatch (pyNext (.ref it)) _ >>= _) _ _ s;cases ns with
 |nil =>refine aW (sE (T7 hh st sl (by simpa using t) λh' r=>?_));refine aW (CN (cB ?_));exact nil rfl h' λb o k n2 e=>r b o k e
 |cons g rest =>
  obtain ⟨i,y⟩:∃ i,vals[0]?=some (.int g i):=by have p:((g::rest).map V.int)[0]?=some (.int g):=rfl;obtain ⟨u,z,i,rfl⟩:=(JL hi).get p;exact ⟨i,z⟩
  refine aW (sE (TY st sl (x:=.int g i) (by simpa using y) λh' C v=>?_));have keep:∀ b o,b≠it->s.heap.get? b=some o->h'.get? b=some o:=λb o n e=>(v.2 b n).trans e;have j:=keep B _ h2 hB;show wpAny (model P w) A.in1 (updateSeq B (λ_=>#[Value.int g i,Value.int g i]) >>= _) _ _ _;refine aW (CK j rfl ?_);rw [nm];refine cB ⟨vC zW _,alq hh hi h1 h2 h3 _ 1 _ g i _ rfl (by simp) ?_ ?_ ?_ (Kl _ j rfl) λm' t' m tk D kk=>?_⟩
  ·exact C.at λo e=>(vp _ _ h2).trans e
  ·exact (sl.at λo e=>keep l o h1 e).at λo e=>(vp _ _ h3).trans e
  ·exact ⟨by simp,λa q=>by
    have:a=g:=by simpa using q
    lk⟩
  ·exact done (by simp) m' t' m tk D λb o k n2 e=>kk b o k n2 ((vp _ _ (bL n2)).trans (keep b o k e))
theorem aje (a v:Value):argsOk "max" ⟨[a],[(ofString "default",v)]⟩:=by unfold argsOk;kernel_rfl
theorem ajf {vals:cG} {d:Value} (hh:A.handled=none) (hi:IntsAre vals ns) (sl:s.heap.IsList l vals.toArray) (nil:ns=[]->∀ h',(∀ b o,s.heap.get? b=some o->h'.get? b=some o)->Q d { s with heap:=h' }) (done:ns≠[]->∀ (m':Int) (t':Tok) h' tk,q8 ns m'->(∀ b o,s.heap.get? b=some o->h'.get? b=some o)->Q (.int m' t') { s with heap:=h',toks:=tk }) : wpAny (model P w) A (call (.builtin "max") [.ref l] [(ofString "default",d)]) Q E s:=by
 have nm:(toString "max"++toString ".loop":String)="max.loop":=by decide
 have c:l<s.heap.objs.size:=by obtain ⟨o,e,_⟩:=sl;exact cJ e
 refine kmk_tree F.kind_max F.plain_max F.entry_max (aje _ _) ?_;show wpAny (model P w) A.in1 (bindParams "max" ["key","default"] 0 ⟨[],[(ofString "default",d)]⟩ >>= _) _ _ s;refine aW (wpAny_of_eq (show bindParams "max" ["key","default"] 0 ⟨[],[(ofString "default",d)]⟩=pure [none,some d] from rfl) (aW (cB (aW (Ds sl (aW (su ?_)))))));rw [nm];have a:∀ b o,s.heap.get? b=some o->((s.heap.push { cls:=.type "list_iterator",data:=.fields #[.ref l,.int 0 0] }).push { cls:=.type "list",dict:=none,data:=.seq ([]:cG).toArray }).get? b=some o:=λb o e =>
  cP _ (cP _ e)
 have z:(s.heap.push { cls:=.type "list_iterator",data:=.fields #[.ref l,.int 0 0] }).objs.size=s.heap.objs.size+1:=sU ..;refine cB ⟨vC zW _,alr (l:=l) (B:=(s.heap.push { cls:=.type "list_iterator",data:=.fields #[.ref l,.int 0 0] }).objs.size) hh hi (fG c) (by rw [z];exact RJ _) (by rw [z];exact vW (KC c)) ?_ (sl.at λo e=>a l o e) (eV _ rfl) (λe h' kk=>?_) λe m' t' h' tk g kk=>?_⟩
 ·exact ⟨_,cP _ (eV _ rfl),rfl,rfl⟩
 ·exact nil e h' λb o q=>kk b o (fG (cJ q)) (by rw [z];exact fG (KC (cJ q))) (a b o q)
 ·exact done e m' t' h' tk g λb o q=>kk b o (fG (cJ q)) (by rw [z];exact fG (KC (cJ q))) (a b o q)
def aqX (K:bI) (te td:TE):TE:=λσ H Q=>te σ H λx H1=>td σ H1 λd H2=>∃ (l:Addr) (ns:aU),x=.ref l/\dB K H2 l (ns.map V.int)/\(ns=[]->Q d H2)/\∀ m,q8 ns m->Q (.int m) H2
theorem anH {d:Expr} {td:TE} {kp:Pos} (hc:X.calm=true) (hg:Gl X "max") (hm:X.mg "max"=none) (he:PE X e te) (hd:PE X d td) (hst:starEach [e] X.env=[(false,eval e X.env)]:=by rfl):PE X (.Call (.Name "max" p) [e] [⟨some "default",d,kp⟩] pos) (aqX X.K te td):=by intro aq s σ H Q I h;refine Al (sV I hg hm zX ?_);rw [hst];refine PyProof.Rows.callWith_builtin_kwB rfl rfl (PyProof.Rows.evalArgs_kwB rfl ?_);refine Ud (bH (he aq s σ H _ I h) λu i ⟨x,H1,c,m,g⟩=>Uc ?_);refine PyProof.Rows.kws_cons (bH (hd aq i σ H1 _ c g) λy n ⟨dx,H2,a,r,v⟩=>PyProof.Rows.kws_nil ?_);obtain ⟨l,ns,rfl,o,q,t⟩:=v;cases m;obtain ⟨aM,k,pl,z⟩:=a.list o;exact ajf (a.ok.hd hc) (intsAre_of k) pl.isList (λe h' kk=>⟨dx,H2,a.kept (t':=n.toks) kk,r,q e⟩) λe b t' h' tk j kk=>⟨.int b,H2,a.kept (t':=tk) kk,⟨_,rfl⟩,t b j⟩
end
structure mC (P:Program) (w:World) (K:bI) (mg:dH) (aF:Heap) (x:Str) (k:Nat) (ps:bR) (sp:Sp):Prop where
 ex:∃ (f:Addr) (fd:FuncData),dz P w K mg aF jj k f fd ps sp/\oZ K fd ps []/\keepIn K (.ref f)=true/\mg x=some (.ref f)
theorem mC.mono {k j:Nat} (C:mC P w K mg aF x k ps sp) (h:k<=j):mC P w K mg aF x j ps sp :=
 let ⟨f,fd,a,b,c,d⟩:=C.ex
 ⟨f,fd,a.mono h,b,c,d⟩
theorem mC.imp {k:Nat} {uP:Sp} (C:mC P w K mg aF x k ps sp) (h:∀ vs H Q E,uP vs H Q E->sp vs H Q E):mC P w K mg aF x k ps uP :=
 let ⟨f,fd,a,b,c,d⟩:=C.ex
 ⟨f,fd,a.imp h,b,c,d⟩
theorem aZ {k:Nat} {t:TA} (C:mC X.prog X.w X.K X.mg X.aF x k ps sp) (hr:dW k X.A) (hg:Gl X x) (ha:PA X (e::es) t) (hdb:(x == ("__debug__":Str))=false:=by decide) (he:starEach (e::es) X.env=(false,eval e X.env)::starEach es X.env:=by rfl) (hpl:(backTo pos (starEach es X.env)).any (·.1)=false:=by rfl) : PE X (.Call (.Name x p) (e::es) [] pos) (Vb sp [] E0 t):=by obtain ⟨f,fd,F,b,c,a⟩:=C.ex;exact ac5 F hr hg a c b .nil Ve ha hdb he hpl
structure lU (K:bI) (mg:dH) (x:Str) (st:Stmt) (f:Addr) (fd:FuncData):Prop where
 fn:tX K x x st f fd
 at_:mg x=some (.ref f)
theorem lU.callee {k:Nat} (h:lU K mg x st f fd) (F:dz P w K mg aF jj k f fd ps sp) (hb:∀ (kV doc pm:Value) (an:jf) (cdv ct:Value) (us:cG),us.length=ps.length->bindArgs (fnOf x x (jX st) (jk st) (dX st) .none kV doc pm an cdv ct) ⟨us,[]⟩=pure (ps.zip us)):mC P w K mg aF x k ps sp:=⟨f,fd,F,h.fn.binds hb,h.fn.kp,h.at_⟩
theorem xM:bootBuiltins "int"=some (.type "int"):=by k_go
theorem Ce:bootBuiltins "list"=some (.type "list"):=by k_go
theorem qF:bootBuiltins "tuple"=some (.type "tuple"):=by k_go
theorem boot_isinstance:bootBuiltins "isinstance"=some (.builtin "isinstance"):=by k_go
theorem boot_all:bootBuiltins "all"=some (.builtin "all"):=by k_go
inductive ahn (K:bI) (xs:aD) (H:Hp) (Q:VK):Prop
 |mk (p:Addr) (ns:aU) (h1:xs=[.ref p]) (h2:dB K H p (ns.map V.int)) (h3:ns≠[]) (h4:∀ m,q8 ns m->Q (.int m) H)
theorem ajg (hc:X.calm=true):iZ X (.builtin "max") (ahn X.K):=by
 rintro aq s σ H xs us Q I r ⟨p,ns,rfl,n,x,q⟩;obtain ⟨u,rfl,i⟩:=r.one;cases i;obtain ⟨aM,l,pl,B⟩:=I.list n;have hi:IntsAre aM ns:=intsAre_of l;have pos:0<ns.length:=CP.mpr x;have b:=pl.isList;obtain ⟨ys,e⟩:=hi.allInts.items;have c:ns=ys.toList.map (·.1):=by rw [<-hi.numsOf,<-nums_intItems,<-e]
 have y:ns.length=ys.size:=by rw [c];simp
 rw [e] at b;refine max_intList (I.ok.hd hc) b (by lk) λv h' tk m o=>?_;obtain ⟨t,rfl⟩:=intItems_at m;obtain ⟨z,g⟩:=argBest_gt (numAt ys) (ys.size-1);refine ⟨.int _,H,I.kept (t':=tk) o,⟨t,rfl⟩,q _ ⟨?_,λa d=>?_⟩⟩
 ·rw [c,numAt_eq];exact getD_mem (by rw [bD];rw [sS];lk)
 ·rw [c] at d;obtain ⟨j,k,rfl⟩:=mem_getD d;rw [<-numAt_eq];exact g j (by simp at k;lk)
section
variable (K:bI) (hK:X.K=K)
include hK
theorem Gi:Es X (VB K):=by subst hK;exact ac_
theorem Lr:Es X (M5 K):=by subst hK;exact aea
theorem ah5:dN X (compareOp .In) (Wo K false):=by subst hK;exact aja
theorem anI {k:Nat} {t:yU} (hc:X.calm=true) (h:Ig X es t) (hn:(assignEach es X.env).length=n:=by rfl) (hst:(assignEach es X.env).findIdx? (·.1)=none:=by rfl):PG X (.Tuple es k pos) (ae7 K n t):=by subst hK;exact pB hc h hn hst
end
theorem bM {p:Addr} (h:H p=none) (o:HO):aG H (upd H p o):=λb u q=>by rw [bh (cH q h)];exact q
def Kp (m:Addr) (H H':Hp):Prop:=∀ b o,H b=some o->b≠m->H' b=some o
theorem Kp.refl (m:Addr) (H:Hp):Kp m H H:=λ_ _ h _=>h
theorem Kp.trans {m:Addr} (a:Kp m H H1) (b:Kp m H1 H2):Kp m H H2:=λc o h n=>b c o (a c o h n) n
def cV:=@Kp.trans
theorem Kp.same {m:Addr} (h:aG H H'):Kp m H H':=λb o e _=>h b o e
def q_:=@Kp.same
theorem Kp.upd {m:Addr}:Kp m H (upd H m o):=λb u e n=>by rw [bh n];exact e
def rm:=@Kp.upd
theorem Kp.tup {m:Addr} {H H':Hp} {xs ys:aD} (k:Kp m H H') (hm:H m=some (.lst xs)) {b:Addr} (h:H b=some (.tup ys)):H' b=some (.tup ys):=k b _ h (oJ h hm (by intro z;cases z))
def jB (H:Hp) (p:Addr):Prop:=∃ a b c:Int,H p=some (.lst [.int a,.int b,.int c])
def bZ (H:Hp):aD->aK->Prop:=Paired λr w=>∃ t,r=.ref t/\H t=some (.tup [.int w.1,.int w.2])
theorem bZ.mono (k:∀ b xs,H b=some (.tup xs)->H' b=some (.tup xs)):∀ {rs:aD} {ws:aK},bZ H rs ws->bZ H' rs ws
 |_,_,.nil=>.nil
 |_,_,.cons ⟨t,e,h⟩ r=>.cons ⟨t,e,k t _ h⟩ (bZ.mono k r)
theorem bZ.same (k:aG H H') (h:bZ H rs ws):bZ H' rs ws:=h.mono λb xs e=>k b _ e
theorem bZ.kp {m:Addr} (k:Kp m H H') (hm:H m=some (.lst xs)) (h:bZ H rs ws):bZ H' rs ws:=h.mono λb xs e=>k.tup hm e
theorem bZ.len (h:bZ H rs ws):rs.length=ws.length:=uE h
theorem bZ.app:∀ {rs qs:aD} {ws us:aK},bZ H rs ws->bZ H qs us->bZ H (rs++qs) (ws++us)
 |_,_,_,_,.nil,s=>s
 |_,_,_,_,.cons r t,s=>.cons r (bZ.app t s)
theorem bZ.get:∀ {rs:aD} {ws:aK} {i:Nat} {r:V},bZ H rs ws->rs[i]?=some r->∃ w t,ws[i]?=some w/\r=.ref t/\H t=some (.tup [.int w.1,.int w.2])
 |_,_,_,_,.nil,e=>by simp at e
 |_,_,0,_,.cons ⟨t,e1,h⟩ _,e=>by simp at e;subst e;exact ⟨_,t,rfl,e1,h⟩
 |_,_,i+1,r,.cons _ q,e=>by obtain ⟨w,t,a,b⟩:=bZ.get (i:=i) (r:=r) q (by simpa using e);exact ⟨w,t,by simpa using a,b⟩
theorem bZ.take:∀ {rs:aD} {ws:aK} (n:Nat),bZ H rs ws->bZ H (rs.take n) (ws.take n)
 |_,_,0,_=>.nil
 |_,_,_+1,.nil=>.nil
 |_,_,n+1,.cons r t=>.cons r (bZ.take n t)
theorem bZ.drop:∀ {rs:aD} {ws:aK} (n:Nat),bZ H rs ws->bZ H (rs.drop n) (ws.drop n)
 |_,_,0,r=>r
 |_,_,_+1,.nil=>.nil
 |_,_,n+1,.cons _ t=>bZ.drop n t
theorem bZ.rep (h:bZ H rs ws):∀ k:Nat,bZ H (replicate k rs).flatten (replicate k ws).flatten
 |0=>.nil
 |k+1=>by rw [kI,kI,sy,sy];exact h.app (bZ.rep h k)
def eN (H:Hp) (l:Addr) (ws:aK):Prop:=∃ rs,H l=some (.lst rs)/\bZ H rs ws
theorem eN.same (k:aG H H') (h:eN H l ws):eN H' l ws:=let ⟨rs,a,b⟩:=h;⟨rs,k l _ a,b.same k⟩
theorem eN.kp {m:Addr} (k:Kp m H H') (hm:H m=some (.lst xs)) (n:l≠m) (h:eN H l ws):eN H' l ws:=let ⟨rs,a,b⟩:=h;⟨rs,k l _ a n,b.kp k hm⟩
def bC (aj:Int) (ws:aK):Prop:=∀ w∈ws,0<=w.1/\w.1<aj/\0<=w.2/\w.2<aj/\w.1≠w.2
theorem bC.nil:bC aj []:=λ_ h=>nomatch h
theorem bC.app {a b:aK} (x:bC aj a) (y:bC aj b):bC aj (a++b):=λw h=>(o9.mp h).elim (x w) (y w)
theorem bC.take {a:aK} (x:bC aj a) (n:Nat):bC aj (a.take n):=λw h=>x w (KH h)
theorem bC.drop {a:aK} (x:bC aj a) (n:Nat):bC aj (a.drop n):=λw h=>x w (RK h)
theorem bC.one {a:Int} (h:0<=a/\a<aj/\0<=b/\b<aj/\a≠b):bC aj [(a,b)]:=λw c=>by
 have:w=(a,b):=by simpa using c
 subst this;exact h
def dD (H:Hp) (v:V) (aj:Int) (ws:aK):Prop:=∃ n t rs,v=.ref n/\H n=some (.tup [.int aj,.ref t])/\H t=some (.tup rs)/\bZ H rs ws
theorem dD.mono (k:∀ b xs,H b=some (.tup xs)->H' b=some (.tup xs)) (h:dD H v aj ws):dD H' v aj ws :=
 let ⟨n,t,rs,a,b,c,d⟩:=h
 ⟨n,t,rs,a,k _ _ b,k _ _ c,d.mono k⟩
theorem aN (h:n<=100000):n<=sizeLine:=eU h (by rw [uy];decide)
theorem pH (h:n<100000):n<sizeLine:=j9 h (by rw [uy];decide)
theorem Td {c:Prop} [Decidable c] (h:¬ decide c=true):¬ c:=λz=>h (d7 z)
end
variable {G:Hp} {d:aU} {z:Int}
section
structure Bn (mg:dH):Prop where
 Vh:mg "len"=none
 yD:mg "max"=none
 aeL:mg "min"=none
 wD:mg "int"=none
 apK:mg "bool"=none
 Ay:mg "list"=none
 o7:mg "tuple"=none
 mJ:mg "str"=none
 aud:mg "dict"=none
 iT:mg "range"=none
 xu:mg "isinstance"=none
 Vi:mg "all"=none
 auj:mg "any"=none
 Qe:mg "enumerate"=none
 aqY:mg "sum"=none
 auk:mg "abs"=none
 at3:mg "sorted"=none
 atH:mg "reversed"=none
 Hq:mg "zip"=none
 aul:mg "ord"=none
 aue:mg "repr"=none
 aum:mg "set"=none
 at4:mg "divmod"=none
 atn:mg "ValueError"=none
 atJ:mg "KeyError"=none
def aqZ (i j:Int):Prop:=0<j/\j<2 ^ 250
theorem JV:dN X (binaryOp .FloorDiv) (rI aqZ λi j=>.int (i / j)):=Ep λi j _ _ _ _ _ a q=>by
 have h1:(0:Int)<j:=a.1;have h2:j.natAbs<2 ^ 250:=by have:=a.2;lk
 refine PyProof.Rows.floordiv_int (by lk) (by rw [T9 i (by lk)];exact q) (.inl (acB ?_));have b:j.natAbs.log2<250:=(Nat.log2_lt (by lk)).mpr h2;lk
theorem Kp.put {m:Addr} (hl:H l=none) (k:Kp m H H1):Kp m H (L2.upd H1 l o):=λb u e n=>by rw [bh (cH e hl)];exact k b u e n
theorem aG.put (hl:H l=none) (k:aG H H1):aG H (upd H1 l o):=λb u e=>by rw [bh (cH e hl)];exact k b u e
def bO:=@aG.put
theorem nZ {i:Int} (h0:0<=i) (h1:i<ns.length):gD (ns.map V.int) i=some (.int (ns.getD i.toNat 0)):=by
 obtain ⟨j,rfl⟩:∃ j:Nat,i=(j:Int):=⟨i.toNat,by lk⟩;have h2:j<ns.length:=by lk
 refine vK ?_;rw [lN,o_];simp [List.getD,h2]
theorem bK {c A:Prop} [Decidable c] (h:¬ c) (b:B):if c then A else B:=by rw [bw h];exact b
theorem cA {c A:Prop} [Decidable c] (h:c) (a:A):if c then A else B:=by rw [bF h];exact a
theorem M6 {x y:α} [inst:Decidable (x=y)] (h:x=y):¬ (!decide (x=y))=true:=by simp [h]
theorem veq {a:Int} (g:decide (V.int a=V.int b)=true):a=b:=V.int.inj (iM g)
theorem vne {a:Int} (g:¬ decide (V.int a=V.int b)=true):a≠b:=λz=>g (d7 (by rw [z]))
theorem FN {p u:Addr} (hp:H p=some (.lst xs)) (fu:H u=none) (o:HO):Kp p H (upd H u o)/\(upd H u o) p=some (.lst xs)/\(upd H u o) u=some o/\u≠p:=⟨q_ (bM fu o),(bM fu o) _ _ hp,aO,bL (cH hp fu)⟩
theorem bZ.cut (h:bZ H rs ws) (lo hi:Option Int):∃ us,bZ H (fX rs lo hi) us/\(∀ w∈us,w∈ws)/\us.length<=ws.length:=⟨_,(h.drop _).take _,λw a=>RK (KH a),by rw [eF,jO];lk⟩
theorem bC.sub {us:aK} (h:bC aj ws) (s:∀ w∈us,w∈ws):bC aj us:=λw a=>h w (s w a)
theorem ac' (h:bZ H rs ws) {i:Int} (h0:0<=i) (h1:i<rs.length):∃ t w,gD rs i=some (.ref t)/\w∈ws/\ws[i.toNat]?=some w/\H t=some (.tup [.int w.1,.int w.2]):=by
 obtain ⟨j,rfl⟩:∃ j:Nat,i=(j:Int):=⟨i.toNat,by lk⟩;have d:j<rs.length:=by lk
 have e:rs[j]?=some rs[j]:=by simp [d]
 obtain ⟨w,t,a,c,b⟩:=h.get e;rw [c] at e;exact ⟨t,w,vK e,fQ a,by simpa using a,b⟩
inductive apL (K:bI) (vs:aD) (H:Hp) (Q:VK):Prop
 |mk (a:Addr) (ns:aU) (k:Int) (h1:vs=[.ref a,.int k]) (h2:dB K H a (ns.map V.int)) (h3:ns.length<=63) (h4:0<=k) (h5:k<100) (h6:∀ (p:Addr) (a' b' c':Int),H p=none->Q (.ref p) (upd H p (.lst [.int a',.int b',.int c'])))
def aq0 (K:bI):=nE (apL K)
inductive anJ (vs:aD) (H:Hp) (Q:VK):Prop
 |mk (p:Addr) (a b c n:Int) (h1:vs=[.ref p,.int n]) (h2:H p=some (.lst [.int a,.int b,.int c])) (h3:0<n) (h4:n<2 ^ 250) (h5:∀ (v a' b' c':Int),0<=v->v<n->Q (.int v) (upd H p (.lst [.int a',.int b',.int c'])))
def apM:=nE anJ
inductive ah6 (vs:aD) (H:Hp) (Q:VK):Prop
 |mk (p:Addr) (aj many:Int) (h1:vs=[.ref p,.int aj,.int many]) (h2:jB H p) (h3:1<=aj) (h4:aj<=8) (h5:0<=many) (h6:many<=41) (h7:∀ (l:Addr) (ws:aK) (H':Hp),H l=none->Kp p H H'->jB H' p->eN H' l ws->bC aj ws->(ws.length:Int)<=many->Q (.ref l) H')
def ajh:=nE ah6
def iY (by_:Int) (w:Int×Int):Int×Int:=(w.1+by_,w.2+by_)
inductive aji (vs:aD) (H:Hp) (Q:VK):Prop
 |mk (a:Addr) (ws:aK) (k:Int) (h1:vs=[.ref a,.int k]) (h2:eN H a ws) (h3:ws.length<=1000) (h4:∀ (l:Addr) (H':Hp),H l=none->aG H H'->eN H' l (ws.map (iY k))->Q (.ref l) H')
def abQ:=nE aji
def Mq (aj:Int):Prop:=aj=1\/aj=2\/aj=4\/aj=8
inductive als (n:Nat) (vs:aD) (H:Hp) (Q:VK):Prop
 |mk (aj:Int) (h1:vs=[.int aj]) (h2:Mq aj) (h3:aj<2 ^ n) (h4:∀ (l:Addr) (ws:aK) (H':Hp),H l=none->aG H H'->eN H' l ws->bC aj ws->(ws.length:Int)<=aj*aj->Q (.ref l) H')
def anK (n:Nat):=nE (als n)
inductive alu (vs:aD) (H:Hp) (Q:VK):Prop
 |mk (aj:Int) (h1:vs=[.int aj]) (h2:1<=aj) (h3:aj<=8) (h4:∀ (l:Addr) (ws:aK) (H':Hp),H l=none->aG H H'->eN H' l ws->bC aj ws->ws.length<=200->Q (.ref l) H')
def anL:=nE alu
inductive ajj (vs:aD) (H:Hp) (Q:VK):Prop
 |mk (aj:Int) (h1:vs=[.int aj]) (h2:Mq aj) (h3:∀ (l:Addr) (ws:aK) (H':Hp),H l=none->aG H H'->eN H' l ws->bC aj ws->ws.length<=200->Q (.ref l) H')
def alv:=nE ajj
inductive anM (vs:aD) (H:Hp) (Q:VK):Prop
 |mk (p:Addr) (aj:Int) (a:Addr) (ws:aK) (h1:vs=[.ref p,.int aj,.ref a]) (h2:jB H p) (h3:1<=aj) (h4:aj<=8) (h5:a≠p) (h6:eN H a ws) (h7:bC aj ws) (h8:ws.length<=200) (h9:∀ (l:Addr) (us:aK) (H':Hp),l≠p->Kp p H H'->jB H' p->eN H' l us->bC aj us->us.length<=500->Q (.ref l) H')
def apO:=nE anM
theorem ne1 {b:Addr} (n:H b=none) (h:H a=some o):a≠b:=cH h n
theorem Mz {b:Addr} {ys:aD} (h1:H a=some (.tup xs)) (h2:H b=some (.lst ys)):a≠b:=oJ h1 h2 (by intro z;cases z)
theorem aq1 (n:H' l=none) (s:aG H H'):H l=none:=s.free n
def KT (H H':Hp):Prop:=∀ b xs,H b=some (.tup xs)->H' b=some (.tup xs)
theorem KT.refl (H:Hp):KT H H:=λ_ _ h=>h
def bG:=@KT.refl
theorem KT.trans (a:KT H H1) (b:KT H1 H2):KT H H2:=λc xs h=>b c xs (a c xs h)
def wF:=@KT.trans
theorem KT.same (s:aG H H') (k:KT G H):KT G H':=λb xs h=>s b _ (k b xs h)
def b_:=@KT.same
theorem KT.new (n:H l=none) (k:KT G H):KT G (upd H l o):=λb xs h=>by rw [bh (cH (k b xs h) n)];exact k b xs h
theorem KT.lst {G H:Hp} {l:Addr} {o:HO} {ys:aD} (n:H l=some (.lst ys)) (k:KT G H):KT G (upd H l o):=λb xs h=>by rw [bh (Mz (k b xs h) n)];exact k b xs h
def iD:=@KT.lst
theorem KT.kp {m:Addr} {ys:aD} (q:Kp m H H') (hm:H m=some (.lst ys)) (k:KT G H):KT G H':=λb xs h=>q b _ (k b xs h) (Mz (k b xs h) hm)
theorem dD.kt (n:dD H v aj ws) (k:KT H H'):dD H' v aj ws:=n.mono k
theorem bZ.kt (n:bZ H rs ws) (k:KT H H'):bZ H' rs ws:=n.mono k
def Hr (x y:Int×Int):Bool:=(decide (x.1=y.1) || decide (x.1=y.2)) || (decide (x.2=y.1) || decide (x.2=y.2))
def eE (a b:Int):Int:=if b<=a then a else b
theorem FW (a b:Int):(if b>a then b else a)=eE a b:=by
 unfold eE;by_cases h:b<=a
 ·rw [bw (by lk),bF h]
 ·rw [bF (by lk),bw h]
def rB (st:aU×aU) (w:Int×Int):aU×aU :=
 let a:=1+eE (st.1.getD w.1.toNat 0) (st.1.getD w.2.toNat 0)
 ((st.1.set w.1.toNat a).set w.2.toNat a,st.2++[a])
def cM (aj:Int) (ws:aK):aU×aU:=ws.foldl rB (replicate aj.toNat 0,[])
theorem Qy (aj:Int) (ws:aK) (w:Int×Int):cM aj (ws++[w])=rB (cM aj ws) w:=by unfold cM;rw [vD];rfl
theorem anN (st:aU×aU) (w:Int×Int):((st.1.map V.int).set w.1.toNat (V.int (1+(if st.1.getD w.2.toNat 0>st.1.getD w.1.toNat 0 then st.1.getD w.2.toNat 0 else st.1.getD w.1.toNat 0)))).set w.2.toNat (V.int (1+(if st.1.getD w.2.toNat 0>st.1.getD w.1.toNat 0 then st.1.getD w.2.toNat 0 else st.1.getD w.1.toNat 0)))=(rB st w).1.map V.int:=by rw [FW];show _=map V.int ((st.1.set w.1.toNat (1+eE (st.1.getD w.1.toNat 0) (st.1.getD w.2.toNat 0))).set w.2.toNat (1+eE (st.1.getD w.1.toNat 0) (st.1.getD w.2.toNat 0)));rw [RL,RL]
theorem anO (st:aU×aU) (w:Int×Int):st.2.map V.int++[V.int (1+(if st.1.getD w.2.toNat 0>st.1.getD w.1.toNat 0 then st.1.getD w.2.toNat 0 else st.1.getD w.1.toNat 0))]=(rB st w).2.map V.int:=by rw [FW];show _=map V.int (st.2++[1+eE (st.1.getD w.1.toNat 0) (st.1.getD w.2.toNat 0)]);rw [dF];rfl
theorem Q7 (aj:Int) (ws:aK):(cM aj ws).1.length=aj.toNat/\(cM aj ws).2.length=ws.length:=by
 have a:∀ (ws:aK) (st:aU×aU),(ws.foldl rB st).1.length=st.1.length/\(ws.foldl rB st).2.length=st.2.length+ws.length:=by
  intro ws;induction ws with
  |nil=>intro st;exact ⟨rfl,rfl⟩
  |cons w r b =>
   intro st;obtain ⟨h1,h2⟩:=b (rB st w);rw [um];refine ⟨h1.trans ?_,h2.trans ?_⟩
   ·show ((st.1.set _ _).set _ _).length=_;rw [jW,jW]
   ·show (st.2++[_]).length+r.length=_;rw [dj,Km,gj];lk
 obtain ⟨h1,h2⟩:=a ws (replicate aj.toNat 0,[]);exact ⟨by unfold cM;rw [h1];simp,by unfold cM;rw [h2];simp⟩
theorem wg {i:Int} (h0:0<=i) (h1:i<n):rF n i=some i.toNat:=by unfold rF;rw [bF h0,bF h1]
inductive ajk (vs:aD) (H:Hp) (Q:VK):Prop
 |mk (v:V) (aj:Int) (ws:aK) (h1:vs=[v]) (h2:dD H v aj ws) (h3:1<=aj) (h4:aj<=8) (h5:bC aj ws) (h6:ws.length<=41) (h7:∀ (l:Addr) (H':Hp),H l=none->aG H H'->H' l=some (.lst ((cM aj ws).2.map V.int))->Q (.ref l) H')
def alw:=nE ajk
inductive alx (vs:aD) (H:Hp) (Q:VK):Prop
 |mk (v:V) (aj:Int) (ws:aK) (h1:vs=[v]) (h2:dD H v aj ws) (h3:1<=aj) (h4:aj<=8) (h5:bC aj ws) (h6:ws.length<=41) (h7:∀ (m:Int) (H':Hp),aG H H'->((cM aj ws).2=[]->m=0)->((cM aj ws).2≠[]->q8 (cM aj ws).2 m)->Q (.int m) H')
def anP:=nE alx
def Mx (v:Int) (S:Int->Prop):Prop:=0<=v/\(∀ a,S a->a<=v)/\(v=0\/S v)
theorem Mx.le {v u:Int} {S:Int->Prop} (a:Mx v S) (b:Mx u S):v<=u:=by
 rcases a.2.2 with h|h
 ·rw [h];exact b.1
 ·exact b.2.1 v h
theorem Mx.uniq {v u:Int} {S:Int->Prop} (a:Mx v S) (b:Mx u S):v=u:=Int.le_antisymm (a.le b) (b.le a)
theorem Mx.congr {v:Int} {S S':Int->Prop} (h:∀ a,S a↔S' a) (m:Mx v S):Mx v S':=⟨m.1,λa z=>m.2.1 a ((h a).mpr z),m.2.2.imp id (h v).mp⟩
theorem Mx.or {v u:Int} {S U:Int->Prop} (a:Mx v S) (b:Mx u U):Mx (eE v u) (λz=>S z\/U z):=by
 unfold eE;by_cases h:u<=v
 ·rw [bF h];exact ⟨a.1,λz c=>c.elim (a.2.1 z) λq=>qJ (b.2.1 z q) h,a.2.2.imp id .inl⟩
 ·rw [bw h];exact ⟨b.1,λz c=>c.elim (λq=>qJ (a.2.1 z q) (by lk)) (b.2.1 z),b.2.2.imp id .inr⟩
def qy (ws:aK) (j:Nat):Int×Int:=ws.getD j (0,0)
def wQ (ws:aK) (d:aU) (k:Nat) (a:Int):Prop:=∃ j,j<k/\Hr (qy ws j) (qy ws k)=true/\d.getD j 0=a
def wG (ws:aK) (d:aU) (n:Nat):Prop:=d.length=n/\∀ k,k<n->∃ v,d.getD k 0=1+v/\Mx v (wQ ws d k)
theorem Gj {j:Nat} (h:j<d.length):(d++[z]).getD j 0=d.getD j 0:=by simp [List.getD,ou h]
theorem getD_last:(d++[z]).getD d.length 0=z:=by simp [List.getD]
theorem wQ.app {k:Nat} (h:k<=d.length) (a:Int):wQ ws d k a↔wQ ws (d++[z]) k a:=by
 constructor
 ·rintro ⟨j,h1,h2,b⟩;exact ⟨j,h1,h2,by rw [Gj (by lk)];exact b⟩
 ·rintro ⟨j,h1,h2,b⟩;exact ⟨j,h1,h2,by rw [Gj (by lk)] at b;exact b⟩
theorem wG.nil:wG ws [] 0:=⟨rfl,λk h=>absurd h (by lk)⟩
theorem wG.snoc {v:Int} (h:wG ws d n) (m:Mx v (wQ ws d n)):wG ws (d++[1+v]) (n+1):=by
 obtain ⟨l,g⟩:=h;subst l;refine ⟨by simp,λk b=>?_⟩;by_cases e:k<d.length
 ·obtain ⟨u,h1,h2⟩:=g k e;exact ⟨u,by rw [Gj e];exact h1,h2.congr (wQ.app (by lk))⟩
 ·have a:k=d.length:=by lk
  subst a;exact ⟨v,getD_last,m.congr (wQ.app (bJ _))⟩
def uQ (ws:aK) (d:aU) (n:Nat) (x a:Int):Prop:=∃ j,j<n/\((qy ws j).1=x\/(qy ws j).2=x)/\d.getD j 0=a
theorem aly {k:Nat} (a:Int):(uQ ws d k (qy ws k).1 a\/uQ ws d k (qy ws k).2 a)↔wQ ws d k a:=by
 have e:∀ x y:Int×Int,Hr x y=true↔((x.1=y.1\/x.2=y.1)\/(x.1=y.2\/x.2=y.2)):=λx y=>by
  simp only [Hr,sH,CQ];constructor
  ·rintro ((h|h)|(h|h))<;>simp [h]
  ·rintro ((h|h)|(h|h))<;>simp [h]
 constructor
 ·rintro (⟨j,h1,h2,b⟩|⟨j,h1,h2,b⟩)
  ·exact ⟨j,h1,(e _ _).mpr (.inl h2),b⟩
  ·exact ⟨j,h1,(e _ _).mpr (.inr h2),b⟩
 ·rintro ⟨j,h1,h2,b⟩;rcases (e _ _).mp h2 with z|z
  ·exact .inl ⟨j,h1,z,b⟩
  ·exact .inr ⟨j,h1,z,b⟩
theorem vg {l:aU} {j:Nat} (hi:i<l.length):(l.set i z).getD j 0=if j=i then z else l.getD j 0:=by
 by_cases h:j=i
 ·subst h;simp [List.getD,hi]
 ·have h':¬ i=j:=λq=>h q.symm;simp [List.getD,h,h']
theorem alz (ok:bC aj ws):∀ i,i<=ws.length->wG ws (cM aj (ws.take i)).2 i/\∀ x,0<=x->x<aj->Mx ((cM aj (ws.take i)).1.getD x.toNat 0) (uQ ws (cM aj (ws.take i)).2 i x):=by
 intro i;induction i with
 |zero =>
  intro _;refine ⟨wG.nil,λx J h1=>?_⟩;have e:(cM aj (ws.take 0)).1.getD x.toNat 0=0:=by show (replicate aj.toNat (0:Int)).getD x.toNat 0=0;simp only [List.getD,Hf];split<;>rfl
  rw [e];exact ⟨kJ _,by rintro a ⟨j,h,_⟩;exact absurd h (by lk),.inl rfl⟩
 |succ i W =>
  intro hi;obtain ⟨I,g⟩:=W (by lk);have y:ws[i]?=some ws[i]:=by simp [show i<ws.length by lk]
  have Y:qy ws i=ws[i]:=by simp [qy,List.getD,y]
  have V:ws.take (i+1)=ws.take i++[ws[i]]:=by rw [Kz,y];rfl
  obtain ⟨p,t,l,r,D⟩:=ok ws[i] (RD _);obtain ⟨o,m⟩:=Q7 aj (ws.take i);rw [eF] at m;have n:(cM aj (ws.take i)).2.length=i:=by lk
  rw [V,Qy];generalize cM aj (ws.take i)=st at I g o n;rw [<-Y] at p t l r D ⊢;generalize u:qy ws i=w at p t l r D ⊢;have v:Mx (eE (st.1.getD w.1.toNat 0) (st.1.getD w.2.toNat 0)) (wQ ws st.2 i):=by refine ((g w.1 p t).or (g w.2 l r)).congr λa=>?_;rw [<-u];exact aly a
  refine ⟨I.snoc v,λx J h1=>?_⟩;show Mx (((st.1.set w.1.toNat (1+eE (st.1.getD w.1.toNat 0) (st.1.getD w.2.toNat 0))).set w.2.toNat (1+eE (st.1.getD w.1.toNat 0) (st.1.getD w.2.toNat 0))).getD x.toNat 0) (uQ ws (st.2++[1+eE (st.1.getD w.1.toNat 0) (st.1.getD w.2.toNat 0)]) (i+1) x);generalize N:eE (st.1.getD w.1.toNat 0) (st.1.getD w.2.toNat 0)=L at v;have U:st.1.getD w.1.toNat 0<=L:=by rw [<-N];unfold eE;split<;>lk
  have R:st.1.getD w.2.toNat 0<=L:=by rw [<-N];unfold eE;split<;>lk
  rw [vg (by rw [jW];lk),vg (by lk)];have old:∀ a,uQ ws st.2 i x a->uQ ws (st.2++[1+L]) (i+1) x a:=(by rintro a ⟨j,z1,c,k⟩;exact ⟨j,by lk, c,by rw [Gj (by lk)];exact k⟩);have new:∀ a,uQ ws (st.2++[1+L]) (i+1) x a->uQ ws st.2 i x a\/((w.1=x\/w.2=x)/\a=1+L):=λa ⟨j,z1,c,k⟩=>by
   by_cases e:j<i
   ·exact .inl ⟨j,e,c,by rw [Gj (by lk)] at k;exact k⟩
   ·have S:j=i:=by lk
    subst S;rw [u] at c;have:(st.2++[1+L]).getD j 0=1+L:=by have q:=getD_last (d:=st.2) (z:=1+L);rw [n] at q;exact q
    exact .inr ⟨c,by lk⟩
  have b:(w.1=x\/w.2=x)->uQ ws (st.2++[1+L]) (i+1) x (1+L):=λz=>⟨i,by lk, by rw [u];exact z,by have q:=getD_last (d:=st.2) (z:=1+L);rw [n] at q;exact q⟩;have C:=g x J h1;have up:(w.1=x\/w.2=x)->Mx (1+L) (uQ ws (st.2++[1+L]) (i+1) x):=λz=>by
   have bx:st.1.getD x.toNat 0<=L:=by
    rcases z with z|z
    ·rw [<-z];exact U
    ·rw [<-z];exact R
   have m1:=v.1;refine ⟨by lk, λa O=>?_,.inr (b z)⟩;rcases new a O with q|⟨_,q⟩
   ·have:=C.2.1 a q;lk
   ·lk
  by_cases M:x.toNat=w.2.toNat
  ·rw [bF M];exact up (.inr (by lk))
  ·rw [bw M];by_cases B:x.toNat=w.1.toNat
   ·rw [bF B];exact up (.inl (by lk))
   ·rw [bw B];refine C.congr λa=>⟨old a,λq=>?_⟩;rcases new a q with q|⟨q,_⟩
    ·exact q
    ·lk
theorem ada (ok:bC aj ws):wG ws (cM aj ws).2 ws.length:=by have h:=(alz ok ws.length (bJ _)).1;rw [gG] at h;exact h
end
variable {ys:fV} {h':Heap} {ta:TA} {tb:TS} {D:lQ}
section
open PySem.Spec PyProof.Rows
section
theorem Q8 {x:Value} (gi:s.heap.IsTupleIter it t i) (gt:s.heap.IsTuple t ys) (gx:ys[i]?=some x) (q:∀ h',h'.IsTupleIter it t (i+1)->SameBut it s.heap h'->Q x { s with heap:=h' }):wpAny (model P w) A (nextOf (.ref it)) Q E s:=by obtain ⟨g,b,c,a⟩:=id gi;obtain ⟨j,d,_,k,e⟩:=gt;have no:¬ ((Value.ref t == Value.none)=true):=iV;unfold nextOf;refine aW (Cu (name:=ofString "__next__") gi.typeIs KJ (Cw KJ gi.typeIs acC ?_ (acD _)));show wpAny _ A.in1 (field (.ref it) 0 >>= _) _ _ s;refine aW (nO b a (x:=.ref t) rfl ?_);show wpAny _ _ (if (Value.ref t == Value.none)=true then _ else (field (.ref it) 1 >>= _)) _ _ s;rw [bw no];refine aW (nO b a (x:=.int i 0) rfl (show wpAny _ _ (seqItems? (.ref t) >>= _) _ _ s from aW (oW d e ?_)));simp only [gx,o_];refine aW (wpAny_setField b a (by simp) (cB ⟨x,rfl,cB (q _ ⟨_,Kl _ b (Obj.isFreed_of_fields (Obj.data_mapFields a _)),(Obj.cls_mapFields ..).trans c,?_⟩ (Gw ..))⟩));rw [Obj.data_mapFields a];simp [rawInt]
theorem aav (hh:A.handled=none) (gi:s.heap.IsTupleIter it t i) (gt:s.heap.IsTuple t ys) (gx:ys[i]?=none) (q:∀ h' e,ExtBut it s.heap h'->(∃ o,h'.get? e=some o/\o.cls=.type "StopIteration")->E (.ref e) { s with heap:=h' }):wpAny (model P w) A (nextOf (.ref it)) Q E s:=by
 obtain ⟨j,b,l,c⟩:=id gi;obtain ⟨k,d,_,n,g⟩:=gt;have no:¬ ((Value.ref t == Value.none)=true):=iV;unfold nextOf;refine aW (Cu (name:=ofString "__next__") gi.typeIs KJ (Cw KJ gi.typeIs acC ?_ (acD _)));show wpAny _ A.in1 (field (.ref it) 0 >>= _) _ _ s;refine aW (nO b c (x:=.ref t) rfl ?_);show wpAny _ _ (if (Value.ref t == Value.none)=true then _ else (field (.ref it) 1 >>= _)) _ _ s;rw [bw no];refine aW (nO b c (x:=.int i 0) rfl (show wpAny _ _ (seqItems? (.ref t) >>= _) _ _ s from aW (oW d g ?_)));simp only [gx,o_];refine aW (CN (aW (wpAny_setField b c (by simp) (show wpAny _ _ (newExc (.type "StopIteration") [] >>= _) _ _ _ from aW ?_))));simp only [newTuple,newExc];refine aW (su (aW (m:=firstArgMember _ _) (wpAny_of_eq (a:=Value.none) (by first|rfl|(simp only [firstArgMember];rfl)) (su ?_ (by size_fits)))) (by size_fits));simp only [raiseNew];refine aW (wpAny_handled ?_)
 first|rw [show A.in1.handled=none from hh]|rw [hh]
 exact aW (cB (wpAny_throw (q _ _ (((Gw ..).extBut.push _).push _) ⟨_,eV _ rfl,rfl⟩)))
theorem abg (hh:A.handled=none) (it t:Addr) (hne:t≠it) (ys:fV):Draws P w A it [it,t] ys.size (λi v=>ys[i]?=some v) (λi h=>h.IsTupleIter it t i/\h.IsTuple t ys) where
 live:=λ_ _ g=>let ⟨o,b,_⟩:=g.1;⟨o,b⟩
 frame:=λ_ _ _ g k=>⟨g.1.at λo e=>k it (by simp) o e,let ⟨o,e,r⟩:=g.2;⟨o,k t (by simp) o e,r⟩⟩
 item:=λi s Q E hi g q=>Q8 g.1 g.2 (x:=ys[i]) (by simp [hi]) λh' c a=>q _ h' s.toks (by simp [hi]) ⟨c,let ⟨o,e,r⟩:=g.2;⟨o,a.extBut t o hne e,r⟩⟩ a
 done:=λs Q E g q=>aav hh g.1 g.2 (by simp) q
theorem agW (t:Addr) (ys:fV) (n:Nat) (dc:jf) (sl:qX) : Meets (Builtin.«enumerate.__new__» ⟨[.type "enumerate",.ref t],[]⟩) (λ_ R s=>s.heap.get? t=some { cls:=.type "tuple",dict:=dc,data:=.seq ys n,slots:=sl } /\R (.ok (.ret (.ref (s.heap.push { cls:=.type "tuple_iterator",data:=.fields #[.ref t,.int 0 0] }).objs.size))) { s with heap:=(s.heap.push { cls:=.type "tuple_iterator",data:=.fields #[.ref t,.int 0 0] }).push { cls:=.type "enumerate",data:=.fields #[.none,.bool false,.ref s.heap.objs.size,rawInt 0,.none,.none] } }):=.of_wp λprog w A R s h=>by
  obtain ⟨j,g,d,tk,i⟩:=s;obtain ⟨a,q⟩:=h;have b:=sub_enumerate;have e:IsTuple (Shared.heap ⟨j,g,d,tk,i⟩) t ys:=⟨_,a,rfl,n,rfl⟩
  wp_walk using RM a
  refine wpAny_stack_any λst=>cB ?_;split
  ·rename_i c _ _ _ _ _;cases (c == type "enumerate")<;>(wp_walk using RM a,Mg e)<;>exact ⟨_,rfl,q⟩
  ·wp_walk using RM a,Mg e
   exact ⟨_,rfl,q⟩
theorem agC (gT:s.heap.IsTuple t ys) (q:∀ h',IsEnum h' (s.heap.objs.size+1) s.heap.objs.size 0 .none->h'.IsTupleIter s.heap.objs.size t 0->h'.objs.size=s.heap.objs.size+2->(∀ b o,s.heap.get? b=some o->h'.get? b=some o)->Q (.ref (s.heap.objs.size+1)) { s with heap:=h' }) : wpAny (model P w) A (call (.type "enumerate") [.ref t]) Q E s:=by
 obtain ⟨⟨c,dc,i,sl⟩,d,g,n,j⟩:=gT;obtain rfl:c=.type "tuple":=g;obtain rfl:i=.seq ys n:=j;refine callType_new F.called_enumerate (by decide) (F.typeCall_enumerate_1 _) (F.newCall_enumerate_1 _) (λo=>F.args_object_init_2 o _) F.entry_enumerate_new (agW t ys n dc sl) ⟨d,?_⟩;have z:(s.heap.push { cls:=.type "tuple_iterator",data:=.fields #[.ref t,.int 0 0] }).objs.size=s.heap.objs.size+1:=sU ..;have a:IsEnum ((s.heap.push { cls:=.type "tuple_iterator",data:=.fields #[.ref t,.int 0 0] }).push { cls:=.type "enumerate",data:=.fields #[.none,.bool false,.ref s.heap.objs.size,rawInt 0,.none,.none] }) (s.heap.objs.size+1) s.heap.objs.size 0 .none:=by have u:=eV (s.heap.push { cls:=.type "tuple_iterator",data:=.fields #[.ref t,.int 0 0] }) (o:={ cls:=.type "enumerate",data:=.fields #[.none,.bool false,.ref s.heap.objs.size,rawInt 0,.none,.none] }) rfl;rw [z] at u;exact u
 show _/\_;rw [z];exact ⟨⟨_,a,rfl⟩,q _ a ⟨_,cP _ (eV _ rfl),rfl,rfl⟩ (by rw [sU,z]) λb o e=>cP _ (cP _ e)⟩
end
def Ba (sq:Hp->aD->Prop):It :=
 ⟨λi H=>∃ xs x,sq H xs/\xs[i]?=some x,λi H x H'=>∃ T v,H T=none/\x=.ref T/\H'=upd H T (.tup [.int i,v])/\∀ xs,sq H xs->xs[i]?=some v,λi H=>∃ xs,sq H xs/\xs.length=i⟩
theorem aJ.adb {e:Addr} {ys:aD} (I:aJ X aq σ H s) (k:∀ b o,b≠e->b≠it->s.heap.get? b=some o->h'.get? b=some o) (fe:i_ X aq H e) (fi:i_ X aq H it) (new:dU X.prog X.w (upd H s.heap.objs.size (.tup ys)) h' s.heap.objs.size (.tup ys)):aJ X aq σ (upd H s.heap.objs.size (.tup ys)) { s with heap:=h',toks:=t' }:=by
 have p:H s.heap.objs.size=none:=I.hok.fresh (bJ _);have t:∀ b o,s.heap.get? b=some o->b≠s.heap.objs.size:=λb o q=>fG (cJ q);have g:∀ b,b∉[e,it]->b≠e/\b≠it:=λb d=>⟨λz=>d (by simp [z]),λz=>d (by simp [z])⟩;have j:∀ b u,H b=some u->b≠e/\b≠it:=λb u q=>⟨(λz=>by rw [z,fe.1] at q;cases q),(λz=>by rw [z,fi.1] at q;cases q)⟩;have up:∀ b u,H b=some u->upd H s.heap.objs.size (.tup ys) b=some u:=λb u q=>by rw [bh (cH q p)];exact q
 refine I.step (g':=s.gens) (d':=s.drawn) (ch:=[e,it]) (λb d=>?_) (λb o _ _ a q _=>k b o (g b a).1 (g b a).2 q) (λb o _ _ a q _=>⟨o.slots,k b o (g b a).1 (g b a).2 q⟩) (λb o _ q n=>by rw [bh (t b o q)];exact n) (λb o a q=>⟨o,k b o (g b a).1 (g b a).2 q⟩) (λb xs q=>up b _ q) (λb o u q=>up b _ q) (λb ps q=>⟨up b _ q,λc o l x=>⟨up c _ l,k c o (j c _ l).1 (j c _ l).2 x⟩⟩) (λm B=>?_) (λb u q=>?_) I.bare
 ·have z:b=e\/b=it:=by simpa using d
  rcases z with rfl|rfl
  ·exact ⟨fe.2.2.2.1,fe.2.1,fe.2.2.2.2.1,fe.2.2.2.2.2⟩
  ·exact ⟨fi.2.2.2.1,fi.2.1,fi.2.2.2.2.1,fi.2.2.2.2.2⟩
 ·obtain ⟨o,es,C,y,r⟩:=B;exact ⟨o,es,C,k _ o (bL fe.2.1) (bL fi.2.1) y,r⟩
 ·by_cases d:b=s.heap.objs.size
  ·subst d;rw [aO] at q;cases q;exact new
  ·rw [bh d] at q;refine (I.hok b u q).stay (λc v a z=>?_) (λc z=>up c _ z) λc xs z=>up c _ z;have i:c≠e/\c≠it:=by
    rcases a with z|z
    ·rw [z];exact j b u q
    ·exact j c _ z
   exact k c v i.1 i.2 z
section
variable {elts:oA} {kk:Nat} {ps:Pos}
theorem ah7 (a e it:Addr) (hei:e≠it):sX P w K (.Tuple elts kk ps) (Ba (λH xs=>fY K H a xs)) [e,it] e (λi h=>(∃ old,IsEnum h e it i old)/\h.IsTupleIter it a i) where
 mem:=by simp
 obj:=λi h st b t=>by
  obtain ⟨⟨old,g⟩,o,Y,c,d⟩:=st;have z:b=e\/b=it:=by simpa using t
  rcases z with rfl|rfl
  ·exact ⟨_,g,λv z=>by have z':fields _=Data.cell v:=z;cases z'⟩
  ·exact ⟨o,Y,λv z=>by rw [d] at z;cases z⟩
 keep:=λi h h' st k=>by obtain ⟨⟨old,g⟩,o,Y,r⟩:=st;exact ⟨⟨old,k e (by simp) _ g⟩,o,k it (by simp) o Y,r⟩
 item:=by
  intro X C S hK N i aq s σ H E I D st O;subst C S hK;obtain ⟨⟨old,g⟩,n⟩:=st;obtain ⟨xs,x,J,hx⟩:=O;obtain ⟨aM,U,p,hz⟩:=I.tuple J;obtain ⟨u,hu,ru⟩:=U.get hx;have y:s.heap.IsTuple a aM.toArray:=p;have V:a≠it:=λz=>by obtain ⟨o1,j,m,_⟩:=y;obtain ⟨B,l,M,_⟩:=n;rw [z,l] at j;cases j;rw [M] at m;exact absurd (CT m) (by decide)
  have Ww:e≠a:=λz=>by obtain ⟨o1,j,m,_⟩:=y;rw [<-z,g] at j;cases j;exact absurd (CT m) (by decide)
  have il:i<aM.toArray.size:=by have:=(gb.mp hu).1;simpa using this
  refine wpAny_pyNext_enum_itemD (abg (A:=X.A.in1) (I.ok.hd N) it a V aM.toArray) g ⟨n,y⟩ il hei (by simp [hei,Ww]) λL h1 tk C ho hs hT hsz hk=>?_;have ex:L=u:=by
   have:aM[i]?=some L:=by simpa using C
   rw [hu] at this;cases this;rfl
  subst ex;refine ⟨_,rfl,acE ho λh2 W sb=>?_⟩;have eT:e<s.heap.objs.size:=cJ g;have k2:∀ b o,b≠e->b≠it->s.heap.get? b=some o->h2.get? b=some o:=λb o n1 n2 q=>sb.extBut b o n1 (hk b o n1 n2 q);have new:dU X.prog X.w (upd H s.heap.objs.size (.tup [.int i,x])) h2 s.heap.objs.size (.tup [.int i,x]):=⟨by show 2<=sizeLine;rw [uy];decide,[.int i tk,L],.cons ⟨tk,rfl⟩ (.cons ru .nil),_,sb.extBut _ _ (vW eT) hT,rfl,_,rfl,rfl⟩;have I2:aJ X aq σ (upd H s.heap.objs.size (.tup [.int i,x])) { s with heap:=h2,toks:=tk+1 }:=aJ.adb I k2 (D e (by simp)) (D it (by simp)) new;refine ⟨.ref s.heap.objs.size,_,I2,rfl,⟨s.heap.objs.size,x,I.hok.fresh (bJ _),rfl,rfl,λzs R=>by rw [I.Qt R J];exact hx⟩,⟨⟨L,by simpa using W⟩,?_⟩,λb t=>?_⟩
  ·obtain ⟨⟨B,l,r2⟩,_⟩:=hs;exact ⟨B,sb.extBut it B (bL hei) l,r2⟩
  ·have bl:b<s.heap.objs.size:=by
    have z:b=e\/b=it:=by simpa using t
    rcases z with rfl|rfl
    ·exact eT
    ·obtain ⟨B,l,_⟩:=n;exact cJ l
   rw [bh (fG bl)];exact (D b t).1
 done:=by
  intro X C S hK N i aq s σ H E I D st O;subst C S hK;obtain ⟨⟨old,g⟩,n⟩:=st;obtain ⟨xs,J,hx⟩:=O;obtain ⟨aM,U,p,hz⟩:=I.tuple J;obtain ⟨f0,f1,f2,f3,f4,f5⟩:=D it (by simp);have y:s.heap.IsTuple a aM.toArray:=p;have hl:=U.length;have V:a≠it:=λz=>by obtain ⟨o1,j,m,_⟩:=y;obtain ⟨B,l,M,_⟩:=n;rw [z,l] at j;cases j;rw [M] at m;exact absurd (CT m) (by decide)
  have ei:aM.toArray.size=i:=by simp;lk
  exact wpAny_pyNext_enum_endD (abg (A:=X.A.in1) (I.ok.hd N) it a V aM.toArray) g (by rw [ei];exact ⟨n,y⟩) λh' eb=>⟨rfl,I.turned (t':=s.toks) (λb o t q=>eb b o t q) f0 f1 f3 f4 f5⟩
 self:=λ_ _ _ _ _ st h=>KN st.1.choose_spec h
theorem ah8 (a e it:Addr) (hei:e≠it):sX P w K (.Tuple elts kk ps) (Ba (λH xs=>dB K H a xs)) [e,it] e (λi h=>(∃ old,IsEnum h e it i old)/\h.IsListIter it a i) where
 mem:=by simp
 obj:=λi h st b t=>by
  obtain ⟨⟨old,g⟩,o,Y,c,d⟩:=st;have z:b=e\/b=it:=by simpa using t
  rcases z with rfl|rfl
  ·exact ⟨_,g,λv z=>by have z':fields _=Data.cell v:=z;cases z'⟩
  ·exact ⟨o,Y,λv z=>by rw [d] at z;cases z⟩
 keep:=λi h h' st k=>by obtain ⟨⟨old,g⟩,o,Y,r⟩:=st;exact ⟨⟨old,k e (by simp) _ g⟩,o,k it (by simp) o Y,r⟩
 item:=by
  intro X C S hK N i aq s σ H E I D st O;subst C S hK;obtain ⟨⟨old,g⟩,n⟩:=st;obtain ⟨xs,x,J,hx⟩:=O;obtain ⟨aM,U,p,hz⟩:=I.list J;obtain ⟨u,hu,ru⟩:=U.get hx;have y:=p.isList;have V:a≠it:=λz=>by obtain ⟨o1,j,m,_⟩:=y;obtain ⟨B,l,M,_⟩:=n;rw [z,l] at j;cases j;rw [M] at m;exact absurd (CT m) (by decide)
  have Ww:e≠a:=λz=>by obtain ⟨o1,j,m,_⟩:=y;rw [<-z,g] at j;cases j;exact absurd (CT m) (by decide)
  have il:i<aM.toArray.size:=by have:=(gb.mp hu).1;simpa using this
  refine wpAny_pyNext_enum_itemD (Draws.list (A:=X.A.in1) (I.ok.hd N) it a V aM.toArray) g ⟨n,y⟩ il hei (by simp [hei,Ww]) λL h1 tk C ho hs hT hsz hk=>?_;have ex:L=u:=by
   have:aM[i]?=some L:=by simpa using C
   rw [hu] at this;cases this;rfl
  subst ex;refine ⟨_,rfl,acE ho λh2 W sb=>?_⟩;have eT:e<s.heap.objs.size:=cJ g;have k2:∀ b o,b≠e->b≠it->s.heap.get? b=some o->h2.get? b=some o:=λb o n1 n2 q=>sb.extBut b o n1 (hk b o n1 n2 q);have new:dU X.prog X.w (upd H s.heap.objs.size (.tup [.int i,x])) h2 s.heap.objs.size (.tup [.int i,x]):=⟨by show 2<=sizeLine;rw [uy];decide,[.int i tk,L],.cons ⟨tk,rfl⟩ (.cons ru .nil),_,sb.extBut _ _ (vW eT) hT,rfl,_,rfl,rfl⟩;have I2:aJ X aq σ (upd H s.heap.objs.size (.tup [.int i,x])) { s with heap:=h2,toks:=tk+1 }:=aJ.adb I k2 (D e (by simp)) (D it (by simp)) new;refine ⟨.ref s.heap.objs.size,_,I2,rfl,⟨s.heap.objs.size,x,I.hok.fresh (bJ _),rfl,rfl,λzs R=>by rw [I.Gg R J];exact hx⟩,⟨⟨L,by simpa using W⟩,?_⟩,λb t=>?_⟩
  ·obtain ⟨⟨B,l,r2⟩,_⟩:=hs;exact ⟨B,sb.extBut it B (bL hei) l,r2⟩
  ·have bl:b<s.heap.objs.size:=by
    have z:b=e\/b=it:=by simpa using t
    rcases z with rfl|rfl
    ·exact eT
    ·obtain ⟨B,l,_⟩:=n;exact cJ l
   rw [bh (fG bl)];exact (D b t).1
 done:=by
  intro X C S hK N i aq s σ H E I D st O;subst C S hK;obtain ⟨⟨old,g⟩,n⟩:=st;obtain ⟨xs,J,hx⟩:=O;obtain ⟨aM,U,p,hz⟩:=I.list J;obtain ⟨f0,f1,f2,f3,f4,f5⟩:=D it (by simp);have y:=p.isList;have hl:=U.length;have V:a≠it:=λz=>by obtain ⟨o1,j,m,_⟩:=y;obtain ⟨B,l,M,_⟩:=n;rw [z,l] at j;cases j;rw [M] at m;exact absurd (CT m) (by decide)
  have ei:aM.toArray.size=i:=by simp;lk
  exact wpAny_pyNext_enum_endD (Draws.list (A:=X.A.in1) (I.ok.hd N) it a V aM.toArray) g (by rw [ei];exact ⟨n,y⟩) λh' eb=>⟨rfl,I.turned (t':=s.toks) (λb o t q=>eb b o t q) f0 f1 f3 f4 f5⟩
 self:=λ_ _ _ _ _ st h=>KN st.1.choose_spec h
def apP (K:bI) (ta:TA):TI:=λσ H R=>ta σ H λvs H1=>∃ a,vs=[.ref a]/\(∃ xs,fY K H1 a xs)/\R (Ba (λH xs=>fY K H a xs)) H1
def apQ (K:bI) (ta:TA):TI:=λσ H R=>ta σ H λvs H1=>∃ a,vs=[.ref a]/\(∃ xs,dB K H1 a xs)/\R (Ba (λH xs=>dB K H a xs)) H1
theorem alA {l:Expr} (hg:Gl X "enumerate") (hm:X.mg "enumerate"=none) (ha:PA X [l] ta) (hs:starEach [l] X.env=[(false,eval l X.env)]:=by rfl):PI X (.Tuple elts kk ps) (.Call (.Name "enumerate" p) [l] [] pos) (apP X.K ta):=by
 intro aq s σ H R I h;refine Call_ (sV I hg hm boot_enumerate (Ai (bH (ha pos aq s σ H _ I h) λus c ⟨vs,H1,d,n,i⟩=>?_) hs rfl));obtain ⟨a,e,⟨xs,k⟩,q⟩:=i;subst e;obtain ⟨u,rfl,m⟩:=bY.one n;cases m;obtain ⟨aM,t,r,v⟩:=d.tuple k;refine agC (show c.heap.IsTuple a aM.toArray from r) λh' g o sz kk=>KN (by simpa using g) ⟨c.heap.objs.size+1,[c.heap.objs.size+1,c.heap.objs.size],_,_,H1,rfl,d.kept (t':=c.toks) kk,ah7 a _ _ (RJ _),⟨⟨_,by simpa using g⟩,o⟩,λb j=>?_,q⟩;have z:b=c.heap.objs.size+1\/b=c.heap.objs.size:=by simpa using j
 rcases z with rfl|rfl
 ·exact d.m8 (Am _) (d.hok.fresh (Am _))
 ·exact d.m8 (bJ _) (d.hok.fresh (bJ _))
theorem abR {l:Expr} (hg:Gl X "enumerate") (hm:X.mg "enumerate"=none) (ha:PA X [l] ta) (hs:starEach [l] X.env=[(false,eval l X.env)]:=by rfl):PI X (.Tuple elts kk ps) (.Call (.Name "enumerate" p) [l] [] pos) (apQ X.K ta):=by
 intro aq s σ H R I h;refine Call_ (sV I hg hm boot_enumerate (Ai (bH (ha pos aq s σ H _ I h) λus d ⟨vs,H1,c,n,i⟩=>?_) hs rfl));obtain ⟨a,e,⟨xs,k⟩,q⟩:=i;subst e;obtain ⟨u,rfl,m⟩:=bY.one n;cases m;obtain ⟨aM,t,r,v⟩:=c.list k;refine call_enumerate_list r.isList λh' g o sz kk=>KN (by simpa using g) ⟨d.heap.objs.size+1,[d.heap.objs.size+1,d.heap.objs.size],_,_,H1,rfl,c.kept (t':=d.toks) kk,ah8 a _ _ (RJ _),⟨⟨_,by simpa using g⟩,o⟩,λb j=>?_,q⟩;have z:b=d.heap.objs.size+1\/b=d.heap.objs.size:=by simpa using j
 rcases z with rfl|rfl
 ·exact c.m8 (Am _) (c.hok.fresh (Am _))
 ·exact c.m8 (bJ _) (c.hok.fresh (bJ _))
theorem Q9 {sq:Hp->aD->Prop} (Pv:Nat->St->Hp->Prop) (h0:Pv 0 σ H) (hl:∀ i σ H,i<=xs.length->Pv i σ H->sq H xs) (hs:∀ i x T σ H,xs[i]?=some x->H T=none->Pv i σ H->g (.ref T) σ (upd H T (.tup [.int i,x])) λσ2 H2=>tb { D with nx:=Pv (i+1),ct:=Pv (i+1),bk:=D.nx } σ2 H2) (hd:∀ σ H,Pv xs.length σ H->D.nx σ H) : ∃ W:Nat->Nat->St->Hp->Prop,(∃ m,W 0 m σ H)/\∀ i m σ H,W i m σ H ->((Ba sq).stop i H/\D.nx σ H)\/((Ba sq).go i H/\∃ N:St->Hp->Prop,(∀ σ' H',N σ' H'->∃ m',m'<m/\W (i+1) m' σ' H')/\∀ x H',(Ba sq).oM i H x H'->g x σ H' λσ2 H2=>tb { D with nx:=N,ct:=N,bk:=D.nx } σ2 H2):=by
 refine ⟨λi m σ H=>m=xs.length-i/\i<=xs.length/\Pv i σ H,⟨xs.length,by simp,d_ _,h0⟩,?_⟩;rintro i m σ H ⟨rfl,hi,p⟩;have q:=hl i σ H hi p;by_cases a:i<xs.length
 ·refine .inr ⟨⟨xs,xs[i],q,by simp [a]⟩,Pv (i+1),λσ' H' c=>⟨xs.length-(i+1),by lk, rfl,a,c⟩,λx H' y=>?_⟩;obtain ⟨T,v,d,b,j,y⟩:=y;subst b j;exact hs i v T σ H (y xs q) d p
 ·have e:i=xs.length:=by lk
  subst e;exact .inl ⟨⟨xs,q,rfl⟩,hd σ H p⟩
end
end
section
open PySem.Spec PyProof.Rows HT
section
theorem agl {sl:Addr} {lo hi:Option Int} (gt:IsTup s.heap t ys) (gs:s.heap.IsSliceOf sl vl vu .none) (pl:IsPart vl lo) (pu:IsPart vu hi) (yes:bV ys.size 0 lo=0/\bV ys.size ys.size hi=ys.size) (q:Q (.ref t) s):wpAny (model prog w) A (getItem (.ref t) (.ref sl)) Q E s:=by
 obtain ⟨b,e,c,g⟩:=id gs;have d:s.TypeIs (.ref sl) "slice":=⟨b,e,c⟩;unfold getItem
 try with_reducible refine mX ?_
 first|refine aW (cB ?_)|skip
 refine aW (wpAny_sequenceKey gt.typeIs (by decide) (aW (Cu (name:=ofString "__getitem__") gt.typeIs Cv (Cw Cv gt.typeIs entry_tuple_getitem ?_ (args_tuple_getitem _ _)))));show wpAny _ A.in1 (tupleItemsOf (.ref t) >>= _) _ _ s;refine aW (tupleItemsOf_ gt (aW (Kg d ?_)));rw [bF (by decide)];refine aW (aae gs pl pu ?_);have a:(((bV ys.size 0 lo:Nat):Int) == 0 && (1:Int) == 1 && (bV ys.size ys.size hi-bV ys.size 0 lo) == ys.size)=true:=by rw [yes.1,yes.2];simp
 show wpAny _ A.in1 (if (((bV ys.size 0 lo:Nat):Int) == 0 && (1:Int) == 1 && (bV ys.size ys.size hi-bV ys.size 0 lo) == ys.size)=true then _ else _) _ _ s;rw [bF a];unfold Builtin.Tuple.tupleIsExact;refine aW (aW (Kg gt.typeIs (cB ?_)));rw [bF (by decide)];exact aW (CN (cB ⟨_,rfl,cB q⟩))
end
section
def vJ (n:Nat) (lo hi:Option Int):Prop:=bV n 0 lo=0/\bV n n hi=n
def aso (K:bI):V->Option Int->Option Int->Hp->VK->Prop:=λx lo hi H Q=>∃ a xs,x=.ref a/\fY K H a xs/\(vJ xs.length lo hi->Q (.ref a) H)/\(¬ vJ xs.length lo hi->∀ p,H p=none->Q (.ref p) (upd H p (.tup (fX xs lo hi))))
theorem anQ:Er X (aso X.K):=by
 intro aq s σ H x v vl vu lo hi sl Q I e g pl c h;obtain ⟨a,xs,rfl,i,j,l⟩:=h;by_cases b:vJ xs.length lo hi
 ·cases e;obtain ⟨aM,r,d,m⟩:=I.tuple i;have k:aM.toArray.size=xs.length:=by rw [fL];exact r.length.symm
  refine ⟨"tuple",_,Cv.lookup,d.typeIs,agl d g pl c (by rw [k];exact b) ⟨.ref a,H,I,rfl,j b⟩⟩
 ·exact apD aq s σ H (.ref a) v vl vu lo hi sl Q I e g pl c ⟨a,xs,rfl,i,b,l b⟩
theorem ajl (h:n<=xs.length):fX xs none (some (n:Int))=xs.take n:=by unfold fX;rw [Ab,zO];simp [vG h]
theorem ajm {lo hi:Option Int} (h:vJ xs.length lo hi):fX xs lo hi=xs:=by unfold fX;rw [h.1,h.2];simp
def asp:V->Option Int->Option Int->Hp->VK->Prop:=λx lo hi H Q=>∃ a xs,x=.ref a/\H a=some (.tup xs)/\∀ p H',aG H H'->H' p=some (.tup (fX xs lo hi))->Q (.ref p) H'
theorem GP:Er X asp:=by intro aq s σ H x v vl vu lo hi sl Q I g i pl d h;obtain ⟨a,xs,rfl,c,q⟩:=h;exact anQ aq s σ H (.ref a) v vl vu lo hi sl Q I g i pl d ⟨a,xs,rfl,aX c,λz=>q a H (cO H) (by rw [ajm z];exact c),λ_ p fp=>q p _ (λb o e=>by rw [bh (cH e fp)];exact e) aO⟩
end
end
variable {cs:aU}
section
def iJ (cs:aU) (w:Int×Int):Int:=cs.getD w.1.toNat 0+cs.getD w.2.toNat 0
def ji (cs:aU) (w:Int×Int):aU:=(cs.set w.1.toNat ((iJ cs w+1) / 2)).set w.2.toNat (iJ cs w / 2)
def cR (cs:aU) (ws:aK):aU:=ws.foldl ji cs
def lA:Nat->aU->aK->aU
 |_,_,[]=>[]
 |k,cs,w::r=>(if iJ cs w % 2=1 then [(k:Int)] else [])++lA (k+1) (ji cs w) r
theorem Gk (cs:aU) (w:Int×Int):(ji cs w).length=cs.length:=by unfold ji;rw [jW,jW]
theorem rP (ws:aK):∀ cs:aU,(cR cs ws).length=cs.length:=by
 unfold cR;induction ws with
 |nil=>intro cs;rfl
 |cons w r a=>intro cs;rw [um,a,Gk]
theorem ah9 (cs:aU) (ws:aK) (w:Int×Int):cR cs (ws++[w])=ji (cR cs ws) w:=by unfold cR;rw [vD];rfl
theorem ah_ (ws:aK) (w:Int×Int):∀ (k:Nat) (cs:aU),lA k cs (ws++[w])=lA k cs ws++(if iJ (cR cs ws) w % 2=1 then [((k+ws.length:Nat):Int)] else []):=by
 induction ws with
 |nil=>intro k cs;simp [lA,cR];rfl
 |cons v r a =>
  intro k cs;show _++lA (k+1) (ji cs v) (r++[w])=(_++lA (k+1) (ji cs v) r)++_;rw [a,zV];have e:k+1+r.length=k+(v::r).length:=by simp;lk
  rw [e];rfl
theorem ajn (ws:aK):∀ (k:Nat) (cs:aU),(lA k cs ws).length<=ws.length:=by
 induction ws with
 |nil=>intro k cs;simp [lA]
 |cons v r a =>intro k cs;show (_++lA (k+1) (ji cs v) r).length<=_;rw [dj,gj];have:=a (k+1) (ji cs v);split<;>simp<;>lk
theorem gF {ws:List α} {w:α} (h:ws[i]?=some w):ws.take (i+1)=ws.take i++[w]:=by rw [Kz,h];rfl
theorem GQ (cs:aU) (i:Nat) (z:Int):(cs.map V.int).set i (V.int z)=(cs.set i z).map V.int:=by rw [RL]
inductive anR (vs:aD) (H:Hp) (Q:VK):Prop
 |mk (v:V) (aj:Int) (ws:aK) (c:Addr) (cs:aU) (h1:vs=[v,.ref c]) (h2:dD H v aj ws) (h3:bC aj ws) (h4:ws.length<=100) (h5:H c=some (.lst (cs.map V.int))) (h6:cs.length=aj.toNat) (h7:∀ (t a b:Addr) (H':Hp),H t=none->H a=none->H b=none->a≠b->aG H H'->H' t=some (.tup [.ref a,.ref b])->H' a=some (.lst ((cR cs ws).map V.int))->H' b=some (.lst ((lA 0 cs ws).map V.int))->Q (.ref t) H')
def apR:=nE anR
inductive alB (vs:aD) (H:Hp) (Q:VK):Prop
 |mk (v:V) (aj:Int) (ws:aK) (c:Addr) (cs:aU) (h1:vs=[v,.ref c]) (h2:dD H v aj ws) (h3:bC aj ws) (h4:ws.length<=100) (h5:H c=some (.lst (cs.map V.int))) (h6:cs.length=aj.toNat) (h7:∀ (a:Addr) (H':Hp),H a=none->aG H H'->H' a=some (.lst ((cR cs ws).map V.int))->Q (.ref a) H')
def anS:=nE alB
theorem bC.mem (h:bC aj ws) {x:Int×Int} (e:ws[i]?=some x):0<=x.1/\x.1<aj/\0<=x.2/\x.2<aj/\x.1≠x.2:=h x (fQ e)
theorem anT (h:i<cs.length):cs[i]?=some (cs.getD i 0):=by simp [List.getD,h]
theorem all_true (n:Nat):(replicate n true).all id=true:=by simp
theorem ajo (h:wG ws d n):∀ k,k<n->1<=d.getD k 0/\d.getD k 0<=(k:Int)+1:=by
 have b:∀ m k,k<m->k<n->1<=d.getD k 0/\d.getD k 0<=(k:Int)+1:=by
  intro m;induction m with
  |zero=>intro k a;lk
  |succ m c =>
   intro k a e;obtain ⟨v,h1,h2,l,g⟩:=h.2 k e;rcases g with z|⟨j,p,i,o⟩
   ·lk
   ·have:=c j (by lk) (by lk);lk
 exact λk a=>b (k+1) k (Aj _) a
theorem abh (ok:bC aj ws):∀ a∈(cM aj ws).2,1<=a/\a<=(ws.length:Int):=λa g=>by
 obtain ⟨k,d,i⟩:=Ky.mp g;have c:=ada ok;have l:=c.1;have b:=ajo c k (by lk);have e:(cM aj ws).2.getD k 0=a:=by simp [List.getD,d,i]
 lk
theorem aho {m:Int} (ok:bC aj ws) (h0:(cM aj ws).2=[]->m=0) (h1:(cM aj ws).2≠[]->q8 (cM aj ws).2 m):0<=m/\m<=(ws.length:Int)/\∀ a∈(cM aj ws).2,a<=m:=by
 by_cases e:(cM aj ws).2=[]
 ·rw [h0 e];exact ⟨kJ _,by lk, λa c=>by rw [e] at c;cases c⟩
 ·have d:=h1 e;have b:=abh ok m d.1;exact ⟨by lk, b.2,d.2⟩
theorem alC (us:aK):∀ (st:aU×aU) (a:Int),a∈st.2->a∈(us.foldl rB st).2:=by
 induction us with
 |nil=>intro st a h;exact h
 |cons u r b=>intro st a h;exact b _ a (Ag _ h)
theorem FZ {a b:Nat} {x:Int} (h:a<=b) (d:((2 ^ b:Nat):Int) ∣ x):((2 ^ a:Nat):Int) ∣ x:=Int.dvd_trans (Int.natCast_dvd_natCast.mpr (Nat.pow_dvd_pow 2 h)) d
theorem agX {D:Nat} (ws:aK):∀ (st:aU×aU) (cs:aU) (k:Nat),bC aj ws->st.1.length=aj.toNat->cs.length=aj.toNat ->(∀ x:Nat,x<aj.toNat->0<=st.1.getD x 0/\st.1.getD x 0<=(D:Int)/\((2 ^ (D-(st.1.getD x 0).toNat):Nat):Int) ∣ cs.getD x 0)->(∀ a∈(ws.foldl rB st).2,a<=(D:Int))->lA k cs ws=[]:=by
 induction ws with
 |nil=>intro st cs k _ _ _ _ _;rfl
 |cons u r M =>
  intro st cs k ok I y b n;have z:bC aj r:=λx g=>ok x (gK _ g);obtain ⟨U,o2,O,V,W⟩:=ok u iU;have i1:=b u.1.toNat (by lk);have i2:=b u.2.toNat (by lk);have top:1+eE (st.1.getD u.1.toNat 0) (st.1.getD u.2.toNat 0)<=(D:Int):=n _ (alC r _ _ (iW _ (iu.mpr rfl)));generalize i:eE (st.1.getD u.1.toNat 0) (st.1.getD u.2.toNat 0)=L at top;have Y:st.1.getD u.1.toNat 0<=L:=by rw [<-i];unfold eE;split<;>lk
  have S:st.1.getD u.2.toNat 0<=L:=by rw [<-i];unfold eE;split<;>lk
  obtain ⟨e,R⟩:∃ e:Nat,(D:Int)=1+L+e:=⟨((D:Int)-(1+L)).toNat,by lk⟩;have p:=FZ (a:=e+1) (by lk) i1.2.2;have v:=FZ (a:=e+1) (by lk) i2.2.2;obtain ⟨m,C⟩:=Int.dvd_add p v;have J:((2 ^ (e+1):Nat):Int)=((2 ^ e:Nat):Int)*2:=by rw [RN,Int.natCast_mul];rfl
  have l:iJ cs u=2*(((2 ^ e:Nat):Int)*m):=by unfold iJ;rw [C,J,Int.mul_assoc,RP,RP]
  generalize t:((2 ^ e:Nat):Int)*m=q at l;have j:((2 ^ e:Nat):Int) ∣ q:=⟨m,t.symm⟩;show (if iJ cs u % 2=1 then [(k:Int)] else [])++lA (k+1) (ji cs u) r=[];rw [bw (by lk),RB];refine M (rB st u) (ji cs u) (k+1) z ?_ (by rw [Gk];exact y) (λx g=>?_) n
  ·show ((st.1.set _ _).set _ _).length=_;rw [jW,jW];exact I
  ·have o:(rB st u).1.getD x 0=if x=u.2.toNat then 1+L else if x=u.1.toNat then 1+L else st.1.getD x 0:=by show ((st.1.set u.1.toNat (1+eE (st.1.getD u.1.toNat 0) (st.1.getD u.2.toNat 0))).set u.2.toNat (1+eE (st.1.getD u.1.toNat 0) (st.1.getD u.2.toNat 0))).getD x 0=_;rw [i,vg (by rw [jW];lk),vg (by lk)]
   have B:(ji cs u).getD x 0=if x=u.2.toNat then q else if x=u.1.toNat then q else cs.getD x 0:=by unfold ji;rw [vg (by rw [jW];lk),vg (by lk),l,show (2*q+1) / 2=q by lk, show 2*q / 2=q by lk]
   have N:=i1.1;rw [o,B];by_cases d:x=u.2.toNat
   ·rw [bF d,bF d];exact ⟨by lk, by lk, FZ (by lk) j⟩
   ·rw [bw d,bw d];by_cases c:x=u.1.toNat
    ·rw [bF c,bF c];exact ⟨by lk, by lk, FZ (by lk) j⟩
    ·rw [bw c,bw c];exact b x g
end
variable {nj lE:Hp->aD->Prop} {cN:gk}
section
open PySem.Spec PyProof.Rows
def qz (nj lE:Hp->aD->Prop):It :=
 ⟨λi H=>∃ xs x ys y,nj H xs/\lE H ys/\xs[i]?=some x/\ys[i]?=some y,λi H x H'=>∃ T v u,H T=none/\x=.ref T/\H'=upd H T (.tup [v,u])/\(∀ xs,nj H xs->xs[i]?=some v)/\∀ ys,lE H ys->ys[i]?=some u,
  λi H=>∃ xs ys,nj H xs/\lE H ys/\(xs[i]?=none\/ys[i]?=none)⟩
theorem aJ.ade (I:aJ X aq σ H s) (k:∀ b o,b∉ch->s.heap.get? b=some o->h'.get? b=some o) (fe:∀ b∈ch,i_ X aq H b):aJ X aq σ H { s with heap:=h',toks:=t' }:=by
 have e:∀ b u,H b=some u->b∉ch:=λb u q z=>by rw [(fe b z).1] at q;cases q
 refine I.step (g':=s.gens) (d':=s.drawn) (ch:=ch) (λb d=>?_) (λb o _ _ a q _=>k b o a q) (λb o _ _ a q _=>⟨o.slots,k b o a q⟩) (λ_ _ _ _ n=>n) (λb o a q=>⟨o,k b o a q⟩) (λb xs q=>q) (λb o u q=>q) (λb ps q=>⟨q,λc o g x=>⟨g,k c o (e c _ g) x⟩⟩) (λm j=>?_) (λb u q=>?_) I.bare
 ·exact ⟨(fe b d).2.2.2.1,(fe b d).2.1,(fe b d).2.2.2.2.1,(fe b d).2.2.2.2.2⟩
 ·obtain ⟨o,es,l,i,r⟩:=j;exact ⟨o,es,l,k _ o (λz=>(fe _ z).2.1 rfl) i,r⟩
 ·refine (I.hok b u q).stay (λc v a z=>k c v ?_ z) (λ_ z=>z) λ_ _ z=>z;rcases a with z|z
  ·rw [z];exact e b u q
  ·exact e c _ z
theorem aJ.adf {ys:aD} (I:aJ X aq σ H s) (k:∀ b o,b∉ch->s.heap.get? b=some o->h'.get? b=some o) (fe:∀ b∈ch,i_ X aq H b) (new:dU X.prog X.w (upd H s.heap.objs.size (.tup ys)) h' s.heap.objs.size (.tup ys)):aJ X aq σ (upd H s.heap.objs.size (.tup ys)) { s with heap:=h',toks:=t' }:=by
 have i:H s.heap.objs.size=none:=I.hok.fresh (bJ _);have j:∀ b o,s.heap.get? b=some o->b≠s.heap.objs.size:=λb o q=>fG (cJ q);have e:∀ b u,H b=some u->b∉ch:=λb u q z=>by rw [(fe b z).1] at q;cases q
 have up:∀ b u,H b=some u->upd H s.heap.objs.size (.tup ys) b=some u:=λb u q=>by rw [bh (cH q i)];exact q
 refine I.step (g':=s.gens) (d':=s.drawn) (ch:=ch) (λb d=>?_) (λb o _ _ a q _=>k b o a q) (λb o _ _ a q _=>⟨o.slots,k b o a q⟩) (λb o _ q n=>by rw [bh (j b o q)];exact n) (λb o a q=>⟨o,k b o a q⟩) (λb xs q=>up b _ q) (λb o u q=>up b _ q) (λb ps q=>⟨up b _ q,λc o g x=>⟨up c _ g,k c o (e c _ g) x⟩⟩) (λm p=>?_) (λb u q=>?_) I.bare
 ·exact ⟨(fe b d).2.2.2.1,(fe b d).2.1,(fe b d).2.2.2.2.1,(fe b d).2.2.2.2.2⟩
 ·obtain ⟨o,es,t,l,r⟩:=p;exact ⟨o,es,t,k _ o (λz=>(fe _ z).2.1 rfl) l,r⟩
 ·by_cases d:b=s.heap.objs.size
  ·subst d;rw [aO] at q;cases q;exact new
  ·rw [bh d] at q;refine (I.hok b u q).stay (λc v a z=>k c v ?_ z) (λc z=>up c _ z) λc xs z=>up c _ z;rcases a with z|z
   ·rw [z];exact e b u q
   ·exact e c _ z
section
variable {elts:oA} {kk:Nat} {ps:Pos}
theorem ajp (a1 a2 z TI TO i1 i2:Addr) (D:ZipApart z TI TO i1 i2 a1 a2):sX P w K (.Tuple elts kk ps) (qz (λH xs=>dB K H a1 xs) (λH xs=>dB K H a2 xs)) [z,TI,TO,i1,i2] z (λi h=>IsZip h z TI TO .none/\IsPair h TI (.ref i1) (.ref i2)/\(∃ a b,IsPair h TO a b)/\h.IsListIter i1 a1 i/\h.IsListIter i2 a2 i) where
 mem:=by simp
 obj:=λi h st b g=>by
  obtain ⟨l,c,⟨u,v,d⟩,⟨o1,e1,c1,d1⟩,⟨o2,e2,c2,d2⟩⟩:=st;have q:b=z\/b=TI\/b=TO\/b=i1\/b=i2:=by simpa using g
  rcases q with rfl|rfl|rfl|rfl|rfl
  ·exact ⟨_,l,λv q=>by have J:fields _=Data.cell v:=q;cases J⟩
  ·exact ⟨_,c,λv q=>by have J:Data.seq _ _=Data.cell v:=q;cases J⟩
  ·exact ⟨_,d,λv q=>by have J:Data.seq _ _=Data.cell v:=q;cases J⟩
  ·exact ⟨o1,e1,λv q=>by rw [d1] at q;cases q⟩
  ·exact ⟨o2,e2,λv q=>by rw [d2] at q;cases q⟩
 keep:=λi h h' st k=>by obtain ⟨l,c,⟨u,v,d⟩,h1,h2⟩:=st;exact ⟨k z (by simp) _ l,k TI (by simp) _ c,⟨u,v,k TO (by simp) _ d⟩,h1.at λo e=>k i1 (by simp) o e,h2.at λo e=>k i2 (by simp) o e⟩
 item:=by
  intro X S V hK hc i aq s σ H E I N st R;subst S V hK;obtain ⟨l,c,⟨u0,v0,d⟩,h1,h2⟩:=st;obtain ⟨xs,x,ys,y,M,hr,O,hy⟩:=R;obtain ⟨aM,Y,p,_⟩:=I.list M;obtain ⟨C,W,U,_⟩:=I.list hr;obtain ⟨u,hu,ru⟩:=Y.get O;obtain ⟨v,hv,Wy⟩:=W.get hy;refine wpAny_pyNext_zip_item D l c d h1 h2 p.isList U.isList (x:=u) (y:=v) (by simpa using hu) (by simpa using hv) λh' b1 b2 b3 b4 b5 b6 L=>⟨_,rfl,wpAny_letOwnedTupleGo_zip b1 λr hz2 t=>?_⟩;have eT:z<s.heap.objs.size:=cJ l;have k2:∀ b o,b∉[z,TO,i1,i2]->s.heap.get? b=some o->r.get? b=some o:=λb o n q=>by
   have j:b≠z/\b≠TO/\b≠i1/\b≠i2:=by simpa using n
   exact t.extBut b o j.1 (L b o j.1 j.2.1 j.2.2.1 j.2.2.2 q)
  have new:dU X.prog X.w (upd H s.heap.objs.size (.tup [x,y])) r s.heap.objs.size (.tup [x,y]):=⟨by show 2<=sizeLine;rw [uy];decide,[u,v],.cons ru (.cons Wy .nil),_,t.extBut _ _ (vW eT) b5,rfl,_,rfl,rfl⟩;have sub:∀ b∈[z,TO,i1,i2],b∈[z,TI,TO,i1,i2]:=λb g=>by simp at g ⊢;rcases g with e|e|e|e<;>simp [e]
  have I2:aJ X aq σ (upd H s.heap.objs.size (.tup [x,y])) { s with heap:=r,toks:=s.toks }:=aJ.adf I k2 (λb g=>N b (sub b g)) new;refine ⟨.ref s.heap.objs.size,_,I2,rfl,⟨s.heap.objs.size,x,y,I.hok.fresh (bJ _),rfl,rfl,(λzs m=>by rw [I.Gg m M];exact O),λzs m=>by rw [I.Gg m hr];exact hy⟩,⟨hz2,?_,⟨u,v,?_⟩,?_,?_⟩,λb g=>?_⟩
  ·exact t.extBut _ _ D.TIz (L _ _ D.TIz D.TITO D.TIi1 D.TIi2 c)
  ·exact t.extBut _ _ D.TOz b2
  ·exact b3.extBut t.extBut D.i1z
  ·exact b4.extBut t.extBut D.i2z
  ·have bl:b<s.heap.objs.size:=by
    have q:b=z\/b=TI\/b=TO\/b=i1\/b=i2:=by simpa using g
    rcases q with rfl|rfl|rfl|rfl|rfl
    ·exact eT
    ·exact cJ c
    ·exact cJ d
    ·obtain ⟨_,q,_⟩:=h1;exact cJ q
    ·obtain ⟨_,q,_⟩:=h2;exact cJ q
   rw [bh (fG bl)];exact (N b g).1
 done:=by
  intro X S V hK hc i aq s σ H E I N st R;subst S V hK;obtain ⟨l,c,⟨u0,v0,d⟩,h1,h2⟩:=st;obtain ⟨xs,ys,M,hr,O⟩:=R;obtain ⟨aM,Y,p,_⟩:=I.list M;obtain ⟨C,W,U,_⟩:=I.list hr;have l1:=Y.length;have l2:=W.length;have B:aM.toArray[i]?=none\/C.toArray[i]?=none:=by
   rcases O with q|q
   ·exact .inl (by rw [KQ,CJ] at *;lk)
   ·exact .inr (by rw [KQ,CJ] at *;lk)
  have sub:∀ b∈[z,TO,i1,i2],b∈[z,TI,TO,i1,i2]:=λb g=>by simp at g ⊢;rcases g with e|e|e|e<;>simp [e]
  refine wpAny_pyNext_zip_end (I.ok.hd hc) D l c d h1 h2 p.isList U.isList B λh' L=>⟨rfl,?_⟩;exact aJ.ade (t':=s.toks) (ch:=[z,TO,i1,i2]) I (λb o n q=>by
   have j:b≠z/\b≠TO/\b≠i1/\b≠i2:=by simpa using n
   exact L b o j.1 j.2.1 j.2.2.1 j.2.2.2 q) λb g=>N b (sub b g)
 self:=λ_ _ _ _ _ st h=>KR st.1 h
def aq2 (K:bI) (ta:TA):TI:=λσ H R=>ta σ H λvs H1=>∃ a b,vs=[.ref a,.ref b]/\(∃ xs,dB K H1 a xs)/\(∃ ys,dB K H1 b ys)/\R (qz (λH xs=>dB K H a xs) (λH xs=>dB K H b xs)) H1
theorem adg {l r:Expr} (hg:Gl X "zip") (hm:X.mg "zip"=none) (ha:PA X [l,r] ta) (hs:starEach [l,r] X.env=(false,eval l X.env)::starEach [r] X.env:=by rfl) (hpl:(backTo pos (starEach [r] X.env)).any (·.1)=false:=by rfl) : PI X (.Tuple elts kk ps) (.Call (.Name "zip" p) [l,r] [] pos) (aq2 X.K ta):=by
 intro aq s σ H R I h;refine Call_ (sV I hg hm boot_zip (Ai (bH (ha pos aq s σ H _ I h) λus d ⟨vs,H1,g,N,y⟩=>?_) hs hpl));obtain ⟨a,b,e,⟨xs,D⟩,⟨ys,hr⟩,q⟩:=y;subst e;obtain ⟨u,v,rfl,J,L⟩:=bY.two N;cases J;cases L;obtain ⟨aM,_,t,_⟩:=g.list D;obtain ⟨B,_,j,_⟩:=g.list hr;have M:a<d.heap.objs.size:=by obtain ⟨o,n,e,_⟩:=t;exact cJ e
 have z:b<d.heap.objs.size:=by obtain ⟨o,n,e,_⟩:=j;exact cJ e
 refine call_zip_2 t.isList j.isList λh' k i S O U sz kk=>KR (by simpa using k) ?_;have x:ZipApart (d.heap.objs.size+4) (d.heap.objs.size+2) (d.heap.objs.size+3) d.heap.objs.size (d.heap.objs.size+1) a b:=by generalize d.heap.objs.size=n at M z;constructor<;>exact λq=>by simp only [Addr] at *;lk
 refine ⟨d.heap.objs.size+4,[d.heap.objs.size+4,d.heap.objs.size+2,d.heap.objs.size+3,d.heap.objs.size,d.heap.objs.size+1],_,_,H1,rfl,g.kept (t':=d.toks) kk,ajp a b _ _ _ _ _ x,⟨k,i,⟨_,_,S⟩,O,U⟩,λc C=>?_,q⟩;have m:d.heap.objs.size<=c:=by
  have q:c=d.heap.objs.size+4\/c=d.heap.objs.size+2\/c=d.heap.objs.size+3\/c=d.heap.objs.size\/c=d.heap.objs.size+1:=by simpa using C
  rcases q with rfl|rfl|rfl|rfl|rfl
  ·exact vH _ _
  ·exact vH _ _
  ·exact vH _ _
  ·exact bJ _
  ·exact vH _ _
 exact g.m8 m (g.hok.fresh m)
theorem anU {ys:aD} (fU:xs.length=ys.length) (Pv:Nat->St->Hp->Prop) (h0:Pv 0 σ H) (hl:∀ i σ H,i<=xs.length->Pv i σ H->nj H xs/\lE H ys) (hs:∀ i x y T σ H,xs[i]?=some x->ys[i]?=some y->H T=none->Pv i σ H->g (.ref T) σ (upd H T (.tup [x,y])) λσ2 H2=>tb { D with nx:=Pv (i+1),ct:=Pv (i+1),bk:=D.nx } σ2 H2) (hd:∀ σ H,Pv xs.length σ H->D.nx σ H) : ∃ W:Nat->Nat->St->Hp->Prop,(∃ m,W 0 m σ H)/\∀ i m σ H,W i m σ H ->((qz nj lE).stop i H/\D.nx σ H)\/((qz nj lE).go i H/\∃ N:St->Hp->Prop,(∀ σ' H',N σ' H'->∃ m',m'<m/\W (i+1) m' σ' H')/\∀ x H',(qz nj lE).oM i H x H'->g x σ H' λσ2 H2=>tb { D with nx:=N,ct:=N,bk:=D.nx } σ2 H2):=by
 refine ⟨λi m σ H=>m=xs.length-i/\i<=xs.length/\Pv i σ H,⟨xs.length,by simp,d_ _,h0⟩,?_⟩;rintro i m σ H ⟨rfl,hi,p⟩;obtain ⟨c,d⟩:=hl i σ H hi p;by_cases b:i<xs.length
 ·have a:i<ys.length:=by lk
  refine .inr ⟨⟨xs,xs[i],ys,ys[i],c,d,by simp [b],by simp [a]⟩,Pv (i+1),λσ' H' l=>⟨xs.length-(i+1),by lk, rfl,b,l⟩,λx H' y=>?_⟩;obtain ⟨T,v,u,n,j,o,q,k⟩:=y;subst j o;exact hs i v u T σ H (q xs c) (k ys d) n p
 ·have e:i=xs.length:=by lk
  subst e;exact .inl ⟨⟨xs,ys,c,d,.inl (by simp)⟩,hd σ H p⟩
theorem Q_ {ys':aD} {R:Hp->Prop} (fU:xs.length=ys'.length) (Pv:Nat->aD->Hp->Prop) (h0:Pv 0 [] (upd H1 l (.lst []))) (hz:xs.length<=sizeLine) (hl:∀ i ys H,i<=xs.length->Pv i ys H->nj H xs/\lE H ys'/\H l=some (.lst ys)/\ys.length<=i) (hs:∀ i x y T ys H,xs[i]?=some x->ys'[i]?=some y->H T=none->Pv i ys H->g (.ref T) (gR own cN σ) (upd H T (.tup [x,y])) λσ2 H2=>Wk (gR own cN σ) σ2 /\tt σ2 H2 λb H3=>if b=true then te σ2 H3 λy H4=>H4 l=some (.lst ys)/\Pv (i+1) (ys++[y]) (upd H4 l (.lst (ys++[y]))) else Pv (i+1) ys H3) (hd:∀ ys H,Pv xs.length ys H->R H) : ∃ W:Nat->Nat->aD->Hp->Prop,(∃ m,W 0 m [] (upd H1 l (.lst []))) /\∀ i m ys H,W i m ys H->H l=some (.lst ys)/\(((qz nj lE).stop i H/\R H)\/((qz nj lE).go i H/\ys.length<sizeLine/\∃ N:aD->Hp->Prop,(∀ ys' H',N ys' H'->∃ m',m'<m/\W (i+1) m' ys' H') /\∀ x H',(qz nj lE).oM i H x H'->g x (gR own cN σ) H' λσ2 H2=>Wk (gR own cN σ) σ2 /\tt σ2 H2 λb H3=>if b=true then te σ2 H3 λy H4=>H4 l=some (.lst ys)/\N (ys++[y]) (upd H4 l (.lst (ys++[y]))) else N ys H3)):=by
 refine ⟨λi m ys H=>m=xs.length-i/\i<=xs.length/\Pv i ys H,⟨xs.length,by simp,d_ _,h0⟩,?_⟩;rintro i m ys H ⟨rfl,hi,p⟩;obtain ⟨d,j,k,B⟩:=hl i ys H hi p;refine ⟨k,?_⟩;by_cases c:i<xs.length
 ·have a:i<ys'.length:=by lk
  refine .inr ⟨⟨xs,xs[i],ys',ys'[i],d,j,by simp [c],by simp [a]⟩,by lk, Pv (i+1),λzs H' o=>⟨xs.length-(i+1),by lk, rfl,c,o⟩,λx H' y=>?_⟩;obtain ⟨T,v,u,q,t,r,z,n⟩:=y;subst t r;exact hs i v u T ys H (z xs d) (n ys' j) q p
 ·have e:i=xs.length:=by lk
  subst e;exact .inl ⟨⟨xs,ys',d,j,.inl (by simp)⟩,hd ys H p⟩
end
section
theorem anV (ns:aU):∀ k:Nat,k<=ns.length->preSum (λi=>ns.getD i 0) k=(ns.take k).sum:=by
 intro k;induction k with
 |zero=>intro _;rfl
 |succ k a =>intro h;rw [take_sum_succ ns k (by lk),<-a (by lk)];rfl
inductive ahp (K:bI) (xs:aD) (H:Hp) (Q:VK):Prop
 |mk (p:Addr) (ns:aU) (h1:xs=[.ref p]) (h2:dB K H p (ns.map V.int)) (h3:Q (.int ns.sum) H)
theorem ajq (hc:X.calm=true):iZ X (.builtin "sum") (ahp X.K):=by
 rintro aq s σ H xs us Q I r ⟨p,ns,rfl,B,q⟩;obtain ⟨u,rfl,a⟩:=r.one;cases a;obtain ⟨aM,j,pl,J⟩:=I.list B;have g:p<s.heap.objs.size:=by obtain ⟨o,n,e,_⟩:=pl;exact cJ e
 have k:=j.length;rw [bD] at k;refine call_sum_walkG (Ds pl.isList ⟨_,_,_,_,_,_,λi=>ns.getD i 0,rfl,Gv (A:=X.A.in1) (I.ok.hd hc) s.heap.objs.size p (fG g) aM.toArray,⟨⟨_,eV _ rfl,rfl,rfl⟩,?_⟩,?_,?_,λh' tk t' C=>?_⟩)
 ·obtain ⟨o,n,e,c,d,y⟩:=pl;exact ⟨o,cP _ e,c,n,y⟩
 ·intro b x;rw [sU];have z:b=s.heap.objs.size\/b=p:=by simpa using x
  rcases z with rfl|rfl
  ·exact Aj _
  ·exact KC g
 ·intro i v t;have hi:aM[i]?=some v:=by simpa using t
  have D:i<aM.length:=(gb.mp hi).1;have m:(ns.map V.int)[i]?=some (.int (ns.getD i 0)):=by rw [lN];simp [List.getD,show i<ns.length by lk]
  obtain ⟨u,l,a⟩:=j.get m;rw [hi] at l;cases l;exact a
 ·have e:preSum (λi=>ns.getD i 0) aM.toArray.size=ns.sum:=by rw [fL,<-k,anV ns ns.length (bJ _),gG]
  rw [e];refine ⟨.int ns.sum,H,?_,⟨t',rfl⟩,q⟩;exact I.kept (t':=tk) λb o e=>C b o (by
    intro z;have:b=s.heap.objs.size:=by simpa using z
    exact absurd (cJ e) (by rw [this];exact qP _)) (cP _ e)
def ipM:Nu:=λx y H Q=>∃ i j,x=.int i/\y=.int j/\HJ i j/\Q (.int (i*j)) H
theorem apS:Wi X .Mult ipM:=by rintro aq s σ H x y v u Q I c e ⟨i,j,a,d,b,q⟩;subst a;subst d;obtain ⟨t,rfl⟩:=c;obtain ⟨t',rfl⟩:=e;exact PyProof.Rows.imul_int ⟨.int _,H,I.tok _,⟨_,rfl⟩,q⟩ b.ok
end
end
variable {M:List aU} {r:aU}
section
theorem Ra {a b:aU} (h:a.length=b.length) (g:∀ i,i<a.length->a.getD i 0=b.getD i 0):a=b:=by refine List.ext_getElem h λi h1 h2=>?_;have:=g i h1;simpa [List.getD,h1,h2] using this
def HN (a b:aU):aU:=List.zipWith (·+·) a b
def qp (n:Int) (a:aU):aU:=a.map (n*·)
def lB (aj:Nat) (i:Nat) (n:Int):aU:=(replicate aj 0).set i n
theorem alD {a b:aU} (h:a.length=b.length):(HN a b).length=a.length:=by unfold HN;rw [List.length_zipWith,h,Nat.min_self]
theorem Gm (n:Int) (a:aU):(qp n a).length=a.length:=bD ..
theorem rQ (aj i:Nat) (n:Int):(lB aj i n).length=aj:=by unfold lB;rw [jW,uD]
theorem ajr {a b:aU} (h:a.length=b.length) (hi:i<a.length):(HN a b).getD i 0=a.getD i 0+b.getD i 0:=by
 have c:i<b.length:=by lk
 simp [HN,List.getD,List.getElem?_zipWith,hi,c]
theorem zL (n:Int) (a:aU) (i:Nat):(qp n a).getD i 0=n*a.getD i 0:=by
 unfold qp;by_cases h:i<a.length
 ·simp [List.getD,h]
 ·simp [List.getD,Nat.le_of_not_lt h]
theorem Qj {aj j:Nat} {n:Int} (hi:i<aj):(lB aj i n).getD j 0=if j=i then n else 0:=by
 unfold lB;rw [vg (by rw [uD];exact hi)];have e:(replicate aj (0:Int)).getD j 0=0:=by simp only [List.getD,Hf];split<;>rfl
 rw [e]
abbrev Hi (aj:Int) (w:Int×Int):Prop:=0<=w.1/\w.1<aj/\0<=w.2/\w.2<aj/\w.1≠w.2
theorem abj {w:Int×Int} (hl:cs.length=aj.toNat) (h:Hi aj w) (x:Nat) : (ji cs w).getD x 0=if x=w.2.toNat then iJ cs w / 2 else if x=w.1.toNat then (iJ cs w+1) / 2 else cs.getD x 0:=by obtain ⟨h1,h2,a,b,h5⟩:=h;unfold ji;rw [vg (by rw [jW];lk),vg (by lk)]
theorem alE (n:Int) (a:aU) (w:Int×Int):iJ (qp n a) w=n*iJ a w:=by unfold iJ;rw [zL,zL,Int.mul_add]
theorem alF {n:Int} {b:aU} {w:Int×Int} (lb:b.length=aj.toNat) (h:Hi aj w) (e:iJ b w % 2=0):ji (qp n b) w=qp n (ji b w):=by
 have l:=Gk b w;have o:=Gk (qp n b) w;have p:=Gm n b;have m:=Gm n (ji b w);refine Ra (by lk) λi hi=>?_;rw [zL,abj (by lk) h,abj lb h,alE];obtain ⟨q,c⟩:∃ q,iJ b w=2*q:=⟨iJ b w / 2,by lk⟩;have k:n*iJ b w=2*(n*q):=by rw [c,RP]
 have g:n*iJ b w / 2=n*q:=by lk
 have a:(n*iJ b w+1) / 2=n*q:=by lk
 have d:iJ b w / 2=q:=by lk
 have j:(iJ b w+1) / 2=q:=by lk
 rw [g,a,d,j];split
 ·rfl
 ·split
  ·rfl
  ·rw [zL]
theorem ajs {k:Nat} {w:Int×Int} {r:aK} (h:lA k cs (w::r)=[]):iJ cs w % 2=0/\lA (k+1) (ji cs w) r=[]:=by
 have h':(if iJ cs w % 2=1 then [(k:Int)] else [])++lA (k+1) (ji cs w) r=[]:=h;obtain ⟨h1,h2⟩:=List.append_eq_nil_iff.mp h';refine ⟨?_,h2⟩;by_cases c:iJ cs w % 2=1
 ·rw [bF c] at h1;cases h1
 ·lk
theorem alG {n:Int} (ws:aK):∀ (b:aU) (k:Nat),bC aj ws->b.length=aj.toNat->lA k b ws=[]->cR (qp n b) ws=qp n (cR b ws):=by
 induction ws with
 |nil=>intro b k _ _ _;rfl
 |cons w r g =>intro b k ok c no;obtain ⟨e,a⟩:=ajs no;show cR (ji (qp n b) w) r=qp n (cR (ji b w) r);rw [alF c (ok w iU) e];exact g _ (k+1) (λx d=>ok x (gK _ d)) (by rw [Gk];exact c) a
structure Ef (aj:Int) (D:Nat) (st:aU×aU) (ws:aK):Prop where
 len:st.1.length=aj.toNat
 low:∀ x:Nat,x<aj.toNat->0<=st.1.getD x 0/\st.1.getD x 0<=(D:Int)
 top:∀ a∈(ws.foldl rB st).2,a<=(D:Int)
theorem Ef.start {D:Nat} (h:∀ a∈(cM aj ws).2,a<=(D:Int)):Ef aj D (replicate aj.toNat 0,[]) ws:=by
 refine ⟨by simp,λx b=>?_,h⟩;have e:(replicate aj.toNat (0:Int)).getD x 0=0:=by simp only [List.getD,Hf];split<;>rfl
 show 0<=(replicate aj.toNat (0:Int)).getD x 0/\(replicate aj.toNat (0:Int)).getD x 0<=(D:Int);rw [e];exact ⟨kJ _,by lk⟩
def Dvs (D:Nat) (cs:aU):Prop:=∀ x:Nat,((2 ^ D:Nat):Int) ∣ cs.getD x 0
theorem Ef.no {D:Nat} {st:aU×aU} (h:Ef aj D st ws) (ok:bC aj ws) (l:cs.length=aj.toNat) (k:Nat) (hc:Dvs D cs):lA k cs ws=[]:=agX ws st cs k ok h.len l (λx a=>⟨(h.low x a).1,(h.low x a).2,FZ (Nat.sub_le _ _) (hc x)⟩) h.top
theorem ajt {aj D:Nat} {n:Int} (hi:i<aj) (h:((2 ^ D:Nat):Int) ∣ n):Dvs D (lB aj i n):=λx=>by
 rw [Qj hi];split
 ·exact h
 ·exact ⟨0,by lk⟩
def g8 (aj D:Nat) (ws:aK) (i:Nat):aU:=cR (lB aj i ((2 ^ D:Nat):Int)) ws
def tH (aj D:Nat) (ws:aK) (n:Nat):aU :=
 HN (g8 aj D (ws.drop (n+1)) (M7 ws n).1.toNat) (qp (-1) (g8 aj D (ws.drop (n+1)) (M7 ws n).2.toNat))
where M7 (ws:aK) (j:Nat):Int×Int:=ws.getD j (0,0)
theorem rM (aj D:Nat) (ws:aK) (i:Nat):(g8 aj D ws i).length=aj:=by unfold g8;rw [rP,rQ]
theorem Qz (aj D:Nat) (ws:aK) (n:Nat):(tH aj D ws n).length=aj:=by unfold tH;rw [alD (by rw [Gm,rM,rM]),rM]
theorem ah' {aj D:Nat} {j:Nat} {w:Int×Int} (hw:ws[n]?=some w) (hj:j<aj):(tH aj D ws n).getD j 0=(g8 aj D (ws.drop (n+1)) w.1.toNat).getD j 0-(g8 aj D (ws.drop (n+1)) w.2.toNat).getD j 0:=by
 have e:tH.M7 ws n=w:=by simp [tH.M7,List.getD,hw]
 unfold tH;rw [ajr (by rw [Gm,rM,rM]) (by rw [rM];exact hj),zL,e];lk
def WD (L:aU):Int:=L.foldl eE 0
theorem anW (L:aU):∀ x:Int,x<=L.foldl eE x/\(∀ a∈L,a<=L.foldl eE x)/\(L.foldl eE x=x\/L.foldl eE x∈L):=by
 induction L with
 |nil=>intro x;exact ⟨kJ _,(λ_ h=>nomatch h),.inl rfl⟩
 |cons b r i =>
  intro x;obtain ⟨h1,h2,d⟩:=i (eE x b);rw [um];generalize r.foldl eE (eE x b)=z at h1 h2 d;unfold eE at h1 d;by_cases c:b<=x
  ·rw [bF c] at h1 d;refine ⟨h1,λa g=>?_,d.imp id (gK _)⟩;rcases gn.mp g with e|e
   ·lk
   ·exact h2 a e
  ·rw [bw c] at h1 d;refine ⟨by lk, λa g=>?_,?_⟩
   ·rcases gn.mp g with e|e
    ·lk
    ·exact h2 a e
   ·rcases d with e|e
    ·exact .inr (by rw [e];exact iU)
    ·exact .inr (gK _ e)
theorem Mr (L:aU):Mx (WD L) (·∈L):=anW L 0
def cW (aj:Int) (ws:aK):Nat:=(WD (cM aj ws).2).toNat
theorem QB (aj:Int) (ws:aK):(cW aj ws:Int)=WD (cM aj ws).2:=by have:=(Mr (cM aj ws).2).1;unfold cW;lk
theorem GR {m:Int} (ok:bC aj ws) (h0:(cM aj ws).2=[]->m=0) (h1:(cM aj ws).2≠[]->q8 (cM aj ws).2 m):m=(cW aj ws:Int):=by
 rw [QB];refine Mx.uniq (S:=(·∈(cM aj ws).2)) ?_ (Mr _);obtain ⟨a,c,b⟩:=aho ok h0 h1;refine ⟨a,b,?_⟩;by_cases e:(cM aj ws).2=[]
 ·exact .inl (h0 e)
 ·exact .inr (h1 e).1
theorem alH (aj:Int) (ws:aK):∀ a∈(cM aj ws).2,a<=(cW aj ws:Int):=by rw [QB];exact (Mr _).2.1
theorem vL (ok:bC aj ws):cW aj ws<=ws.length:=by
 have h:=Mr (cM aj ws).2;have c:=QB aj ws;rcases h.2.2 with e|e
 ·lk
 ·have:=(abh ok _ e).2;lk
abbrev whole (aj:Int) (ws:aK):Int:=((2 ^ cW aj ws:Nat):Int)
theorem JM (aj:Int) (ws:aK):1<=whole aj ws:=by have:0<2 ^ cW aj ws:=Gx (by decide);unfold whole;lk
theorem JW (ok:bC aj ws) (len:ws.length<=41):whole aj ws<=2 ^ 41:=by
 have h:2 ^ cW aj ws<=2 ^ 41:=uo (by decide) (eU (vL ok) len);unfold whole;have:((2 ^ 41:Nat):Int)=2 ^ 41:=by decide
 lk
theorem aq3 (aj:Int) (ws:aK):Ef aj (cW aj ws) (replicate aj.toNat 0,[]) ws:=Ef.start (alH aj ws)
def Rows (H:Hp):aD->List aU->Prop:=Paired λr w=>∃ t,r=.ref t/\H t=some (.lst (w.map V.int))
theorem Rows.same (k:aG H H'):∀ {rs:aD} {M:List aU},Rows H rs M->Rows H' rs M
 |_,_,.nil=>.nil
 |_,_,.cons ⟨t,e,h⟩ r=>.cons ⟨t,e,k t _ h⟩ (Rows.same k r)
theorem Rows.len (h:Rows H rs M):rs.length=M.length:=uE h
theorem Rows.get:∀ {rs:aD} {M:List aU} {i:Nat} {r:V},Rows H rs M->rs[i]?=some r->∃ w t,M[i]?=some w/\r=.ref t/\H t=some (.lst (w.map V.int))
 |_,_,_,_,.nil,e=>by simp at e
 |_,_,0,_,.cons ⟨t,e1,h⟩ _,e=>by simp at e;subst e;exact ⟨_,t,rfl,e1,h⟩
 |_,_,i+1,r,.cons _ q,e=>by obtain ⟨w,t,a,b⟩:=Rows.get (i:=i) (r:=r) q (by simpa using e);exact ⟨w,t,by simpa using a,b⟩
def eG (G H:Hp) (l:Addr):aD->List aU->Prop:=Paired λr w=>∃ t,r=.ref t/\t≠l/\G t=none/\H t=some (.lst (w.map V.int))
theorem eG.rows:∀ {rs:aD} {M:List aU},eG G H l rs M->Rows H rs M
 |_,_,.nil=>.nil
 |_,_,.cons ⟨t,e,_,_,h⟩ r=>.cons ⟨t,e,h⟩ (eG.rows r)
theorem eG.same (k:aG H H'):∀ {rs:aD} {M:List aU},eG G H l rs M->eG G H' l rs M
 |_,_,.nil=>.nil
 |_,_,.cons ⟨t,e,a,b,h⟩ r=>.cons ⟨t,e,a,b,k t _ h⟩ (eG.same k r)
theorem eG.put:∀ {rs:aD} {M:List aU},eG G H l rs M->eG G (upd H l o) l rs M
 |_,_,.nil=>.nil
 |_,_,.cons ⟨t,e,a,b,h⟩ r=>.cons ⟨t,e,a,b,by rw [bh a];exact h⟩ (eG.put r)
theorem eG.app:∀ {rs qs:aD} {M N:List aU},eG G H l rs M->eG G H l qs N->eG G H l (rs++qs) (M++N)
 |_,_,_,_,.nil,s=>s
 |_,_,_,_,.cons r t,s=>.cons r (eG.app t s)
theorem eG.more {w:aU} (h:eG G H l rs M) (k:aG H H') (ht:H' t=some (.lst (w.map V.int))) (n:t≠l) (g:G t=none):eG G (upd H' l o) l (rs++[.ref t]) (M++[w]):=((h.same k).app (.cons ⟨t,rfl,n,g,ht⟩ .nil)).put
theorem eG.len (h:eG G H l rs M):rs.length=M.length:=uE h
theorem eG.get:∀ {rs:aD} {M:List aU} {i:Nat} {r:V},eG G H l rs M->rs[i]?=some r->∃ w t,M[i]?=some w/\r=.ref t/\t≠l/\G t=none/\H t=some (.lst (w.map V.int))
 |_,_,_,_,.nil,e=>by simp at e
 |_,_,0,_,.cons ⟨t,e1,h⟩ _,e=>by simp at e;subst e;exact ⟨_,t,rfl,e1,h⟩
 |_,_,i+1,r,.cons _ q,e=>by obtain ⟨w,t,a,b⟩:=eG.get (i:=i) (r:=r) q (by simpa using e);exact ⟨w,t,by simpa using a,b⟩
theorem Qk (f:Nat->α) (j:Nat):(range (j+1)).map f=(range j).map f++[f j]:=by rw [mW,dF];rfl
theorem abk {f:Nat->α} {x:α} (h:((range n).map f)[i]?=some x):i<n/\x=f i:=by
 rw [lN] at h;have hi:i<n:=by
  by_cases c:i<n
  ·exact c
  ·rw [List.getElem?_eq_none (by simp;lk)] at h;cases h
 rw [RQ hi] at h;exact ⟨hi,(gw h).symm⟩
theorem zP {j:Nat} {x:V} (h:(cs.map V.int)[j]?=some x):∃ z,cs[j]?=some z/\x=V.int z:=by
 rw [lN] at h;cases e:cs[j]? with
 |none=>rw [e] at h;cases h
 |some z=>rw [e] at h;exact ⟨z,rfl,(gw h).symm⟩
def fD (aj:Int) (ws:aK):List aU:=(range aj.toNat).map (g8 aj.toNat (cW aj ws) ws)
inductive alI (vs:aD) (H:Hp) (Q:VK):Prop
 |mk (v:V) (aj:Int) (ws:aK) (h1:vs=[v]) (h2:dD H v aj ws) (h3:1<=aj) (h4:aj<=8) (h5:bC aj ws) (h6:ws.length<=41) (h7:∀ H',aG H H'->Q (.int (whole aj ws)) H')
def anY:=nE alI
inductive alJ (vs:aD) (H:Hp) (Q:VK):Prop
 |mk (aj yu n:Int) (h1:vs=[.int aj,.int yu,.int n]) (h2:1<=aj) (h3:aj<=8) (h4:0<=yu) (h5:yu<aj) (h6:∀ (a:Addr) (H':Hp),H a=none->aG H H'->H' a=some (.lst ((lB aj.toNat yu.toNat n).map V.int))->Q (.ref a) H')
def anZ:=nE alJ
inductive aju (vs:aD) (H:Hp) (Q:VK):Prop
 |mk (v:V) (aj:Int) (ws:aK) (h1:vs=[v]) (h2:dD H v aj ws) (h3:1<=aj) (h4:aj<=8) (h5:bC aj ws) (h6:ws.length<=41) (h7:∀ (l:Addr) (rs:aD) (H':Hp),H l=none->aG H H'->H' l=some (.lst rs)->eG H H' l rs (fD aj ws)->Q (.ref l) H')
def alK:=nE aju
theorem aaG (aj:Int) (ws:aK):(fD aj ws).length=aj.toNat:=by unfold fD;simp
theorem aaH (h:(fD aj ws)[i]?=some r):i<aj.toNat/\r=g8 aj.toNat (cW aj ws) ws i:=abk h
theorem yd {j:Nat} (h:cs[j]?=some z):cs.getD j 0=z:=by simp [List.getD,h]
theorem abS (h:n<=xs.length):fX xs (some (n:Int)) none=xs.drop n:=by unfold fX;rw [HT.Ab,HT.zO,vG h,sI (by rw [jO];lk)]
theorem asq:fX xs (some 1) none=xs.drop 1:=by
 by_cases h:1<=xs.length
 ·exact abS (n:=1) h
 ·have e:xs=[]:=RV.mp (by lk);subst e;rfl
def sY (aj:Int) (ws:aK):List aU:=(range ws.length).map (tH aj.toNat (cW aj ws) ws)
theorem aaX (aj:Int) (ws:aK):(sY aj ws).length=ws.length:=by unfold sY;simp
theorem aaY (h:(sY aj ws)[i]?=some r):i<ws.length/\r=tH aj.toNat (cW aj ws) ws i:=abk h
theorem aaI {aj D:Nat} {w:Int×Int} (hw:ws[n]?=some w) : tH aj D ws n=(range aj).map λk=>(g8 aj D (ws.drop (n+1)) w.1.toNat).getD k 0-(g8 aj D (ws.drop (n+1)) w.2.toNat).getD k 0:=by refine Ra (by rw [Qz];simp) λi hi=>?_;rw [Qz] at hi;rw [ah' hw hi];simp only [List.getD];rw [lN,RQ hi];rfl
inductive an0 (vs:aD) (H:Hp) (Q:VK):Prop
 |mk (v:V) (aj:Int) (ws:aK) (n:Nat) (h1:vs=[v,.int n,.int (whole aj ws)]) (h2:dD H v aj ws) (h3:1<=aj) (h4:aj<=8) (h5:bC aj ws) (h6:ws.length<=41) (h7:n<ws.length) (h8:∀ (a:Addr) (H':Hp),H a=none->aG H H'->H' a=some (.lst ((tH aj.toNat (cW aj ws) ws n).map V.int))->Q (.ref a) H')
def apT:=nE an0
inductive alL (vs:aD) (H:Hp) (Q:VK):Prop
 |mk (v:V) (aj:Int) (ws:aK) (h1:vs=[v]) (h2:dD H v aj ws) (h3:1<=aj) (h4:aj<=8) (h5:bC aj ws) (h6:ws.length<=41) (h7:∀ (l:Addr) (rs:aD) (H':Hp),H l=none->aG H H'->H' l=some (.lst rs)->eG H H' l rs (sY aj ws)->Q (.ref l) H')
def an1:=nE alL
theorem alM {x:V} (h:rs[rs.length-1]?=some x):gD rs (-1)=some x:=by have a:=(gb.mp h).1;unfold gD rF;rw [bw (by decide),bF (by lk)];show rs[((-1:Int)+(rs.length:Int)).toNat]?=some x;rw [show ((-1:Int)+(rs.length:Int)).toNat=rs.length-1 by lk];exact h
end
section
open PySem.Spec PyProof.Rows PyProof.V PySem.SeqAt
mutual
inductive jF (H:Hp):V->PyData->Prop
 |non:jF H .non .none
 |bl (b:Bool):jF H (.bl b) (.bool b)
 |int (i:Int):jF H (.int i) (.int i)
 |str (x:Str):jF H (.str x) (.str x)
 |lst {a:Addr} {xs:aD} {ds:List PyData}:H a=some (.lst xs)->uI H xs ds->jF H (.ref a) (.list ds)
 |tup {a:Addr} {xs:aD} {ds:List PyData}:H a=some (.tup xs)->uI H xs ds->jF H (.ref a) (.tuple ds)
inductive uI (H:Hp):aD->List PyData->Prop
 |nil:uI H [] []
 |cons {v:V} {vs:aD} {d:PyData} {ds:List PyData}:jF H v d->uI H vs ds->uI H (v::vs) (d::ds)
end
theorem uI.ints (H:Hp):∀ ns:aU,uI H (ns.map V.int) (ns.map PyData.int)
 |[]=>.nil
 |n::r=>.cons (.int n) (uI.ints H r)
theorem jF.ints (h:H a=some (.lst (ns.map V.int))):jF H (.ref a) (.list (ns.map PyData.int)):=.lst h (uI.ints H ns)
theorem jF.reads (I:aJ X aq σ H s) {d:PyData} (h:jF H v d):∀ u,cC v u->∃ as,Reads s.heap u d as:=by
 refine jF.rec (H:=H) (motive_1:=λv d _=>∀ u,cC v u->∃ as,Reads s.heap u d as) (motive_2:=λvs ds _=>∀ us,bY vs us->∃ as,ReadsAll s.heap us ds as) ?_ ?_ ?_ ?_ ?_ ?_ ?_ ?_ h
 ·intro u r;cases r;exact ⟨_,.none⟩
 ·intro b u r;cases r;exact ⟨_,.bool b⟩
 ·rintro i u ⟨t,rfl⟩;exact ⟨_,.int i t⟩
 ·rintro x u ⟨t,rfl⟩;exact ⟨_,.str x t⟩
 ·intro a xs ds e _ q u r;cases r;obtain ⟨aM,k,pl,_⟩:=I.list (aQ (K:=X.K) e);obtain ⟨as,c⟩:=q aM k;obtain ⟨o,l,g,n,m⟩:=pl.isList;exact ⟨_,.list l g m (by simpa using c)⟩
 ·intro a xs ds e _ q u r;cases r;obtain ⟨aM,k,pl,_⟩:=I.tuple (aX (K:=X.K) e);obtain ⟨as,c⟩:=q aM k;obtain ⟨o,l,g,n,m⟩:=(show s.heap.IsTuple a aM.toArray from pl);exact ⟨_,.tuple l g m (by simpa using c)⟩
 ·intro us r;cases r;exact ⟨_,.nil⟩
 ·intro v vs d ds _ _ p j us r;cases r with
  |cons z B =>obtain ⟨as,c⟩:=p _ z;obtain ⟨bs,y⟩:=j _ B;exact ⟨_,.cons c y⟩
section
def afh (neg:Bool):R2:=λx y H Q=>∃ dx a,jF H x dx/\jF H y a/\shaped dx=true/\shaped a=true/\noMix dx a=true/\Q (.bl (if neg then !same dx a else same dx a)) H
theorem Uq (hu:X.A.units+64<cLine):dN X (compareOp .Eq) (afh false):=by rintro aq s σ H x y v u Q I d j ⟨dx,k,a,c,b,g,nm,q⟩;obtain ⟨l,e⟩:=a.reads I v d;obtain ⟨bs,i⟩:=c.reads I u j;exact eq_dataH_same e i b g hu nm ⟨.bl _,H,I,rfl,q⟩
theorem Ms (hu:X.A.units+64<cLine):dN X (compareOp .NotEq) (afh true):=by rintro aq s σ H x y v u Q I d j ⟨dx,k,a,c,b,g,nm,q⟩;obtain ⟨l,e⟩:=a.reads I v d;obtain ⟨bs,i⟩:=c.reads I u j;exact ne_dataH_same e i b g hu nm ⟨.bl _,H,I,rfl,q⟩
end
end
section
open PySem.SeqAt
abbrev pL (M:List aU) (i:Nat):aU:=M.getD i []
def Vj (r:aU):Prop:=∀ x,x<r.length->r.getD x 0=r.getD 0 0
def lC (M:List aU):Prop:=∀ i,i<M.length->Vj (pL M i)
def uJ (M:List aU) (i k:Nat):Prop:=i<M.length/\(∀ j,j<i->Vj (pL M j))/\k<(pL M i).length/\(pL M i).getD k 0≠(pL M i).getD 0 0/\∀ x,x<k->(pL M i).getD x 0=(pL M i).getD 0 0
theorem uJ.not {k:Nat} (a:uJ M i k) (b:lC M):False:=a.2.2.2.1 (b i a.1 k a.2.2.1)
theorem an2 (h:M[i]?=some r):pL M i=r:=by simp [pL,List.getD,h]
inductive ajv (vs:aD) (H:Hp) (Q:VK):Prop
 |mk (v:V) (aj:Int) (ws:aK) (h1:vs=[v]) (h2:dD H v aj ws) (h3:1<=aj) (h4:aj<=8) (h5:bC aj ws) (h6:ws.length<=41) (h7:(∀ H',aG H H'->lC (fD aj ws)->Q .non H')) (h8:∀ (T:Addr) (i k:Nat) (H':Hp),H T=none->aG H H'->H' T=some (.tup [.int i,.int 0,.int k])->uJ (fD aj ws) i k->Q (.ref T) H')
def alN:=nE ajv
theorem abT (ok:bC aj ws) (hi:i<aj.toNat) (x:Nat):(cR (lB aj.toNat i (2*whole aj ws)) ws).getD x 0=2*(g8 aj.toNat (cW aj ws) ws i).getD x 0:=by
 have e:lB aj.toNat i (2*whole aj ws)=qp 2 (lB aj.toNat i (whole aj ws)):=by refine Ra (by rw [Gm,rQ,rQ]) λy _=>?_;rw [zL,Qj hi,Qj hi];split<;>lk
 rw [e,alG (aj:=aj) ws _ 0 ok (rQ _ _ _) ((aq3 aj ws).no ok (rQ _ _ _) 0 (ajt hi ⟨1,(Mf _).symm⟩)),zL];rfl
end
section
open PySem.Spec PyProof.Rows PyProof.V PySem.SeqAt
section
variable {a:Expr} {ta:TE}
theorem an3 (ha:PE X a ta):PE X (.UnaryOp .Not a pos) (λσ H Q=>ta σ H λx H'=>∃ k,afa X.K x H' k/\Q (.bl (!k)) H'):=by intro aq s σ H Q I h;exact UnaryOp_ (bH (ha aq s σ H _ I h) (by rintro v e ⟨x,H1,b,g,d⟩;exact not_of (bH (apA aq e σ H1 x v (λk H'=>Q (.bl (!k)) H') b g d) (by rintro c l ⟨H2,i,j⟩;exact ⟨.bl (!c),H2,i,rfl,j⟩))))
end
theorem alO {ys:aD} (h1:n<=xs.length) (h2:n<=ys.length) (h3:xs.length=n\/ys.length=n) (Pv:Nat->St->Hp->Prop) (h0:Pv 0 σ H) (hl:∀ i σ H,i<=n->Pv i σ H->nj H xs/\lE H ys) (hs:∀ i x y T σ H,i<n->xs[i]?=some x->ys[i]?=some y->H T=none->Pv i σ H->g (.ref T) σ (upd H T (.tup [x,y])) λσ2 H2=>tb { D with nx:=Pv (i+1),ct:=Pv (i+1),bk:=D.nx } σ2 H2) (hd:∀ σ H,Pv n σ H->D.nx σ H) : ∃ W:Nat->Nat->St->Hp->Prop,(∃ m,W 0 m σ H)/\∀ i m σ H,W i m σ H ->((qz nj lE).stop i H/\D.nx σ H)\/((qz nj lE).go i H/\∃ N:St->Hp->Prop,(∀ σ' H',N σ' H'->∃ m',m'<m/\W (i+1) m' σ' H')/\∀ x H',(qz nj lE).oM i H x H'->g x σ H' λσ2 H2=>tb { D with nx:=N,ct:=N,bk:=D.nx } σ2 H2):=by
 refine ⟨λi m σ H=>m=n-i/\i<=n/\Pv i σ H,⟨n,by simp,d_ _,h0⟩,?_⟩;rintro i m σ H ⟨rfl,hi,p⟩;obtain ⟨b,c⟩:=hl i σ H hi p;by_cases a:i<n
 ·have q:i<xs.length:=by lk
  have o:i<ys.length:=by lk
  refine .inr ⟨⟨xs,xs[i],ys,ys[i],b,c,by simp [q],by simp [o]⟩,Pv (i+1),λσ' H' k=>⟨n-(i+1),by lk, rfl,a,k⟩,λx H' y=>?_⟩;obtain ⟨T,v,u,l,d,r,t,j⟩:=y;subst d r;exact hs i v u T σ H a (t xs b) (j ys c) l p
 ·have e:i=n:=by lk
  subst e;refine .inl ⟨⟨xs,ys,b,c,?_⟩,hd σ H p⟩;rcases h3 with z|z
  ·exact .inl (by rw [<-z];simp)
  ·exact .inr (by rw [<-z];simp)
end
section
open PySem.Spec PyProof.Rows
structure Eh (P:Program) (w:World) (K:bI) (mg:dH) (aF:Heap) (C:Addr) (m:Str) (k:Nat) (ps:bR) (sp:Sp):Prop where
 ex:∃ (f:Addr) (fd:FuncData),dz P w K mg aF jj k f fd ps sp/\oZ K fd ps []/\Hg K C m f
structure Maker (P:Program) (w:World) (K:bI) (mg:dH) (aF:Heap) (x:Str) (C:Addr) (k:Nat) (ps:bR) (sp:Sp):Prop where
 ex:∃ (f:Addr) (fd:FuncData),dz P w K mg aF jj k f fd ps sp/\oZ K fd ps []/\Vz K C f
 at_:mg x=some (.ref C)
section
variable {m:Str} {k:Nat} {o:Expr} {ta:TE} {t:TA} {apos:Pos}
theorem abU (he:PE X o ta) (c:qY X.K C) (M:Eh X.prog X.w X.K X.mg X.aF C m k ps sp) (hr:dW k X.A) (ha:PA X (e::es) t) (hst:starEach (e::es) X.env=(false,eval e X.env)::starEach es X.env:=by rfl) (hpl:(backTo pos (starEach es X.env)).any (·.1)=false:=by rfl) (ht:eval (.Call (.Attribute o m apos) (e::es) [] pos) X.env=(do
   let ov <-eval o X.env
   standAt apos.atName
   let (f,first) <-holding [ov] (getMethod ov m pl)
   callWith pos f first (backTo pos (starEach (e::es) X.env)) (backToKw pos (keywordEach [] X.env))):=by rfl) :
  PE X (.Call (.Attribute o m apos) (e::es) [] pos) (aeI C m sp [] E0 ta t):=by
 obtain ⟨f,fd,F,b,a⟩:=M.ex;exact anC he c a F hr b .nil Ve ha hst hpl ht
end
structure yE (K:bI) (mg:dH) (C:Addr) (x q:Str) (st:Stmt) (f:Addr) (fd:FuncData):Prop where
 fn:tX K x q st f fd
 mt:Hg K C x f
theorem yE.asr {q:Str} {k:Nat} (h:yE K mg C x q st f fd) (F:dz P w K mg aF jj k f fd ps sp) (hb:∀ (kV doc pm:Value) (an:jf) (cdv ct:Value) (us:cG),us.length=ps.length->bindArgs (fnOf x q (jX st) (jk st) (dX st) .none kV doc pm an cdv ct) ⟨us,[]⟩=pure (ps.zip us)):Eh P w K mg aF C x k ps sp:=⟨f,fd,F,h.fn.binds hb,h.mt⟩
end
section
open PySem.SeqAt
theorem abV (f:Str) (v:V):∀ fs:List (Str×V),(j4 f v fs).length<=fs.length+1
 |[]=>by simp [j4]
 |(g,x)::r=>by
  unfold j4;split
  ·simp
  ·have:=abV f v r;simp;lk
theorem Paired.M8 {F:α->β->Prop}:∀ {l:List α} {m:List β} {i:Nat} {b:β},Paired F l m->m[i]?=some b->∃ a,l[i]?=some a/\F a b
 |_,_,_,_,.nil,e=>by simp at e
 |_,_,0,_,.cons h _,e=>by simp at e;subst e;exact ⟨_,rfl,h⟩
 |_,_,i+1,b,.cons _ t,e=>by obtain ⟨a,h1,h2⟩:=Paired.M8 (i:=i) (b:=b) t (by simpa using e);exact ⟨a,by simpa using h1,h2⟩
abbrev dG (H:Hp) (v:V) (aj:Int) (ws:aK):Prop:=dD H v aj ws/\1<=aj/\aj<=8/\bC aj ws/\ws.length<=41
theorem dG.kt (n:dG H v aj ws) (k:KT H H'):dG H' v aj ws:=⟨n.1.kt k,n.2⟩
inductive aia (vs:aD) (H:Hp) (Q:VK):Prop
 |mk (i:Int) (h1:vs=[.int i]) (h2:Q (.bl true) H)
def abl:=nE aia
inductive ajw (vs:aD) (H:Hp) (Q:VK):Prop
 |mk (aj i:Int) (h1:vs=[.int aj,.int i]) (h2:0<=i) (h3:i<aj) (h4:Q (.bl true) H)
def alP:=nE ajw
end
section
open PySem.Spec PyProof.Rows
end
section
open PySem.SeqAt
end
section
end
variable {S:jq}
section
open PySem.SeqAt
theorem abm:∀ {rs:aD} {ws:aK},bZ H rs ws->uI H rs (ws.map λx=>PyData.tuple [.int x.1,.int x.2])
 |_,_,.nil=>.nil
 |_,_,.cons ⟨t,e,h⟩ r=>by subst e;exact .cons (.tup h (.cons (.int _) (.cons (.int _) .nil))) (abm r)
theorem abn:∀ ws:aK,canLayAll0 (ws.map λx=>PyData.tuple [.int x.1,.int x.2])=true/\depthAll (ws.map λx=>PyData.tuple [.int x.1,.int x.2])<=5
 |[]=>by simp [canLayAll0,depthAll]
 |w::r=>by
  obtain ⟨a,b⟩:=abn r;constructor
  ·simp [canLayAll0,canLay0,a]
  ·simp only [iC,depthAll,PyData.depth];lk
def fZ (S:jq) (H H':Hp):Prop:=∀ b o,H b=some o->b∉S->H' b=some o
theorem fZ.refl (S:jq) (H:Hp):fZ S H H:=λ_ _ e _=>e
theorem fZ.trans (a:fZ S H H1) (b:fZ S H1 H2):fZ S H H2:=λc o e n=>b c o (a c o e n) n
theorem fZ.same (s:aG H H'):fZ S H H':=λb o e _=>s b o e
theorem fZ.upd {x:Addr} (h:x∈S):fZ S H (upd H x o):=λb _ e n=>(bh (λz=>n (by rw [z];exact h))).trans e
theorem fZ.old (k:fZ S H H') (s:aG G H) (h:∀ x∈S,G x=none):aG G H':=λb o e=>k b o (s b o e) λz=>by rw [h b z] at e;cases e
end
section
section
variable (K:bI) (hK:X.K=K)
include hK
end
end
section
open PySem.SeqAt
-- one more on yu l from level s on,and aM place
end
section
open PySem.Spec PyProof.Rows
theorem Te {c:TT} (Pv:Nat->St->Hp->Prop) (m0:Nat) (h0:Pv m0 σ H) (hs:∀ m σ H,Pv m σ H->c σ H λb H1=>if b=true then tb { D with nx:=λσ' H'=>∃ m',m'<m/\Pv m' σ' H',ct:=λσ' H'=>∃ m',m'<m/\Pv m' σ' H',bk:=D.nx } σ H1 else D.nx σ H1) (mono:∀ σ H Q Q',(∀ b H1,Q b H1->Q' b H1)->c σ H Q->c σ H Q'):Um c tb D σ H:=by
 refine ⟨Pv,⟨m0,h0⟩,?_⟩;rintro m σ H p;refine mono σ H _ _ (λb H1 q=>?_) (hs m σ H p);cases b with
 |true=>exact ⟨_,λσ' H' z=>z,q⟩
 |false=>exact q
end
section
open PySem.SeqAt
end
section
open PySem.Spec PyProof.Rows
end
section
open PySem.SeqAt
end
section
theorem vM {a b:TS} (h:∀ N:St->Hp->Prop,(∀ σ H,b D σ H->N σ H)->a { D with nx:=N } σ H):Vv a b D σ H:=h (b D) (λ_ _ z=>z)
theorem abW {t:TT} {Q:Bool->Hp->Prop} (h:∀ R:Hp->Prop,(∀ H,Q true H->R H)->t σ H (λb H1=>if b=true then R H1 else Q false H1)):t σ H Q:=by
 have z:=h (Q true) (λ_ z=>z);have e:(λb H1=>if b=true then Q true H1 else Q false H1)=Q:=funext λb=>funext λH1=>by cases b<;>rfl
 rw [e] at z;exact z
end
section
open PySem.Spec PyProof.Rows
end
section
open PySem.SeqAt
end
section
open PySem.Spec PyProof.Rows
end
section
open PySem.SeqAt
def uR (M:List aU) (a b:Nat):Int:=(M.map λr=>eE (r.getD a 0-r.getD b 0) 0).sum
def yM (M:List aU) (a:Nat) (g:Int) (j:Nat):Int:=(range j).foldl (λg b=>eE g (uR M a b)) g
def zc (n:Nat) (M:List aU) (i:Nat):Int:=(range i).foldl (λg a=>yM M a g n) 0
theorem QC (M:List aU) (a:Nat) (g:Int) (j:Nat):yM M a g (j+1)=eE (yM M a g j) (uR M a j):=by unfold yM;rw [mW,vD];rfl
theorem Rb (n:Nat) (M:List aU) (i:Nat):zc n M (i+1)=yM M i (zc n M i) n:=by unfold zc;rw [mW,vD];rfl
theorem an4 (M:List aU) (a:Nat) (g:Int) (j:Nat):g<=yM M a g j:=by
 induction j with
 |zero=>exact kJ _
 |succ j b =>rw [QC];unfold eE;split<;>lk
theorem aaZ (n:Nat) (M:List aU) (i:Nat):0<=zc n M i:=by
 induction i with
 |zero=>exact kJ _
 |succ i a =>rw [Rb];exact qJ a (an4 M i _ n)
def j6 (a b:Int):Int:=((gcd a.toNat b.toNat:Nat):Int)
theorem ajx {a:Int} (ha:0<=a) (hb:0<b):j6 b (a % b)=j6 a b:=by
 unfold j6;have e:(a % b).toNat=a.toNat % b.toNat:=by obtain ⟨m,rfl⟩:∃ m:Nat,a=m:=⟨a.toNat,by lk⟩;obtain ⟨n,rfl⟩:∃ n:Nat,b=n:=⟨b.toNat,by lk⟩;rw [<-Int.natCast_emod,o_,o_,o_]
 rw [e,Nat.gcd_comm a.toNat,Nat.gcd_rec b.toNat a.toNat,Nat.gcd_comm]
theorem ajy {a:Int} (ha:0<=a):j6 a 0=a:=by unfold j6;show ((gcd a.toNat 0:Nat):Int)=a;rw [Nat.gcd_zero_right];lk
theorem abX {a:Int} (hb:0<b):0<j6 a b:=by unfold j6;have:=Nat.gcd_pos_of_pos_right a.toNat (show 0<b.toNat by lk);lk
theorem an5 {a:Int} (hb:0<b):j6 a b<=b:=by unfold j6;have:=Nat.gcd_le_right a.toNat (show 0<b.toNat by lk);lk
def jQ (aj:Int) (ws:aK):Int:=zc aj.toNat (sY aj ws) aj.toNat
def jR (aj:Int) (ws:aK):Int:=2*whole aj ws
inductive alQ (vs:aD) (H:Hp) (Q:VK):Prop
 |mk (l:Addr) (rs:aD) (M:List aU) (a b:Int) (n:Nat) (h1:vs=[.ref l,.int a,.int b]) (h2:H l=some (.lst rs)) (h3:Rows H rs M) (h4:M.length<=100) (h5:(∀ r∈M,r.length=n)) (h6:0<=a) (h7:a<n) (h8:0<=b) (h9:b<n) (h10:∀ H',aG H H'->Q (.int (uR M a.toNat b.toNat)) H')
def an6:=nE alQ
inductive alR (vs:aD) (H:Hp) (Q:VK):Prop
 |mk (v:V) (aj:Int) (ws:aK) (h1:vs=[v]) (h2:dD H v aj ws) (h3:1<=aj) (h4:aj<=8) (h5:bC aj ws) (h6:ws.length<=41) (h7:∀ H',aG H H'->Q (.int (jQ aj ws)) H')
def an7:=nE alR
inductive apU (vs:aD) (H:Hp) (Q:VK):Prop
 |mk (a b:Int) (h1:vs=[.int a,.int b]) (h2:0<=a) (h3:0<=b) (h4:Q (.int (j6 a b)) H)
def aq4:=nE apU
inductive alS (vs:aD) (H:Hp) (Q:VK):Prop
 |mk (v:V) (aj:Int) (ws:aK) (h1:vs=[v]) (h2:dD H v aj ws) (h3:1<=aj) (h4:aj<=8) (h5:bC aj ws) (h6:ws.length<=41) (h7:(∀ (i k:Nat) (H':Hp),aG H H'->uJ (fD aj ws) i k->Q .non H')) (h8:∀ (T:Addr) (H':Hp),H T=none->aG H H'->H' T=some (.tup [.int (jQ aj ws / j6 (jQ aj ws) (jR aj ws)),.int (jR aj ws / j6 (jQ aj ws) (jR aj ws))])->lC (fD aj ws)->Q (.ref T) H')
def an8:=nE alS
theorem vN (a b:Int):shaped (.tuple [.int a,.int b])=true:=by show (canLay0 _ && decide (PyData.depth _<=64))=true;simp [canLay0,canLayAll0,PyData.depth,depthAll]
theorem M9 {T:Addr} {a:Int} (h:H T=some (.tup [.int a,.int b])):jF H (.ref T) (.tuple [.int a,.int b]):=.tup h (.cons (.int a) (.cons (.int b) .nil))
theorem aib:∀ r∈sY aj ws,r.length=aj.toNat:=λr hr=>by obtain ⟨j,b,a⟩:=Ky.mp hr;have g:=aaY (aj:=aj) (ws:=ws) (i:=j) (r:=r) (by simp [b,a]);rw [g.2,Qz]
theorem GX {P:List α->Prop} (h0:P []) (h1:∀ l a,P l->P (l++[a])) (l:List α):P l:=by
 have b:∀ r:List α,P r.reverse:=by
  intro r;induction r with
  |nil=>exact h0
  |cons a r c=>rw [List.reverse_cons];exact h1 _ _ c
 have:=b l.reverse;rwa [List.reverse_reverse] at this
def sJ (w o:Int×Int):Bool:=(o.1 == w.1 || o.1 == w.2) || (o.2 == w.1 || o.2 == w.2)
def gY (l:Int) (o:Int×Int):Bool:=o.1 == l || o.2 == l
def lW (p:Int×Int->Bool) (l:aK):Option (Int×Int):=l.foldl (λa o=>if p o then some o else a) none
theorem zJ (p:Int×Int->Bool) (l:aK) (o:Int×Int):lW p (l++[o])=if p o then some o else lW p l:=by unfold lW;rw [vD];rfl
theorem agY (p:Int×Int->Bool) (l:aK):(l.filter p).getLast?=lW p l:=by
 refine GX (P:=λl=>(l.filter p).getLast?=lW p l) rfl (λl a b=>?_) l;rw [vI,zJ];by_cases c:p a=true
 ·rw [bF c,List.filter_cons_of_pos c];simp
 ·rw [bw c,List.filter_cons_of_neg c];simpa using b
def idle (k:aK) (w:Int×Int):Prop:=lW (sJ w) k=some w
instance (k:aK) (w:Int×Int):Decidable (idle k w):=by unfold idle;infer_instance
theorem JX (k:aK) (w:Int×Int):(lW (gY w.1) k=some w/\lW (gY w.2) k=some w)↔idle k w:=by
 unfold idle;refine GX (P:=λk=>(lW (gY w.1) k=some w/\lW (gY w.2) k=some w)↔lW (sJ w) k=some w) ?_ (λl o i=>?_) k
 ·constructor
  ·intro h;exact h.1
  ·intro h;exact absurd h (by simp [lW])
 ·rw [zJ,zJ,zJ];by_cases e:o=w
  ·subst e;have h1:gY o.1 o=true:=by simp [gY]
   have h2:gY o.2 o=true:=by simp [gY]
   have g:sJ o o=true:=by simp [sJ]
   rw [h1,h2,g];simp
  ·have d:(some o=some w)↔False:=⟨λz=>e (gw z),elim⟩;by_cases a:gY w.1 o=true
   ·have c:sJ w o=true:=by unfold gY at a;unfold sJ;simp only [sH,oh] at a ⊢;lk
    rw [bF a,bF c,d];simp
   ·by_cases b:gY w.2 o=true
    ·have c:sJ w o=true:=by unfold gY at b;unfold sJ;simp only [sH,oh] at b ⊢;lk
     rw [bw a,bF b,bF c,d];simp
    ·have c:¬ sJ w o=true:=by unfold gY at a b;unfold sJ;simp only [sH,oh] at a b ⊢;lk
     rw [bw a,bw b,bw c];exact i
def mL (k:aK) (w:Int×Int):aK:=if idle k w then k else k++[w]
def jt (ws:aK):aK:=ws.foldl mL []
theorem Cg (ws:aK) (w:Int×Int):jt (ws++[w])=mL (jt ws) w:=by unfold jt;rw [vD];rfl
theorem ajz (ws:aK):∀ w∈jt ws,w∈ws:=by
 refine GX (P:=λws=>∀ w∈jt ws,w∈ws) (λ_ h=>h) (λl a b w h=>?_) ws;rw [Cg] at h;unfold mL at h;split at h
 ·exact Ag _ (b w h)
 ·rcases o9.mp h with z|z
  ·exact Ag _ (b w z)
  ·exact iW _ z
theorem QD (ws:aK):(jt ws).length<=ws.length:=by
 refine GX (P:=λws=>(jt ws).length<=ws.length) (bJ _) (λl a b=>?_) ws;rw [Cg];unfold mL;split
 ·simp;lk
 ·simp;lk
def pairD (w:Int×Int):PyData:=.tuple [.int w.1,.int w.2]
theorem JN (a w:Int×Int):PySem.Spec.same (pairD a) (pairD w)=decide (a=w):=by
 obtain ⟨d,g⟩:=a;obtain ⟨b,e⟩:=w;by_cases h:(d,g)=(b,e)
 ·cases h;rw [PyProof.Rows.same_refl];simp
 ·rw [kh h];simp only [pairD,PySem.Spec.same,PySem.Spec.sameAll,Bool.and_true];rw [Bool.and_eq_false_iff];by_cases c:d=b
  ·subst c;right;simp only [DN,ne_eq];intro z;subst z;exact h rfl
  ·left;simpa using c
theorem Rc (a w:Int×Int):noMix (pairD a) (pairD w)=true:=by simp [pairD,noMix,noMixAll]
theorem alT (w:Int×Int):noMix .none (pairD w)=true:=by simp [pairD,noMix]
theorem same_none (w:Int×Int):PySem.Spec.same .none (pairD w)=false:=by simp [pairD,PySem.Spec.same]
theorem ahq:shaped .none=true:=by show (canLay0 _ && decide (PyData.depth _<=64))=true;simp [canLay0,PyData.depth]
def qH (H:Hp) (aj:Int) (xs:aD) (k:aK):Prop:=xs.length=aj.toNat/\∀ l:Nat,l<aj.toNat ->
 (xs[l]?=some .non/\lW (gY (l:Int)) k=none)\/∃ t w,xs[l]?=some (.ref t)/\H t=some (.tup [.int w.1,.int w.2])/\lW (gY (l:Int)) k=some w
theorem qH.kt {k:aK} (h:qH H aj xs k) (kt:KT H H'):qH H' aj xs k:=⟨h.1,λl d=>(h.2 l d).imp id (by rintro ⟨t,w,a,b,c⟩;exact ⟨t,w,a,kt _ _ b,c⟩)⟩
theorem qH.more {k:aK} {w:Int×Int} (h:qH H aj xs k) (ok:Hi aj w) (ht:H t=some (.tup [.int w.1,.int w.2])) : qH H aj ((xs.set w.1.toNat (.ref t)).set w.2.toNat (.ref t)) (k++[w]):=by
 obtain ⟨d,g,e,i,j⟩:=ok;refine ⟨by rw [jW,jW];exact h.1,λl c=>?_⟩;rw [zJ];have m:=h.1;by_cases b:l=w.2.toNat
 ·subst b;refine .inr ⟨t,w,?_,ht,?_⟩
  ·rw [G7 (by rw [jW];lk)]
  ·rw [bF];unfold gY;simp only [sH,oh];lk
 ·rw [G8 (λz=>b z.symm)];by_cases a:l=w.1.toNat
  ·subst a;refine .inr ⟨t,w,?_,ht,?_⟩
   ·rw [G7 (by lk)]
   ·rw [bF];unfold gY;simp only [sH,oh];lk
  ·rw [G8 (λz=>a z.symm),bw]
   ·exact h.2 l c
   ·unfold gY;simp only [sH,oh];lk
theorem qH.at {k:aK} (h:qH H aj xs k) {l:Int} (h0:0<=l) (h1:l<aj) (w:Int×Int) : ∃ x d,gD xs l=some x/\jF H x d/\shaped d=true/\noMix d (pairD w)=true/\(PySem.Spec.same d (pairD w)=true↔lW (gY l) k=some w):=by
 obtain ⟨j,rfl⟩:∃ j:Nat,l=(j:Int):=⟨l.toNat,by lk⟩;rcases h.2 j (by lk) with ⟨a,b⟩|⟨t,e,a,b,c⟩
 ·refine ⟨.non,.none,vK a,.non,ahq,alT w,?_⟩;rw [same_none,b];simp
 ·refine ⟨.ref t,pairD e,vK a,.tup b (.cons (.int _) (.cons (.int _) .nil)),vN _ _,Rc _ _,?_⟩;rw [JN,c];simp
theorem qH.start (h:0<=aj):qH H aj (replicate aj.toNat .non) []:=⟨by rw [uD],λl a=>.inl ⟨by simp [a],rfl⟩⟩
inductive an9 (vs:aD) (H:Hp) (Q:VK):Prop
 |mk (v:V) (aj:Int) (ws:aK) (h1:vs=[v]) (h2:dD H v aj ws) (h3:1<=aj) (h4:aj<=8) (h5:bC aj ws) (h6:ws.length<=100) (h7:∀ (v':V) (H':Hp),aG H H'->dD H' v' aj (jt ws)->Q v' H')
def Ur:=nE an9
def HS (o:aU) (w:Int×Int):Int×Int:=(o.getD w.1.toNat 0,o.getD w.2.toNat 0)
def mO (aj:Int) (w:Int×Int):Int×Int:=(aj-1-w.2,aj-1-w.1)
theorem apV {w:Int×Int} (ok:Hi aj w):Hi aj (mO aj w):=by obtain ⟨a,c,b,d,e⟩:=ok;unfold mO;refine ⟨?_,?_,?_,?_,?_⟩<;>dsimp only<;>lk
theorem an_ (ok:bC aj ws):bC aj (ws.map (mO aj)):=λw a=>by obtain ⟨u,b,rfl⟩:=gW.mp a;exact apV (ok u b)
theorem an' (aj:Int) (ws:aK):(ws.map (mO aj)).map (mO aj)=ws:=by
 rw [KY]
 conv=>rhs;rw [<-List.map_id ws]
 refine RX λw _=>?_;unfold mO;refine Kf ?_ ?_
 ·show aj-1-(aj-1-w.1)=w.1;lk
 ·show aj-1-(aj-1-w.2)=w.2;lk
inductive aic (vs:aD) (H:Hp) (Q:VK):Prop
 |mk (t:Addr) (rs:aD) (aj:Int) (ws:aK) (o:Addr) (os:aU) (h1:vs=[.ref t,.ref o]) (h2:H t=some (.tup rs)) (h3:bZ H rs ws) (h4:bC aj ws) (h5:ws.length<=100) (h6:H o=some (.lst (os.map V.int))) (h7:os.length=aj.toNat) (h8:∀ (t':Addr) (rs':aD) (H':Hp),aG H H'->H' t'=some (.tup rs')->bZ H' rs' (ws.map (HS os))->Q (.ref t') H')
def ajA:=nE aic
inductive ahr (vs:aD) (H:Hp) (Q:VK):Prop
 |mk (v:V) (aj:Int) (ws:aK) (h1:vs=[v]) (h2:dD H v aj ws) (h3:ws.length<=100) (h4:∀ (v':V) (H':Hp),aG H H'->dD H' v' aj (ws.map (mO aj))->Q v' H')
def Ql:=nE ahr
end
variable {ea:Addr} {np:Pos} {tx:lQ->XK->St->Hp->Prop} {suite:List Stmt}
section
open PySem.Spec PyProof.Rows
theorem dU.ex (x:dU P w H h a o):∃ ob,h.get? a=some ob:=by
 cases o with
 |lst xs=>exact let ⟨_,_,_,_,e⟩:=x;⟨_,e⟩
 |tup xs=>exact let ⟨_,_,_,ob,e,_⟩:=x;⟨ob,e⟩
 |dK aV=>exact let ⟨_,_,_,_,ob,_,_,e,_⟩:=x;⟨ob,e⟩
 |dT aV=>exact let ⟨_,_,_,_,ob,_,_,e,_⟩:=x;⟨ob,e⟩
 |set S n=>exact let ⟨ob,_,_,_,e,_⟩:=x;⟨ob,e⟩
 |ins C dx fs=>exact let ⟨_,_,_,e,_⟩:=x;⟨_,e⟩
 |own y=>exact x
 |xd fs=>exact let ⟨_,⟨ob,_,_,e,_⟩,_⟩:=x;⟨ob,e⟩
 |rng lo hi=>exact let ⟨_,_,_,e⟩:=x;⟨_,e⟩
 |oK ob u=>exact ⟨ob,x.1⟩
 |iy q=>exact match (show h.get? a=some { cls:=.none,data:=.fields #[] }\/∃ c,h.get? a=some { cls:=.none,data:=.fields #[rawInt q.2.1,rawInt q.2.2,.ref c] }/\H c=some (.own a)/\h.CodeRec (.ref c) q.1 from x) with|.inl e=>⟨_,e⟩|.inr ⟨_,e,_⟩=>⟨_,e⟩
 |met f y=>exact ⟨_,x⟩
 |ext φ=>exact x.2.1
def lF (P:Program) (w:World):qx:=λouter H s E e s'=>∃ (ea:Addr) (cls a0:Value) (B:Heap) (H':Hp),e=.ref ea/\s'.os=s.os/\AllBare s'.gens/\Un (dY outer) [] H H' s.heap s'.heap/\gU P w H' s'.heap /\
 FlyingW B outer ea cls a0 s'.heap/\H' ea=none/\(∀ b o,s'.heap.get? b=some o->b∉dY outer->((∃ u,s.heap.get? b=some u)\/∃ u,H' b=some u)->B.get? b=some o)/\E cls none H'
theorem Un.left {L:Addr} {fs:jq} {H₀:Hp} {g h2:Heap} (tr:Un (L::fs) [] H₀ H' g h) (hL:∀ b o,g.get? b=some o->b≠L) (hf:∀ b∈fs,H₀ b=none) (k2:∀ b o,h.get? b=some o->b∉L::fs->(∃ u,g.get? b=some u)->h2.get? b=some o) (up:∀ b o,b∈fs->h.get? b=some o->∃ sl,h2.get? b=some { o with slots:=sl }):Un fs [] H₀ H' g h2:=by
 have nm:∀ {b o},g.get? b=some o->b∉fs->b∉L::fs:=λq n z=>by
  rcases gn.mp z with z|z
  ·exact hL _ _ q z
  ·exact n z
 refine ⟨λb o q n a d=>k2 b o (tr.keep b o q n (nm q a) d) (nm q a) ⟨o,q⟩,λb o q n a d=>?_,tr.free,λb o q d=>?_,tr.tups,tr.lZ,λb ps q=>⟨(tr.iw b ps q).1,λc o i x=>let z:=(tr.iw b ps q).2 c o i x;⟨z.1,k2 c o z.2 (nm x λm=>by rw [hf c m] at i;cases i) ⟨o,x⟩⟩⟩⟩
 ·obtain ⟨sl,e⟩:=tr.slot b o q n (gK _ a) d;obtain ⟨k,j⟩:=up b _ a e;exact ⟨k,j⟩
 ·obtain ⟨o',e⟩:=tr.there b o q d;by_cases a:b∈fs
  ·obtain ⟨sl,j⟩:=up b o' a e;exact ⟨_,j⟩
  ·exact ⟨o',k2 b o' e (nm q a) ⟨o,q⟩⟩
section
variable {s₀:Shared} {H₀:Hp} {E:XK}
abbrev XC (P:Program) (w:World) (K:bI) (mg:dH) (aF:Heap) (N:bR) (qual:Str) (scope:Scope) (f:Addr) (cd:Value) (A:Around) (outer:mY) (s₀:Shared) (H₀:Hp) (E:XK):Cx :=
 Bg (lF P w) P w K mg aF N qual scope f cd A outer s₀ H₀ E
theorem ajB {l:mY} (he:env∈l) {b:Addr} (hb:env.frame=some b):b∈dY l:=T8.mpr ⟨env,he,hb⟩
theorem aJ.M_ (I:aJ (XC P w K mg aF N qual scope f cd A outer s₀ H₀ E) aq σ H s):∀ b o,s₀.heap.get? b=some o->b≠s₀.heap.objs.size:=λb o q z=>by have:=cJ q;rw [z] at this;exact qP _ this
theorem alU (I:aJ (XC P w K mg aF N qual scope f cd A outer s₀ H₀ E) aq σ H s) {cls:Value} (hx:Heap.MadeExcOf s.heap h' ea cls vs) (hE:E cls none H) : (XC P w K mg aF N qual scope f cd A outer s₀ H₀ E).xe (.ref ea) { s with heap:=h' }:=by
 have i:=I.stack;have m:=I.ok.frames;have mem:∀ {b:Addr},b∈dY (envOfC qual scope s₀.heap.objs.size f cd::outer)↔b=s₀.heap.objs.size\/b∈dY outer:=λ{b}=>by show b∈s₀.heap.objs.size::dY outer↔_;exact gn
 refine wpAny_leaves_madeW (base:=hideAll s.heap (dY (envOfC qual scope s₀.heap.objs.size f cd::outer))) (h:=s.heap) (outer:=outer) m rfl (λb o q=>PySem.W.of_hideAll _ q) (PySem.W.funFrames_hide i (λenv x b d=>ajB x d)) hx λh2 t v tup C p=>?_;have l:∀ b o,s.heap.get? b=some o->b∉dY (envOfC qual scope s₀.heap.objs.size f cd::outer)->h2.get? b=some o:=λb o q n=>v.1 _ _ (TV _ q n);have free:=I.Di;have jA:∀ b u,H b=some u->b∉dY (envOfC qual scope s₀.heap.objs.size f cd::outer):=λb u q z=>by rw [free b z] at q;cases q
 refine ⟨ea,cls,.ref t,_,H,rfl,I.os,I.bare,?_,?_,v,?_,?_,hE⟩
 ·refine Un.left (I.aF.mono (fs':=s₀.heap.objs.size::dY outer) (λb d=>gK _ d) (λb d=>d)) I.M_ I.ok.uN (λb o q n _=>l b o q n) λb o d q=>?_;obtain ⟨_,o',j,y⟩:=i.mem (b:=b) (mem.mpr (.inr d));rw [q] at j;cases j;exact p b o (hx.keeps b o q) y
 ·exact λa o e=>(I.hok a o e).stay (λb u d q=>by
   rcases d with rfl|d
   ·exact l b u q (jA b _ e)
   ·exact l b u q (jA b _ d)) (λ_ q=>q) λ_ _ q=>q
 ·cases e:H ea with
  |none=>rfl
  |some u =>obtain ⟨g,z⟩:=(I.hok ea u e).ex;rw [hx.new] at z;cases z
 ·intro b o q n c;have k:∀ g,s.heap.get? b=some g->b∉dY (envOfC qual scope s₀.heap.objs.size f cd::outer)->(hideAll s.heap (dY (envOfC qual scope s₀.heap.objs.size f cd::outer))).get? b=some o:=λg z r=>by have:=l b g z r;rw [q] at this;cases this;exact TV _ z r
  rcases c with ⟨u,c⟩|⟨u,c⟩
  ·obtain ⟨g,z⟩:=I.aF.there b u c (CV (a:=b));refine k g z λB=>?_;rcases mem.mp B with e|e
   ·exact I.M_ b u c e
   ·exact n e
  ·obtain ⟨g,z⟩:=(I.hok b u c).ex;exact k g z (jA b u c)
theorem aeM:zN (lF P w) (XC P w K mg aF N qual scope f cd A outer s₀ H₀ E) E:=by
 rintro aq σ H s e s' I ⟨ea,cls,a0,B,H',rfl,J,j,un,i,y,L,C,S⟩;have t:=I.stack;have p:=I.ok.frames;have mem:∀ {b:Addr},b∈dY (envOfC qual scope s₀.heap.objs.size f cd::outer)↔b=s₀.heap.objs.size\/b∈dY outer:=λ{b}=>by show b∈s₀.heap.objs.size::dY outer↔_;exact gn
 have free:∀ b∈dY (envOfC qual scope s₀.heap.objs.size f cd::outer),H' b=none:=λb d=>by obtain ⟨_,o,M,_⟩:=t.mem (b:=b) d;exact un.free b o M (I.Di b d) (CV (a:=b))
 have jA:∀ b u,H' b=some u->b∉dY (envOfC qual scope s₀.heap.objs.size f cd::outer):=λb u q z=>by rw [free b z] at q;cases q
 have x:Un (s₀.heap.objs.size::dY outer) [] H₀ H' s₀.heap s'.heap:=(I.aF.mono (fs':=s₀.heap.objs.size::dY outer) (λb d=>gK _ d) (λb d=>d)).trans un;refine wpAny_leaves_onW (outer:=outer) p rfl y λh2 D r=>?_;have m:∀ b o,s'.heap.get? b=some o->b∉dY (envOfC qual scope s₀.heap.objs.size f cd::outer)->((∃ u,s.heap.get? b=some u)\/∃ u,H' b=some u)->h2.get? b=some o:=λb o q n c=>D.1 _ _ (C b o q n c);refine ⟨ea,cls,a0,B,H',rfl,J.trans I.os,j,?_,?_,D,L,?_,S⟩
 ·refine Un.left x I.M_ I.ok.uN (by rintro b o q n ⟨u,c⟩;exact m b o q n (.inl (I.aF.there b u c (CV (a:=b))))) λb o d q=>?_;obtain ⟨_,o',k,O⟩:=y.2.2.1.mem (b:=b) (mem.mpr (.inr d));rw [q] at k;cases k;exact r b o q O
 ·exact λa o e=>(i a o e).stay (λb u d q=>by
   rcases d with rfl|d
   ·exact m b u q (jA b _ e) (.inr ⟨_,e⟩)
   ·exact m b u q (jA b _ d) (.inr ⟨_,d⟩)) (λ_ q=>q) λ_ _ q=>q
 ·intro b o q n c;have l:∀ g,s'.heap.get? b=some g->b∉dY (envOfC qual scope s₀.heap.objs.size f cd::outer)->((∃ u,s.heap.get? b=some u)\/∃ u,H' b=some u)->B.get? b=some o:=λg z v c=>by have:=m b g z v c;rw [q] at this;cases this;exact C b _ z v c
  rcases c with ⟨u,c⟩|⟨u,c⟩
  ·obtain ⟨g,z⟩:=x.there b u c (CV (a:=b));refine l g z (λR=>?_) (.inl (I.aF.there b u c (CV (a:=b))));rcases mem.mp R with e|e
   ·exact I.M_ b u c e
   ·exact n e
  ·obtain ⟨g,z⟩:=(i b u c).ex;exact l g z (jA b u c) (.inr ⟨u,c⟩)
end
theorem tX.Ik {k:Nat} (F:tX K x qual st f fd) (S:mF N ps (dX st)) (len:∀ vs H Q E,sp vs H Q E->vs.length=ps.length) (hbody:∀ (cdv:Value) (A:Around) (outer:mY) (s:Shared) (H:Hp) (vs:aD) (Q:VK) (E:XK),dW k (A.deeper (envOfC qual (dX st) s.heap.objs.size f cdv))->sp vs H Q E ->∃ t,mR (XC P w K mg aF N qual (dX st) f cdv A outer s H E) (jk st) t/\t { nx:=λ_ H'=>Q .non H',rt:=Q } (start N vs) H):dz P w K mg aF (lF P w) (k+1) f fd ps sp:=by obtain ⟨oc,od,kV,c,pm,an,cdv,ct,osl,rfl,d,a⟩:=F.ex;exact Vc d a S len λA outer s H vs Q E hr b=>hbody cdv A outer s H vs Q E hr b
theorem dz.up {k:Nat} (F:dz P w K mg aF jj k f fd ps sp):dz P w K mg aF (lF P w) k f fd ps sp:=⟨F.len,λA outer s H a us vs Q E hr g d r h=>uz (F.run A outer s H a us vs Q E hr g d r h) λb s' q=>by
  cases b with
  |ok c=>cases c with
   |ret u=>exact q
   |next=>exact q
   |brk=>exact q
   |cont=>exact q
  |error e=>exact q.elim⟩
structure qO (P:Program) (w:World) (K:bI) (mg:dH) (aF:Heap) (x:Str) (k:Nat) (ps:bR) (sp:Sp):Prop where
 ex:∃ (f:Addr) (fd:FuncData),dz P w K mg aF (lF P w) k f fd ps sp/\oZ K fd ps []/\keepIn K (.ref f)=true/\mg x=some (.ref f)
theorem lU.Lw {k:Nat} (h:lU K mg x st f fd) (F:dz P w K mg aF (lF P w) k f fd ps sp) (hb:∀ (kV doc pm:Value) (an:jf) (cdv ct:Value) (us:cG),us.length=ps.length->bindArgs (fnOf x x (jX st) (jk st) (dX st) .none kV doc pm an cdv ct) ⟨us,[]⟩=pure (ps.zip us)):qO P w K mg aF x k ps sp:=⟨f,fd,F,h.fn.binds hb,h.fn.kp,h.at_⟩
theorem jV {s₀:Shared} {H₀:Hp} {E:XK} {k:Nat} {t:TA} (C:qO P w K mg aF x k ps sp) (hr:dW k (XC P w K mg aF N qual scope f cd A outer s₀ H₀ E).A) (hg:Gl (XC P w K mg aF N qual scope f cd A outer s₀ H₀ E) x) (ha:PA (XC P w K mg aF N qual scope f cd A outer s₀ H₀ E) (e::es) t) (hdb:(x == ("__debug__":Str))=false:=by decide) (he:starEach (e::es) (XC P w K mg aF N qual scope f cd A outer s₀ H₀ E).env=(false,eval e (XC P w K mg aF N qual scope f cd A outer s₀ H₀ E).env)::starEach es (XC P w K mg aF N qual scope f cd A outer s₀ H₀ E).env:=by rfl) (hpl:(backTo pos (starEach es (XC P w K mg aF N qual scope f cd A outer s₀ H₀ E).env)).any (·.1)=false:=by rfl) : PE (XC P w K mg aF N qual scope f cd A outer s₀ H₀ E) (.Call (.Name x p) (e::es) [] pos) (Vb sp [] E t):=by obtain ⟨d,fd,F,b,c,a⟩:=C.ex;exact ac5 F hr hg a c b .nil aeM ha hdb he hpl
structure ExcAt (h:Heap) (C:Addr) (bmB:cG) (newId:String):Prop where
 ex:∃ (bm:cG) (N:Addr) (nm qn:Str) (bs:cG) (hd:Bool) (sn:bR) (sub:cG) (ab:Bool) (col:Option Bool) (dd:jf) (k0 k1 k2 k3 k5:pA) (mN:dH),
  h.get? C=some (excClassObj nm qn C N bs bm hd sn sub ab col dd k0 k1 k2 k3 k5 newId)/\h.Ns N mN/\mN "__init__"=none/\OwnTail h bmB bm
theorem alV {bmB:cG} {newId:String} (X:K.In h) (q:excIn K C bmB newId=true):ExcAt h C bmB newId:=by
 unfold excIn at q;split at q
 case h_1 dd cd sl ho =>
  split at q
  case h_1 C' bm k0 k1 k2 k3 n k5 hm hs =>
   simp only [vo,oh,Bool.not_eq_true'] at q;obtain ⟨⟨⟨⟨⟨e,k⟩,c⟩,i⟩,b⟩,d⟩:=q;subst e k;cases cd with
   |mk nm bs j ns o m g sub r a p =>
    dsimp only at hm c b d;subst hm c;have es:sl=#[k0,k1,k2,k3,some (.builtin n),k5]:=by
     cases sl with
     |mk l=>exact gM Array.mk hs
    subst es;exact ⟨bm,ns,nm,o,bs,m,g,sub,r,a,dd,k0,k1,k2,k3,k5,_,X _ _ ho,.of_isNs (PySem.W.isNs_of_in X b),PySem.W.nsMap_none_of_in X b d,PySem.W.tail_of_in X i⟩
  all_goals cases q
 all_goals cases q
section
variable {s₀:Shared} {H₀:Hp} {E:XK}
abbrev wR:cG:=[.type "ValueError",.type "Exception",.type "BaseException",.type "object"]
theorem xP {cpos:Pos} (hq:excIn K C wR "ValueError.__new__"=true) (hg:Gl (XC P w K mg aF N qual scope f cd A outer s₀ H₀ E) x) (hm:mg x=some (.ref C)) (ha:PA (XC P w K mg aF N qual scope f cd A outer s₀ H₀ E) [e] ta) (hd:(x == ("__debug__":Str))=false:=by decide) (he:starEach [e] (XC P w K mg aF N qual scope f cd A outer s₀ H₀ E).env=[(false,eval e (XC P w K mg aF N qual scope f cd A outer s₀ H₀ E).env)]:=by rfl) : PS (XC P w K mg aF N qual scope f cd A outer s₀ H₀ E) (.Raise (some (.Call (.Name x np) [e] [] cpos)) none pos) (λ_ σ H=>ta σ H λvs H1=>vs.length<=1000/\E (.ref C) none H1):=by intro aq s σ H D I h;obtain ⟨bm,i,nm,j,bs,c,sn,sub,ab,col,dd,k0,k1,k2,k3,k5,mN,g,k,b,T⟩:=(alV I.ok.mod.yS hq).ex;refine wpAny_Raise_call_subT (C:=C) (nm:=nm) (q:=j) (N:=i) (bs:=bs) (bm:=bm) (hdct:=c) (sn:=sn) (sub:=sub) (ab:=ab) (col:=col) (dd:=dd) (k0:=k0) (k1:=k1) (k2:=k2) (k3:=k3) (k5:=k5) acF (mN:=mN) (T.hasType acF.hasBase) (I.ok.hd rfl) (by rw [he];rfl) b (z9 I hg hm ⟨rfl,?_⟩ hd);have d:=ha cpos aq s σ H _ I h;rw [he] at d ⊢;refine Ry (bH d λus n ⟨vs,H1,a,r,l,q⟩=>⟨rfl,?_,a.bk _ _ g,k.keeps a.bk,T.keeps a.bk,λh' ea m=>alU a m q⟩);rw [<-r.length];exact Dr (ajd l)
end
def Ei (ea:Addr) (cls:Value):HO:=.ext λh=>∃ o,h.get? ea=some o/\o.cls=cls
section
variable {s':Shared} {B h5:Heap} {cls a0:Value}
theorem landed (I:aJ X aq σ H s) (os:s'.os=s.os) (bare:AllBare s'.gens) (un:Un (dY X.stack) [] H H' s.heap s'.heap) (hok:gU X.prog X.w H' s'.heap) (fl:FlyingW B X.stack ea cls a0 s'.heap) (oO:H' ea=none) (kB:∀ b o,s'.heap.get? b=some o->b∉dY X.stack->((∃ u,s.heap.get? b=some u)\/∃ u,H' b=some u)->B.get? b=some o) (rH:FlyingW B X.stack ea cls a0 h5) (up:s'.heap.UpToSlots h5) : aJ X aq σ (upd H' ea (Ei ea cls)) { s' with heap:=h5 }:=by
 have r:∀ b:Addr,b∉([]:jq):=λb=>CV (a:=b);have free:∀ b∈dY X.stack,H' b=none:=λb d=>by obtain ⟨_,o,R,_⟩:=I.stack.mem (b:=b) d;exact un.free b o R (I.Di b d) (r b)
 have jA:∀ b u,H' b=some u->b∉dY X.stack:=λb u q z=>by rw [free b z] at q;cases q
 have m:∀ b o,s'.heap.get? b=some o->b∉dY X.stack->((∃ u,s.heap.get? b=some u)\/∃ u,H' b=some u)->h5.get? b=some o:=λb o q n c=>rH.1 _ _ (kB b o q n c);have t:∀ b o,s.heap.get? b=some o->b≠ea:=λb o q z=>by
  subst z;obtain ⟨o',i⟩:=un.there b o q (r b);by_cases L:b∈dY X.stack
  ·obtain ⟨_,V,C,v⟩:=fl.2.2.1.mem (b:=b) L;obtain ⟨W,vs,h1,_,h2,_⟩:=fl.first;rw [C] at h1;cases h1;exact v vs h2
  ·have:=kB b o' i L (.inl ⟨o,q⟩);rw [fl.2.1] at this;cases this
 have l:∀ b o,b∈dY X.stack->s'.heap.get? b=some o->∃ sl,h5.get? b=some { o with slots:=sl }:=λb o d e=>by obtain ⟨_,o',p,v⟩:=fl.2.2.1.mem (b:=b) d;rw [e] at p;cases p;exact up b o e v
 refine I.call' (ch:=[]) os ⟨λb o q n d g=>m b o (un.keep b o q n d g) d (.inl ⟨o,q⟩),λb o q n d g=>?_,λb o q n g=>by rw [bh (t b o q)];exact un.free b o q n g,λb o q g=>?_,
  λb xs q=>by rw [bh (cH (un.tups b xs q) oO)];exact un.tups b xs q,λb u xs q=>by rw [bh (cH (un.lZ b u xs q) oO)];exact un.lZ b u xs q,λb ps q=>?_⟩ ?_ bare (λb z=>absurd z (r b))
 ·obtain ⟨sl,e⟩:=un.slot b o q n d g;obtain ⟨y,i⟩:=l b _ d e;exact ⟨y,i⟩
 ·obtain ⟨o',e⟩:=un.there b o q g;by_cases d:b∈dY X.stack
  ·obtain ⟨sl,i⟩:=l b o' d e;exact ⟨_,i⟩
  ·exact ⟨o',m b o' e d (.inl ⟨o,q⟩)⟩
 ·have e:=un.iw b ps q;exact ⟨by rw [bh (cH e.1 oO)];exact e.1,λc o S x=>let z:=e.2 c o S x;⟨by rw [bh (cH z.1 oO)];exact z.1,m c o z.2 (jA c _ z.1) (.inl ⟨o,x⟩)⟩⟩
 ·intro a o e;by_cases c:a=ea
  ·subst c;rw [aO] at e;cases e;obtain ⟨D,j,N⟩:=rH.there;exact ⟨⟨D,j,N⟩,⟨D,j⟩,by rintro h1 h2 ⟨J,U,O⟩ k;exact ⟨J,k J U,O⟩⟩
  ·rw [bh c] at e;have M:∀ b u,H' b=some u->b≠ea:=λb u q=>cH q oO;exact (hok a o e).stay (λb u d q=>by
    rcases d with rfl|d
    ·exact m b u q (jA b _ e) (.inr ⟨_,e⟩)
    ·exact m b u q (jA b _ d) (.inr ⟨_,d⟩)) (λb q=>by rw [bh (M b _ q)];exact q) λb xs q=>by rw [bh (M b _ q)];exact q
abbrev Cx.inside (X:Cx) (ea:Addr):Cx:={ X with A:=X.A.mark (some (.ref ea)),calm:=false,xe:=λ_ _=>False }
theorem aJ.inside (I:aJ X aq σ H s) (ea:Addr):aJ (X.inside ea) aq σ H s:=⟨⟨I.ok.mod,I.ok.kind,I.ok.glob,I.ok.blt,I.ok.above,I.ok.inj,I.ok.has,I.ok.cab,(λz=>by cases z),I.ok.frames,I.ok.stk,I.ok.Nq,I.ok.bs,I.ok.tV,I.ok.Ea,I.ok.Eb,I.ok.ql,I.ok.uN⟩,I.os,I.bare,I.aF,I.loc,I.cell,I.free,I.m5,I.pin,I.hok,I.len⟩
theorem aJ.outside (ok:X.Ok) (I:aJ (X.inside ea) aq σ H s):aJ X aq σ H s:=⟨ok,I.os,I.bare,I.aF,I.loc,I.cell,I.free,I.m5,I.pin,I.hok,I.len⟩
theorem SP.outside {f:Flow} (ok:X.Ok) (h:SP (X.inside ea) aq D f s):SP X aq D f s:=by
 cases f with
 |next=>exact let ⟨a,b,I,q⟩:=h;⟨a,b,I.outside ok,q⟩
 |brk=>exact let ⟨a,b,I,q⟩:=h;⟨a,b,I.outside ok,q⟩
 |cont=>exact let ⟨a,b,I,q⟩:=h;⟨a,b,I.outside ok,q⟩
 |ret u=>exact let ⟨v,a,b,I,r,q⟩:=h;⟨v,a,b,I.outside ok,r,q⟩
end
def PX (X:Cx) (e:Expr) (t:St->Hp->VK->XK->Prop):Prop:=∀ (aq:List (Addr×Obj)) (s:Shared) (σ:St) (H:Hp) (Q:VK) (E:XK) (a:lO),aJ X aq σ H s->t σ H Q E ->
 (∀ H1 b e s',aJ X aq σ H1 b->lF X.prog X.w X.stack H1 b E e s'->a e s')->wpAny (model X.prog X.w) X.A (eval e X.env) (EP X aq σ Q) a s
def zj (X:Cx) (st:Stmt) (t:lQ->XK->St->Hp->Prop):Prop:=∀ (aq:List (Addr×Obj)) (s:Shared) (σ:St) (H:Hp) (D:lQ) (E:XK) (a:lO),aJ X aq σ H s->t D E σ H ->
 (∀ H1 b e s',aJ X aq σ H1 b->lF X.prog X.w X.stack H1 b E e s'->a e s')->wpAny (model X.prog X.w) X.A (exec st X.env) (SP X aq D) a s
section
theorem Tf {k:Nat} {t:TA} (C:qO X.prog X.w X.K X.mg X.aF x k ps sp) (hr:dW k X.A) (hg:Gl X x) (ha:PA X.rE (e::es) t) (hdb:(x == ("__debug__":Str))=false:=by decide) (he:starEach (e::es) X.env=(false,eval e X.env)::starEach es X.env:=by rfl) (hpl:(backTo pos (starEach es X.env)).any (·.1)=false:=by rfl) : PX X (.Call (.Name x p) (e::es) [] pos) (λσ H Q E=>t σ H λvs H1=>sp vs H1 Q E):=by
 intro aq s σ H Q E y I h v;obtain ⟨f,fd,F,l,o,n⟩:=C.ex;refine Al (z9 I hg n ?_ hdb);refine G_ (h₀:=X.aF) I.ok.mod.yS o (jc (ha pos aq s σ H _ (I.wish _) h) (λus g ⟨vs,H1,i,r,q⟩=>⟨i.oG.fO,?_⟩) (λ_ _ z=>elim z)) he hpl;have c:=i.oG;have m:us.length=ps.length:=by rw [<-r.length];exact F.len _ _ _ _ q
 have a:=l g us c.fO (by rw [kO];exact m);rw [kO] at a;refine Ak (uz (F.run X.A X.stack g H1 ⟨us,[]⟩ us vs Q E hr c.env0 a r q) λd s' b=>?_);cases d with
 |error e=>exact v H1 g e s' c b
 |ok j=>cases j with
  |ret u=>exact c.after b
  |next=>exact b.elim
  |brk=>exact b.elim
  |cont=>exact b.elim
theorem adh {tx:St->Hp->VK->XK->Prop} (hN:X.N.Nodup) (hi:X.N[i]?=some x) (hx:wA X.env.scope x) (he:PX X e tx) (hs:swapsWith e (some (.Name x pos')) pos.line X.env=pure false:=by rfl) (hf:X.fn x=true\/X.env.scope.names.lookup x=some .local:=by first|exact .inl rfl|exact .inr rfl|assumption):zj X (.Assign [.Name x pos'] e pos) (λD E σ H=>tx σ H (λv H1=>D.nx (σ.set i (some v)) H1) E):=by intro aq s σ H D E j I h c;refine wpAny_Assign_Name (bH (he aq s σ H _ E j I h c) λv k ⟨y,H1,a,d,b⟩=>?_) hs;exact Gf a hN hi hx d (λl g=>⟨_,H1,g,b⟩) hf
theorem adi {b₀:Stmt} {hpos:Pos} {ts:TS} (hst:X.stack=X.env::X.outer) (hf:X.env.frame=some X.env.locals) (hb:zj X st tx) (hg:Gl X x) (hm:X.mg x=some (.ref C)) (hs:∀ ea,mR (X.inside ea) (b₀::suite) ts) (hd:(x == ("__debug__":Str))=false:=by decide) : PS X (.Try [st] [.ExceptHandler (some (.Name x np)) none (b₀::suite) hpos] [] [] pos) (λD σ H=>tx D (λcls _ H1=>exmOne X.K cls (.ref C)=some true/\∀ ea,H1 ea=none->ts D σ (upd H1 ea (Ei ea cls))) σ H):=by
 intro aq s σ H D I h;refine wpAny_Try_except (G9 (bH (hb aq s σ H D _ _ I h λH1 M e s' k c=>?_) λb M q=>?_))
 ·obtain ⟨ea,cls,a0,B,H',rfl,p,a,un,g,b,m,o,r⟩:=c;have d:=k.ok.frames;rw [hst] at d;have t:=b;rw [hst] at t;refine wpAny_looks_onW d hf t λh4 i O=>wpAny_landsW i λh5 j R=>?_;have v:=O.trans R;rw [<-hst] at j;have n:=(landed k p a un g b m o j v).inside ea;obtain ⟨U,l,y⟩:=j.there;have L:Looks (model X.prog X.w) h5 (typeOf (.ref ea)) cls:=y ▸ (KZ l).andThen .now;refine wpAny_handleBy_cons (codeAny_handlers_test (z9 n hg hm ?_ hd)) (by intro q;cases q);refine PySem.W.exm_one (h:=h5) n.fO L r.1 _ _ _ _ (λ_ _ z=>z) ?_;show codeAny _ _ _ _ _;refine codeAny_handlers_suite (lands_againW j λV S J=>?_);have N:=landed k p a un g b m o S (v.trans J);exact jc (hs ea aq _ σ _ D (N.inside ea) (r.2 ea m)) (λf Y q=>SP.outside I.ok q) (λ_ _ z=>z.elim)
 ·cases b with
  |next=>exact vV (vV q)
  |brk=>exact q
  |cont=>exact q
  |ret u=>exact q
end
end
section
open PySem.Spec PyProof.Rows PySem.W Builtin Builtin.ObjectAttr Builtin.Getset_descriptor
structure vO (K:bI) (C:Addr):Prop where
 ga:findIn K (.ref C) "__getattribute__"=some (some (.builtin "BaseException.__getattribute__"))
 hk:findIn K (.ref C) "__getattr__"=some none
 cl:findIn K (.ref C) "__class__"=some (some (.builtin "object.__class__"))
 sp:specialIn K (.builtin "object.__class__") "__get__"=some (some (.builtin "getset_descriptor.__get__"))
 tk:takesIn K (.builtin "object.__class__")=some true
 ob:mroIn K C (.type "object")=some true
 be:mroIn K C (.type "BaseException")=some true
 cs:(clsIn K C).isSome=true
section
variable {x:Addr}
theorem alW {M:Model} (L:vO K C) (X:K.In h):Looks M h (Builtin.ObjectAttr.find (.ref x) (.ref C) "__class__") (.bind (.builtin "getset_descriptor.__get__") (.builtin "object.__class__")):=by have b:=Mh (M:=M) X L.cl;have a:Looks M h (Builtin.ObjectAttr.getOf (some (.builtin "object.__class__"))) (some (.builtin "getset_descriptor.__get__")):=PySem.W.looks_specialIn X L.sp;have c:=PySem.W.looks_takesIn (M:=M) X L.tk;intro g d e s' k q;unfold Builtin.ObjectAttr.find;refine aW (b _ _ _ _ k (aW (a _ _ _ _ k ?_)));unfold Builtin.ObjectAttr.dataDescriptor?;refine aW (aW (c _ _ _ _ k ?_));rw [bF rfl];exact cB (aW (CN (cB q)))
theorem aoa {tp:Value} (L:vO K C) (X:K.In s.heap) (L0:Looks (model prog w) s.heap (typeOf (.ref x)) (.ref C)) (h:R (.ok (.ret (.ref C))) s) : codeAny (model prog w) A (.call (.builtin "getset_descriptor.__get__") ⟨[.builtin "object.__class__",.ref x,tp],[]⟩) R s:=by
 cases s with
 |mk d g b t a =>
  have c:=PySem.W.looks_mroIn (M:=model prog w) X L.ob;refine codeAny_call_builtin PySem.W.KF.slot_gs.plain PySem.W.KF.entry_gs (PySem.W.KF.slot_gs.check _ _ _ _ _ _ _ _ PySem.W.KF.type_class (PySem.W.KF.args_gs _ _ _) ?_);unfold Builtin.«getset_descriptor.__get__» descrGet;rw [PySem.W.dga_obj];refine aW (cB ?_);unfold descrGetter descrCheckInstance descrNameAndClass isInstance;simp only [PySem.W.KF.owner_class]
  repeat (first|with_reducible refine Looks.at (by assumption) ?_|with_reducible refine aW ?_|with_reducible refine mX ?_|with_reducible refine CW ?_|k_node)
  refine ⟨Code.quiet_builtin _ (by k_go),vB PySem.W.KF.entry_class ?_⟩;unfold Builtin.«object.__class__» shownTypeOf;repeat (first|with_reducible refine Looks.at (by assumption) ?_|with_reducible refine aW ?_|with_reducible refine mX ?_|with_reducible refine CW ?_|k_node)
  exact h
theorem apW {tk:Tok} (L:vO K C) (X:K.In s.heap) (L0:Looks (model prog w) s.heap (typeOf (.ref x)) (.ref C)) (hx:∃ o,s.heap.get? x=some o/\o.cls=.ref C) (h:R (.ok (.ret (.ref C))) s) : codeAny (model prog w) A (.call (.builtin "BaseException.__getattribute__") ⟨[.ref x,.str "__class__" tk],[]⟩) R s:=by
 cases s with
 |mk c g d t i =>
  have l:=PySem.W.looks_mroIn (M:=model prog w) X L.be;have j:=alW (x:=x) (M:=model prog w) L X;have kd:builtinKind "BaseException.__getattribute__"=some .slot:=by k_go
  have a:splitId "BaseException.__getattribute__"=some ("BaseException","__getattribute__"):=by k_go
  have k:=PySem.F.args_bexc_ga (.ref x) (.str "__class__" tk);have m:Looks (model prog w) c (isInstance (.ref x) (.type "BaseException")) true:=L0.andThen l;refine codeAny_call_builtin acG.ga.plain PySem.F.entry_bexc_ga ?_;simp only [checkBuiltinCall,kd,a];refine aW (m.at ?_)
  repeat (any_goals (first|assumption|wp_step))
  obtain ⟨n,e,b⟩:=hx;refine wpAny_loadPart_at (show (Shared.heap ⟨c,g,d,t,i⟩).get? x=some n from e) ?_;refine cB ?_;rw [b];refine aW (j.at ?_);show wpAny _ _ (holding [Value.builtin "object.__class__"] (call (.builtin "getset_descriptor.__get__") [.builtin "object.__class__",.ref x,.ref C]) >>= ret) _ _ _;exact aW (mX (Ak (aoa (s:=⟨c,g,d,t,i⟩) L X L0 (cB h))))
theorem ajC {Q:pA->Shared->Prop} (L:vO K C) (X:K.In s.heap) (hx:∃ o,s.heap.get? x=some o/\o.cls=.ref C) (h:Q (some (.ref C)) { s with toks:=s.toks+1 }):wpAny (model prog w) A (getAttr? (.ref x) "__class__") Q E s:=by
 cases s with
 |mk e g d t j =>obtain ⟨l,b,a⟩:=id hx;have c:Looks (model prog w) e (typeOf (.ref x)) (.ref C):=a ▸ (KZ b).andThen .now;have k:=Mh (M:=model prog w) X L.ga;have i:=Mh (M:=model prog w) X L.hk;unfold getAttr? getAttrBy? getAttrBy;refine aW (wpAny_mkText (aW (K1 (mX ?_))));refine aW (c.at (aW (k.at ?_)));show wpAny _ _ (getAttrByItsOwn _ _ _ _ _ _) _ _ _;unfold getAttrByItsOwn hookBefore;refine aW (i.at (aW (K1 (mX ?_))));show wpAny _ _ (boundAndCalled (.builtin "BaseException.__getattribute__") (.ref x) _) _ _ _;unfold boundAndCalled;rw [acG.ga.bind (.ref x)];refine aW (cB ?_);exact Ak (apW (s:=⟨e,g,d,t+1,j⟩) L X c hx (cB (cB h)))
theorem abo (L:vO K C) (X:K.In h):∃ c d cd sl,h.get? C=some ⟨c,d,.cls cd,sl⟩:=by
 obtain ⟨cd,e⟩:=Mi.mp L.cs;unfold clsIn at e;split at e
 case h_1 c d cd' sl ho=>exact ⟨c,d,cd',sl,X _ _ ho⟩
 all_goals cases e
theorem alX (L:vO K C):PySem.W.KitX K (.ref x) (.ref C) (λh=>∃ o,h.get? x=some o/\o.cls=.ref C) where
 ty:=by rintro _ _ _ ⟨_,e,c⟩;exact c ▸ (KZ e).andThen .now
 it:=λ_ _ X _ j i m s' k q=>by obtain ⟨c,d,cd,sl,b⟩:=abo L X;unfold isType loadHead;exact aW (wpAny_loadPart (k _ _ b) (cB q))
 ne:=λh r l aM n sl X a=>by obtain ⟨c,d,cd,g,b⟩:=abo L X;refine Bool.eq_false_iff.mpr λq=>?_;rw [<-Value.ref.inj (oh.mp q),b] at a;cases a
 ca:=λX p k=>ajC L X p k
end
end
section
open PySem.Spec PyProof.Rows
section
theorem name_goes {M:Model} {j:Nat} {n:Str} {Q:Av} (I:aJ X aq σ H s) (hN:X.N.Nodup) (hj:X.N[j]?=some n) (hk:X.env.scope.names.lookup n=some .local) (h:∀ s',aJ X aq (σ.set j none) H s'->Q () s'):wpAny M A (do bindName X.env n .none;unbindBehindTheSuite X.env n pos) Q E s:=by
 obtain ⟨m,J,hl⟩:=id I.loc;have t:(X.env.scope.kind == .class || (X.env.scope.kind == .module && X.env.locals != X.env.globals))=false:=by rw [I.ok.kind];rfl
 have hjσ:j<σ.length:=by rw [I.len];exact (gb.mp hj).1
 have qw:=I.qw;obtain ⟨oL,_,_,hoL,_⟩:=id J;refine wpAny_nameGoes_keeps hk J t λh' v D g=>h _ ?_;have lt:∀ {b:Addr} {o:Obj},X.s₀.heap.get? b=some o->b≠X.env.locals:=λe=>fG (j9 (cJ e) I.ok.above);refine ⟨I.ok,I.os,I.bare,⟨λb o e r C u=>(g.2 b (lt e)).trans (I.aF.keep b o e r C u),λb o e r C u=>?_,I.aF.free,λb o e u=>?_,I.aF.tups,I.aF.lZ,λb ps e=>⟨(I.aF.iw b ps e).1,λd o a R=>let z:=(I.aF.iw b ps e).2 d o a R;⟨z.1,(g.2 d (cH z.1 I.free)).trans z.2⟩⟩⟩,⟨_,D,λi y v' a B W=>?_⟩,λy c e=>?_,I.free,I.m5,λp hp=>?_,λb S e=>?_,by simpa using I.len⟩
 ·obtain ⟨sl,a⟩:=I.aF.slot b o e r C u;exact ⟨sl,(g.2 b (lt e)).trans a⟩
 ·obtain ⟨o',a⟩:=I.aF.there b o e u;exact ⟨o',(g.2 b (lt e)).trans a⟩
 ·by_cases l:i=j
  ·subst l;rw [G7 hjσ] at B;cases B
  ·rw [G8 (bL l)] at B;obtain ⟨U,Y,q⟩:=hl i y v' a B W;refine ⟨U,Y,?_⟩;rcases q with ⟨k,e⟩|⟨k,c,e,z⟩
   ·refine .inl ⟨k,?_⟩;have ny:y≠n:=λe=>l (Q5 hN a (e ▸ hj));show (if y=n then v else m y)=_;rw [bw ny];exact e
   ·exact .inr ⟨k,c,e,z.sameBut g (qw y c e)⟩
 ·obtain ⟨L,z⟩:=I.cell y c e;exact ⟨L,z.sameBut g (qw y c e)⟩
 ·obtain ⟨e,r,O,V,d⟩:=I.pin p hp;exact ⟨(g.2 p.1 O).trans e,r,O,V,d⟩
 ·refine (I.hok b S e).stay (λc L x q=>(g.2 c ?_).trans q) (λ_ q=>q) λ_ _ q=>q;rintro rfl;rcases x with rfl|x
  ·rw [I.free] at e;cases e
  ·rw [I.free] at x;cases x
end
section
def aed (j:Nat) (D:lQ):lQ:={ nx:=λσ H=>D.nx (σ.set j none) H,rt:=D.rt,bk:=λσ H=>D.bk (σ.set j none) H,ct:=λσ H=>D.ct (σ.set j none) H }
theorem alY {n:Str} {j:Nat} {b₀:Stmt} {hpos:Pos} {ts:TS} (hst:X.stack=X.env::X.outer) (hf:X.env.frame=some X.env.locals) (hN:X.N.Nodup) (hj:X.N[j]?=some n) (hk:X.env.scope.names.lookup n=some .local) (hb:zj X st tx) (hg:Gl X x) (hm:X.mg x=some (.ref C)) (hs:∀ ea,mR (X.inside ea) (b₀::suite) ts) (hd:(x == ("__debug__":Str))=false:=by decide) : PS X (.Try [st] [.ExceptHandler (some (.Name x np)) (some n) (b₀::suite) hpos] [] [] pos) (λD σ H=>tx D (λcls _ H1=>exmOne X.K cls (.ref C)=some true/\∀ ea,H1 ea=none->ts (aed j D) (σ.set j (some (.ref ea))) (upd H1 ea (Ei ea cls))) σ H):=by
 intro aq s σ H D I h;refine wpAny_Try_except (G9 (bH (hb aq s σ H D _ _ I h λH1 s1 e s' p c=>?_) λi s1 q=>?_))
 ·obtain ⟨ea,cls,a0,B,H',rfl,R,d,un,l,i,L,O,S⟩:=c;have k:=p.ok.frames;rw [hst] at k;have U:=i;rw [hst] at U;refine wpAny_looks_onW k hf U λh4 m WK=>wpAny_landsW m λh5 o WL=>?_;have V:=WK.trans WL;rw [<-hst] at o;have M:=(landed p R d un l i L O o V).inside ea;obtain ⟨ob,t,Y⟩:=o.there;have LT:Looks (model X.prog X.w) h5 (typeOf (.ref ea)) cls:=Y ▸ (KZ t).andThen .now;refine wpAny_handleBy_cons (codeAny_handlers_test (z9 M hg hm ?_ hd)) (by intro q;cases q);refine PySem.W.exm_one (h:=h5) M.fO LT S.1 _ _ _ _ (λ_ _ z=>z) (codeAny_handlers_suite_as (lands_againW o λh6 WM WQ=>?_));have I6:=landed p R d un l i L O WM (V.trans WQ);refine Gf I6 hN hj (.inl hk) (v:=.ref ea) rfl (λs7 I7=>?_) (.inr hk);refine jc (hs ea aq _ _ _ (aed j D) (I7.inside ea) (S.2 ea L)) (λf s2 q=>?_) (λ_ _ z=>z.elim);cases f with
  |next =>obtain ⟨a,b,J,q⟩:=q;exact name_goes (J.outside I.ok) hN hj hk λy g=>⟨_,_,g,q⟩
  |brk =>obtain ⟨a,b,J,q⟩:=q;exact name_goes (J.outside I.ok) hN hj hk λy g=>⟨_,_,g,q⟩
  |cont =>obtain ⟨a,b,J,q⟩:=q;exact name_goes (J.outside I.ok) hN hj hk λy g=>⟨_,_,g,q⟩
  |ret u =>obtain ⟨v,a,b,J,r,q⟩:=q;exact name_goes (J.outside I.ok) hN hj hk λy g=>⟨v,_,_,g,r,q⟩
 ·cases i with
  |next=>exact vV (vV q)
  |brk=>exact q
  |cont=>exact q
  |ret u=>exact q
def WR:V->pA
 |.ref a=>some (.ref a)
 |.ty n=>some (.type n)
 |_=>none
theorem adk {c:V} {t:Value} (e:WR c=some t) (r:cC c u):u=t:=by
 cases c with
 |ref a=>cases e;exact r
 |ty n=>cases e;exact r
 |_=>cases e
def HX:aD->Option cG
 |[]=>some []
 |c::r=>match WR c,HX r with
  |some t,some ts=>some (t::ts)
  |_,_=>none
theorem Rf:∀ {cs:aD} {us ts:cG},HX cs=some ts->bY cs us->us=ts
 |[],_,_,e,.nil=>by cases e;rfl
 |c::r,_,_,e,.cons h1 h2=>by
  unfold HX at e;split at e
  case h_1 t ts e1 e2 =>
   cases e;rw [adk e1 h1,Rf e2 h2]
  case h_2=>cases e
inductive aie (K:bI) (xs:aD) (H:Hp) (Q:VK):Prop
 |mk (ea:_) (C:_) (c:_) (t:_) (b:_) (h1:xs=[.ref ea,c]) (h2:H ea=some (Ei ea (.ref C))) (h3:vO K C) (h4:WR c=some t) (h5:kitOne K (.ref C) t=some b) (h6:Q (.bl b) H)
theorem abY:iZ X (.builtin "isinstance") (aie X.K):=by rintro aq s σ H xs us Q I r ⟨ea,C,c,t,b,rfl,a,L,d,e,q⟩;obtain ⟨u,v,rfl,g,i⟩:=r.two;cases g;rw [adk d i];have p:∃ o,s.heap.get? ea=some o/\o.cls=.ref C:=(show dU X.prog X.w H s.heap ea (Ei ea (.ref C)) from I.hok ea _ a).1;exact qR (alX L) I.fO p e (λz=>nomatch z) λtk=>⟨.bl b,H,I.tok tk,rfl,q⟩
end
end
section
open PySem.Spec PyProof.Rows PySem.W PySem.Builtin PySem.Builtin.ObjectAttr
end
section
open PySem.Spec PyProof.Rows
section
variable {M:Model}
end
section
variable {s₀:Shared} {H₀:Hp} {E:XK}
end
section
variable {Nm:bR} {auf:Scope} {s₀:Shared} {H₀:Hp} {E:XK}
variable {elt jr:Expr} {ifs:oA} {wi:TI}
end
end
section
def Dj (c:aU):Prop:=∀ i j,i<=j->j<c.length->0<=c.getD i 0-c.getD j 0/\c.getD i 0-c.getD j 0<=1
def yg (c:aU):Prop:=∀ i,i+1<c.length->c.getD (i+1) 0<=c.getD i 0
theorem yg.le {c:aU} (h:yg c):∀ {i j:Nat},i<=j->j<c.length->c.getD j 0<=c.getD i 0:=by
 intro i j a;induction j with
 |zero=>intro _;have:i=0:=by lk
        subst this;exact kJ _
 |succ j d =>
  intro b;by_cases e:i=j+1
  ·subst e;exact kJ _
  ·have:=d (by lk) (by lk);have:=h j b;lk
theorem aaJ {c:aU} (pos:0<c.length):Dj c↔yg c/\c.getD 0 0-c.getD (c.length-1) 0<=1:=by
 constructor
 ·intro h;exact ⟨λi hi=>by have:=h i (i+1) (by lk) hi;lk, (h 0 (c.length-1) (by lk) (by lk)).2⟩
 ·rintro ⟨h,l⟩ i j a b;have h1:=h.le a b;have h2:=h.le (d_ i) (by lk);have d:=h.le (i:=j) (j:=c.length-1) (by lk) (by lk);lk
inductive alZ (vs:aD) (H:Hp) (Q:VK):Prop
 |mk (c:Addr) (cs:aU) (h1:vs=[.ref c]) (h2:H c=some (.lst (cs.map V.int))) (h3:cs.length<=100) (h4:∀ (b:Bool) (H':Hp),aG H H'->(b=true↔yg cs)->Q (.bl b) H')
def aob:=nE alZ
inductive al0 (vs:aD) (H:Hp) (Q:VK):Prop
 |mk (c:Addr) (cs:aU) (h1:vs=[.ref c]) (h2:H c=some (.lst (cs.map V.int))) (h3:0<cs.length) (h4:cs.length<=100) (h5:∀ (b:Bool) (H':Hp),aG H H'->(b=true↔Dj cs)->Q (.bl b) H')
def aoc:=nE al0
end
section
open PySem.SeqAt
def asu (a b:Int):Int:=if b<a then b else a
def Nb (cs:aU) (w:Int×Int):aU:=(cs.set w.1.toNat (eE (cs.getD w.1.toNat 0) (cs.getD w.2.toNat 0))).set w.2.toNat (asu (cs.getD w.1.toNat 0) (cs.getD w.2.toNat 0))
def tR (cs:aU) (ws:aK):aU:=ws.foldl Nb cs
theorem al1 (cs:aU) (w:Int×Int):(Nb cs w).length=cs.length:=by unfold Nb;rw [jW,jW]
theorem JZ (ws:aK):∀ cs:aU,(tR cs ws).length=cs.length:=by
 unfold tR;induction ws with
 |nil=>intro cs;rfl
 |cons w r a=>intro cs;rw [um,a,al1]
theorem ajD (cs:aU) (ws:aK) (w:Int×Int):tR cs (ws++[w])=Nb (tR cs ws) w:=by unfold tR;rw [vD];rfl
def tK (M:List aU) (ns:aU):List aU:=M.flatMap λr=>ns.map λn=>r++[n]
def gA (C:List aU):List aU:=C.foldl tK [[]]
theorem JG (C:List aU) (ns:aU):gA (C++[ns])=tK (gA C) ns:=by unfold gA;rw [vD];rfl
theorem QF (M:List aU) (ns:aU):(tK M ns).length=M.length*ns.length:=by
 unfold tK;induction M with
 |nil=>simp
 |cons r q a=>rw [List.flatMap_cons,dj,a,bD,gj,RZ];lk
def Vk (C:List aU) (r:aU):Prop:=r.length=C.length/\∀ i,i<C.length->r.getD i 0∈C.getD i []
theorem vf (C:List aU):∀ r,r∈gA C↔Vk C r:=by
 have j:∀ (k:Nat) (C:List aU),C.length=k->∀ r,r∈gA C↔Vk C r:=by
  intro k;induction k with
  |zero =>
   intro C b r;have:C=[]:=RV.mp b;subst this;show r∈[[]]↔_;constructor
   ·intro h;have:r=[]:=by simpa using h
    subst this;exact ⟨rfl,λi hi=>absurd hi (by simp)⟩
   ·intro h;have:r=[]:=RV.mp h.1;simp [this]
  |succ k o =>
   intro C b r;obtain ⟨D,ns,rfl⟩:∃ D ns,C=D++[ns]:=⟨C.dropLast,C.getLast (by intro z;rw [z] at b;simp at b),(acH _).symm⟩;have d:D.length=k:=by simpa using b
   rw [JG];unfold tK;rw [List.mem_flatMap];constructor
   ·rintro ⟨q,p,hr⟩;obtain ⟨n,u,rfl⟩:=gW.mp hr;obtain ⟨l,g⟩:=(o D d q).mp p;refine ⟨by simp [l],λi hi=>?_⟩;by_cases c:i<D.length
    ·rw [show (q++[n]).getD i 0=q.getD i 0 by simp [List.getD,ou (show i<q.length by lk)],show (D++[ns]).getD i []=D.getD i [] by simp [List.getD,ou c]];exact g i c
    ·have:i=D.length:=by simp at hi;lk
     subst this;rw [show (q++[n]).getD D.length 0=n by rw [<-l];simp [List.getD],show (D++[ns]).getD D.length []=ns by simp [List.getD]];exact u
   ·rintro ⟨l,g⟩;have m:r.length=k+1:=by rw [l];simp [d]
    have a:r≠[]:=λz=>by rw [z] at m;simp at m
    have e:r=r.dropLast++[r.getLast a]:=(acH a).symm;have t:r.dropLast.length=k:=by rw [List.length_dropLast];lk
    refine ⟨r.dropLast,(o D d _).mpr ⟨by lk, λi hi=>?_⟩,gW.mpr ⟨r.getLast a,?_,e.symm⟩⟩
    ·have:=g i (by simp;lk);rw [e,show (r.dropLast++[r.getLast a]).getD i 0=r.dropLast.getD i 0 by simp only [List.getD];rw [ou (by lk)],show (D++[ns]).getD i []=D.getD i [] by simp [List.getD,ou hi]] at this;exact this
    ·have:=g D.length (by simp);rw [e,show (r.dropLast++[r.getLast a]).getD D.length 0=r.getLast a by simp only [List.getD];rw [d,<-t,Aq (bJ _),R0];rfl,show (D++[ns]).getD D.length []=ns by simp [List.getD]] at this;exact this
 exact j C.length C rfl
def Bh (n:Nat) (r:aU):Prop:=r.length=n/\∀ i,i<n->r.getD i 0=0\/r.getD i 0=1
theorem abp (n:Nat) (r:aU):r∈gA (replicate n [0,1])↔Bh n r:=by
 rw [vf];unfold Vk Bh;rw [uD];refine and_congr_right λl=>⟨λh i hi=>?_,λh i hi=>?_⟩
 ·have:=h i hi;rw [show (replicate n ([0,1]:aU)).getD i []=[0,1] by simp [List.getD,hi]] at this;simpa using this
 ·rw [show (replicate n ([0,1]:aU)).getD i []=[0,1] by simp [List.getD,hi]];simpa using h i hi
def afi (n:Nat) (ws:aK):Prop:=∀ r,Bh n r->yg (tR r ws)
end
section
inductive apY (vs:aD) (H:Hp) (Q:VK):Prop
 |mk (v:V) (aj:Int) (ws:aK) (c:Addr) (cs:aU) (h1:vs=[v,.ref c]) (h2:dD H v aj ws) (h3:bC aj ws) (h4:ws.length<=100) (h5:H c=some (.lst (cs.map V.int))) (h6:cs.length=aj.toNat) (h7:∀ (a:Addr) (H':Hp),H a=none->aG H H'->H' a=some (.lst ((tR cs ws).map V.int))->Q (.ref a) H')
def aq5:=nE apY
inductive ajE (vs:aD) (H:Hp) (Q:VK):Prop
 |mk (a b:Addr) (rs:aD) (M:List aU) (ns:aU) (h1:vs=[.ref a,.ref b]) (h2:H a=some (.lst rs)) (h3:Rows H rs M) (h4:H b=some (.lst (ns.map V.int))) (h5:M.length*ns.length<=50000) (h6:ns.length<=50000) (h7:(∀ r∈M,r.length<=50)) (h8:∀ (l:Addr) (rs':aD) (H':Hp),H l=none->aG H H'->H' l=some (.lst rs')->eG H H' l rs' (tK M ns)->Q (.ref l) H')
def al2:=nE ajE
inductive ajF (vs:aD) (H:Hp) (Q:VK):Prop
 |mk (a:Addr) (cs:aD) (C:List aU) (h1:vs=[.ref a]) (h2:H a=some (.lst cs)) (h3:Rows H cs C) (h4:C.length<=40) (h5:(∀ i,i<=C.length->(gA (C.take i)).length<=50000)) (h6:(∀ r∈C,r.length<=50000)) (h7:∀ (l:Addr) (rs':aD) (H':Hp),H l=none->aG H H'->H' l=some (.lst rs')->eG H H' l rs' (gA C)->Q (.ref l) H')
def al3:=nE ajF
inductive ajG (vs:aD) (H:Hp) (Q:VK):Prop
 |mk (v:V) (aj:Int) (ws:aK) (h1:vs=[v]) (h2:dD H v aj ws) (h3:1<=aj) (h4:aj<=8) (h5:bC aj ws) (h6:ws.length<=41) (h7:(∀ (T:Addr) (H':Hp),H T=none->aG H H'->H' T=some (.tup [.str "orders"])->afi aj.toNat ws->Q (.ref T) H')) (h8:∀ (T l:Addr) (r:aU) (H':Hp),H T=none->H l=none->aG H H'->H' T=some (.tup [.str "not",.ref l])->H' l=some (.lst (r.map V.int))->Bh aj.toNat r->¬ yg (tR r ws)->Q (.ref T) H')
def al4:=nE ajG
theorem Pn (n:Nat):(gA (replicate n [0,1])).length=2 ^ n:=by
 induction n with
 |zero=>rfl
 |succ n a=>rw [CZ,JG,QF,a];rfl
theorem ajH (h:i<=n):(replicate n ([0,1]:aU)).take i=replicate i [0,1]:=by rw [List.take_replicate,vG h]
end
section
open PySem.SeqAt
def Ac (w u:Int×Int):Prop:=w.1≠u.1/\w.1≠u.2/\w.2≠u.1/\w.2≠u.2
theorem Ac.symm {w u:Int×Int} (h:Ac w u):Ac u w:=⟨bL h.1,bL h.2.2.1,bL h.2.1,bL h.2.2.2⟩
def First (ws:aK) (i:Nat) (w:Int×Int):Prop:=ws[i]?=some w/\∀ j u,j<i->ws[j]?=some u->Ac w u
def gP (ws:aK) (d:aU):aK:=((ws.zip d).filter λp=>decide (p.2=1)).map (·.1)
theorem adl {w:Int×Int} (h:ws[i]?=some w):qy ws i=w:=by simp [qy,List.getD,h]
theorem abZ (ok:bC aj ws) {w:Int×Int} (hw:ws[i]?=some w) (hd:(cM aj ws).2.getD i 0=1):First ws i w:=by
 have g:=ada ok;have n:i<ws.length:=(gb.mp hw).1;obtain ⟨v,e,l⟩:=g.2 i n;have m:v=0:=by lk
 subst m;refine ⟨hw,λj u o p=>?_⟩;obtain ⟨v',q,k⟩:=g.2 j (by lk);have r:=k.1;have nm:¬ Hr (qy ws j) (qy ws i)=true:=λz=>by have:=l.2.1 _ ⟨j,o,z,rfl⟩;lk
 rw [adl hw,adl p] at nm;unfold Hr at nm;simp only [sH,CQ,not_or] at nm;obtain ⟨⟨a,b⟩,c,d⟩:=nm;exact ⟨bL a,bL c,bL b,bL d⟩
theorem aa0 (ok:bC aj ws) {w:Int×Int} (h:w∈gP ws (cM aj ws).2):∃ i,First ws i w:=by unfold gP at h;obtain ⟨p,a,rfl⟩:=gW.mp h;obtain ⟨b,h1⟩:=G6.mp a;obtain ⟨i,hi⟩:=List.mem_iff_getElem?.mp b;rw [R3] at hi;exact ⟨i,abZ ok hi.1 (by simpa [List.getD,hi.2] using h1)⟩
theorem al5 (P:Int×Int->Int->Prop) (hP:∀ (i j:Nat) (w u:Int×Int) (x y:Int),i<j->ws[i]?=some w->ws[j]?=some u->d[i]?=some x->d[j]?=some y->x=1->y=1->Ac w u) : ((ws.zip d).filter λp=>decide (p.2=1)).Pairwise λa b=>Ac a.1 b.1:=by rw [List.pairwise_filter,List.pairwise_iff_getElem];intro i j hi n c a b;have e:(ws.zip d)[i]?=some (ws.zip d)[i]:=R4 hi;have l:(ws.zip d)[j]?=some (ws.zip d)[j]:=R4 n;obtain ⟨o,m⟩:=R3.mp e;obtain ⟨g,k⟩:=R3.mp l;exact hP i j _ _ _ _ c o g m k (by simpa using a) (by simpa using b)
theorem aaw (ok:bC aj ws):(gP ws (cM aj ws).2).Pairwise Ac:=by unfold gP;rw [List.pairwise_map];refine al5 (λ_ _=>True) λi j w u x y a b e g d ex c=>?_;have f:=abZ ok e (by simp [List.getD,d,c]);exact (f.2 i w a b).symm
def zQ (aj:Int) (ws:aK):aU:=(gP ws (cM aj ws).2).map (·.2)
def lK (aj:Int) (ws:aK):List aU:=(range aj.toNat).map λl:Nat=>if (l:Int)∈zQ aj ws then [0] else (range (2 ^ cW aj ws)).map λk:Nat=>(k:Int)
theorem Fw (aj:Int) (ws:aK):(lK aj ws).length=aj.toNat:=by simp [lK]
end
variable {i1 i2:Addr}
section
open PySem.Spec PyProof.Rows
section
structure ZT (h:Heap) (TI i1 i2 t l:Addr) (k:Nat) (xs ys:fV):Prop where
 pr:IsPair h TI (.ref i1) (.ref i2)
 g1:h.IsTupleIter i1 t k
 g2:h.IsListIter i2 l k
 gt:h.IsTuple t xs
 gl:h.IsList l ys
theorem adn {b:Addr} {xs:fV} (g:h.IsTuple a xs) (k:ExtBut b h h') (n:a≠b):h'.IsTuple a xs:=let ⟨o,e,r⟩:=g;⟨o,k a o n e,r⟩
theorem aif {z TI TO:Addr} {k:Nat} {xs:fV} {x y v:Value} (D:ZipApart z TI TO i1 i2 t l) (gz:IsZip s.heap z TI TO .none) (gO:IsPair s.heap TO u v) (Z:ZT s.heap TI i1 i2 t l k xs ys) (gx:xs[k]?=some x) (gy:ys[k]?=some y) (q:∀ h',IsZip h' z TI TO (rawInt s.heap.objs.size)->IsPair h' TO x y->h'.IsTupleIter i1 t (k+1)->h'.IsListIter i2 l (k+1)->IsPair h' s.heap.objs.size x y ->(∀ c o,c≠z->c≠TO->c≠i1->c≠i2->s.heap.get? c=some o->h'.get? c=some o)->Q (.ref s.heap.objs.size) { s with heap:=h' }) : wpAny (model P w) A (Builtin.«zip.__next__» ⟨[.ref z],[]⟩) (λeY s'=>∃ r,eY=.done (.ret r)/\Q r s') E s:=by
 obtain ⟨gI,g1,g2,gt,gl⟩:=Z;have free:wpAny (model P w) A (ownedTupleIsFree (.ref z)) (λb s'=>b=true/\s'=s) E s:=by unfold ownedTupleIsFree;exact aW (nO gz rfl (x:=.none) rfl (cB ⟨rfl,rfl⟩))
 refine show wpAny _ _ (field (.ref z) 2 >>= _) _ _ _ from aW (nO gz rfl (x:=.bool false) rfl (show wpAny _ _ (field (.ref z) 3 >>= _) _ _ _ from aW (nO gz rfl (x:=.ref TI) rfl (aW (oW gI rfl (show wpAny _ _ (ownedTupleIsFree (.ref z) >>= _) _ _ _ from aW (jc free (λb s' e=>?_) λ_ _ e=>e)))))));obtain ⟨rfl,rfl⟩:=e;simp only [rZ];refine aW (CN (aW (nO gz rfl (x:=.ref TO) rfl (aW (C_ gz (by simp) λha ga d=>?_)))));have za:IsZip ha z TI TO .ellipsis:=ga;refine aW ?_;simp only [List.zipIdx_cons,List.zipIdx_nil,Cz,List.forIn_nil];refine aW (aW (CW (show wpAny _ _ (nextOf (.ref i1) >>= _) _ _ _ from aW (Q8 (g1.extBut d.extBut D.i1z) (adn gt d.extBut D.l1z) gx λhb O g=>cB ?_))));have Y:IsPair hb TO u v:=g.extBut _ _ D.TOi1 (d.extBut _ _ D.TOz gO);refine aW (oW Y rfl (aW (R5 Y λhc M i=>?_)));have Oc:IsPair hc TO x v:=M;have WT:=((g2.extBut d.extBut D.i2z).extBut g.extBut (bL D.i12)).extBut i.extBut (bL D.TOi2);have WW:=((gl.extBut d.extBut D.l2z).extBut g.extBut D.l2i1).extBut i.extBut D.l2TO;refine aW (sG (cB (aW (aW (CW (show wpAny _ _ (nextOf (.ref i2) >>= _) _ _ _ from aW (wpAny_nextOf_list_item WT WW gy λhd J m=>cB ?_)))))));have Od:IsPair hd TO x v:=m.extBut _ _ D.TOi2 Oc;refine aW (oW Od rfl (aW (R5 Od λa I j=>?_)));have W:IsPair a TO x y:=I;refine aW (sG (cB (cB (aW (oW W rfl (aW (wpAny_newTuple ?_)))))));have size:a.objs.size=s'.heap.objs.size:=by rw [j.1,m.1,i.1,g.1,d.1]
 have V:IsZip a z TI TO .ellipsis:=j.extBut _ _ (bL D.TOz) (m.extBut _ _ (bL D.i2z) (i.extBut _ _ (bL D.TOz) (g.extBut _ _ (bL D.i1z) za)));have ke:∀ c o,c≠z->c≠TO->c≠i1->c≠i2->s'.heap.get? c=some o->a.get? c=some o:=λc o B n2 U C e=>j.extBut _ _ n2 (m.extBut _ _ C (i.extBut _ _ n2 (g.extBut _ _ U (d.extBut _ _ B e))));have S:a.IsTupleIter i1 t (k+1):=((O.extBut i.extBut (bL D.TOi1)).extBut m.extBut D.i12).extBut j.extBut (bL D.TOi1);have R:a.IsListIter i2 l (k+1):=J.extBut j.extBut (bL D.TOi2);have p:z<a.objs.size:=cJ V;refine show wpAny _ _ (ownedTupleHandOut (.ref z) (.ref a.objs.size) >>= _) _ _ _ from aW ?_;unfold ownedTupleHandOut;have zf:IsZip (a.push { cls:=.type "tuple",data:=.seq #[x,y] }) z TI TO .ellipsis:=cP _ V;refine aW (C_ zf (by simp) λhg L sg=>?_);have zg:IsZip hg z TI TO (rawInt a.objs.size):=L;refine C_ zg (by simp) λhi N si=>?_;have zi:IsZip hi z TI TO (rawInt a.objs.size):=N;have up:∀ c o,c≠z->a.get? c=some o->hi.get? c=some o:=λc o n e=>si.extBut _ _ n (sg.extBut _ _ n (cP _ e));have Ti:IsPair hi a.objs.size x y:=si.extBut _ _ (vW p) (sg.extBut _ _ (vW p) (eV _ rfl));rw [size] at zi Ti;refine cB ⟨_,rfl,show Q (.ref a.objs.size) _ from ?_⟩;rw [size];exact q hi zi (up _ _ D.TOz W) (S.at λo e=>up _ o D.i1z e) (R.at λo e=>up _ o D.i2z e) Ti λc o B n2 U C e=>up c o B (ke c o B n2 U C e)
theorem ajI {z TI TO:Addr} {k:Nat} {xs:fV} {v:Value} {Q:Fin->Shared->Prop} (hh:A.handled=none) (D:ZipApart z TI TO i1 i2 t l) (gz:IsZip s.heap z TI TO .none) (gO:IsPair s.heap TO u v) (Z:ZT s.heap TI i1 i2 t l k xs ys) (no:xs[k]?=none\/ys[k]?=none) (q:∀ h' e,(∀ c o,c≠z->c≠TO->c≠i1->c≠i2->s.heap.get? c=some o->h'.get? c=some o)->(∃ o,h'.get? e=some o/\o.cls=.type "StopIteration")->E (.ref e) { s with heap:=h' }) : wpAny (model P w) A (Builtin.«zip.__next__» ⟨[.ref z],[]⟩) Q E s:=by
 obtain ⟨gI,g1,g2,gt,gl⟩:=Z;have free:wpAny (model P w) A (ownedTupleIsFree (.ref z)) (λb s'=>b=true/\s'=s) E s:=by unfold ownedTupleIsFree;exact aW (nO gz rfl (x:=.none) rfl (cB ⟨rfl,rfl⟩))
 refine show wpAny _ _ (field (.ref z) 2 >>= _) _ _ _ from aW (nO gz rfl (x:=.bool false) rfl (show wpAny _ _ (field (.ref z) 3 >>= _) _ _ _ from aW (nO gz rfl (x:=.ref TI) rfl (aW (oW gI rfl (show wpAny _ _ (ownedTupleIsFree (.ref z) >>= _) _ _ _ from aW (jc free (λb s' e=>?_) λ_ _ e=>e)))))));obtain ⟨rfl,rfl⟩:=e;simp only [rZ];refine aW (CN (aW (nO gz rfl (x:=.ref TO) rfl (aW (C_ gz (by simp) λha ga i=>?_)))));have W:IsZip ha z TI TO .ellipsis:=ga;have a:∀ {h:Heap} {e:Addr},IsZip h z TI TO .ellipsis->(∃ o,h.get? e=some o/\o.cls=.type "StopIteration")->e≠z:=λg ⟨o,m,B⟩ n=>by rw [n,g] at m;cases m;simp at B
 refine aW ?_;simp only [List.zipIdx_cons,List.zipIdx_nil,Cz,List.forIn_nil];refine aW (aW (CW (show wpAny _ _ (nextOf (.ref i1) >>= _) _ _ _ from ?_)));have p:=g1.extBut i.extBut D.i1z;have r:=adn gt i.extBut D.l1z;cases C:xs[k]? with
 |none =>refine aW (aav hh p r C λI e d st=>?_);have U:IsZip I z TI TO .ellipsis:=d _ _ (bL D.i1z) W;have L:=a U st;obtain ⟨J,m,B⟩:=st;exact C_ U (by simp) λN _ j=>q N e (λc o y _ M _ g=>j.extBut _ _ y (d _ _ M (i.extBut _ _ y g))) ⟨J,j.extBut _ _ L m,B⟩
 |some x =>have gy:ys[k]?=none:=no.elim (λh=>by rw [C] at h;cases h) id;refine aW (Q8 p r C λI g1b d=>cB ?_);have V:IsPair I TO u v:=d.extBut _ _ D.TOi1 (i.extBut _ _ D.TOz gO);refine aW (oW V rfl (aW (R5 V λN gOc j=>?_)));have WT:=((g2.extBut i.extBut D.i2z).extBut d.extBut (bL D.i12)).extBut j.extBut (bL D.TOi2);have WW:=((gl.extBut i.extBut D.l2z).extBut d.extBut D.l2i1).extBut j.extBut D.l2TO;refine aW (sG (cB (aW (aW (CW (show wpAny _ _ (nextOf (.ref i2) >>= _) _ _ _ from aW (wpAny_nextOf_list_end hh WT WW gy λhd e S st=>?_)))))));have R:IsZip hd z TI TO .ellipsis:=S _ _ (bL D.i2z) (j.extBut _ _ (bL D.TOz) (d.extBut _ _ (bL D.i1z) W));have L:=a R st;obtain ⟨J,m,B⟩:=st;exact C_ R (by simp) λhe _ O=>q he e (λc o y n2 M Y g=>O.extBut _ _ y (S _ _ Y (j.extBut _ _ n2 (d.extBut _ _ M (i.extBut _ _ y g))))) ⟨J,O.extBut _ _ L m,B⟩
theorem aii {z TI TO:Addr} {k:Nat} {xs:fV} {x y v:Value} {Q:pA->Shared->Prop} (D:ZipApart z TI TO i1 i2 t l) (gz:IsZip s.heap z TI TO .none) (gO:IsPair s.heap TO u v) (Z:ZT s.heap TI i1 i2 t l k xs ys) (gx:xs[k]?=some x) (gy:ys[k]?=some y) (q:∀ h',IsZip h' z TI TO (rawInt s.heap.objs.size)->IsPair h' TO x y->h'.IsTupleIter i1 t (k+1)->h'.IsListIter i2 l (k+1)->IsPair h' s.heap.objs.size x y ->(∀ c o,c≠z->c≠TO->c≠i1->c≠i2->s.heap.get? c=some o->h'.get? c=some o)->Q (some (.ref s.heap.objs.size)) { s with heap:=h' }):wpAny (model P w) A (pyNext (.ref z)) Q E s:=by have ty:s.TypeIs (.ref z) "zip":=⟨_,gz,rfl⟩;unfold pyNext;refine aW (K1 (Cu (name:=ofString "__next__") ty K3 (Cw K3 ty F.entry_zip_next ?_ (F.args_zip_next_1 _))));exact aif D gz gO Z gx gy λh' i g a d b e=>cB (q h' i g a d b e)
theorem agm {z TI TO:Addr} {k:Nat} {xs:fV} {v:Value} {Q:pA->Shared->Prop} (hh:A.handled=none) (D:ZipApart z TI TO i1 i2 t l) (gz:IsZip s.heap z TI TO .none) (gO:IsPair s.heap TO u v) (Z:ZT s.heap TI i1 i2 t l k xs ys) (no:xs[k]?=none\/ys[k]?=none) (q:∀ h',(∀ c o,c≠z->c≠TO->c≠i1->c≠i2->s.heap.get? c=some o->h'.get? c=some o)->Q none { s with heap:=h' }):wpAny (model P w) A (pyNext (.ref z)) Q E s:=by have ty:s.TypeIs (.ref z) "zip":=⟨_,gz,rfl⟩;unfold pyNext;refine aW (K1 (Cu (name:=ofString "__next__") ty K3 (Cw K3 ty F.entry_zip_next ?_ (F.args_zip_next_1 _))));exact ajI hh D gz gO Z no (by rintro h' e kk ⟨o,a,d⟩;exact aW (wpAny_isInstance (T:="StopIteration") (b:=true) ⟨o,a,d⟩ isSubtype_stop (cB (q _ kk))))
abbrev Im (h:Heap) (t:Addr):Heap:=h.push { cls:=.type "tuple_iterator",data:=.fields #[.ref t,.int 0 0] }
abbrev NK (h:Heap) (t l:Addr):Heap:=(Im h t).push { cls:=.type "list_iterator",data:=.fields #[.ref l,.int 0 0] }
abbrev NP (h:Heap) (t l:Addr):Heap:=(NK h t l).push { cls:=.type "tuple",data:=.seq #[.ref h.objs.size,.ref (Im h t).objs.size] }
abbrev NQ (h:Heap) (t l:Addr):Heap:=(NP h t l).push { cls:=.type "tuple",data:=.seq #[.none,.none] }
abbrev Bq (h:Heap) (t l:Addr):Heap:=(NQ h t l).push { cls:=.type "zip",data:=.fields #[.none,.bool false,.bool false,.ref (NK h t l).objs.size,.ref (NP h t l).objs.size] }
theorem ajJ (t l:Addr) (xs ys:fV):Meets (Builtin.«zip.__new__» ⟨[.type "zip",.ref t,.ref l],[]⟩) (λ_ R s=>s.heap.IsTuple t xs/\s.heap.IsList l ys/\R (.ok (.ret (.ref (NQ s.heap t l).objs.size))) { s with heap:=Bq s.heap t l }):=.of_wp λprog w A R s h=>by
  obtain ⟨c,g,d,tk,a⟩:=s;obtain ⟨i,k,q⟩:=h;have b:=sub_zip;have j:IsTuple (Shared.heap ⟨c,g,d,tk,a⟩) t xs:=i;have e:IsList (Shared.heap ⟨Im c t,g,d,tk,a⟩) l ys:=IsList.push k _
  wp_walk using Mg j,Ds e
  exact ⟨_,rfl,q⟩
theorem aij {xs:fV} (gt:s.heap.IsTuple t xs) (gl:s.heap.IsList l ys) (q:∀ h',IsZip h' (s.heap.objs.size+4) (s.heap.objs.size+2) (s.heap.objs.size+3) .none->ZT h' (s.heap.objs.size+2) s.heap.objs.size (s.heap.objs.size+1) t l 0 xs ys->IsPair h' (s.heap.objs.size+3) .none .none ->(∀ c o,s.heap.get? c=some o->h'.get? c=some o)->Q (.ref (s.heap.objs.size+4)) { s with heap:=h' }):wpAny (model P w) A (call (.type "zip") [.ref t,.ref l]) Q E s:=by
 refine callType_new F.called_zip (by decide) (F.typeCall_zip_2 _ _) (F.newCall_zip_2 _ _) (λp=>F.args_object_init_3 p _ _) F.entry_zip_new (ajJ t l xs ys) ⟨gt,gl,?_⟩;have b:(Im s.heap t).objs.size=s.heap.objs.size+1:=sU ..;have n2:(NK s.heap t l).objs.size=s.heap.objs.size+2:=by rw [sU,b]
 have g:(NP s.heap t l).objs.size=s.heap.objs.size+3:=by rw [sU,n2]
 have i:(NQ s.heap t l).objs.size=s.heap.objs.size+4:=by rw [sU,g]
 have a:∀ {h:Heap} {c:Addr} {o:Obj} (o':Obj),h.get? c=some o->(h.push o').get? c=some o:=λo' e=>cP o' e;have d:(Bq s.heap t l).get? (NQ s.heap t l).objs.size=some _:=eV _ rfl;have k:(Bq s.heap t l).get? (NP s.heap t l).objs.size=some _:=a _ (eV _ rfl);have j:(Bq s.heap t l).get? (NK s.heap t l).objs.size=some _:=a _ (a _ (eV _ rfl));have m:(Bq s.heap t l).get? (Im s.heap t).objs.size=some _:=a _ (a _ (a _ (eV _ rfl)));have r:(Bq s.heap t l).get? s.heap.objs.size=some _:=a _ (a _ (a _ (a _ (eV _ rfl))));have kk:∀ c o,s.heap.get? c=some o->(Bq s.heap t l).get? c=some o:=λc o e=>a _ (a _ (a _ (a _ (a _ e))));obtain ⟨u,n,v⟩:=gt;obtain ⟨x,y,z⟩:=gl;rw [n2,g,i] at d;rw [g] at k;rw [b,n2] at j;rw [b] at m;refine show _/\_ from ?_;rw [i];exact ⟨⟨_,d,rfl⟩,q _ d ⟨j,⟨_,r,rfl,rfl⟩,⟨_,m,rfl,rfl⟩,⟨u,kk _ _ n,v⟩,⟨x,kk _ _ y,z⟩⟩ k kk⟩
end
section
variable {elts:oA} {kk:Nat} {ps:Pos}
def ztS (z TI TO i1 i2 a1 a2:Addr) (i:Nat) (h:Heap):Prop:=IsZip h z TI TO .none/\IsPair h TI (.ref i1) (.ref i2)/\(∃ a b,IsPair h TO a b)/\h.IsTupleIter i1 a1 i/\h.IsListIter i2 a2 i
theorem aik (a1 a2 z TI TO i1 i2:Addr) (D:ZipApart z TI TO i1 i2 a1 a2):sX P w K (.Tuple elts kk ps) (qz (λH xs=>fY K H a1 xs) (λH xs=>dB K H a2 xs)) [z,TI,TO,i1,i2] z (ztS z TI TO i1 i2 a1 a2) where
 mem:=by simp
 obj:=λi h st b d=>by
  obtain ⟨j,a,⟨u,v,c⟩,⟨o1,e1,c1,d1⟩,⟨o2,e2,c2,d2⟩⟩:=st;have q:b=z\/b=TI\/b=TO\/b=i1\/b=i2:=by simpa using d
  rcases q with rfl|rfl|rfl|rfl|rfl
  ·exact ⟨_,j,λv q=>by have C:fields _=Data.cell v:=q;cases C⟩
  ·exact ⟨_,a,λv q=>by have C:Data.seq _ _=Data.cell v:=q;cases C⟩
  ·exact ⟨_,c,λv q=>by have C:Data.seq _ _=Data.cell v:=q;cases C⟩
  ·exact ⟨o1,e1,λv q=>by rw [d1] at q;cases q⟩
  ·exact ⟨o2,e2,λv q=>by rw [d2] at q;cases q⟩
 keep:=λi h h' st k=>by obtain ⟨j,a,⟨u,v,c⟩,h1,h2⟩:=st;exact ⟨k z (by simp) _ j,k TI (by simp) _ a,⟨u,v,k TO (by simp) _ c⟩,h1.at λo e=>k i1 (by simp) o e,h2.at λo e=>k i2 (by simp) o e⟩
 item:=by
  intro X R U hK hc i aq s σ H E I M st O;subst R U hK;obtain ⟨j,a,⟨u0,v0,c⟩,h1,h2⟩:=st;obtain ⟨xs,x,ys,y,L,hr,N,hy⟩:=O;obtain ⟨aM,W,p,_⟩:=I.tuple L;obtain ⟨B,V,S,_⟩:=I.list hr;obtain ⟨u,hu,ru⟩:=W.get N;obtain ⟨v,hv,Wy⟩:=V.get hy;refine aii D j c ⟨a,h1,h2,p,S.isList⟩ (x:=u) (y:=v) (by simpa using hu) (by simpa using hv) λh' b1 b2 b3 b4 b5 J=>⟨_,rfl,wpAny_letOwnedTupleGo_zip b1 λm Y r=>?_⟩;have eT:z<s.heap.objs.size:=cJ j;have k2:∀ b o,b∉[z,TO,i1,i2]->s.heap.get? b=some o->m.get? b=some o:=λb o n q=>by
   have g:b≠z/\b≠TO/\b≠i1/\b≠i2:=by simpa using n
   exact r.extBut b o g.1 (J b o g.1 g.2.1 g.2.2.1 g.2.2.2 q)
  have new:dU X.prog X.w (upd H s.heap.objs.size (.tup [x,y])) m s.heap.objs.size (.tup [x,y]):=⟨by show 2<=sizeLine;rw [uy];decide,[u,v],.cons ru (.cons Wy .nil),_,r.extBut _ _ (vW eT) b5,rfl,_,rfl,rfl⟩;have sub:∀ b∈[z,TO,i1,i2],b∈[z,TI,TO,i1,i2]:=λb d=>by simp at d ⊢;rcases d with e|e|e|e<;>simp [e]
  have I2:aJ X aq σ (upd H s.heap.objs.size (.tup [x,y])) { s with heap:=m,toks:=s.toks }:=aJ.adf I k2 (λb d=>M b (sub b d)) new;refine ⟨.ref s.heap.objs.size,_,I2,rfl,⟨s.heap.objs.size,x,y,I.hok.fresh (bJ _),rfl,rfl,(λzs l=>by rw [I.Qt l L];exact N),λzs l=>by rw [I.Gg l hr];exact hy⟩,⟨Y,?_,⟨u,v,?_⟩,?_,?_⟩,λb d=>?_⟩
  ·exact r.extBut _ _ D.TIz (J _ _ D.TIz D.TITO D.TIi1 D.TIi2 a)
  ·exact r.extBut _ _ D.TOz b2
  ·exact b3.extBut r.extBut D.i1z
  ·exact b4.extBut r.extBut D.i2z
  ·have bl:b<s.heap.objs.size:=by
    have q:b=z\/b=TI\/b=TO\/b=i1\/b=i2:=by simpa using d
    rcases q with rfl|rfl|rfl|rfl|rfl
    ·exact eT
    ·exact cJ a
    ·exact cJ c
    ·obtain ⟨_,q,_⟩:=h1;exact cJ q
    ·obtain ⟨_,q,_⟩:=h2;exact cJ q
   rw [bh (fG bl)];exact (M b d).1
 done:=by
  intro X R U hK hc i aq s σ H E I M st O;subst R U hK;obtain ⟨j,a,⟨u0,v0,c⟩,h1,h2⟩:=st;obtain ⟨xs,ys,L,hr,N⟩:=O;obtain ⟨aM,W,p,_⟩:=I.tuple L;obtain ⟨B,V,S,_⟩:=I.list hr;have l1:=W.length;have l2:=V.length;have t:aM.toArray[i]?=none\/B.toArray[i]?=none:=by
   rcases N with q|q
   ·exact .inl (by rw [KQ,CJ] at *;lk)
   ·exact .inr (by rw [KQ,CJ] at *;lk)
  have sub:∀ b∈[z,TO,i1,i2],b∈[z,TI,TO,i1,i2]:=λb d=>by simp at d ⊢;rcases d with e|e|e|e<;>simp [e]
  refine agm (I.ok.hd hc) D j c ⟨a,h1,h2,p,S.isList⟩ t λh' J=>⟨rfl,?_⟩;exact aJ.ade (t':=s.toks) (ch:=[z,TO,i1,i2]) I (λb o n q=>by
   have g:b≠z/\b≠TO/\b≠i1/\b≠i2:=by simpa using n
   exact J b o g.1 g.2.1 g.2.2.1 g.2.2.2 q) λb d=>M b (sub b d)
 self:=λ_ _ _ _ _ st h=>KR st.1 h
def apZ (K:bI) (ta:TA):TI:=λσ H R=>ta σ H λvs H1=>∃ a b,vs=[.ref a,.ref b]/\(∃ xs,fY K H1 a xs)/\(∃ ys,dB K H1 b ys)/\R (qz (λH xs=>fY K H a xs) (λH xs=>dB K H b xs)) H1
theorem Rg {l r:Expr} (hg:Gl X "zip") (hm:X.mg "zip"=none) (ha:PA X [l,r] ta) (hs:starEach [l,r] X.env=(false,eval l X.env)::starEach [r] X.env:=by rfl) (hpl:(backTo pos (starEach [r] X.env)).any (·.1)=false:=by rfl) : PI X (.Tuple elts kk ps) (.Call (.Name "zip" p) [l,r] [] pos) (apZ X.K ta):=by
 intro aq s σ H R I h;refine Call_ (sV I hg hm boot_zip (Ai (bH (ha pos aq s σ H _ I h) λus d ⟨vs,H1,g,M,x⟩=>?_) hs hpl));obtain ⟨a,b,e,⟨xs,C⟩,⟨ys,hr⟩,q⟩:=x;subst e;obtain ⟨u,v,rfl,D,J⟩:=bY.two M;cases D;cases J;obtain ⟨aM,_,m,_⟩:=g.tuple C;obtain ⟨z,_,i,_⟩:=g.list hr;have L:a<d.heap.objs.size:=by obtain ⟨o,e,_⟩:=m;exact cJ e
 have y:b<d.heap.objs.size:=by obtain ⟨o,n,e,_⟩:=i;exact cJ e
 refine aij m i.isList λh' j Z N kk=>KR (by simpa using j) ?_;have t:ZipApart (d.heap.objs.size+4) (d.heap.objs.size+2) (d.heap.objs.size+3) d.heap.objs.size (d.heap.objs.size+1) a b:=by generalize d.heap.objs.size=n at L y;constructor<;>exact λq=>by simp only [Addr] at *;lk
 refine ⟨d.heap.objs.size+4,[d.heap.objs.size+4,d.heap.objs.size+2,d.heap.objs.size+3,d.heap.objs.size,d.heap.objs.size+1],_,_,H1,rfl,g.kept (t':=d.toks) kk,aik a b _ _ _ _ _ t,⟨j,Z.pr,⟨_,_,N⟩,Z.g1,Z.g2⟩,λc B=>?_,q⟩;have k:d.heap.objs.size<=c:=by
  have q:c=d.heap.objs.size+4\/c=d.heap.objs.size+2\/c=d.heap.objs.size+3\/c=d.heap.objs.size\/c=d.heap.objs.size+1:=by simpa using B
  rcases q with rfl|rfl|rfl|rfl|rfl
  ·exact vH _ _
  ·exact vH _ _
  ·exact vH _ _
  ·exact bJ _
  ·exact vH _ _
 exact g.m8 k (g.hok.fresh k)
end
inductive ahs (K:bI) (xs:aD) (H:Hp) (Q:VK):Prop
 |mk (i j:Int) (h1:xs=[.int i,.int j]) (h2:∀ r,H r=none->Q (.ref r) (upd H r (.rng i j)))
theorem abq:iZ X (.type "range") (ahs X.K):=by rintro aq s σ H xs us Q I r ⟨i,j,rfl,q⟩;obtain ⟨u,v,rfl,⟨t,rfl⟩,⟨t',rfl⟩⟩:=Ln r;refine call_range_2 ⟨.ref s.heap.objs.size,_,I.laid (t':=s.toks+1) (o:=.rng i j) (λb o e=>cP _ e) (bJ _) ⟨_,_,_,eV _ rfl⟩,rfl,q _ (I.hok.fresh (bJ _))⟩
inductive aht (K:bI) (xs:aD) (H:Hp) (Q:VK):Prop
 |mk (j:Int) (h1:xs=[.int j]) (h2:∀ r,H r=none->Q (.ref r) (upd H r (.rng 0 j)))
theorem abr:iZ X (.type "range") (aht X.K):=by rintro aq s σ H xs us Q I r ⟨j,rfl,q⟩;obtain ⟨u,rfl,⟨t,rfl⟩⟩:=qM r;refine call_range_1 ⟨.ref s.heap.objs.size,_,I.laid (t':=s.toks+1+1) (o:=.rng 0 j) (λb o e=>cP _ e) (bJ _) ⟨_,_,_,eV _ rfl⟩,rfl,q _ (I.hok.fresh (bJ _))⟩
theorem QG (i:Int):∀ (l:cG) (k:Nat),(∀ (j:Nat) (v:Value),l[j]?=some v->∃ t,v=.int (i+((k+j:Nat):Int)) t)->bY ((range' k l.length).map λm:Nat=>V.int (i+(m:Int))) l
 |[],_,_=>.nil
 |v::r,k,h=>by
  rw [gj,List.range'_succ,iC];refine .cons ?_ (QG i r (k+1) λj u e=>?_)
  ·obtain ⟨t,e⟩:=h 0 v rfl;exact ⟨t,e⟩
  ·obtain ⟨t,a⟩:=h (j+1) u (by simpa using e);exact ⟨t,by rw [a];congr 3;lk⟩
def j7 (i j:Int):aU:=(range (j-i).toNat).map λk:Nat=>i+(k:Int)
inductive agn (K:bI) (xs:aD) (H:Hp) (Q:VK):Prop
 |mk (r:Addr) (i j:Int) (h1:xs=[.ref r]) (h2:H r=some (.rng i j)) (h3:-(2 ^ 62)<=i) (h4:i<2 ^ 62) (h5:-(2 ^ 62)<=j) (h6:j<2 ^ 62) (h7:(j-i).toNat<=50000) (h8:∀ l,H l=none->Q (.ref l) (upd H l (.lst ((j7 i j).map V.int))))
theorem aax (hc:X.calm=true):iZ X (.type "list") (agn X.K):=by
 rintro aq s σ H xs us Q I r ⟨p,i,j,rfl,C,i1,i2,x,n,L,q⟩;obtain ⟨u,rfl,l⟩:=qM r;cases l;obtain ⟨t,J,v,e⟩:=(show dU X.prog X.w H s.heap p (.rng i j) from I.hok p _ C);have y:rangeSize i j 1=((j-i).toNat:Nat):=by rw [rangeSize_one];split<;>lk
 refine call_list_range (I.ok.hd hc) e (small_one i1 i2 x n) y (by lk) λh' tk b c' D d ⟨B,m⟩=>?_;have a:bY ((j7 i j).map V.int) b.toList:=by
  have z:=QG i b.toList 0 λk v e=>by obtain ⟨t,g⟩:=m k v (by simpa using e);exact ⟨t,by rw [g,Mf,K_]⟩
  have c:b.toList.length=(j-i).toNat:=by rw [sS,B]
  rw [c,<-acI] at z;unfold j7;rw [KY];exact z
 refine ⟨.ref s.heap.objs.size,_,I.laid (t':=tk) (o:=.lst ((j7 i j).map V.int)) D (bJ _) ⟨?_,b.toList,c',a,?_⟩,rfl,q _ (I.hok.fresh (bJ _))⟩
 ·simp only [j7,bD,xW];exact aN (by lk)
 ·rw [R6];exact d
theorem yh {i:Int} (hg:Gl X x) (h:∃ t,X.mg x=some (.int i t)) (hd:(x == ("__debug__":Str))=false:=by decide):PE X (.Name x pos) (tC (.int i)):=by obtain ⟨t,h⟩:=h;exact xZ hg h ⟨t,rfl⟩ hd
structure aeN (P:Program) (w:World) (K:bI) (mg:dH) (aF:Heap) (f:Addr) (k:Nat) (ps:bR) (sp:Sp):Prop where
 ex:∃ fd:FuncData,dz P w K mg aF (lF P w) k f fd ps sp/\oZ K fd ps []/\keepIn K (.ref f)=true
theorem JD:bootBuiltins "range"=some (.type "range"):=by k_go
theorem Hs {w1 w2:TI} (h1:PI X tg e w1) (h2:PI X tg e w2):PI X tg e (λσ H R=>w1 σ H R\/w2 σ H R):=λaq s σ H R I h=>h.elim (h1 aq s σ H R I) (h2 aq s σ H R I)
end
section
open PySem.SeqAt
inductive wH where
 |net (aj:Int) (ws:aK)|none|many
def yj (a:Int) (us:aK) (b:Int) (vs:aK):wH:=if a≠b then .none else if 40<us.length+vs.length then .many else .net a (us++vs)
def yp (a:Int) (us:aK) (b:Int) (vs:aK):wH:=if 8<a+b then .none else if 40<us.length+vs.length then .many else .net (a+b) (us++vs.map (iY a))
structure mQ where
 net:Addr
 fW:Addr
 Us:Addr
 Rh:Addr
 many:Addr
 Ut:Addr
 Vl:Addr
 Uu:Addr
structure afj (K:bI) (a:mQ):Prop where
 vP:excIn K a.fW wR "ValueError.__new__"=true
 Ga:excIn K a.many wR "ValueError.__new__"=true
 aod:exmOne K (.ref a.fW) (.ref a.net)=some true
 Gb:exmOne K (.ref a.many) (.ref a.net)=some true
 ado:vO K a.fW
 abt:vO K a.many
 at8:kitAny K (.ref a.fW) [.ref a.Us,.ref a.Uu,.ref a.Vl,.ref a.Ut,.ref a.Rh]=some false
 atR:kitAny K (.ref a.many) [.ref a.Us,.ref a.Uu,.ref a.Vl,.ref a.Ut,.ref a.Rh]=some false
 at9:kitOne K (.ref a.fW) (.type "ValueError")=some true
 atU:kitOne K (.ref a.many) (.type "ValueError")=some true
 nn:kitOne K (.ref a.fW) (.ref a.fW)=some true
 nm:kitOne K (.ref a.fW) (.ref a.many)=some false
 mn:kitOne K (.ref a.many) (.ref a.fW)=some false
 mm:kitOne K (.ref a.many) (.ref a.many)=some true
structure Nf (K:bI) (mg:dH) (a:mQ):Prop extends afj K a where
 ahu:mg "NetError"=some (.ref a.net)
 uf:mg "NoNet"=some (.ref a.fW)
 atV:mg "NoLane"=some (.ref a.Us)
 atx:mg "NoWalker"=some (.ref a.Rh)
 xH:mg "TooMany"=some (.ref a.many)
 atX:mg "NoText"=some (.ref a.Ut)
 at5:mg "NoRow"=some (.ref a.Vl)
 atY:mg "NoName"=some (.ref a.Uu)
inductive ajK (a:mQ) (vs:aD) (H:Hp) (Q:VK) (E:XK):Prop
 |mk (aj:Int) (t:Addr) (rs:aD) (ws:aK) (h1:vs=[.int aj,.ref t]) (h2:H t=some (.tup rs)) (h3:bZ H rs ws) (h4:ws.length<=1000) (h5:((40<ws.length/\E (.ref a.many) none H)\/(ws.length<=40/\∀ (v':V) (H':Hp),aG H H'->dD H' v' aj ws->Q v' H')))
def al6 (a:mQ):Sp:=λvs H Q E=>ajK a vs H Q E
def Dv (a:mQ) (g:Int->aK->Int->aK->wH):Sp:=λvs H Q E=>∃ (d e:V) (c b:Int) (us ws:aK),vs=[d,e]/\dD H d c us/\dD H e b ws/\1<=c/\c<=8/\1<=b/\b<=8/\bC c us/\bC b ws/\us.length<=100/\ws.length<=100 /\
 match g c us b ws with
 |.none=>∀ H',aG H H'->E (.ref a.fW) none H'
 |.many=>∀ H',aG H H'->E (.ref a.many) none H'
 |.net w us'=>∀ (v':V) (H':Hp),aG H H'->dD H' v' w us'->Q v' H'
inductive ail (vs:aD) (H:Hp) (Q:VK):Prop
 |mk (a:Addr) (rs:aD) (ws:aK) (k:Int) (h1:vs=[.ref a,.int k]) (h2:(H a=some (.lst rs)\/H a=some (.tup rs))) (h3:bZ H rs ws) (h4:ws.length<=1000) (h5:∀ (l:Addr) (H':Hp),H l=none->aG H H'->eN H' l (ws.map (iY k))->Q (.ref l) H')
def abu:=nE ail
theorem ajL (vs:aD) (H:Hp) (Q:VK) (E:XK) (h:abQ vs H Q E):abu vs H Q E:=by obtain ⟨a,ws,k,rfl,⟨rs,c,b⟩,len,q⟩:=h;exact ⟨a,rs,ws,k,rfl,.inl c,b,len,q⟩
theorem al7 {a:Int} {w:Int×Int} (h0:0<=w.1) (h1:w.1<b) (h2:0<=w.2) (h3:w.2<b):HS (j7 a (a+b)) w=iY a w:=by
 have g:∀ x:Int,0<=x->x<b->(j7 a (a+b)).getD x.toNat 0=x+a:=λx d c=>by unfold j7;simp only [List.getD];rw [lN,RQ (by lk)];show a+((x.toNat:Nat):Int)=x+a;lk
 unfold HS iY;rw [g _ h0 h1,g _ h2 h3]
theorem lift_map {a:Int} (ok:bC b ws):ws.map (HS (j7 a (a+b)))=ws.map (iY a):=RX λw e=>by obtain ⟨c,g,d,i,j⟩:=ok w e;exact al7 c g d i
end
section
open PySem.Spec PyProof.Rows
theorem Ri {a:TS} (h:∀ D':lQ,(∀ σ H,D.nx σ H->D'.nx σ H)->(∀ v H,D.rt v H->D'.rt v H)->(∀ σ H,D.bk σ H->D'.bk σ H)->(∀ σ H,D.ct σ H->D'.ct σ H)->a D' σ H):a D σ H:=h D (λ_ _ z=>z) (λ_ _ z=>z) (λ_ _ z=>z) λ_ _ z=>z
end
section
open PySem.Spec PyProof.Rows PyProof.V PySem.SeqAt
section
theorem dW.aoe {k:Nat} (r:dW k A):A.units+65<cLine:=by have:=r.un;lk
def asv:R2:=λx y H Q=>∃ dx ds,jF H x dx/\jF H y (.list ds)/\shaped dx=true/\shaped (PyData.list ds)=true/\(∀ d∈ds,noMix d dx=true)/\Q (.bl (decide (countIn dx ds≠0))) H
theorem ap0 (hu:X.A.units+65<cLine):dN X (compareOp .In) asv:=by rintro aq s σ H x y v u Q I d j ⟨dx,ds,a,c,b,g,nm,q⟩;obtain ⟨k,e⟩:=a.reads I v d;obtain ⟨bs,i⟩:=c.reads I u j;exact in_list_dataH i e g b hu nm ⟨.bl _,H,I,rfl,q⟩
end
end
section
open PySem.SeqAt PySem.Spec PyProof.Rows
theorem al8 (a b:Int×Int):same (.tuple [.int a.1,.int a.2]) (.tuple [.int b.1,.int b.2])=decide (a=b):=JN a b
theorem aay (x:PyData):∀ l:List PyData,0<=countIn x l
 |[]=>by simp [countIn]
 |y::r=>by have:=aay x r;unfold countIn;split<;>lk
theorem Qf (w:Int×Int):∀ ws:aK,countIn (.tuple [.int w.1,.int w.2]) (ws.map λx=>PyData.tuple [.int x.1,.int x.2])≠0↔w∈ws
 |[]=>by simp [countIn]
 |u::r=>by
  have a:=Qf w r;have b:=aay (.tuple [.int w.1,.int w.2]) (r.map λx=>PyData.tuple [.int x.1,.int x.2]);rw [iC,countIn,al8];by_cases c:u=w
  ·subst c;simp;lk
  ·rw [gn,bw (by simpa using c),<-a];constructor
   ·intro z;right;lk
   ·rintro (z|z)
    ·exact absurd z.symm c
    ·lk
theorem ain (w:Int×Int):shaped (.tuple [.int w.1,.int w.2])=true:=by show (canLay0 _ && decide (PyData.depth _<=64))=true;simp [canLay0,canLayAll0,PyData.depth,depthAll]
theorem agZ (ws:aK):shaped (.list (ws.map λx=>PyData.tuple [.int x.1,.int x.2]))=true:=by
 obtain ⟨a,b⟩:=abn ws;show (canLay0 _ && decide (PyData.depth _<=64))=true;rw [vo];constructor
 ·simp only [canLay0,a]
 ·refine d7 ?_;simp only [PyData.depth];lk
theorem aof (w:Int×Int) (ws:aK):∀ d∈ws.map (λx=>PyData.tuple [.int x.1,.int x.2]),noMix d (.tuple [.int w.1,.int w.2])=true:=λd a=>by obtain ⟨u,_,rfl⟩:=gW.mp a;simp [noMix,noMixAll]
def gB (a:Int) (us:aK) (b:Int) (ws:aK):aU:=((gP us (cM a us).2).filter λw=>decide (w∈gP ws (cM b ws).2)).map (·.2)
def jx (a:Int) (us:aK) (b:Int) (ws:aK):Nat:=if cW b ws<cW a us then cW a us else cW b ws
def jJ (n:Nat) (secs:aU) (d:Nat):List aU:=(range n).map λl:Nat=>if (l:Int)∈secs then [0] else (range (2 ^ d)).map λk:Nat=>(k:Int)
theorem QH (a:Int) (us:aK):gB a us a us=zQ a us:=by unfold gB zQ;rw [List.filter_eq_self.mpr (λw b=>d7 b)]
theorem QJ (a:Int) (us:aK):jx a us a us=cW a us:=by unfold jx;rw [bw (qP _)]
theorem al9 (a:Int) (us:aK):jJ a.toNat (gB a us a us) (jx a us a us)=lK a us:=by unfold jJ lK;rw [QH,QJ]
theorem Rj:∀ (n:Nat) (l:gk),l.Nodup->(∀ x∈l,x<n)->l.length<=n
 |0,l,_,h=>by
  cases l with
  |nil=>exact bJ _
  |cons a r=>exact absurd (h a (.head _)) (uq _)
 |n+1,l,nd,h=>by
  by_cases c:n∈l
  ·have e:=acJ c;have:=Rj n (l.erase n) (nd.erase n) λx b=>by
    have h1:=h x (acK b);have h2:x≠n:=λz=>by subst z;exact absurd b (by rw [nd.mem_erase_iff];exact λq=>q.1 rfl)
    lk
   lk
  ·have:=Rj n l nd λx b=>by
    have h1:=h x b;have h2:x≠n:=λz=>by subst z;exact c b
    lk
   lk
theorem adp {a:Int} {us:aK} (ok:bC a us) (h1:1<=a):(gB a us b ws).length<a.toNat:=by
 have m:=aaw ok;have v:∀ w∈gP us (cM a us).2,0<=w.1/\w.1<a/\0<=w.2/\w.2<a/\w.1≠w.2:=λw g=>by obtain ⟨i,f⟩:=aa0 ok g;exact ok w (fQ f.1)
 unfold gB;have j:=m.filter (λw=>decide (w∈gP ws (cM b ws).2));have c:∀ w∈(gP us (cM a us).2).filter (λw=>decide (w∈gP ws (cM b ws).2)),0<=w.1/\w.1<a/\0<=w.2/\w.2<a/\w.1≠w.2:=λw g=>v w ((G6.mp g).1);generalize (gP us (cM a us).2).filter (λw=>decide (w∈gP ws (cM b ws).2))=n at j c;cases n with
 |nil=>simp;lk
 |cons w r =>
  have l:=Rj a.toNat (w.1.toNat::(w::r).map λx=>x.2.toNat) (by
   rw [vY];constructor
   ·intro z;obtain ⟨u,d,e⟩:=gW.mp z;have p:=c u d;have t:=c w (.head _);rcases gn.mp d with q|q
    ·subst q;lk
    ·have:=(List.pairwise_cons.mp j).1 u q;exact this.2.1 (by lk)
   ·refine Pairwise.map _ (R:=λx y:Int×Int=>x.2.toNat≠y.2.toNat) (λx y h=>h) (acL (λ{x y} k o h=>?_) j);have p:=c x k;have t:=c y o;exact λe=>h.2.2.2 (by lk)) (λx k=>by
   rcases gn.mp k with q|q
   ·have:=c w (.head _);lk
   ·obtain ⟨u,d,e⟩:=gW.mp q;have:=c u d;lk)
  simp at l ⊢;lk
theorem al_ (M:List aU) (ns:aU):(tK M ns).length=M.length*ns.length:=by
 unfold tK;rw [List.length_flatMap];induction M with
 |nil=>simp
 |cons r M a =>simp at a ⊢;rw [a,RZ,Nat.one_mul,Rz]
theorem ajM (C:List aU) (ns:aU):(gA (C++[ns])).length=(gA C).length*ns.length:=by unfold gA;rw [vD];exact al_ _ _
theorem al' (n:Nat) (secs:aU) (d i:Nat) (h:i<=n):(jJ n secs d).take i=jJ i secs d:=by unfold jJ;rw [<-List.map_take,List.take_range,vG h]
theorem ab0 (i:Nat) (secs:aU) (d:Nat):jJ (i+1) secs d=jJ i secs d++[if (i:Int)∈secs then [0] else (range (2 ^ d)).map λk:Nat=>(k:Int)]:=by unfold jJ;rw [mW,dF];rfl
theorem ab1 (secs:aU) (d:Nat):∀ n:Nat,(gA (jJ n secs d)).length=2 ^ (d*((range n).filter λl:Nat=>decide ((l:Int)∉secs)).length)
 |0=>by simp [jJ,gA]
 |n+1=>by
  rw [ab0,ajM,ab1 secs d n,mW,vI,dj];by_cases c:(n:Int)∈secs
  ·simp [c]
  ·simp [c,Nat.mul_add,Nat.pow_add]
theorem Rk:∀ (n:Nat) (l:gk),l.Nodup->(∀ x∈l,x<n)->((range n).filter λx=>decide (x∈l)).length=l.length
 |0,l,_,h=>by
  cases l with
  |nil=>rfl
  |cons a r=>exact absurd (h a (.head _)) (uq _)
 |n+1,l,nd,h=>by
  rw [mW,vI,dj];by_cases c:n∈l
  ·have e:=acJ c;have pos:=List.length_pos_of_mem c;have d:=Rk n (l.erase n) (nd.erase n) λx b=>by
    have h1:=h x (acK b);have h2:x≠n:=λz=>by subst z;exact absurd b (by rw [nd.mem_erase_iff];exact λq=>q.1 rfl)
    lk
   have eq:(range n).filter (λx=>decide (x∈l))=(range n).filter (λx=>decide (x∈l.erase n)):=List.filter_congr λx b=>by
    have:x<n:=sO.mp b;have g:x≠n:=by lk
    exact decide_eq_decide.mpr (by rw [nd.mem_erase_iff];exact ⟨λh=>⟨g,h⟩,λh=>h.2⟩)
   rw [eq,d,show ([n].filter λx=>decide (x∈l))=[n] by simp [c]];simp;lk
  ·have d:=Rk n l nd λx b=>by
    have h1:=h x b;have h2:x≠n:=λz=>by subst z;exact c b
    lk
   rw [d,show ([n].filter λx=>decide (x∈l))=[] by simp [c]];simp
theorem ab2 (p:Nat->Bool):∀ l:gk,(l.filter p).length+(l.filter λx=>!p x).length=l.length
 |[]=>rfl
 |a::r=>by have:=ab2 p r;rw [List.filter_cons,List.filter_cons];cases h:p a<;>simp<;>lk
theorem aog {a:Int} {us:aK} (ok:bC a us):((gB a us b ws).map Int.toNat).Nodup/\∀ x∈gB a us b ws,0<=x/\x<a:=by
 have k:=aaw ok;have m:∀ w∈gP us (cM a us).2,0<=w.1/\w.1<a/\0<=w.2/\w.2<a/\w.1≠w.2:=λw c=>by obtain ⟨i,f⟩:=aa0 ok c;exact ok w (fQ f.1)
 unfold gB;have j:=k.filter (λw=>decide (w∈gP ws (cM b ws).2));have d:∀ w∈(gP us (cM a us).2).filter (λw=>decide (w∈gP ws (cM b ws).2)),0<=w.1/\w.1<a/\0<=w.2/\w.2<a/\w.1≠w.2:=λw c=>m w (G6.mp c).1;generalize (gP us (cM a us).2).filter (λw=>decide (w∈gP ws (cM b ws).2))=p at j d;constructor
 ·rw [KY];refine Pairwise.map _ (R:=λx y:Int×Int=>x.2.toNat≠y.2.toNat) (λx y h=>h) (acL (λ{x y} g l h=>?_) j);have n:=d x g;have o:=d y l;exact λe=>h.2.2.2 (by lk)
 ·intro x g;obtain ⟨w,c,rfl⟩:=gW.mp g;have:=d w c;lk
theorem ama {a:Int} {us:aK} (ok:bC a us):((range a.toNat).filter λl:Nat=>decide ((l:Int)∉gB a us b ws)).length+(gB a us b ws).length=a.toNat:=by
 obtain ⟨nd,d⟩:=aog (b:=b) (ws:=ws) ok;have f:=Rk a.toNat _ nd λx i=>by obtain ⟨y,c,rfl⟩:=gW.mp i;have:=d y c;lk
 have g:=ab2 (λx=>decide (x∈(gB a us b ws).map Int.toNat)) (range a.toNat);rw [f,bD,xW] at g;have e:(range a.toNat).filter (λl:Nat=>decide ((l:Int)∉gB a us b ws))=(range a.toNat).filter (λx=>!decide (x∈(gB a us b ws).map Int.toNat)):=List.filter_congr λx _=>by
  have:x∈(gB a us b ws).map Int.toNat↔(x:Int)∈gB a us b ws:=by
   rw [gW];constructor
   ·rintro ⟨y,c,rfl⟩;have:=d y c;rw [show ((y.toNat:Nat):Int)=y by lk];exact c
   ·exact λh=>⟨_,h,by lk⟩
  simp only [this,decide_not]
 rw [e];lk
theorem aio {a:Int} {us:aK} (ok:bC a us) {d:Nat} (h:(d:Int)*(a-((gB a us b ws).length:Int))<=10) (h1:1<=a) : d<=10/\∀ i,i<=a.toNat->(gA (jJ i (gB a us b ws) d)).length<=1024:=by
 have k:=ama (b:=b) (ws:=ws) ok;have lt:=adp (b:=b) (ws:=ws) ok h1;obtain ⟨m,j⟩:∃ m:Nat,(gB a us b ws).length+m=a.toNat:=⟨_,Nat.add_sub_of_le (Dr lt)⟩;have e:a-((gB a us b ws).length:Int)=(m:Int):=by lk
 have c:d*m<=10:=by
  rw [e] at h
  exact_mod_cast h
 have g:1<=m:=by lk
 refine ⟨eU (Nat.le_mul_of_pos_right d g) c,λi hi=>?_⟩;rw [ab1];have up:2 ^ (d*m)<=2 ^ 10:=uo (by decide) c;refine eU (uo (by decide) (Nat.mul_le_mul_left d (m:=m) ?_)) up;have sub:((range i).filter λl:Nat=>decide ((l:Int)∉gB a us b ws)).length<=((range a.toNat).filter λl:Nat=>decide ((l:Int)∉gB a us b ws)).length:=by refine Sublist.length_le (Sublist.filter _ ?_);rw [<-vG hi,<-List.take_range];exact List.take_sublist _ _
 lk
structure aeO (K:bI) (mg:dH) (a:Addr):Prop where
 Ga:excIn K a wR "ValueError.__new__"=true
 xH:mg "TooMany"=some (.ref a)
 Gb:exmOne K (.ref a) (.ref a)=some true
inductive amb (vs:aD) (H:Hp) (Q:VK):Prop
 |mk (v:V) (aj:Int) (ws:aK) (h1:vs=[v]) (h2:dD H v aj ws) (h3:1<=aj) (h4:aj<=8) (h5:bC aj ws) (h6:ws.length<=41) (h7:∀ (l:Addr) (H':Hp),H l=none->aG H H'->eN H' l (gP ws (cM aj ws).2)->Q (.ref l) H')
def aoh:=nE amb
inductive ajN (am:Addr) (vs:aD) (H:Hp) (Q:VK) (E:XK):Prop
 |mk (v1 v2:V) (a b:Int) (us ws:aK) (h1:vs=[v1,v2]) (h2:dD H v1 a us) (h3:dD H v2 b ws) (h4:1<=a) (h5:a<=8) (h6:1<=b) (h7:b<=8) (h8:bC a us) (h9:bC b ws) (h10:us.length<=41) (h11:ws.length<=41) (h12:(10<((jx a us b ws:Nat):Int)*(a-((gB a us b ws).length:Int))->∀ H',aG H H'->E (.ref am) none H')) (h13:(((jx a us b ws:Nat):Int)*(a-((gB a us b ws).length:Int))<=10->∀ (l:Addr) (rs':aD) (H':Hp),H l=none->aG H H'->H' l=some (.lst rs')->eG H H' l rs' (gA (jJ a.toNat (gB a us b ws) (jx a us b ws)))->Q (.ref l) H'))
def amc (am:Addr):Sp:=λvs H Q E=>ajN am vs H Q E
def lX (aj:Int) (ws:aK):Prop:=10<((cW aj ws:Nat):Int)*(aj-((zQ aj ws).length:Int))
inductive ajO (am:Addr) (vs:aD) (H:Hp) (Q:VK) (E:XK):Prop
 |mk (v:V) (aj:Int) (ws:aK) (h1:vs=[v]) (h2:dD H v aj ws) (h3:1<=aj) (h4:aj<=8) (h5:bC aj ws) (h6:ws.length<=41) (h7:(lX aj ws->∀ H',aG H H'->E (.ref am) none H')) (h8:(¬ lX aj ws->∀ (l:Addr) (rs':aD) (H':Hp),H l=none->aG H H'->H' l=some (.lst rs')->eG H H' l rs' (gA (lK aj ws))->Q (.ref l) H'))
def amd (am:Addr):Sp:=λvs H Q E=>ajO am vs H Q E
end
section
open PySem.Spec PyProof.Rows
def DR (lo:Int) (n:Nat):It:=⟨λi _=>i<n,λi H x H'=>H'=H/\x=.int (lo+i*2),λi _=>n<=i⟩
def n2 (a b:Int):Nat:=((b-a+1) / 2).toNat
theorem ab3 (a b:Int):rangeSize a b 2=((n2 a b:Nat):Int):=by
 unfold rangeSize n2;rw [bF (by decide)];by_cases h:a<b
 ·rw [bF h];lk
 ·rw [bw h];lk
theorem ajP {a:Int} (h1:-(2 ^ 62)<=a) (h2:a<2 ^ 62) (h3:-(2 ^ 62)<=b) (h4:b<2 ^ 62):Builtin.Range.small a b 2=true:=by unfold Builtin.Range.small;rw [ab3];unfold n2;simp only [Builtin.Range.rangeFitsLong,vo,sH,CQ,oh,show ((2:Int)>0) by decide,rZ];lk
theorem ame (it:Addr) (lo:Int) (n:Nat):sX P w K tg (DR lo n) [it] it (λi h=>IsRangeIter h it (lo+(i:Nat)*2) ((n:Int)-(i:Nat)) 2) where
 mem:=by simp
 obj:=λi h st b a=>by
  have e:b=it:=by simpa using a
  subst e;exact ⟨_,st,λv z=>by have D:fields _=Data.cell v:=z;cases D⟩
 keep:=λi h h' st k=>k it (by simp) _ st
 item:=by intro X m g hK d i aq s σ H E I c st j;subst m g hK;obtain ⟨f0,r,y,p,l,q⟩:=c it (by simp);have W:=Walks.range (prog:=X.prog) (w:=X.w) (I.ok.hd d) it lo 2 n;refine W.item i s _ _ j st λv h' tk C u kk=>?_;obtain ⟨t,rfl⟩:=C;have x:aJ X aq σ H { s with heap:=h',toks:=tk }:=I.turned (λb o a e=>kk b o (by simpa using a) e) f0 r p l q;exact ⟨_,rfl,DQ (s:={ s with heap:=h',toks:=tk }) (n:="range_iterator") u rfl rfl (by decide) ⟨.int (lo+i*2),H,x,⟨t,rfl⟩,⟨rfl,rfl⟩,u,λb a=>(c b a).1⟩⟩
 done:=by intro X m g hK d i aq s σ H E I c st j;subst m g hK;obtain ⟨f0,r,y,p,l,q⟩:=c it (by simp);exact wpAny_pyNext_range_end (I.ok.hd d) st (by have:n<=i:=j;lk) λh' B=>⟨rfl,I.turned (t':=s.toks) (λb o a e=>B b o a e) f0 r p l q⟩
 self:=λ_ _ _ _ _ st h=>wpAny_pyIter_rangeiter st h
section
theorem ap1 {R:It->Hp->Prop} {a:Int} {t u v:Tok} (I:aJ X aq σ H s) (h1:-(2 ^ 62)<=a) (h2:a<2 ^ 62) (h3:-(2 ^ 62)<=b) (h4:b<2 ^ 62) (q:R (DR a (n2 a b)) H):wpAny (model X.prog X.w) X.A (pyIter (.ref s.heap.objs.size)) (U_ X aq σ tg R) E { s with heap:=s.heap.push { cls:=.type "range",data:=.fields #[.int a t,.int b u,.int 2 v] },toks:=tk }:=by
 refine wpAny_pyIter_range (IsRange.new ..) (ajP h1 h2 h3 h4) ?_;have d:aJ X aq σ H { s with heap:=s.heap.push { cls:=.type "range",data:=.fields #[.int a t,.int b u,.int 2 v] },toks:=tk }:=I.kept λb o e=>cP _ e;refine ⟨(s.heap.push { cls:=.type "range",data:=.fields #[.int a t,.int b u,.int 2 v] }).objs.size,[(s.heap.push { cls:=.type "range",data:=.fields #[.int a t,.int b u,.int 2 v] }).objs.size],_,_,H,rfl,d.kept (t':=tk) λb o e=>cP _ e,ame _ a (n2 a b),?_,λc g=>?_,q⟩
 ·show IsRangeIter _ _ (a+((0:Nat):Int)*2) (((n2 a b:Nat):Int)-((0:Nat):Int)) 2;rw [show a+((0:Nat):Int)*2=a by lk, show ((n2 a b:Nat):Int)-((0:Nat):Int)=rangeSize a b 2 by rw [ab3];lk];exact eV _ rfl
 ·have e:c=(s.heap.push { cls:=.type "range",data:=.fields #[.int a t,.int b u,.int 2 v] }).objs.size:=by simpa using g
  subst e;exact d.m8 (bJ _) (d.hok.fresh (bJ _))
def aq6 (ta:TA):TI:=λσ H R=>ta σ H λvs H1=>∃ i j:Int,vs=[.int i,.int j,.int 2]/\(-(2 ^ 62)<=i/\i<2 ^ 62/\-(2 ^ 62)<=j/\j<2 ^ 62)/\R (DR i (n2 i j)) H1
theorem ajQ {a b c:Expr} (hg:Gl X "range") (hm:X.mg "range"=none) (ha:PA X [a,b,c] ta) (hs:starEach [a,b,c] X.env=(false,eval a X.env)::starEach [b,c] X.env:=by rfl) (hs2:(backTo pos (starEach [b,c] X.env)).any (·.1)=false:=by rfl) : PI X tg (.Call (.Name "range" p) [a,b,c] [] pos) (aq6 ta):=by
 intro aq s σ H R I h;refine Call_ (sV I hg hm boot_range (Ai (bH (ha pos aq s σ H _ I h) λus y ⟨vs,H1,l,v,g⟩=>?_) hs hs2));obtain ⟨i,j,e,⟨g,x,n,o⟩,q⟩:=g;subst e;cases v with
 |cons r d =>
  cases d with
  |cons u d =>
   cases d with
   |cons k d =>cases d;obtain ⟨t,rfl⟩:=r;obtain ⟨t',rfl⟩:=u;obtain ⟨m,rfl⟩:=k;exact call_range_3 (by decide) (ap1 l g x n o q) (Or.inl (acB (by k_go)))
theorem amf {R:Hp->Prop} (Pv:Nat->aD->Hp->Prop) (h0:Pv 0 [] (upd H1 l (.lst []))) (hz:n<=sizeLine) (hl:∀ i ys H,Pv i ys H->H l=some (.lst ys)/\ys.length<=i) (hs:∀ i ys H,i<n->Pv i ys H->g (.int (lo+i*2)) (gR own cN σ) H λσ2 H2=>Wk (gR own cN σ) σ2 /\tt σ2 H2 λb H3=>if b=true then te σ2 H3 λy H4=>H4 l=some (.lst ys)/\Pv (i+1) (ys++[y]) (upd H4 l (.lst (ys++[y]))) else Pv (i+1) ys H3) (hd:∀ ys H,Pv n ys H->R H) : ∃ W:Nat->Nat->aD->Hp->Prop,(∃ m,W 0 m [] (upd H1 l (.lst []))) /\∀ i m ys H,W i m ys H->H l=some (.lst ys)/\(((DR lo n).stop i H/\R H)\/((DR lo n).go i H/\ys.length<sizeLine/\∃ N:aD->Hp->Prop,(∀ ys' H',N ys' H'->∃ m',m'<m/\W (i+1) m' ys' H') /\∀ x H',(DR lo n).oM i H x H'->g x (gR own cN σ) H' λσ2 H2=>Wk (gR own cN σ) σ2 /\tt σ2 H2 λb H3=>if b=true then te σ2 H3 λy H4=>H4 l=some (.lst ys)/\N (ys++[y]) (upd H4 l (.lst (ys++[y]))) else N ys H3)):=by
 refine ⟨λi m ys H=>m=n-i/\i<=n/\Pv i ys H,⟨n,by simp,d_ _,h0⟩,?_⟩;rintro i m ys H ⟨rfl,hi,p⟩;obtain ⟨c,j⟩:=hl i ys H p;refine ⟨c,?_⟩;by_cases a:i<n
 ·refine .inr ⟨a,by lk, Pv (i+1),λys' H' d=>⟨n-(i+1),by lk, rfl,a,d⟩,λx H' y=>?_⟩;obtain ⟨e,y⟩:=y;subst e y;exact hs i ys _ a p
 ·have e:i=n:=by lk
  subst e;exact .inl ⟨bJ _,hd ys H p⟩
inductive ahv (K:bI) (xs:aD) (H:Hp) (Q:VK):Prop
 |mk (a:_) (tp:_) (ys:_) (cs:_) (ts:_) (b:_) (h1:xs=[.ref a,.ref tp]) (h2:H a=some (.lst ys)) (h3:H tp=some (.tup cs)) (h4:HX cs=some ts) (h5:kitAny K (.type "list") ts=some b) (h6:Q (.bl b) H)
theorem ajR:iZ X (.builtin "isinstance") (ahv X.K):=by
 rintro aq s σ H xs us Q I r ⟨a,t,ys,cs,ts,b,rfl,g,k,i,e,q⟩;obtain ⟨u,v,rfl,l,d⟩:=r.two;cases l;cases d;obtain ⟨_,_,n,_,h1⟩:=(show dU X.prog X.w H s.heap a (.lst ys) from I.hok a _ g);obtain ⟨aM,d,pl,_⟩:=I.tuple (aX (K:=X.K) k);obtain ⟨o,m,c,n,p⟩:=(show s.heap.IsTuple t aM.toArray from pl);cases Rf i d;cases o with
 |mk oc od j osl =>cases c;cases p;exact PySem.W.kia_tup Ub I.fO ⟨_,h1,rfl⟩ m e (λz=>nomatch z) λtk=>⟨.bl b,H,I.tok tk,rfl,q⟩
end
end
section
open PySem.SeqAt
def yN (aj:Int) (r:Nat):aK:=(range (n2 ((r:Int) % 2) (aj-1))).map λi:Nat=>((r:Int) % 2+(i:Int)*2,(r:Int) % 2+(i:Int)*2+1)
def wj (aj:Int):aK:=(range aj.toNat).flatMap (yN aj)
def afk (aj:Int) (ws:aK):Bool:=ws.all λw=>decide (0<=w.1/\w.1<aj/\0<=w.2/\w.2<aj/\w.1≠w.2)
theorem Uv (h:afk aj ws=true):bC aj ws:=λw a=>by have:=xU.mp h w a;exact iM this
theorem ajS:∀ k:Nat,k<8->afk ((k:Int)+1) (wj ((k:Int)+1))=true/\(wj ((k:Int)+1)).length<=40:=by k_go
theorem Gn (h1:1<=aj) (h8:aj<=8):bC aj (wj aj)/\(wj aj).length<=40:=by
 obtain ⟨a,b⟩:=ajS (aj.toNat-1) (by lk);have e:(((aj.toNat-1:Nat):Int))+1=aj:=by lk
 rw [e] at a b;exact ⟨Uv a,b⟩
structure aee (K:bI) (mg:dH) (a:Addr):Prop where
 vP:excIn K a wR "ValueError.__new__"=true
 uf:mg "NoNet"=some (.ref a)
inductive ahw (vs:aD) (H:Hp) (Q:VK):Prop
 |mk (aj:Int) (t:Addr) (w:Int×Int) (h1:vs=[.int aj,.ref t]) (h2:H t=some (.tup [.int w.1,.int w.2])) (h3:(0<=w.1/\w.1<aj/\0<=w.2/\w.2<aj/\w.1≠w.2)) (h4:Q (.bl true) H)
def aip:=nE ahw
inductive amg (vs:aD) (H:Hp) (Q:VK):Prop
 |mk (aj:Int) (l:Addr) (ws:aK) (h1:vs=[.int aj,.ref l]) (h2:eN H l ws) (h3:1<=aj) (h4:aj<=8) (h5:bC aj ws) (h6:ws.length<=40) (h7:∀ H',aG H H'->Q (.bl true) H')
def adq:=nE amg
inductive amh (vs:aD) (H:Hp) (Q:VK):Prop
 |mk (aj:Int) (l:Addr) (ws:aK) (h1:vs=[.int aj,.ref l]) (h2:eN H l ws) (h3:1<=aj) (h4:aj<=8) (h5:bC aj ws) (h6:ws.length<=40) (h7:∀ (v:V) (H':Hp),aG H H'->dD H' v aj ws->Q v H')
def adt:=nE amh
inductive ajT (vs:aD) (H:Hp) (Q:VK):Prop
 |mk (aj:Int) (h1:vs=[.int aj]) (h2:1<=aj) (h3:aj<=8) (h4:∀ (v:V) (H':Hp),aG H H'->dD H' v aj (wj aj)->Q v H')
def ab4:=nE ajT
end
section
theorem dz.down {k:Nat} (F:dz P w K mg aF (lF P w) k f fd ps sp) (h:∀ vs H Q E,sp vs H Q E->sp vs H Q λ_ _ _=>False):dz P w K mg aF jj k f fd ps sp:=⟨F.len,λA outer s H a us vs Q E hr i d r g=>uz (F.run A outer s H a us vs Q (λ_ _ _=>False) hr i d r (h _ _ _ _ g)) λb s' q=>by
  cases b with
  |ok c=>cases c with
   |ret u=>exact q
   |next=>exact q
   |brk=>exact q
   |cont=>exact q
  |error e =>obtain ⟨_,_,_,_,_,_,_,_,_,_,_,_,_,z⟩:=q;exact z.elim⟩
end
section
open PySem.SeqAt
end
section
open PySem.Spec PyProof.Rows
end
section
open PySem.SeqAt
structure VG (K:bI) (mg:dH) (a:mQ):Prop where
 vP:excIn K a.fW wR "ValueError.__new__"=true
 Ga:excIn K a.many wR "ValueError.__new__"=true
 uf:mg "NoNet"=some (.ref a.fW)
 xH:mg "TooMany"=some (.ref a.many)
theorem Nf.j {a:mQ} (h:Nf K mg a):VG K mg a:=⟨h.vP,h.Ga,h.uf,h.xH⟩
inductive aoi (vs:aD) (H:Hp) (Q:VK):Prop
 |mk (aj n:Int) (h1:vs=[.int aj,.int n]) (h2:1<=aj) (h3:aj<=8) (h4:∀ (l:Addr) (rs:aD) (H':Hp),H l=none->aG H H'->H' l=some (.lst rs)->eG H H' l rs ((range aj.toNat).map λi:Nat=>lB aj.toNat i n)->Q (.ref l) H')
def ap3:=nE aoi
inductive agD (vs:aD) (H:Hp) (Q:VK):Prop
 |mk (v1 v2:V) (aj:Int) (us ws:aK) (l:Addr) (rs:aD) (M:List aU) (h1:vs=[v1,v2,.ref l]) (h2:dD H v1 aj us) (h3:dD H v2 aj ws) (h4:1<=aj) (h5:aj<=8) (h6:bC aj us) (h7:bC aj ws) (h8:us.length<=100) (h9:ws.length<=100) (h10:H l=some (.lst rs)) (h11:Rows H rs M) (h12:(∀ r∈M,r.length=aj.toNat)) (h13:(∀ H',aG H H'->(∀ r∈M,cR r us=cR r ws)->Q .non H')) (h14:∀ (i:Nat) (t:Addr) (r:aU) (H':Hp),aG H H'->rs[i]?=some (.ref t)->M[i]?=some r->H' t=some (.lst (r.map V.int))->cR r us≠cR r ws->Q (.ref t) H')
def ag0:=nE agD
def Dw (aj:Int) (us ws:aK):Prop:=∀ i:Nat,i<aj.toNat->cR (lB aj.toNat i ((2 ^ jx aj us aj ws:Nat):Int)) us=cR (lB aj.toNat i ((2 ^ jx aj us aj ws:Nat):Int)) ws
def yF (aj:Int) (us ws:aK):Prop:=10<((jx aj us aj ws:Nat):Int)*(aj-((gB aj us aj ws).length:Int))
end
section
open PySem.Spec PyProof.Rows
end
section
open PySem.SeqAt
end
variable {tc:TT}
section
open PySem.Spec PyProof.Rows
section
inductive ahx (K:bI) (xs:aD) (H:Hp) (Q:VK):Prop
 |mk (a:_) (tp:_) (ys:_) (cs:_) (ts:_) (b:_) (h1:xs=[.ref a,.ref tp]) (h2:((H a=some (.lst ys)/\kitAny K (.type "list") ts=some b)\/(H a=some (.tup ys)/\kitAny K (.type "tuple") ts=some b))) (h3:H tp=some (.tup cs)) (h4:HX cs=some ts) (h5:Q (.bl b) H)
theorem ajU:iZ X (.builtin "isinstance") (ahx X.K):=by
 rintro aq s σ H xs us Q I r ⟨a,p,ys,cs,ts,b,rfl,c,m,l,q⟩;rcases c with ⟨c,e⟩|⟨c,e⟩
 ·exact ajR aq s σ H _ us Q I r ⟨a,p,ys,cs,ts,b,rfl,c,m,l,e,q⟩
 ·obtain ⟨u,v,rfl,y,i⟩:=r.two;cases y;cases i;obtain ⟨k,_,x,_⟩:=I.tuple (aX (K:=X.K) c);obtain ⟨D,j,d,_⟩:=(show s.heap.IsTuple a k.toArray from x);obtain ⟨aM,i,pl,_⟩:=I.tuple (aX (K:=X.K) m);obtain ⟨o,B,g,n,C⟩:=(show s.heap.IsTuple p aM.toArray from pl);cases Rf l i;cases o with
  |mk oc od t osl =>cases g;cases C;exact PySem.W.kia_tup PySem.W.kitx_tuple I.fO ⟨_,j,d⟩ B e (λz=>nomatch z) λtk=>⟨.bl b,H,I.tok tk,rfl,q⟩
theorem adu:Wi X .FloorDiv (rI Vy λi j=>.int (i / j)):=alg
theorem ab5 {tx:St->Hp->VK->XK->Prop} (he:PX X e tx) (hs:swapsWith e none pos.line X.env=pure false:=by rfl):zj X (.Expr e pos) (λD E σ H=>tx σ H (λ_ H1=>D.nx σ H1) E):=by intro aq s σ H D E b I h c;exact wpAny_Expr_any (bH (he aq s σ H _ E b I h c) (by rintro v i ⟨x,H1,a,g,d⟩;exact ⟨σ,H1,a,d⟩)) I.quiet hs
theorem ap4 {c:Expr} {a b:Stmt} {ta tb:lQ->XK->St->Hp->Prop} (hc:PT X.rE c tc) (ha:zj X a ta) (hb:zj X b tb):zj X (.If c [a] [b] pos) (λD E σ H=>tc σ H λd H1=>if d=true then ta D E σ H1 else tb D E σ H1):=by
 intro aq s σ H D E i I h k;have rE:∀ {α:Type} {t:Sem α} {Q:α->Shared->Prop} {s:Shared},wpAny (model X.prog X.w) X.A t Q (λ_ _=>False) s->wpAny (model X.prog X.w) X.A t Q i s:=λh=>jc h (λ_ _ z=>z) λ_ _ z=>z.elim;have one:∀ {st:Stmt} {t:lQ->XK->St->Hp->Prop} {g:Shared} {H1:Hp},zj X st t->aJ X aq σ H1 g->t D E σ H1->wpAny (model X.prog X.w) X.A (execs [st] X.env) (SP X aq D) i g:=λl e q=>by
  refine G9 (bH (l aq _ σ _ D E i e q k) λf g q=>?_);cases f with
  |next=>exact vV q
  |ret v=>exact q
  |brk=>exact q
  |cont=>exact q
 refine wpAny_If (rE (bH (hc aq s σ H _ (I.wish _) h) λd g ⟨H1,e,j⟩=>?_));cases d with
 |true=>exact one ha e.oG j
 |false=>exact one hb e.oG j
end
end
section
open PySem.SeqAt
def pw (k:Nat):Int:=((2 ^ k:Nat):Int)
theorem yq (k:Nat):pw (k+1)=2*pw k:=by unfold pw;rw [RN];lk
theorem wu (k:Nat):1<=pw k:=by have:0<2 ^ k:=Gx (by decide);unfold pw;lk
theorem yG {k:Nat} (h:k<=3):pw k<=8:=by
 have:k=0\/k=1\/k=2\/k=3:=by lk
 rcases this with z|z|z|z<;>subst z<;>decide
def pY (aj:Int):aK:=(range (aj / 2).toNat).map λk:Nat=>((k:Int),aj-1-(k:Int))
def rC:Nat->aK
 |0=>[]
 |k+1=>pY (pw (k+1))++(rC k++(rC k).map (iY (pw k)))
def Bj (k:Nat):aK:=(replicate k (rC k)).flatten
theorem Lx {k:Nat} (h:k<=3):(rC k).length<=12:=by
 have:k=0\/k=1\/k=2\/k=3:=by lk
 rcases this with z|z|z|z<;>subst z<;>decide
theorem GZ {k:Nat} (h:k<=3):bC (pw k) (Bj k)/\(Bj k).length<=40:=by
 have:k=0\/k=1\/k=2\/k=3:=by lk
 rcases this with z|z|z|z<;>subst z<;>exact ⟨Uv (by decide),by decide⟩
def HY (aj:Int) (i:Nat):aK:=(range i).flatMap λr:Nat=>((range (aj-1).toNat).filter λk:Nat=>decide ((k:Int) % 2=(r:Int) % 2)).map λk:Nat=>((k:Int),(k:Int)+1)
theorem ap5 (h1:1<=aj) (h8:aj<=8):HY aj aj.toNat=wj aj:=by
 have:aj=1\/aj=2\/aj=3\/aj=4\/aj=5\/aj=6\/aj=7\/aj=8:=by lk
 rcases this with z|z|z|z|z|z|z|z<;>subst z<;>decide
inductive tL (H:Hp):V->Prop
 |bl (b:Bool):tL H (.bl b)
 |non:tL H .non
 |str (s:Str):tL H (.str s)
 |lst {a:Addr} {xs:aD} (h:H a=some (.lst xs)):tL H (.ref a)
 |tup {a:Addr} {xs:aD} (h:H a=some (.tup xs)):tL H (.ref a)
 |dct {a:Addr} {aV:dh} (h:H a=some (.dK aV)):tL H (.ref a)
def sZ (i:Int):Prop:=i=1\/i=2\/i=4\/i=8
instance (i:Int):Decidable (sZ i):=inferInstanceAs (Decidable (i=1\/i=2\/i=4\/i=8))
structure aeP (K:bI) (mg:dH):Prop where
 ex:∃ (a:Addr),mg "HALVED_WIDES"=some (.ref a)/\∀ H:Hp,fY K H a [.int 1,.int 2,.int 4,.int 8]
inductive ajV (vs:aD) (H:Hp) (Q:VK):Prop
 |mk (x:_) (h1:vs=[x]) (h2:((∃ i,x=.int i/\Q (.bl true) H)\/(tL H x/\Q (.bl false) H)))
def ab6:=nE ajV
theorem ami (vs:aD) (H:Hp) (Q:VK) (E:XK) (h:abl vs H Q E):ab6 vs H Q E:=by obtain ⟨i,rfl,q⟩:=h;exact ⟨_,rfl,.inl ⟨i,rfl,q⟩⟩
def NT (H:Hp) (l:Addr) (ws:aK):Prop:=∃ rs,(H l=some (.lst rs)\/H l=some (.tup rs))/\bZ H rs ws
inductive amj (vs:aD) (H:Hp) (Q:VK):Prop
 |mk (aj:Int) (l:Addr) (ws:aK) (h1:vs=[.int aj,.ref l]) (h2:NT H l ws) (h3:bC aj ws) (h4:ws.length<=40) (h5:∀ H',aG H H'->Q (.bl true) H')
def aoj:=nE amj
inductive ajW (vs:aD) (H:Hp) (Q:VK):Prop
 |mk (aj:Int) (l:Addr) (ws:aK) (h1:vs=[.int aj,.ref l]) (h2:NT H l ws) (h3:1<=aj) (h4:aj<=8) (h5:bC aj ws) (h6:ws.length<=40) (h7:∀ H',aG H H'->Q (.bl true) H')
def ab7:=nE ajW
theorem makes_of (vs:aD) (H:Hp) (Q:VK) (E:XK) (h:adq vs H Q E):ab7 vs H Q E:=by obtain ⟨aj,l,ws,rfl,⟨rs,c,hr⟩,d,b,a,e,g⟩:=h;exact ⟨aj,l,ws,rfl,⟨rs,.inl c,hr⟩,d,b,a,e,g⟩
inductive ajX (an:Addr) (vs:aD) (H:Hp) (Q:VK) (E:XK):Prop
 |mk (x:_) (h1:vs=[x]) (h2:((∃ i,x=.int i/\sZ i/\Q .non H)\/((tL H x\/∃ i,x=.int i/\¬ sZ i)/\E (.ref an) none H)))
def amk (an:Addr):Sp:=λvs H Q E=>ajX an vs H Q E
inductive ajY (vs:aD) (H:Hp) (Q:VK):Prop
 |mk (l:Addr) (ws:aK) (k:Int) (h1:vs=[.ref l,.int k]) (h2:eN H l ws) (h3:ws.length<=100) (h4:∀ (a:Addr) (H':Hp),H a=none->aG H H'->eN H' a (ws++ws.map (iY k))->Q (.ref a) H')
def ab8:=nE ajY
inductive ajZ (vs:aD) (H:Hp) (Q:VK):Prop
 |mk (aj:Int) (h1:vs=[.int aj]) (h2:1<=aj) (h3:aj<=8) (h4:∀ (a:Addr) (H':Hp),H a=none->aG H H'->eN H' a (pY aj)->Q (.ref a) H')
def aml:=nE ajZ
inductive ap6 (n:Nat) (vs:aD) (H:Hp) (Q:VK):Prop
 |mk (k:Nat) (h1:vs=[.int (pw k)]) (h2:k<n) (h3:k<=3) (h4:∀ (a:Addr) (H':Hp),H a=none->aG H H'->eN H' a (rC k)->Q (.ref a) H')
def uF (n:Nat):=nE (ap6 n)
def JQ (an:Addr):Sp:=λvs H Q E=>(∃ (k:Nat),vs=[.int (pw k)]/\k<=3/\∀ (v:V) (H':Hp),aG H H'->dD H' v (pw k) (Bj k)->Q v H')\/(∃ x,vs=[x]/\(tL H x\/∃ i,x=.int i/\¬ sZ i)/\E (.ref an) none H)
inductive aiq (vs:aD) (H:Hp) (Q:VK):Prop
 |mk (k:Nat) (h1:vs=[.int (pw k)]) (h2:k<=3) (h3:∀ (v:V) (H':Hp),aG H H'->dD H' v (pw k) (Bj k)->Q v H')
def aj0:=nE aiq
theorem at6 {an:Addr} (vs:aD) (H:Hp) (Q:VK) (E:XK) (h:aj0 vs H Q E):JQ an vs H Q E:=by obtain ⟨k,e,l,q⟩:=h;exact .inl ⟨k,e,l,q⟩
inductive air (vs:aD) (H:Hp) (Q:VK):Prop
 |mk (k:Nat) (h1:vs=[.int (pw k)]) (h2:k<=3) (h3:∀ (a:Addr) (H':Hp),H a=none->aG H H'->eN H' a (Bj k)->Q (.ref a) H')
def abv:=nE air
def J0 (an:Addr):Sp:=λvs H Q E=>ab4 vs H Q E\/(∃ x,vs=[x]/\(tL H x\/∃ i,x=.int i/\¬ (1<=i/\i<=8))/\E (.ref an) none H)
theorem aua {an:Addr} (vs:aD) (H:Hp) (Q:VK) (E:XK) (h:ab4 vs H Q E):J0 an vs H Q E:=.inl h
inductive aj1 (vs:aD) (H:Hp) (Q:VK):Prop
 |mk (aj:Int) (h1:vs=[.int aj]) (h2:1<=aj) (h3:aj<=8) (h4:∀ (a:Addr) (H':Hp),H a=none->aG H H'->eN H' a (wj aj)->Q (.ref a) H')
def ab9:=nE aj1
end
section
open PySem.Spec PyProof.Rows
section
end
end
section
open PySem.SeqAt
inductive aol (vs:aD) (H:Hp) (Q:VK):Prop
 |mk (aj:Int) (l:Addr) (ws:aK) (h1:vs=[.int aj,.ref l]) (h2:NT H l ws) (h3:1<=aj) (h4:aj<=8) (h5:bC aj ws) (h6:ws.length<=40) (h7:∀ (v:V) (H':Hp),aG H H'->dD H' v aj ws->Q v H')
def Uw:=nE aol
end
section
open PySem.Spec PyProof.Rows
structure DW (P:Program) (w:World) (K:bI) (mg:dH) (aF:Heap) (C:Addr) (m:Str) (k:Nat) (ps:bR) (sp:Sp):Prop where
 ex:∃ (f:Addr) (fd:FuncData),dz P w K mg aF (lF P w) k f fd ps sp/\oZ K fd ps []/\Hg K C m f
theorem yE.aq7 {q:Str} {k:Nat} (h:yE K mg C x q st f fd) (F:dz P w K mg aF (lF P w) k f fd ps sp) (hb:∀ (kV doc pm:Value) (an:jf) (cdv ct:Value) (us:cG),us.length=ps.length->bindArgs (fnOf x q (jX st) (jk st) (dX st) .none kV doc pm an cdv ct) ⟨us,[]⟩=pure (ps.zip us)):DW P w K mg aF C x k ps sp:=⟨f,fd,F,h.fn.binds hb,h.mt⟩
end
section
open PySem.SeqAt
theorem adv:∀ ns:aU,canLayAll0 (ns.map PyData.int)=true/\depthAll (ns.map PyData.int)<=5
 |[]=>by simp [canLayAll0,depthAll]
 |w::r=>by
  obtain ⟨a,b⟩:=adv r;constructor
  ·simp [canLayAll0,canLay0,a]
  ·simp only [iC,depthAll,PyData.depth];lk
end
variable {aV:List (List dR×V)} {zm:List (TE×TE)}
section
open PySem.Spec PyProof.Rows
section
variable {κ:Type} [DecidableEq κ]
def cF (aV:List (κ×V)) (k:κ):Option V:=(aV.find? λa=>decide (a.1=k)).map (·.2)
def cI (aV:List (κ×V)) (k:κ) (v:V):List (κ×V) :=
 if (aV.any λa=>decide (a.1=k))=true then aV.map (λa=>if a.1=k then (a.1,v) else a) else aV++[(k,v)]
theorem rW {p:κ×V} {r:List (κ×V)} {k:κ} (e:p.1=k):cF (p::r) k=some p.2:=by simp [cF,xX,e]
theorem rY {p:κ×V} {r:List (κ×V)} {k:κ} (e:¬ p.1=k):cF (p::r) k=cF r k:=by simp [cF,xX,e]
theorem Gp (k:κ):∀ aV:List (κ×V),(aV.any λkv=>decide (kv.1=k))=(cF aV k).isSome
 |[]=>rfl
 |p::r=>by
  rw [zU];by_cases e:p.1=k
  ·simp only [rW e,d7 e,Bool.true_or,Option.isSome_some]
  ·rw [rY e,kh e,Bool.false_or];exact Gp k r
theorem ab_ (k j:κ) (y:V):∀ aV:List (κ×V),cF (aV.map λkv=>if kv.1=k then (kv.1,y) else kv) j=(cF aV j).map λx=>if j=k then y else x
 |[]=>rfl
 |p::r=>by
  have a:=ab_ k j y r;rw [iC];by_cases h:p.1=k
  ·rw [bF h];by_cases e:p.1=j
   ·rw [rW (p:=(p.1,y)) e,rW e,CG,bF (e.symm.trans h)]
   ·rw [rY (p:=(p.1,y)) e,rY e,a]
  ·rw [bw h];by_cases e:p.1=j
   ·rw [rW (p:=p) e,rW e,CG,bw (λz=>h (e.trans z))]
   ·rw [rY (p:=p) e,rY e,a]
theorem abw (k j:κ) (y:V):∀ aV:List (κ×V),cF aV k=none->cF (aV++[(k,y)]) j=if j=k then some y else cF aV j
 |[],_=>by
  by_cases e:k=j
  ·rw [bF e.symm];exact rW (p:=(k,y)) e
  ·rw [bw (λz=>e z.symm)];exact rY (p:=(k,y)) e
 |p::r,hn=>by
  rw [R7];have a:¬ p.1=k:=λz=>by rw [rW z] at hn;cases hn
  rw [rY a] at hn;have b:=abw k j y r hn;by_cases e:p.1=j
  ·rw [rW e,rW e,bw (λz=>a (e.trans z))]
  ·rw [rY e,rY e,b]
theorem vh (aV:List (κ×V)) (k j:κ) (y:V):cF (cI aV k y) j=if j=k then some y else cF aV j:=by
 unfold cI;by_cases a:(aV.any λb=>decide (b.1=k))=true
 ·rw [bF a,ab_];rw [Gp] at a;by_cases e:j=k
  ·obtain ⟨x,c⟩:=Mi.mp a;rw [bF e,e,c,CG,bF rfl]
  ·rw [bw e];cases cF aV j with
   |none=>rfl
   |some x=>rw [CG,bw e]
 ·rw [bw a];refine abw k j y aV ?_;rw [Gp] at a;cases q:cF aV k with
  |none=>rfl
  |some x=>rw [q] at a;exact (a rfl).elim
theorem BZ (aV:List (κ×V)) (k:κ) (v:V):(cI aV k v).length<=aV.length+1:=by
 unfold cI;split
 ·rw [bD];lk
 ·rw [dj,gj,R8];lk
theorem lY.QK {o:Option V} {u:pA} (r:lY o u):o.isSome=u.isSome:=by
 cases o with
 |none=>cases u with
  |none=>rfl
  |some _=>exact (show False from r).elim
 |some _=>cases u with
  |none=>exact (show False from r).elim
  |some _=>rfl
theorem lY.getD {o:Option V} {u:pA} {d:V} {d':Value} (r:lY o u) (rd:cC d d'):cC (o.getD d) (u.getD d'):=by
 cases o with
 |none=>cases u with
  |none=>exact rd
  |some _=>exact (show False from r).elim
 |some _=>cases u with
  |none=>exact (show False from r).elim
  |some _=>exact r
theorem KV.val {aV:List (κ×V)} {vs:List (κ×Value)} (r:KV aV vs) (k:κ):lY (cF aV k) (valueAt vs k):=by
 unfold KV at r;induction r with
 |nil=>exact qd
 |@cons p q ps c h t d =>
  obtain ⟨h1,h2⟩:=h;by_cases e:p.1=k
  ·have a:q.1=k:=h1.symm.trans e;have b:valueAt (q::c) k=some q.2:=by simp [valueAt,xX,a]
   rw [rW e,b];exact h2
  ·have a:¬ q.1=k:=λz=>e (h1.trans z);have b:valueAt (q::c) k=valueAt c k:=by simp [valueAt,xX,a]
   rw [rY e,b];exact d
theorem KV.any {aV:List (κ×V)} {vs:List (κ×Value)} (r:KV aV vs) (k:κ):(aV.any λkv=>decide (kv.1=k))=vs.any λkv=>decide (kv.1=k):=by
 unfold KV at r;induction r with
 |nil=>rfl
 |cons h t a=>rw [zU,zU,a,h.1]
theorem KV.repl {aV:List (κ×V)} {vs:List (κ×Value)} (r:KV aV vs) (k:κ) (ry:cC y u) : KV (aV.map λkv=>if kv.1=k then (kv.1,y) else kv) (vs.map λkv=>if kv.1=k then (kv.1,u) else kv):=by
 unfold KV at r ⊢;induction r with
 |nil=>exact .nil
 |@cons p q ps b h t a =>
  rw [iC,iC];refine .cons ?_ a;obtain ⟨h1,h2⟩:=h;by_cases e:p.1=k
  ·rw [bF e,bF (h1.symm.trans e)];exact ⟨h1,ry⟩
  ·rw [bw e,bw (λz=>e (h1.trans z))];exact ⟨h1,h2⟩
theorem KV.put {aV:List (κ×V)} {vs:List (κ×Value)} (r:KV aV vs) (k:κ) (ry:cC y u):KV (cI aV k y) (stored vs k u):=by
 unfold cI stored;rw [r.any k];by_cases e:(vs.any λa=>decide (a.1=k))=true
 ·rw [bF e,bF e];exact r.repl k ry
 ·rw [bw e,bw e];exact Paired.snoc r ⟨rfl,ry⟩
theorem KV.length {aV:List (κ×V)} {vs:List (κ×Value)} (r:KV aV vs):aV.length=vs.length:=uE r
end
theorem yH {k:dR} (r:cC (kV k) u):(jD P w).is k u=true:=by
 cases k with
 |inl i=>obtain ⟨t,e⟩:=(show ∃ t,u=Value.int i t from r);subst e;exact ahh P w i t
 |inr x=>obtain ⟨t,e⟩:=(show ∃ t,u=Value.str x t from r);subst e;exact Qc P w x t
theorem abx:∀ {ks:List dR} {us:cG},bY (ks.map kV) us->ItemsAre (jD P w) ks us
 |[],_,r=>by rw [Kh] at r;cases r;exact .nil
 |k::ks,_,r=>by
  rw [iC] at r;cases r with
  |cons h t=>exact .cons (yH h) (abx t)
abbrev pN (H:Hp):List (List dR×V)->List (List dR×Addr×Value)->Prop:=Paired λp q=>p.1=q.1/\H q.2.1=some (.tup (p.1.map kV))/\cC p.2 q.2.2
theorem pN.val {xs:List (List dR×Addr×Value)} (r:pN H aV xs) (k:List dR):lY (cF aV k) ((atKey xs k).map (·.2)):=by
 induction r with
 |nil=>exact qd
 |@cons p q ps c h t d =>
  obtain ⟨h1,_,h2⟩:=h;by_cases e:p.1=k
  ·have a:q.1=k:=h1.symm.trans e;have b:atKey (q::c) k=some q.2:=by simp [atKey,xX,a]
   rw [rW e,b];exact h2
  ·have a:¬ q.1=k:=λz=>e (h1.trans z);have b:atKey (q::c) k=atKey c k:=by simp [atKey,xX,a]
   rw [rY e,b];exact d
theorem pN.repl {xs:List (List dR×Addr×Value)} (r:pN H aV xs) (k:List dR) (ry:cC y u) : pN H (aV.map λkv=>if kv.1=k then (kv.1,y) else kv) (xs.map (putAt k u)):=by
 induction r with
 |nil=>exact .nil
 |@cons p q ps c h t b =>
  rw [iC,iC];refine .cons ?_ b;obtain ⟨h1,h2,a⟩:=h;unfold putAt;by_cases e:p.1=k
  ·rw [bF e,bF (h1.symm.trans e)];exact ⟨h1,h2,ry⟩
  ·rw [bw e,bw (λz=>e (h1.trans z))];exact ⟨h1,h2,a⟩
theorem pN.put {xs:List (List dR×Addr×Value)} (r:pN H aV xs) (k:List dR) {b:Addr} (hb:H b=some (.tup (k.map kV))) (ry:cC y u) : pN H (cI aV k y) (storedH xs k b u):=by
 have e:(aV.any λa=>decide (a.1=k))=(atKey xs k).isSome:=by rw [Gp,(r.val k).QK,Option.isSome_map]
 unfold cI storedH;rw [e];by_cases q:(atKey xs k).isSome=true
 ·rw [bF q,bF q];exact r.repl k ry
 ·rw [bw q,bw q];exact Paired.snoc r ⟨rfl,hb,ry⟩
theorem pN.keeps {xs:List (List dR×Addr×Value)} (r:pN H aV xs) (ht:∀ b ys,H b=some (.tup ys)->H' b=some (.tup ys)):pN H' aV xs:=Paired.MP r λ_ _ z=>⟨z.1,ht _ _ z.2.1,z.2.2⟩
section
theorem aeQ {u:HO} (ok:gU P w H h) (e:Rd H a u):dU P w H h a u:=e.ok ok
theorem DX {aV:dh} (ok:gU P w H h) (e:Rd H a (.dK aV)):aV.length<=sizeLine/\(a == sysModules)=false/\∃ vs,KV aV vs/\h.DictOf (jD P w) a vs :=
 show dU P w H h a (.dK aV) from aeQ ok e
theorem aeR {aV:dh} (ok:gU P w H h) (e:H a=some (.dK aV)):aV.length<=sizeLine/\(a == sysModules)=false/\∃ vs,KV aV vs/\h.DictOf (jD P w) a vs:=DX ok (.inl e)
theorem Hj {ks:List dR} (ok:gU P w H h) (e:H a=some (.tup (ks.map kV))):(tupleKind (jD P w)).is h ks a:=by obtain ⟨_,aM,r,o,h1,h2,n,b,_⟩:=(show dU P w H h a (.tup (ks.map kV)) from ok a _ e);exact ⟨o,aM.toArray,n,h1,h2,b,by simpa using abx r⟩
theorem DY (ok:gU P w H h) (e:Rd H a (.dT aV)):aV.length<=sizeLine/\(a == sysModules)=false /\∃ xs,pN H aV xs/\h.DictOfH (tupleKind (jD P w)) a xs:=by
 obtain ⟨z,y,xs,r,o,es,i,h1,h2,g,d,h5⟩:=(show dU P w H h a (.dT aV) from aeQ ok e);refine ⟨z,y,xs,r,o,es,i,h1,h2,g,d,λx b=>?_,h5⟩;have all:∀ {l:List (List dR×V)} {m:List (List dR×Addr×Value)},pN H l m->∀ x∈m,(tupleKind (jD P w)).is h x.1 x.2.1:=by
  intro l m q;induction q with
  |nil=>intro x b;exact nomatch b
  |@cons p q ps k c t j =>
   intro x b;rcases gn.mp b with e|b
   ·subst e;exact Hj ok (by rw [<-c.1];exact c.2.1)
   ·exact j x b
 exact all r x b
theorem aq8 (ok:gU P w H h) (e:H a=some (.dT aV)):aV.length<=sizeLine/\(a == sysModules)=false /\∃ xs,pN H aV xs/\h.DictOfH (tupleKind (jD P w)) a xs:=DY ok (.inl e)
end
def jz (H:Hp) (a:Addr) (y:V) (r:Option V):Prop :=
 (∃ aV k,Rd H a (.dK aV)/\y=kV k/\r=cF aV k)\/∃ aV k b,Rd H a (.dT aV)/\y=.ref b/\H b=some (.tup (k.map kV))/\r=cF aV k
def uK (H:Hp) (a:Addr) (y v:V) (H':Hp):Prop :=
 (∃ aV k,H a=some (.dK aV)/\y=kV k/\aV.length<sizeLine/\H'=upd H a (.dK (cI aV k v))) \/
 ∃ aV k b,H a=some (.dT aV)/\y=.ref b/\H b=some (.tup (k.map kV))/\aV.length<sizeLine/\H'=upd H a (.dT (cI aV k v))
theorem jz.k {aV:dh} {k:dR} (e:H a=some (.dK aV)):jz H a (kV k) (cF aV k):=.inl ⟨aV,k,.inl e,rfl,rfl⟩
theorem uK.k {aV:dh} {k:dR} (e:H a=some (.dK aV)) (hl:aV.length<sizeLine):uK H a (kV k) v (upd H a (.dK (cI aV k v))):=.inl ⟨aV,k,e,rfl,hl,rfl⟩
section
variable {r:Value} {o:Option V}
theorem aJ.big (I:aJ X aq σ H s):sysModules<s.heap.objs.size:=by have h:mainGlobals<s.heap.objs.size:=(I.mod.glob.keeps I.bk).lt;exact xY (by decide) h
theorem aj2 (hu:A.units+1<cLine) (I:aJ X aq σ H s) (g:jz H a y (some v)) (ry:cC y u) (h:∀ w' s',aJ X aq σ H s'->cC v w'->Q w' s') : wpAny (model X.prog X.w) A (getItem (.ref a) u) Q E s:=by
 rcases g with ⟨aV,k,e,j,l⟩|⟨aV,k,b,e,j,q,l⟩
 ·subst j;obtain ⟨z,r,vs,c,m⟩:=DX I.hok e;obtain ⟨w',d,i⟩:=lY.some_of (v:=v) (o:=valueAt vs k) (by rw [l];exact c.val k);exact wpAny_getItem_of (yH ry) m.mapOf d (h w' _ (I.tok _) i)
 ·subst j;cases (show u=Value.ref b from ry);obtain ⟨z,r,xs,c,m⟩:=DY I.hok e;obtain ⟨w',d,i⟩:=lY.some_of (v:=v) (o:=(atKey xs k).map (·.2)) (by rw [l];exact c.val k);obtain ⟨p,t,n⟩:=R9.mp d;refine wpAny_getItem_heap (La hu) (Hj I.hok q) m t ?_;rw [n];exact h w' _ (I.tok _) i
theorem aom (hu:A.units+1<cLine) (I:aJ X aq σ H s) (g:jz H a y o) (ry:cC y u) (h:∀ s',aJ X aq σ H s'->Q (.bool (!o.isSome)) s') : wpAny (model X.prog X.w) A (compareOp .NotIn u (.ref a)) Q E s:=by
 rcases g with ⟨aV,k,e,d,l⟩|⟨aV,k,b,e,d,m,l⟩
 ·subst d;obtain ⟨z,j,vs,c,i⟩:=DX I.hok e;refine wpAny_notIn_of (yH ry) j i.mapOf ?_;rw [<-(c.val k).QK,<-l];exact h _ (I.tok _)
 ·subst d;cases (show u=Value.ref b from ry);obtain ⟨z,j,xs,c,i⟩:=DY I.hok e;refine wpAny_notIn_heap (La hu) (Hj I.hok m) j i ?_;have q:=(c.val k).QK;rw [Option.isSome_map] at q;rw [<-q,<-l];exact h _ (I.tok _)
theorem Tg {ob:HO} (I:aJ X aq σ H s) (mu:Ib (H a)) (hs:SameBut a s.heap h') (he:∃ q,h'.get? a=some q) (new:dU X.prog X.w (upd H a ob) h' a ob) : aJ X aq σ (upd H a ob) { s with heap:=h',toks:=t' }:=I.write (x:=a) (e:=a) mu (.inl rfl) (λb q c z=>(hs.2 b c).trans z) he new
theorem aef {aV:dh} {vs:gQ} (z:aV.length<=sizeLine) (hd:(a == sysModules)=false) (rel:KV aV vs) (dd:h'.DictOf (jD P w) a vs) : dU P w H' h' a (.dK aV):=⟨z,hd,vs,rel,dd⟩
theorem aj3 {Q:Av} (hu:A.units+1<cLine) (I:aJ X aq σ H s) (g:uK H a y v H') (ry:cC y u) (rv:cC v r) (h:∀ s',aJ X aq σ H' s'->Q () s') : wpAny (model X.prog X.w) A (setItem (.ref a) u r) Q E s:=by
 rcases g with ⟨aV,k,e,m,l,o⟩|⟨aV,k,b,e,m,C,l,o⟩
 ·subst m o;obtain ⟨z,t,vs,d,p⟩:=aeR I.hok e;have B:vs.length<=sizeLine:=by rw [<-d.length];exact z
  have n:(cI aV k v).length<=sizeLine:=by have:=BZ aV k v;lk
  refine wpAny_setItem_pairs (hsz:=B) (yH ry) p λh' j x=>h _ ?_;have J:∃ q,h'.get? a=some q:=let ⟨q,_,_,i,_⟩:=j;⟨q,i⟩;exact Tg I (by rw [e];exact qd) x J (aef n t (d.put k rv) j)
 ·subst m o;cases (show u=Value.ref b from ry);obtain ⟨z,t,xs,d,p⟩:=aq8 I.hok e;have B:xs.length<=sizeLine:=by rw [<-uE d];exact z
  have n:(cI aV k v).length<=sizeLine:=by have:=BZ aV k v;lk
  refine wpAny_setItem_heap (hsz:=B) (La hu) (Hj I.hok C) p λh' j x=>h _ ?_;obtain ⟨q,es,N,i,h2,M,L,_,h5⟩:=j;refine Tg I (by rw [e];exact qd) x ⟨q,i⟩ ⟨n,t,_,(d.put k C rv).keeps λc ys D=>?_,q,es,N,i,h2,M,L,h5⟩;rw [bh (oJ D e (λz=>nomatch z))];exact D
end
def VH (i:Expr):Prop:=∀ a b,subscripted i false a b=operate [a,b] (getItem a b)
theorem adw {value slice:Expr} {T id:String} (hl:typeLookup (.type T) "__getitem__"=pure (some (.builtin id))) (hs:VH slice) (h:wpAny (model prog w) A (eval value env) (λo s₁=>wpAny (model prog w) A (eval slice env) (λi s₂=>s₂.TypeIs o T/\wpAny (model prog w) A (getItem o i) Q E s₂) E s₁) E s) : wpAny (model prog w) A (eval (.Subscript value slice pos) env) Q E s:=by
 refine Subscript_ (jc h (λo s₁ g=>jc g (λi s₂ b=>?_) λ_ _ x=>x) λ_ _ x=>x);obtain ⟨d,b⟩:=b;unfold subscriptTail;refine aW ?_;rw [getitemInPython_of_ne d.not_modules];refine aW (wpAny_specialOf d hl ?_);have a:wpAny (model prog w) A (subscripted slice false o i) (λr c=>wpAny (model prog w) A (letTemporaryGo value o r >>= λ_=>pure r) Q E c) E s₂:=by rw [hs o i];exact wpAny_operating (jc b (λr c e=>aW (wpAny_letTemporaryGo (cB e))) λ_ _ x=>x)
 first
  |exact cB (aW a)
  |exact aW (cB (aW a))
  |exact aW a
theorem ahy {o:Option V} (I:aJ X aq σ H s) (g:jz H a y o):s.TypeIs (.ref a) "dict":=by
 rcases g with ⟨aV,k,e,_,_⟩|⟨aV,k,b,e,_,_,_⟩
 ·obtain ⟨_,_,vs,_,c⟩:=DX I.hok e;exact c.typeIs
 ·obtain ⟨_,_,xs,_,c⟩:=DY I.hok e;exact c.typeIs
def aq9 (td ty:TE):TE:=λσ H Q=>td σ H λx H1=>ty σ H1 λy H2=>∃ a v,x=.ref a/\jz H2 a y (some v)/\Q v H2
def aon (ty td:TE):TE:=λσ H Q=>ty σ H λy H1=>td σ H1 λx H2=>∃ a o,x=.ref a/\jz H2 a y o/\Q (.bl (!o.isSome)) H2
def aq_ (td ty tv:TE):TS:=λD σ H=>tv σ H λv H1=>td σ H1 λx H2=>ty σ H2 λy c=>∃ a b,x=.ref a/\uK c a y v b/\D.nx σ b
section
variable {o i value:Expr} {tpos:Pos} {td ty tv:TE}
theorem vQ (hu:X.A.units+1<cLine) (ho:PE X o td) (hi:PE X i ty) (hs:VH i):PE X (.Subscript o i pos) (aq9 td ty):=by intro aq s σ H Q I h;refine adw acM.lookup hs (bH (ho aq s σ H _ I h) λu j ⟨x,H1,c,k,e⟩=>bH (hi aq j σ H1 _ c e) λq r ⟨y,H2,b,m,a,v,ex,g,n⟩=>?_);subst ex;obtain rfl:u=Value.ref a:=k;exact ⟨ahy b g,aj2 hu b g m λt p l d=>⟨v,H2,l,d,n⟩⟩
theorem aj4 (hu:X.A.units+1<cLine) (hi:PE X i ty) (ho:PE X o td):PC X .NotIn i o (aon ty td):=by intro aq s σ H Q I h;refine bH (hi aq s σ H _ I h) λq d ⟨y,H1,b,m,c⟩=>bH (ho aq d σ H1 _ b c) λu r ⟨x,H2,l,j,a,e,ex,g,n⟩=>?_;subst ex;obtain rfl:u=Value.ref a:=j;exact aom hu l g m λp k=>⟨.bl (!e.isSome),H2,k,rfl,n⟩
theorem Dk (hu:X.A.units+1<cLine) (ho:PE X o td) (hi:PE X i ty) (hv:PE X value tv) (hs:swapsWith value (some (.Subscript o i pos')) pos.line X.env=pure false) : PS X (.Assign [.Subscript o i pos'] value pos) (aq_ td ty tv):=by intro aq s σ H D I h;refine wpAny_Assign_Subscript (bH (hv aq s σ H _ I h) λr e ⟨v,H1,b,k,d⟩=>bH (ho aq e σ H1 _ b d) λu n ⟨x,H2,p,l,z⟩=>bH (hi aq n σ H2 _ p z) λL J ⟨y,C,m,q,a,c,ex,g,j⟩=>?_) hs;subst ex;obtain rfl:u=Value.ref a:=l;exact aj3 hu m g q k λB t=>⟨σ,c,t,j⟩
end
theorem ab' (h:Heap) (hb:sysModules<h.objs.size):dU P w H (h.push { cls:=.type "dict",data:=.dict #[] }) h.objs.size (.dK []):=⟨d_ _,DN.mpr (bL (fG hb)),[],.nil,Heap.DictOf.new h⟩
def ap7:TE:=λ_ H Q=>∀ p,H p=none->Q (.ref p) (upd H p (.dK []))
section
theorem Rm:PE X (.Dict [] [] pos) ap7:=λaq s σ H Q I h =>
 wpAny_Dict_empty ⟨.ref s.heap.objs.size,_,I.laid (a:=s.heap.objs.size) (o:=.dK []) (t':=s.toks) (λ_ _ q=>cP _ q) (bJ _) (ab' s.heap I.big),rfl,h _ (I.hok.fresh (bJ _))⟩
end
def Ux:List (TE×TE)->St->Hp->(List (V×V)->Hp->Prop)->Prop
 |[],_,H,Q=>Q [] H
 |(tk,tv)::r,σ,H,Q=>tk σ H λx H1=>tv σ H1 λy H2=>Ux r σ H2 λps a=>Q ((x,y)::ps) a
abbrev VV:List (V×V)->List (Value×Value)->Prop:=Paired λp q=>cC p.1 q.1/\cC p.2 q.2
def NZ (X:Cx) (pos:Pos) (keys:List (Option Expr)) (values:oA) (zm:List (TE×TE)):Prop :=
 ∀ (aq:List (Addr×Obj)) (s:Shared) (σ:St) (H:Hp) (Q:List (V×V)->Hp->Prop),aJ X aq σ H s->Ux zm σ H Q ->
  wpAny (model X.prog X.w) X.A (evalPairs (pairTrees keys values X.env pos)) (λvs s'=>∃ ps H',aJ X aq σ H' s'/\VV ps vs/\Q ps H') X.xe s
theorem adx:NZ X pos [] [] []:=λaq s σ H Q I h=>pairTrees_nil_walk ⟨[],H,I,.nil,h⟩
theorem Gq {k v:Expr} {ks:List (Option Expr)} {vs:oA} {tk tv:TE} (hk:PE X k tk) (hv:PE X v tv) (hr:NZ X pos ks vs zm) : NZ X pos (some k::ks) (v::vs) ((tk,tv)::zm):=λaq s σ H Q I h =>
 pairTrees_cons_walk (bH (hk aq s σ H _ I h) λu d ⟨x,H1,b,i,c⟩=>bH (hv aq d σ H1 _ b c) λp l ⟨y,H2,m,n,o⟩ =>
  bH (hr aq l σ H2 _ m o) (by rintro ws q ⟨ps,e,j,a,g⟩;exact ⟨(x,y)::ps,e,j,.cons ⟨i,n⟩ a,g⟩))
def qj (aV more:dh):dh:=more.foldl (λb a=>cI b a.1 a.2) aV
theorem KV.merge:∀ {more:dh} {rs:gQ} {aV:dh} {vs:gQ},KV more rs->KV aV vs->KV (qj aV more) (merged vs rs):=by
 intro more rs aV vs r;unfold KV at r;induction r generalizing aV vs with
 |nil=>intro q;exact q
 |@cons p q ps c h t a =>
  intro b;have e:KV (cI aV p.1 p.2) (stored vs q.1 q.2):=by have:=b.put p.1 h.2;rw [<-h.1];exact this
  exact a e
theorem aaq:∀ (more aV:dh),(qj aV more).length<=aV.length+more.length
 |[],aV=>by show aV.length<=aV.length+0;lk
 |p::r,aV=>by have h1:=aaq r (cI aV p.1 p.2);have h2:=BZ aV p.1 p.2;show (qj (cI aV p.1 p.2) r).length<=_;rw [gj];lk
theorem aa1:∀ {aV:dh} {ws:List (Value×Value)},VV (aV.map λkv=>(kV kv.1,kv.2)) ws->∃ rs,Carries (jD P w) ws rs/\KV aV rs
 |[],_,r=>by rw [Kh] at r;cases r;exact ⟨[],qd,.nil⟩
 |p::aV,_,r=>by
  rw [iC] at r;cases r with
  |@cons a b e bs h t =>obtain ⟨rs,c,q⟩:=aa1 t;obtain ⟨g,d⟩:=b;exact ⟨(p.1,d)::rs,⟨yH h.1,rfl,c⟩,.cons ⟨rfl,h.2⟩ q⟩
def aq' (zm:List (TE×TE)):TE:=λσ H Q=>∀ p,H p=none->Ux zm σ (upd H p (.dK [])) λps H2=>H2 p=some (.dK [])/\∃ aV:dh,ps=aV.map (λa=>(kV a.1,a.2))/\aV.length<=15/\Q (.ref p) (upd H2 p (.dK (qj [] aV)))
theorem ady {keys:List (Option Expr)} {values:oA} (h:NZ X pos keys values zm) (hall:keys.all (·.isSome)=true) (hl:keys.length=values.length) (h0:keys≠[]) (h15:keys.length<=15):PE X (.Dict keys values pos) (aq' zm):=by
 intro aq s σ H Q I q;have p:=I.hok.fresh (bJ s.heap.objs.size);have i:=I.laid (a:=s.heap.objs.size) (o:=.dK []) (h':=s.heap.push { cls:=.type "dict",data:=.dict #[] }) (t':=s.toks) (λ_ _ q=>cP _ q) (bJ _) (ab' s.heap I.big);refine wpAny_Dict_walk (knd:=jD X.prog X.w) hall hl h0 h15 (bH (h aq _ σ _ _ i (q _ p)) λws B ⟨ps,H2,g,b,e,aV,v,C,y⟩=>?_);subst v;obtain ⟨rs,c,m⟩:=aa1 (P:=X.prog) (w:=X.w) b;obtain ⟨z,n,t,x,l⟩:=aeR g.hok e;cases x;refine ⟨rs,c,l,λh' d r=>⟨.ref s.heap.objs.size,_,?_,rfl,y⟩⟩;have u:(qj [] aV).length<=sizeLine:=by have h1:=aaq aV [];rw [R8] at h1;rw [uy];lk
 have j:∃ q,h'.get? s.heap.objs.size=some q:=let ⟨q,_,_,k,_⟩:=d;⟨q,k⟩;exact Tg g (by rw [e];exact qd) r j (aef u n (m.merge .nil) d)
structure M1 (X:Cx) (o:Expr) (m:Str) (apos:Pos) (e:Expr) (cpos:Pos):Prop where
 aF:attributeBase o m X.env (eval o X.env)=eval o X.env
 few:((backTo cpos (starEach [e] X.env)).all (λx=>!x.1) && (backToKw cpos (keywordEach [] X.env)).all (λx=>x.1.isSome)
  && decide (([e]:oA).length+([]:List Keyword).length+(if ([]:List Keyword).isEmpty then 0 else 1)<30))=true
 line:(apos.endLine == cpos.line)=true
 trees:backTo cpos (starEach [e] X.env)=[(false,eval e X.env)]
def IsD (H:Hp) (a:Addr):Prop:=(∃ aV,Rd H a (.dK aV))\/∃ aV,Rd H a (.dT aV)
theorem ap8 (I:aJ X aq σ H s) (d:IsD H a) : s.TypeIs (.ref a) "dict"/\(∀ b,Value.ref a=.ref b->∃ ob,s.heap.get? b=some ob/\ob.dict=none)/\(a == sysModules)=false:=by
 rcases d with ⟨aV,e⟩|⟨aV,e⟩
 ·obtain ⟨_,g,vs,_,c⟩:=DX I.hok e;refine ⟨c.typeIs,λb q=>?_,g⟩;cases q;obtain ⟨ob,_,_,h1,h2,_⟩:=c;exact ⟨ob,h1,h2.2.1⟩
 ·obtain ⟨_,g,xs,_,c⟩:=DY I.hok e;refine ⟨c.typeIs,λb q=>?_,g⟩;cases q;obtain ⟨ob,_,_,h1,h2,_⟩:=c;exact ⟨ob,h1,h2.2.1⟩
section
variable {d:V} {r:Value} {o:Option V}
theorem ap9 (hu:A.units+1<cLine) (I:aJ X aq σ H s) (g:jz H a y o) (ry:cC y u) (h:∀ w' s',aJ X aq σ H s'->cC (o.getD .non) w'->Q w' s') : wpAny (model X.prog X.w) A (call (.builtin "dict.get") [.ref a,u]) Q E s:=by
 rcases g with ⟨aV,k,e,i,l⟩|⟨aV,k,b,e,i,m,l⟩
 ·subst i;obtain ⟨z,j,vs,c,d⟩:=DX I.hok e;refine call_meetsIn R_ d.typeIs acN (acO _ _) (meets_dict_get (jD X.prog X.w) a (yH ry) j) ⟨_,d.mapOf,h _ _ (I.tok _) ?_⟩;rw [l];exact (c.val k).getD rfl
 ·subst i;cases (show u=Value.ref b from ry);obtain ⟨z,j,xs,c,d⟩:=DY I.hok e;refine call_meetsIn R_ d.typeIs acN (acO _ _) (meetsH_dict_get (tupleKind (jD X.prog X.w)) a b j) ⟨La hu,k,xs,Hj I.hok m,d,h _ _ (I.tok _) ?_⟩;rw [l];exact (c.val k).getD rfl
end
def ap_ (td ty:TE):TE:=λσ H Q=>td σ H λx H1=>∃ a,x=.ref a/\IsD H1 a/\ty σ H1 λy H2=>∃ o,jz H2 a y o/\Q (o.getD .non) H2
section
variable {o f:Expr} {apos cpos:Pos} {td ty tx:TE}
theorem amm (hu:X.A.units+1<cLine) (ho:PE X o td) (he:PE X e ty) (m:M1 X o "get" apos e cpos):PE X (.Call (.Attribute o "get" apos) [e] [] cpos) (ap_ td ty):=by intro aq s σ H Q I h;refine wpAny_Call_method m.aF m.few m.line PySem.F.plainAttrs_dict R_ PySem.F.type_dict_get (bH (ho aq s σ H _ I h) λu j ⟨x,H1,b,k,a,ex,d,i⟩=>?_);subst ex;obtain rfl:u=Value.ref a:=k;obtain ⟨q,r,_⟩:=ap8 b d;refine ⟨q,r,?_⟩;rw [m.trees];exact Calls.callWith_builtin rfl (Ry (Ud (bH (he aq j σ H1 _ b i) (by rintro B C ⟨y,H2,n,p,v,g,t⟩;exact Uc (ap9 hu n g p λD z l c=>⟨_,H2,l,c,t⟩)))))
end
end
section
open PySem.SeqAt
def Ej (aj gap:Int):aK:=((range aj.toNat).filter λk:Nat=>decide ((k:Int) / gap % 2=0)).map λk:Nat=>((k:Int),(k:Int)+gap)
def tM:Nat->Int->aK
 |0,_=>[]
 |j+1,aj=>Ej aj (pw j)++tM j aj
def jo:Nat->aK
 |0=>[]
 |k+1=>(jo k++(jo k).map (iY (pw k)))++pY (pw (k+1))++tM k (pw (k+1))
theorem fold_all {k:Nat} (h:k<=3):bC (pw k) (jo k)/\(jo k).length<=24:=by
 have:k=0\/k=1\/k=2\/k=3:=by lk
 rcases this with z|z|z|z<;>subst z<;>exact ⟨Uv (by decide),by decide⟩
inductive aoo (n:Nat) (vs:aD) (H:Hp) (Q:VK):Prop
 |mk (k:Nat) (h1:vs=[.int (pw k)]) (h2:k<n) (h3:k<=3) (h4:∀ (a:Addr) (H':Hp),H a=none->aG H H'->eN H' a (jo k)->Q (.ref a) H')
def Dy (n:Nat):=nE (aoo n)
theorem acd (xs:aD) (n:Nat):fX xs none (some (n:Int))=xs.take n:=by
 by_cases h:n<=xs.length
 ·exact ajl h
 ·unfold fX;rw [HT.Ab,HT.zO,Nat.min_eq_right (by lk)];simp;rw [sI (by lk)]
end
section
open PySem.Spec PyProof.Rows
section
open AutoSeq1 (wpAny_loadPart')
section
theorem ahz {Q:cG->Shared->Prop} {r:Addr} {a c:Int} {t u v:Tok} (hh:A.handled=none) (hr:IsRange s.heap r a b c t u v) (hsmall:Builtin.Range.small a b c=true) (hn:rangeSize a b c=n) (fU:n<=2 ^ 24) (hQ:∀ h' tk bU,(∀ b o',s.heap.get? b=some o'->h'.get? b=some o')->ItemsOf (λi v=>∃ t,v=.int (a+i*c) t) bU n->Q bU.toList { s with heap:=h',toks:=tk }) : wpAny (model prog w) A (collect (.ref r)) Q E s:=by
 unfold collect;refine aW (wpAny_runValue (vB F.entry_proto_collect ?_));rw [xV F.plain_proto_collect _];show wpAny _ A.in1 (newList [] >>= λl=>again (.builtin "list.__iadd__" ⟨[l,.ref r],[]⟩)) _ _ s;refine aW (su (cB ⟨vC F.plain_list_iadd _,vB F.entry_list_iadd ?_⟩));rw [xV F.plain_list_iadd _];show wpAny _ A.in1 (Builtin.List.listExtendWith (.ref s.heap.objs.size) (.ref r) (.ref s.heap.objs.size)) _ _ _;have p:(s.heap.push { cls:=.type "list",data:=.seq ([]:cG).toArray }).get? s.heap.objs.size=some { cls:=.type "list",data:=.seq #[] 0 }:=eV _ rfl;have d:∀ (h':Heap) (tk:Nat) (bU:fV) (c':Nat),(∀ b o',s.heap.get? b=some o'->h'.get? b=some o')->h'.get? s.heap.objs.size=some { cls:=.type "list",dict:=none,data:=.seq bU c',slots:=#[] }->ItemsOf (λi v=>∃ t,v=.int (a+i*c) t) bU n ->wpAny (model prog w) A (match Value.ref s.heap.objs.size with
   |Value.ref a=>do
    match (<-load a).data with
     |Data.seq xs _=>pure xs.toList
     |_=>unsupported "internal:collect"
   |_=>unsupported "internal:collect") Q E { s with heap:=h',toks:=tk }:=λh' tk bU c' g k hi=>by
  show wpAny _ A (load s.heap.objs.size >>= _) _ _ _;exact aW (wpAny_load k (cB (hQ h' tk bU g hi)))
 refine jc (wpAny_extend_range (A:=A) (R:=λr s'=>∃ (h':Heap) (tk:Nat) (bU:fV) (c':Nat),r=.ok (.ret (.ref s.heap.objs.size))/\s'={ s with heap:=h',toks:=tk }/\(∀ b o',s.heap.get? b=some o'->h'.get? b=some o')/\h'.get? s.heap.objs.size=some { cls:=.type "list",dict:=none,data:=.seq bU c',slots:=#[] }/\ItemsOf (λi v=>∃ t,v=.int (a+i*c) t) bU n) (s:={ s with heap:=s.heap.push { cls:=.type "list",data:=.seq ([]:cG).toArray } }) hh (cP _ hr) hsmall hn fU s.heap.objs.size (.ref s.heap.objs.size) _ p λh' tk j c' g o m=>?_) (λq s' h=>?_) (λe s' h=>?_)
 ·exact ⟨h',tk,j,c',rfl,rfl,λb o' e=>g b o' (fG (cJ e)) (cP _ e),o,m⟩
 ·cases q with
  |done f =>obtain ⟨h',tk,bU,c',e,rfl,g,k,hi⟩:=h;cases e;exact d h' tk bU c' g k hi
  |again c'=>exact ⟨h.1,uz h.2 λr x hr=>by obtain ⟨h',tk,bU,c',rfl,rfl,g,k,hi⟩:=hr;exact d h' tk bU c' g k hi⟩
 ·obtain ⟨_,_,_,_,e,_⟩:=h;cases e
end
theorem afV (r:Addr) {a c:Int} {t u v:Tok} (hsmall:Builtin.Range.small a b c=true) (hn:rangeSize a b c=n) (fU:n<=100000) : Meets (Builtin.«tuple.__new__» ⟨[.type "tuple",.ref r],[]⟩) (λA R s=>A.handled=none/\IsRange s.heap r a b c t u v/\∀ (h':Heap) (tk:Nat) (bU:fV),(∀ b o',s.heap.get? b=some o'->h'.get? b=some o')->ItemsOf (λi v=>∃ t,v=.int (a+i*c) t) bU n ->R (.ok (.ret (.ref h'.objs.size))) { s with heap:=h'.push { cls:=.type "tuple",data:=.seq bU },toks:=tk }):=.of_wp λprog w A R s h=>by
  obtain ⟨y,g,d,tk,p⟩:=s;obtain ⟨C,l,h⟩:=h;have o:=sub_tuple_self;have k:=init_tuple_lookup;have x:=madeHere_tuple;have q:Shared.TypeIs ⟨y,g,d,tk,p⟩ (.ref r) "range":=⟨_,l,rfl⟩;have j:A.in1.handled=none:=C
  wp_walk using Dt l,Kg q,ahz (A:=A.in1) j l hsmall hn (by lk)
  intro h' m bU z hi;have B:bU.size=n:=hi.1;show wpAny _ _ (tupleExact bU.toList.toArray >>= λv=>ret v) _ _ _;unfold tupleExact;refine aW (su ?_ (by show bU.toList.toArray.size<=sizeLine;rw [R6,B];exact aN (by lk)));refine cB ⟨_,rfl,?_⟩;have e:bU.toList.toArray=bU:=by simp
  rw [e];exact h h' m bU z hi
section
theorem ago {r:Addr} {a c:Int} {t u v:Tok} (hh:A.handled=none) (hr:IsRange s.heap r a b c t u v) (hsmall:Builtin.Range.small a b c=true) (hn:rangeSize a b c=n) (fU:n<=100000) (h:∀ (h':Heap) (tk:Nat) (bU:fV),(∀ b o',s.heap.get? b=some o'->h'.get? b=some o')->ItemsOf (λi v=>∃ t,v=.int (a+i*c) t) bU n->Q (.ref h'.objs.size) { s with heap:=h'.push { cls:=.type "tuple",data:=.seq bU },toks:=tk }) : wpAny (model prog w) A (call (.type "tuple") [.ref r]) Q E s:=callType_new F.called_tuple (by decide) (F.typeCall_tuple_1 _) (F.newCall_tuple_1 _) (λd=>F.args_object_init_2 d _) F.entry_tuple_new (afV r hsmall hn fU) ⟨hh,hr,λh' tk bU e hi=>⟨⟨_,eV _ rfl,rfl⟩,h h' tk bU e hi⟩⟩
end
inductive agE (K:bI) (xs:aD) (H:Hp) (Q:VK):Prop
 |mk (r:Addr) (i j:Int) (h1:xs=[.ref r]) (h2:H r=some (.rng i j)) (h3:-(2 ^ 62)<=i) (h4:i<2 ^ 62) (h5:-(2 ^ 62)<=j) (h6:j<2 ^ 62) (h7:(j-i).toNat<=50000) (h8:∀ l,H l=none->Q (.ref l) (upd H l (.tup ((j7 i j).map V.int))))
theorem aaK (hc:X.calm=true):iZ X (.type "tuple") (agE X.K):=by
 rintro aq s σ H xs us Q I r ⟨p,i,j,rfl,J,i1,i2,B,x,N,q⟩;obtain ⟨u,rfl,m⟩:=qM r;cases m;obtain ⟨t,M,v,e⟩:=(show dU X.prog X.w H s.heap p (.rng i j) from I.hok p _ J);have C:rangeSize i j 1=((j-i).toNat:Nat):=by rw [rangeSize_one];split<;>lk
 refine ago (I.ok.hd hc) e (small_one i1 i2 B x) C (by lk) λh' tk c L ⟨D,n⟩=>?_;have a:bY ((j7 i j).map V.int) c.toList:=by
  have z:=QG i c.toList 0 λk v e=>by obtain ⟨t,l⟩:=n k v (by simpa using e);exact ⟨t,by rw [l,Mf,K_]⟩
  have d:c.toList.length=(j-i).toNat:=by rw [sS,D]
  rw [d,<-acI] at z;unfold j7;rw [KY];exact z
 have g:aJ X aq σ H { s with heap:=h',toks:=tk }:=I.kept (t':=tk) L;have y:aJ X aq σ (upd H h'.objs.size (.tup ((j7 i j).map V.int))) { s with heap:=h'.push { cls:=.type "tuple",data:=.seq c },toks:=tk }:=g.laid (t':=tk) (λb o e=>cP _ e) (bJ _) (show dU X.prog X.w _ _ _ (.tup ((j7 i j).map V.int)) from ⟨by simp only [j7,bD,xW];exact aN (by lk),c.toList,a,by rw [R6];exact oF.new _ _⟩);exact ⟨.ref h'.objs.size,_,y,rfl,q _ (g.hok.fresh (bJ _))⟩
end
end
section
open PySem.SeqAt
inductive yO (H:Hp):Nat->V->Prop
 |one {a:Addr} (h:H a=some (.tup [.str "one"])):yO H 0 (.ref a)
 |WX {k:Nat} {a t1 t2:Addr} {x y:V} (h:H a=some (.tup [.str "halves",.int ((jo k++(jo k).map (iY (pw k))).length:Int),.ref t1,.ref t2,x,y])) (h1:H t1=some (.tup ((j7 0 (pw k)).map V.int))) (h2:H t2=some (.tup ((j7 (pw k) (pw (k+1))).map V.int)))
   (hx:yO H k x) (hy:yO H k y):yO H (k+1) (.ref a)
theorem yO.same (s:aG H H'):∀ {k:Nat} {x:V},yO H k x->yO H' k x:=by
 intro k x h;induction h with
 |one h=>exact .one (s _ _ h)
 |WX h h1 h2 _ _ a b=>exact .WX (s _ _ h) (s _ _ h1) (s _ _ h2) a b
inductive aop (vs:aD) (H:Hp) (Q:VK):Prop
 |mk (k:Nat) (h1:vs=[.int (pw (k+1))]) (h2:k<=2) (h3:∀ (a:Addr) (H':Hp),H a=none->aG H H'->eN H' a (tM k (pw (k+1)))->Q (.ref a) H')
def aqa:=nE aop
inductive ais (vs:aD) (H:Hp) (Q:VK):Prop
 |mk (l:Addr) (ws:aK) (k:Int) (h1:vs=[.ref l,.int k]) (h2:NT H l ws) (h3:ws.length<=100) (h4:∀ (a:Addr) (H':Hp),H a=none->aG H H'->eN H' a (ws++ws.map (iY k))->Q (.ref a) H')
def aby:=nE ais
theorem amn (vs:aD) (H:Hp) (Q:VK) (E:XK) (h:ab8 vs H Q E):aby vs H Q E:=by obtain ⟨l,ws,k,e,⟨rs,a,hr⟩,len,q⟩:=h;exact ⟨l,ws,k,e,⟨rs,.inl a,hr⟩,len,q⟩
theorem adz (vs:aD) (H:Hp) (Q:VK) (E:XK) (h:adt vs H Q E):Uw vs H Q E:=by obtain ⟨aj,l,ws,rfl,⟨rs,a,hr⟩,c,b,ok,len,q⟩:=h;exact ⟨aj,l,ws,rfl,⟨rs,.inl a,hr⟩,c,b,ok,len,q⟩
inductive ace (n:Nat) (vs:aD) (H:Hp) (Q:VK):Prop
 |mk (k:Nat) (h1:vs=[.int (pw k)]) (h2:k<n) (h3:k<=3) (h4:∀ (T:Addr) (v pv:V) (H':Hp),H T=none->aG H H'->H' T=some (.tup [v,pv])->dD H' v (pw k) (jo k)->yO H' k pv->Q (.ref T) H')
def ug (an:Addr) (n:Nat):Sp:=λvs H Q E=>ace n vs H Q\/(0<n/\∃ x,vs=[x]/\(tL H x\/∃ i,x=.int i/\¬ sZ i)/\E (.ref an) none H)
def aj5:Sp:=λvs H Q _=>ace 4 vs H Q
theorem at7 {an:Addr} (vs:aD) (H:Hp) (Q:VK) (E:XK) (h:aj5 vs H Q E):ug an 4 vs H Q E:=.inl h
theorem uU {p:Prop} (h:¬ p):(false=true)↔p:=⟨λz=>Bool.noConfusion z,λz=>absurd z h⟩
theorem Io {p:Prop} (h:p):(true=true)↔p:=⟨λ_=>h,λ_=>rfl⟩
end
section
open PySem.Spec PyProof.Rows
section
open AutoSeq1 (wpAny_loadPart')
theorem Pb:fillsNumberSlot (.type "tuple") "mul"=pure false:=PySem.fillsNumberSlot_seq (id:="tuple.__mul__") (r:=some (.builtin "tuple.__rmul__")) Gy.lookup (by k_go) F.slot_tuple_rmul.lookup (by k_go)
theorem P_:seqRepeat? (.type "tuple")=pure (some (.builtin "tuple.__mul__")):=by unfold seqRepeat?;rw [PySem.seqSlot_of (T:="tuple") (name:="__mul__") (id:="tuple.__mul__") Gy.lookup (by k_go),PySem.seqSlot_of (T:="tuple") (name:="__rmul__") (id:="tuple.__rmul__") F.slot_tuple_rmul.lookup (by k_go)];rfl
theorem Pq (a:Int) (t:Tok) (l:Addr) (items:fV) (n:Nat) (dd:jf) (sl:qX) : Meets (Builtin.«int.__rmul__» ⟨[.int a t,.ref l],[]⟩) (λ_ R s=>s.heap.get? l=some { cls:=.type "tuple",dict:=dd,data:=.seq items n,slots:=sl }/\R (.ok (.ret Value.notImplemented)) s):=.of_wp λprog w A R s h=>by
  obtain ⟨c,g,d,tk,b⟩:=s;obtain ⟨e,h⟩:=h
  wp_walk
  exact ⟨_,rfl,h⟩
theorem agF (l:Addr) (items:fV) (n:Nat) (dd:jf) (sl:qX) (x:Int) (u:Tok) (h0:items.isEmpty=false) (h1:2<=x) (h2:items.size*x.toNat<=1000) : Meets (Builtin.«tuple.__mul__» ⟨[.ref l,.int x u],[]⟩) (λ_ R s=>s.heap.get? l=some { cls:=.type "tuple",dict:=dd,data:=.seq items n,slots:=sl }/\R (.ok (.ret (.ref s.heap.objs.size))) { s with heap:=s.heap.push { cls:=.type "tuple",data:=.seq ((replicate x.toNat items).foldl (·++·) #[]) } }):=.of_wp λprog w A R s h=>by
  obtain ⟨q,g,d,tk,p⟩:=s;obtain ⟨i,h⟩:=h;have j:1<=items.size:=by
   cases e:items.size with
   |zero=>rw [Array.isEmpty_iff_size_eq_zero.mpr e] at h0;cases h0
   |succ k=>lk
  have r:x.toNat<=1000:=eU (Nat.le_mul_of_pos_left _ j) h2;have m:(items.size:Int)*x<=1000:=by
   have:((items.size*x.toNat:Nat):Int)<=1000:=by lk
   rw [Int.natCast_mul,Int.toNat_of_nonneg (by lk)] at this;exact this
  wp_walk using Dt i
  rw [bw (by simp;lk)]
  wp_walk using Dt i
  rw [bw (by simp [h0];lk)]
  wp_walk
  rw [bw (by simp [h0];lk)]
  wp_walk
  rw [bw (by lk)]
  wp_walk
  rw [bw (by unfold Builtin.Tuple.tupleTooMany;simp only [CQ,Int.not_lt];exact qJ m (by decide))];have e:(foldl (λa c=>a++c) #[] (replicate x.toNat items)).size<=1000:=by
   have z:∀ (k:Nat) (b:fV),(foldl (λa c=>a++c) b (replicate k items)).size=b.size+k*items.size:=by
    intro k;induction k with
    |zero=>intro b;simp
    |succ k o=>intro b;rw [kI,um,o,Array.size_append,Nat.succ_mul];lk
   rw [z,Kv];simpa using h2
  show wpAny _ _ (tupleExact _ >>= λv=>ret v) _ _ _;unfold tupleExact;refine aW (su ?_ (aN (by lk)));exact cB ⟨_,rfl,h⟩
inductive aqb (x:V) (y:V) (H:Hp) (Q:VK):Prop
 |mk (l:Addr) (k:Int) (xs:aD) (h1:x=.ref l) (h2:y=.int k) (h3:H l=some (.tup xs)) (h4:1<=xs.length) (h5:2<=k) (h6:xs.length*k.toNat<=1000) (h7:∀ p,H p=none->Q (.ref p) (upd H p (.tup (replicate k.toNat xs).flatten)))
def ara:R2:=λx y H Q=>aqb x y H Q
theorem aoq:dN X (binaryOp .Mult) ara:=by
 rintro aq s σ H x y v u Q I D O ⟨l,k,xs,rfl,rfl,p,h1,h2,N,q⟩;cases D;obtain ⟨t,rfl⟩:=O;obtain ⟨aM,r,C,_⟩:=I.tuple (aX (K:=X.K) p);obtain ⟨⟨R,g,S,j⟩,c,B,n,M⟩:=id C;cases B;cases M;have i:xs.length=aM.length:=r.length;have d:foldl (λm L=>m++L) #[] (replicate k.toNat aM.toArray)=(replicate k.toNat aM).flatten.toArray:=by have:=foldl_rep aM k.toNat [];rw [RB] at this;exact this
 have z:aM.toArray.isEmpty=false:=by
  cases aM with
  |nil=>rw [show xs.length=0 from i] at h1;lk
  |cons a b=>rfl
 refine Ko (T:="tuple") (U:="int") (by decide) ⟨_,c,rfl⟩ (λs'=>vq s' k t) Pb Kq xR P_ Kr.lookup (mD xR (vq s k t) Ks (Ku _ _) (Pq k t l aM.toArray n g j) ⟨c,rfl,⟨_,c,rfl⟩,mD Gy ⟨_,c,rfl⟩ Sd (Sg _ _) (agF l aM.toArray n g j k t z h2 (by rw [fL,<-i];exact N)) ⟨c,?_⟩⟩);rw [d];have J:aJ X aq σ (upd H s.heap.objs.size (.tup (replicate k.toNat xs).flatten)) { s with heap:=s.heap.push { cls:=.type "tuple",data:=.seq (replicate k.toNat aM).flatten.toArray } }:=I.laid (t':=s.toks) (λb o e=>cP _ e) (bJ _) (show dU X.prog X.w _ _ _ (.tup (replicate k.toNat xs).flatten) from ⟨by rw [Qw];exact aN (by rw [Kv];lk),_,r.rep k.toNat,oF.new _ _⟩);exact ⟨.ref _,_,J,rfl,q _ I.fresh⟩
end
end
section
open PySem.SeqAt PyProof.Rows
end
section
open PySem.Spec PyProof.Rows
def arb:R2:=λx y H Q=>∃ a b xs ys,x=.ref a/\y=.ref b/\H a=some (.tup xs)/\H b=some (.tup ys)/\xs.length+ys.length<=sizeLine/\∀ c H',aG H H'->H' c=some (.tup (xs++ys))->Q (.ref c) H'
theorem Tj:dN X (binaryOp .Add) arb:=by
 rintro aq s σ H x y v u Q I m o ⟨a,b,xs,ys,rfl,rfl,g,i,O,q⟩;by_cases r:xs=[]
 ·cases m;cases o;subst r;obtain ⟨aM,J,z,_⟩:=I.tuple (aX (K:=X.K) g);obtain ⟨c,W,p2,_⟩:=I.tuple (aX (K:=X.K) i);cases J;obtain ⟨⟨R,B,U,M⟩,l,t,n,L⟩:=id z;obtain ⟨⟨V,C,S,D⟩,d,k,n2,j⟩:=id p2;cases t;cases L;cases k;cases j;exact concat_meets ⟨_,l,rfl⟩ ⟨_,d,rfl⟩ Ug seq_tuple_add Uh Ui (Uj _ _) (tuple_addW0 a b #[] c.toArray n n2 B C M D rfl) ⟨l,d,⟨.ref b,H,I,rfl,q b H (cO _) i⟩⟩
 ·refine ac8 aq s σ H _ _ v u Q I m o ⟨a,b,xs,ys,rfl,rfl,aX g,aX i,r,O,λe=>?_,λ_ p N=>?_⟩
  ·subst e;exact q a H (cO _) (by rw [kO];exact g)
  ·exact q p _ (bM N _) aO
end
section
open PySem.SeqAt
end
section
open PySem.Spec PyProof.Rows
end
section
open PySem.SeqAt
end
section
open PySem.Spec PyProof.Rows
end
section
open PySem.SeqAt
inductive amo (vs:aD) (H:Hp) (Q:VK):Prop
 |mk (p:Addr) (h1:vs=[.ref p]) (h2:jB H p) (h3:∀ (v:V) (aj:Int) (ws:aK) (H':Hp),Kp p H H'->jB H' p->dD H' v aj ws->1<=aj->aj<=8->bC aj ws->ws.length<=40->Q v H')
def aor:=nE amo
end
section
open PySem.Spec PyProof.Rows PySem.SeqAt
section
open AutoSeq1 (wpAny_loadPart')
end
end
section
open PySem.SeqAt PyProof.Rows
end
variable {CX:qx}
section
open PySem.Spec PyProof.Rows
section
open PySem.W (CodeHd tabObj kla_fn kla_obj envX)
theorem bY.back (r:bY xs us) (h:us[i]?=some u):∃ x,xs[i]?=some x/\cC x u:=by have e:=r.length;have hi:=(gb.mp h).1;obtain ⟨x,a⟩:∃ x,xs[i]?=some x:=⟨xs[i]'(by lk),R4 (by lk)⟩;obtain ⟨d,b,c⟩:=r.get a;rw [h] at b;cases b;exact ⟨x,a,c⟩
structure yP (mg:dH) (aF:Heap) (c P:Addr):Prop where
 hd:CodeHd aF c P
 bm:aF.BuiltinsAt mg P
section
variable {c P:Addr} {body:Expr} {clos:oE}
theorem amq (I:aJ X aq σ H s) (L:yP X.mg X.aF c P) (hcode:X.env.code=.ref c) (hT:H P=some (.iy (X.env.qual++"<lambda>",(pos.line:Int),(pos.col:Int)))) (hdef:defaultsOf params X.env=([],[])) (hcl:closureFor scope X.env=pure clos) (h:∀ (f c':Addr) (pm ctv:Value) (h':Heap) (tk:Nat) (H':Hp),(H'=H\/(H c'=none/\H'=upd H c' (.own P)))->aJ X aq σ H' { s with heap:=h',toks:=tk } ->h'.get? f=some (kla_obj "<lambda>" (X.env.qual++"<lambda>") params body scope clos pm c' ctv)->h'.CodeRec (.ref c') (X.env.qual++"<lambda>")->H' c'=some (.own P)->i_ X aq H' f->Q (.ref f) { s with heap:=h',toks:=tk }) : wpAny (model X.prog X.w) A (eval (.Lambda params body scope pos) X.env) Q E s:=by
 have S:=I.hok P _ hT;obtain ⟨bm,ob,b1,b2,b3,b4,b5,b6,b7,b8⟩:=L.bm;have O:=(I.bs bm ob b5).1;have C:CodeHd s.heap c P:=L.hd.keeps I.bk;have y:s.heap.Ns mainGlobals X.mg:=I.ok.mod.glob.keeps I.bk;have hB:s.heap.BuiltinsAt X.mg P:=⟨bm,ob,b1,b2,b3,b4,O,b6,b7,b8⟩;have hgP:mainGlobals≠P:=λq=>by obtain ⟨o,es,ep,e,_⟩:=I.ok.mod.glob;have:=(I.bs _ o e).2;rw [q,hT] at this;cases this
 rcases (show s.heap.get? P=some { cls:=.none,data:=.fields #[] }\/∃ c',s.heap.get? P=some { cls:=.none,data:=.fields #[rawInt (pos.line:Int),rawInt (pos.col:Int),.ref c'] }/\H c'=some (.own P)/\s.heap.CodeRec (.ref c') (X.env.qual++"<lambda>") from S) with R|⟨c',R,N,a⟩
 ·refine PySem.W.kla_eval hdef (PySem.W.kla_makeFunction (mg:=X.mg) hcl I.ok.glob y hcode C (ps:=#[]) R trivial rfl hgP hB λc' ctv h' tk k i t a l=>?_);have j:H c'=none:=I.hok.fresh i;have U:∀ b,H b=none->b≠P:=λb n z=>by rw [z,hT] at n;cases n
  have fF:h'.objs.size≠c':=vW t;have g:s.heap.objs.size<=h'.objs.size:=eU i (Dr t);have fH:upd H c' (.own P) h'.objs.size=none:=by rw [bh fF];exact I.hok.fresh g
  have J:aJ X aq σ (upd H c' (.own P)) { s with heap:=h'.push (kla_obj "<lambda>" (X.env.qual++"<lambda>") params body scope clos ((X.mg "__name__").getD .none) c' ctv),toks:=tk }:=by
   refine I.step (g':=s.gens) (d':=s.drawn) (ch:=[]) (λ_ z=>nomatch z) (λb o _ _ _ e n=>cP _ (k b o (U b n) e)) (λb o _ _ _ e n=>⟨o.slots,cP _ (k b o (U b n) e)⟩) (λb o _ e n=>by rw [bh (fG (j9 (cJ e) i))];exact n) (λb o _ e=>?_) (λb xs e=>by rw [bh (cH e j)];exact e) (λb o u e=>by rw [bh (cH e j)];exact e) (λb ps e=>⟨by rw [bh (cH e j)];exact e,λd o D x=>⟨by rw [bh (cH D j)];exact D,cP _ (k d o (λz=>by rw [z,hT] at D;cases D) x)⟩⟩) (λm hm=>?_) (λb u e=>?_) I.bare
   ·by_cases p:b=P
    ·subst p;exact ⟨_,cP _ l⟩
    ·exact ⟨o,cP _ (k b o p e)⟩
   ·obtain ⟨o,es,ep,ho,r⟩:=hm;exact ⟨o,es,ep,cP _ (k _ o (U _ I.free) ho),r⟩
   ·by_cases p:b=c'
    ·subst p;rw [aO] at e;cases e;obtain ⟨_,oc,_,_,ec,V,_⟩:=a;cases ec;exact ⟨oc,cP _ V⟩
    ·rw [bh p] at e;by_cases B:b=P
     ·subst B;rw [hT] at e;cases e;exact .inr ⟨c',cP _ l,aO,a.push _⟩
     ·refine (I.hok b u e).stay (λM v Y q=>cP _ (k M v ?_ q)) (λM q=>by rw [bh (cH q j)];exact q) λM xs q=>by rw [bh (cH q j)];exact q
      rcases Y with rfl|z
      ·exact B
      ·rintro rfl;rw [hT] at z;cases z
  exact h h'.objs.size c' _ ctv _ tk _ (.inr ⟨j,rfl⟩) J (eV _ rfl) (a.push _) aO (I.m8 g fH)
 ·refine PySem.W.kla_eval hdef (PySem.W.kla_makeFunctionHit (mg:=X.mg) (cv:=.ref c') hcl I.ok.glob y hcode C (ps:=#[rawInt (pos.line:Int),rawInt (pos.col:Int),.ref c']) R (by exact trivial) (by simp [codeAmong,rawInt]) hB λctv h' tk hk g=>?_);have fH:H h'.objs.size=none:=I.hok.fresh g;exact h h'.objs.size c' _ ctv _ tk _ (.inl rfl) (I.kept λb u e=>cP _ (hk b u e)) (eV _ rfl) ((a.keeps hk).push _) N (I.m8 g fH)
end
def Ht (X:Cx) (A:Around) (N:bR) (qual:Str) (scope:Scope) (f:Addr) (cd:Value) (cl:oE) (s:Shared) (H:Hp):Cx :=
 { X with A:=A.deeper (envX qual scope s.heap.objs.size f cd cl),N:=N,s₀:=s,H₀:=H,env:=envX qual scope s.heap.objs.size f cd cl,outer:=X.stack,stack:=envX qual scope s.heap.objs.size f cd cl::X.stack,ex:=[],fn:=λ_=>false,calm:=true,pn:=[],xe:=λ_ _=>False }
structure afl (scope:Scope) (x y:Str):Prop where
 kind:scope.kind=.function
 co:scope.isCoroutine=false
 gen:scope.isGenerator=false
 cell:∀ p∈scope.names,p.2≠.cell
 hx:scope.names.lookup x=some .local
 hy:scope.names.lookup y=some .free
 only:∀ p∈scope.names,p.2=.free->p.1=y
section
variable {body:Expr} {y:Str} {j:Nat} {c' cy P:Addr} {ctv:Value} {wv:V} {tb:TE} {Q:VK} {q:jE}
theorem amr (I:aJ X aq σ H s) (hA:A.frames=some X.stack) (hh:A.handled=none) (hroom:A.depth<recursionLimit) (LS:afl scope x y) (ho:s.heap.get? f=some (kla_obj "<lambda>" qual params body scope [(y,cy)] pm c' ctv)) (hcd:s.heap.CodeRec (.ref c') qual) (hT:H P=some (.iy q)) (hc':H c'=some (.own P)) (hb:bindArgs (kla_fn "<lambda>" qual params body scope [(y,cy)] pm (.ref c') ctv) ⟨[u],[]⟩=pure [(x,u)]) (hcy:X.env.cells.lookup y=some cy) (hk:X.env.kindOf y=some .cell) (hj:X.N[j]?=some y) (hσ:σ[j]?=some (some wv)) (ru:cC v u) (hp:PE (Ht X A [x,y] qual scope f (.ref c') [(y,cy)] s H) body tb) (hq:tb [some v,some wv] H Q) : wpAny (model X.prog X.w) A (call (.ref f) [u]) (λr s'=>∃ v' H',aJ X aq σ H' s'/\cC v' r/\Q v' H'/\s'.heap.CodeRec (.ref c') qual/\H' P=some (.iy q)/\H' c'=some (.own P)) (λ_ _=>False) s:=by
 refine Ak (PySem.W.kla_callFunE hroom ho rfl LS.co LS.gen rfl hcd ?_);rw [hb];refine cB (wpAny_newFunctionEnv LS.cell (λp hp=>by rw [iu.mp hp];exact LS.hx) (λU R k=>⟨I.nolimit.fresh _ k,?_⟩) LS.kind);have g:∀ b o,s.heap.get? b=some o->U.get? b=some o:=λb o e=>k.extBut b o (fG (cJ e)) (cP _ e);show codeAny _ _ (.expr body (envX qual scope s.heap.objs.size f (.ref c') [(y,cy)])) _ _;have look:∀ z c,([(y,cy)]:oE).lookup z=some c->z=y/\c=cy:=λz c e=>by
  rw [vA] at e;cases d:z == y with
  |true=>rw [d] at e;cases e;exact ⟨eq_of_beq d,rfl⟩
  |false=>rw [d] at e;cases e
 have n:([(y,cy)]:oE).lookup y=some cy:=by rw [vA,beq_self_eq_true]
 have S:∀ b:Addr,b∉(Ht X A [x,y] qual scope f (.ref c') [(y,cy)] s H).ex:=λb z=>absurd (show b∈([]:jq) from z) (by simp);have J:aJ (Ht X A [x,y] qual scope f (.ref c') [(y,cy)] s H) [] [some v,some wv] H { s with heap:=U,toks:=s.toks+1 }:=by
  refine ⟨⟨I.ok.mod,LS.kind,rfl,rfl,bJ _,λa b c h1 h2=>(look a c h1).1.trans (look b c h2).1.symm,λz d=>?_,λ_ _ d=>(nomatch d),λ_=>hh,Around.frames_deeper hA,.inr ⟨rfl,rfl⟩,λb z=>absurd z (S b),I.bs,eU I.ok.tV I.sz,λb _ _=>S b,λb z=>absurd z (S b),I.stack,I.Di⟩,
   rfl,I.bare,Un.kept g,⟨_,R,λi z v' e1 e2 e3=>?_⟩,λz c h=>?_,I.hok.fresh (bJ _),λz c h=>?_,λp hp=>absurd (show p∈([]:List (Addr×Obj)) from hp) (by simp),I.hok.kept g,rfl⟩
  ·have d:scope.names.lookup z=some .cell\/scope.names.lookup z=some .free:=d;rcases d with d|d
   ·exact absurd rfl (LS.cell _ (Ao d))
   ·have:=LS.only _ (Ao d) rfl;subst this;exact ⟨cy,n⟩
  ·match i,e1,e2 with
   |0,e1,e2 =>cases e1;cases e2;exact ⟨u,ru,.inl ⟨LS.hx,by show List.lookup _ [(_,u)]=_;rw [vA,beq_self_eq_true]⟩⟩
   |1,e1,e2 =>
    cases e1;cases e2;obtain ⟨m,_,hl⟩:=I.loc;obtain ⟨Y,r',l⟩:=hl j y wv hj hσ (.inr (.inl hk));rcases l with ⟨V,_⟩|⟨_,c,C,o,hc,M⟩
    ·rw [hk] at V;cases V
    ·rw [hcy] at C;cases C;exact ⟨Y,r',.inr ⟨.inr LS.hy,cy,n,o,g _ _ hc,M⟩⟩
   |i+2,e1,e2=>exact absurd e1 (by simp [Ht])
  ·obtain ⟨rfl,rfl⟩:=look z c h;obtain ⟨w',o,O,M⟩:=I.cell z c hcy;exact ⟨w',o,g _ _ O,M⟩
  ·obtain ⟨rfl,rfl⟩:=look z c h;exact I.m5 z c hcy
 refine PySem.W.kla_codeExpr (jc (hp [] _ _ H _ J hq) (λY s' hs=>?_) (λe s' hf=>elim hf));obtain ⟨v',H',B,rv,q'⟩:=hs;obtain ⟨t1,t2⟩:=B.aF.iw P q hT;obtain ⟨c0,oc,vs,t,C,L,rest⟩:=hcd;cases C;obtain ⟨t3,t4⟩:=t2 c' oc hc' L;obtain ⟨v2,H2,I2,r2,D⟩:=I.after (Q:=λv H=>v=v'/\H=H'/\Q v H) ⟨v',H',B.os,B.bare,B.aF,B.hok,rv,rfl,rfl,q'⟩;obtain ⟨rfl,rfl,D⟩:=D;exact ⟨_,_,I2,r2,D,⟨c',oc,vs,t,rfl,t4,rest⟩,t1,t3⟩
end
section
variable {rows:aD} {q S It:Addr} {J:Hp->Heap->Prop} {kf:Nat->Int}
theorem aJ.moved {b:Addr} (I:aJ X aq σ H s) (fp:i_ X aq H b) (k:∀ d o,d≠b->s.heap.get? d=some o->h'.get? d=some o):aJ X aq σ H { s with heap:=h',toks:=t' }:=I.turned (it:=b) k fp.1 fp.2.1 fp.2.2.2.1 fp.2.2.2.2.1 fp.2.2.2.2.2
def aeT (X:Cx) (aq:List (Addr×Obj)) (σ:St) (rows:aD) (q:Addr) (J:Hp->Heap->Prop) (kf:Nat->Int):Prop :=
 ∀ (i:Nat) (v:V) (u:Value) (s:Shared) (H:Hp) (own:List (Addr×Obj)),rows[i]?=some v->cC v u->J H s.heap->aJ X (aq++own) σ H s ->
  wpAny (model X.prog X.w) X.A.in1 (call (.ref q) [u]) (λr s'=>∃ t H',r=.int (kf i) t/\J H' s'.heap/\aJ X (aq++own) σ H' s') (λ_ _=>False) s
theorem i_.later {b:Addr} (f:i_ X aq H b) (h:H' b=none):i_ X aq H' b:=⟨h,f.2⟩
theorem aa2 (T:String) (aM:fV) (n:Nat):∀ v,(seqObj T aM n).data≠.cell v:=λv e=>by cases e
theorem ams (hh:X.A.handled=none) (hlist:∀ H h,J H h->dB X.K H l rows) (hJ:∀ H h h',J H h->(∀ b o,H b≠none->h.get? b=some o->h'.get? b=some o)->J H h') (hlI:l≠It) (hSI:S≠It) (turn:aeT X aq σ rows q J kf) (hR:∀ i v u s H,rows[i]?=some v->cC v u->J H s.heap->(∀ j,j<rows.length->kf i>=kf j/\(j<i->kf i>kf j))->aJ X aq σ H s->R (.ok (.ret u)) s) : ∀ (r j i:Nat) (s:Shared) (H:Hp) (vb:Value) (tb:Tok) (c:Nat),rows.length-(j+1)=r->j+1<=rows.length->aJ X aq σ H s->J H s.heap->i_ X aq H It->i_ X aq H S ->s.heap.get? S=some (seqObj "list" #[vb,.int (kf i) tb] c)->s.heap.IsListIter It l (j+1)->(∃ v,rows[i]?=some v/\cC v vb)->i<=j->(∀ j',j'<=j->kf i>=kf j'/\(j'<i->kf i>kf j')) ->codeAny (model X.prog X.w) X.A (.builtin "max.loop" ⟨[.ref It,.ref q,.ref S],[]⟩) R s:=by
 have k:(toString "max"++toString ".loop":String)="max.loop":=by decide
 have jA:∀ {H:Hp} {b:Addr},i_ X aq H b->∀ d,H d≠none->d≠b:=λf d n z=>n (by rw [z];exact f.1);intro r;induction r with
 |zero =>
  intro j i s H vb tb c hr hj I g B O hS mK V hij a;obtain ⟨v0,hv0,rv0⟩:=V;have hin:j+1=rows.length:=by lk
  obtain ⟨aM,rv,pl,hz⟩:=I.list (hlist _ _ g);have hl:=rv.length;have W:=Gv (prog:=X.prog) (w:=X.w) (A:=X.A.in1) hh It l hlI aM.toArray;refine vB Sh ?_;rw [xV zY _];show wpAny _ X.A.in1 (seqItems? (.ref S) >>= _) _ _ _;refine aW (oW hS rfl ?_);show wpAny _ X.A.in1 (tryCatch (pyNext (.ref It)) _ >>= _) _ _ _;refine aW (sE (W.done _ _ _ ⟨by rw [fL,<-hl,<-hin];exact mK,pl.isList⟩ λh' m D=>?_));have k1:∀ d o,d≠It->s.heap.get? d=some o->h'.get? d=some o:=λd o M e=>D d o (by simpa using M) e;have I1:=I.moved (h':=h') (t':=m) B k1;have hS':=k1 S _ hSI hS;have s1:=Gw h' S (mapSeq λ_=>(#[]:fV));show wpAny _ X.A.in1 (updateSeq S (λ_=>#[]) >>= _) _ _ _;refine aW (CK hS' rfl (aW (sG (cB ?_))));have k2:∀ d o,d≠S->h'.get? d=some o->(h'.update S (mapSeq λ_=>(#[]:fV))).get? d=some o:=λd o M e=>(s1.2 d M).trans e;refine hR i v0 vb _ H hv0 rv0 (hJ _ _ _ g λb o n e=>k2 b o (jA O b n) (k1 b o (jA B b n) e)) (λj' hj'=>a j' (by lk)) (I1.moved O k2)
 |succ r ih =>
  intro j i s H vb tb c hr hj I g B O hS mK V hij a;have L:j+1<rows.length:=by lk
  obtain ⟨aM,rv,pl,hz⟩:=I.list (hlist _ _ g);have hl:=rv.length;have W:=Gv (prog:=X.prog) (w:=X.w) (A:=X.A.in1) hh It l hlI aM.toArray;refine vB Sh ?_;rw [xV zY _];show wpAny _ X.A.in1 (seqItems? (.ref S) >>= _) _ _ _;refine aW (oW hS rfl ?_);show wpAny _ X.A.in1 (tryCatch (pyNext (.ref It)) _ >>= _) _ _ _;refine aW (sE (W.item (j+1) _ _ _ (by rw [fL,<-hl];exact L) ⟨mK,pl.isList⟩ λv h' m hP hst' D=>?_));have hv:aM[j+1]?=some v:=by simpa using hP
  obtain ⟨v1,hv1,Ip⟩:=rv.back hv;have k1:∀ d o,d≠It->s.heap.get? d=some o->h'.get? d=some o:=λd o M e=>D d o (by simpa using M) e;have I1:=I.moved (h':=h') (t':=m) B k1;obtain ⟨C,hoI',hoc,U⟩:=id hst'.1;have hS':=k1 S _ hSI hS;have I2:aJ X (aq++[(S,seqObj "list" #[vb,.int (kf i) tb] c),(It,C)]) σ H { s with heap:=h',toks:=m }:=I1.GF λp N=>by
   rcases o9.mp N with N|N
   ·exact I1.pin p (iW _ N)
   ·rcases gn.mp N with rfl|N
    ·exact ⟨hS',O.1,O.2.1,O.2.2.1,aa2 _ _ _⟩
    ·rw [iu.mp N];exact ⟨hoI',B.1,B.2.1,B.2.2.1,λv e=>by rw [U] at e;cases e⟩
  show wpAny _ X.A.in1 (tryCatch (holding [v] (call (.ref q) [v])) _ >>= _) _ _ _;refine aW (sE (mX (jc (turn (j+1) v1 v _ H _ hv1 Ip (hJ _ _ _ g λb o n e=>k1 b o (jA B b n) e) I2) (λx Y he=>?_) λ_ _ hF=>hF.elim)));obtain ⟨y,H2,rfl,Ew,J2⟩:=he;have pS:=J2.pin (S,seqObj "list" #[vb,.int (kf i) tb] c) (iW _ (iW _ (.head _)));have pI:=J2.pin (It,C) (iW _ (iW _ (.tail _ (.head _))));have J3:aJ X aq σ H2 Y:=J2.xO;have zp:=O.later pS.2.1;have N6:=B.later pI.2.1;have hit2:Y.heap.IsListIter It l (j+1+1):=⟨C,pI.1,hoc,U⟩;show wpAny _ X.A.in1 (tryCatch (holding [v,.int (kf (j+1)) y] (richCompare .Gt (.int (kf (j+1)) y) (.int (kf i) tb) >>= _)) _ >>= _) _ _ _;refine aW (sE (mX (aW (CmpOf.ints_gt (prog:=X.prog) (w:=X.w) (A:=X.A.in1) (P:=λi v=>∃ t,v=.int (kf i) t) kf (λi v h=>h) (j+1) i _ _ _ _ _ ⟨y,rfl⟩ ⟨tb,rfl⟩ (aW (mX (pZ (aW (sG (cB ?_))))))))));by_cases hb':kf (j+1)>kf i
  ·have s1:=Gw Y.heap S (mapSeq λ_=>#[v,.int (kf (j+1)) y]);obtain ⟨c2,hc2⟩:∃ c2,(Y.heap.update S (mapSeq λ_=>#[v,.int (kf (j+1)) y])).get? S=some (seqObj "list" #[v,.int (kf (j+1)) y] c2):=⟨_,get?_update_seq pS.1 λ_=>#[v,.int (kf (j+1)) y]⟩;have k3:∀ d o,d≠S->Y.heap.get? d=some o->(Y.heap.update S (mapSeq λ_=>#[v,.int (kf (j+1)) y])).get? d=some o:=λd o M e=>(s1.2 d M).trans e;simp only [hb',decide_true,rZ];refine aW (CK pS.1 rfl (aW (sG ?_)));rw [k];refine cB ⟨vC zY _,ih (j+1) (j+1) _ H2 v y c2 (by lk) L (J3.moved (t':=Y.toks) zp k3) (hJ _ _ _ Ew λb o n e=>k3 b o (jA zp b n) e) N6 zp hc2 ⟨C,k3 It _ hSI.symm pI.1,hoc,U⟩ ⟨v1,hv1,Ip⟩ (bJ _) λj' hj'=>?_⟩;by_cases e:j'=j+1
   ·subst e;exact ⟨by lk, λ_=>by lk⟩
   ·have hb1:=a j' (by lk);have hb2:=hb1.1;exact ⟨by lk, λ_=>by lk⟩
  ·simp only [hb',decide_false,Bool.false_eq_true,Ar];refine aW (sG ?_);rw [k];refine cB ⟨vC zY _,ih (j+1) i _ H2 vb tb c (by lk) L J3 Ew N6 zp pS.1 hit2 V (by lk) λj' hj'=>?_⟩;by_cases e:j'=j+1
   ·subst e;exact ⟨by lk, λ_=>by lk⟩
   ·exact a j' (by lk)
theorem aos (hh:X.A.handled=none) (hlist:∀ H h,J H h->dB X.K H l rows) (hJ:∀ H h h',J H h->(∀ b o,H b≠none->h.get? b=some o->h'.get? b=some o)->J H h') (turn:aeT X aq σ rows q J kf) (I:aJ X aq σ H s) (hJ0:J H s.heap) (hne:0<rows.length) (hQ:∀ i v u s H,rows[i]?=some v->cC v u->J H s.heap->(∀ j,j<rows.length->kf i>=kf j/\(j<i->kf i>kf j))->aJ X aq σ H s->Q u s) : wpAny (model X.prog X.w) X.A (call (.builtin "max") [.ref l] [(ofString "key",.ref q)]) Q E s:=by
 have a:(toString "max"++toString ".loop":String)="max.loop":=by decide
 obtain ⟨aM,rv,pl,hz⟩:=I.list (hlist _ _ hJ0);have hl:=rv.length;have k:=pl.isList;obtain ⟨ol,hol,_⟩:=id k;have hll:l<s.heap.objs.size:=cJ hol;refine kmk_tree PySem.F.kind_max PySem.F.plain_max PySem.F.entry_max (kmk_max_key _ _) ?_;show wpAny _ X.A.in1 (bindParams "max" ["key","default"] 0 ⟨[],[(ofString "key",.ref q)]⟩ >>= _) _ _ s;refine aW (wpAny_of_eq (show bindParams "max" ["key","default"] 0 ⟨[],[(ofString "key",.ref q)]⟩=pure [some (.ref q),none] from rfl) (aW (cB (aW (Ds k (aW (wpAny_newList ?_ (d_ _))))))));rw [a];generalize W0:s.heap.objs.size=It;generalize hg:s.heap.push { cls:=.type "list_iterator",data:=.fields #[.ref l,.int 0 0] }=g;have hS:g.objs.size=It+1:=by rw [<-hg,<-W0];exact size_push' ..
 generalize Y:g.objs.size=S at hS;have D:l≠It:=by rw [<-W0];exact fG hll
 have m:S≠It:=by lk
 have gI:(g.push (seqObj "list" #[] 0)).get? It=some { cls:=.type "list_iterator",data:=.fields #[.ref l,.int 0 0] }:=by rw [<-hg,<-W0];exact cP _ (eV _ rfl)
 have gS:(g.push (seqObj "list" #[] 0)).get? S=some (seqObj "list" #[] 0):=by rw [<-Y];exact eV _ rfl
 have kg:∀ d o,s.heap.get? d=some o->(g.push (seqObj "list" #[] 0)).get? d=some o:=λd o e=>by rw [<-hg];exact cP _ (cP _ e)
 have C:i_ X aq H It:=I.m8 (by lk) (I.hok.fresh (by lk));have U:i_ X aq H S:=I.m8 (by lk) (I.hok.fresh (by lk));have jA:∀ {H:Hp} {b:Addr},i_ X aq H b->∀ d,H d≠none->d≠b:=λf d n z=>n (by rw [z];exact f.1);have I0:aJ X aq σ H { s with heap:=g.push (seqObj "list" #[] 0) }:=I.kept (t':=s.toks) kg;refine cB ⟨vC zY _,?_⟩;have W:=Gv (prog:=X.prog) (w:=X.w) (A:=X.A.in1) hh It l D aM.toArray;refine vB Sh ?_;rw [xV zY _];show wpAny _ X.A.in1 (seqItems? (.ref S) >>= _) _ _ _;refine aW (oW gS rfl ?_);show wpAny _ X.A.in1 (tryCatch (pyNext (.ref It)) _ >>= _) _ _ _;refine aW (sE (W.item 0 _ _ _ (by rw [fL,<-hl];exact hne) ⟨⟨_,gI,rfl,rfl⟩,let ⟨o,e,r⟩:=k;⟨o,kg _ _ e,r⟩⟩ λv h' O hP L V=>?_));have hv:aM[0]?=some v:=by simpa using hP
 obtain ⟨v1,N,Ip⟩:=rv.back hv;have k1:∀ d o,d≠It->(g.push (seqObj "list" #[] 0)).get? d=some o->h'.get? d=some o:=λd o hd e=>V d o (by simpa using hd) e;have I1:=I0.moved (h':=h') (t':=O) C k1;obtain ⟨y,R,hoc,M⟩:=id L.1;have hS':=k1 S _ m gS;have I2:aJ X (aq++[(S,seqObj "list" #[] 0),(It,y)]) σ H { s with heap:=h',toks:=O }:=I1.GF λp c=>by
  rcases o9.mp c with c|c
  ·exact I1.pin p (iW _ c)
  ·rcases gn.mp c with rfl|c
   ·exact ⟨hS',U.1,U.2.1,U.2.2.1,aa2 _ _ _⟩
   ·rw [iu.mp c];exact ⟨R,C.1,C.2.1,C.2.2.1,λv e=>by rw [M] at e;cases e⟩
 show wpAny _ X.A.in1 (tryCatch (holding [v] (call (.ref q) [v])) _ >>= _) _ _ _;refine aW (sE (mX (jc (turn 0 v1 v _ H _ N Ip (hJ _ _ _ hJ0 λb o n e=>k1 b o (jA C b n) (kg b o e)) I2) (λx B he=>?_) λ_ _ hF=>hF.elim)));obtain ⟨t,H2,rfl,Ew,J2⟩:=he;have pS:=J2.pin (S,seqObj "list" #[] 0) (iW _ (iW _ (.head _)));have pI:=J2.pin (It,y) (iW _ (iW _ (.tail _ (.head _))));have J3:aJ X aq σ H2 B:=J2.xO;have zp:=U.later pS.2.1;have N6:=C.later pI.2.1;have s1:=Gw B.heap S (mapSeq λ_=>#[v,.int (kf 0) t]);obtain ⟨c2,hc2⟩:∃ c2,(B.heap.update S (mapSeq λ_=>#[v,.int (kf 0) t])).get? S=some (seqObj "list" #[v,.int (kf 0) t] c2):=⟨_,get?_update_seq pS.1 λ_=>#[v,.int (kf 0) t]⟩;have k3:∀ d o,d≠S->B.heap.get? d=some o->(B.heap.update S (mapSeq λ_=>#[v,.int (kf 0) t])).get? d=some o:=λd o hd e=>(s1.2 d hd).trans e;show wpAny _ X.A.in1 (updateSeq S (λ_=>#[v,.int (kf 0) t]) >>= _) _ _ _;refine aW (CK pS.1 rfl ?_);rw [a];refine cB ⟨vC zY _,ams hh hlist hJ D m turn hQ _ 0 0 _ H2 v t c2 rfl hne (J3.moved (t':=B.toks) zp k3) (hJ _ _ _ Ew λb o n e=>k3 b o (jA zp b n) e) N6 zp hc2 ⟨y,k3 It _ m.symm pI.1,hoc,M⟩ ⟨v1,N,Ip⟩ (bJ _) λj' hj'=>?_⟩;have e:j'=0:=by lk
 subst e;exact ⟨by lk, λh=>absurd h (qP _)⟩
end
inductive Vm (K:bI) (P:Addr) (q:jE) (j:Nat) (tb:TE) (σ:St) (v:V) (H1:Hp) (Q:VK):Prop
 |mk (p:Addr) (rows:aD) (wv:V) (J:Hp->Prop) (kf:Nat->Int) (h1:v=.ref p) (h2:H1 P=some (.iy q)) (h3:σ[j]?=some (some wv)) (h4:0<rows.length) (h5:J H1) (h5':∀ c,H1 c=none->J (upd H1 c (.own P))) (h6:∀ H,J H->dB K H p rows)
   (h7:∀ i r H,rows[i]?=some r->J H->tb [some r,some wv] H (λu H'=>u=.int (kf i)/\J H')) (h8:∀ i r H,rows[i]?=some r->J H->(∀ k,k<rows.length->kf i>=kf k/\(k<i->kf i>kf k))->Q r H)
def aot (K:bI) (P:Addr) (q:jE) (j:Nat) (te tb:TE):TE:=λσ H Q=>te σ H λv H1=>Vm K P q j tb σ v H1 Q
theorem aj6 {c P cy:Addr} {j:Nat} {tb:TE} {rD kp:Pos} {body:Expr} {y:Str} (L:yP X.mg X.aF c P) (hcode:X.env.code=.ref c) (hcalm:X.calm=true) (hroom:X.A.depth<recursionLimit) (hg:Gl X "max") (hm:X.mg "max"=none) (he:PE X e te) (hj:X.N[j]?=some y) (LS:afl scope x y) (hk:X.env.kindOf y=some .cell) (hcy:X.env.cells.lookup y=some cy) (hcl:closureFor scope X.env=pure [(y,cy)]) (hdef:defaultsOf params X.env=([],[])) (hb:∀ (qual:Str) (cl:oE) (pm cd ctv u:Value),bindArgs (kla_fn "<lambda>" qual params body scope cl pm cd ctv) ⟨[u],[]⟩=pure [(x,u)]) (hbody:∀ (f:Addr) (cd:Value) (s:Shared) (H:Hp),PE (Ht X X.A.in1 [x,y] (X.env.qual++"<lambda>") scope f cd [(y,cy)] s H) body tb) (hs:starEach [e] X.env=(false,eval e X.env)::starEach [] X.env:=by rfl) : PE X (.Call (.Name "max" p) [e] [⟨some "key",.Lambda params body scope rD,kp⟩] pos) (aot X.K P (X.env.qual++"<lambda>",(rD.line:Int),(rD.col:Int)) j te tb):=by
 intro aq s σ H Q I h;refine Al (sV I hg hm boot_max ?_ (by decide) (by decide));have U:PA X [e] (yC te Bd):=ak he au hs;refine callWith_kw (he:=by rw [hs];rfl) (hplain:=by rw [hs];rfl) (bH (U pos aq s σ H (λxs H2=>match xs with|[v]=>Vm X.K P (X.env.qual++"<lambda>",(rD.line:Int),(rD.col:Int)) j tb σ v H2 Q|_=>False) I h) λus s1 ⟨vs,H1,I1,r,q⟩=>?_)
 match vs,q,r with
 |[v],q,r =>
  obtain ⟨u,rfl,d⟩:=r.one;obtain ⟨l,rows,wv,J,kf,rfl,m,hσ,V,M,Ew,hl,a,hq⟩:=(show Vm X.K P (X.env.qual++"<lambda>",(rD.line:Int),(rD.col:Int)) j tb σ v H1 Q from q);cases d;show wpAny _ _ (evalAll [(do let v <-eval (.Lambda params body scope rD) X.env;standAt pos;pure v)]) _ _ _;refine wpAny_evalAll_cons (aW (amq I1 L hcode m hdef hcl λf c' pm ctv h' tk H' W Y R S D fp=>aW (Ma (cB (wpAny_evalAll_nil ?_)))));show wpAny _ _ (call (.builtin "max") [.ref l] [(ofString "key",.ref f)]) _ _ _;have C:J H':=by
   rcases W with rfl|⟨n,rfl⟩
   ·exact M
   ·exact Ew c' n
  have O:H' P=some (.iy (X.env.qual++"<lambda>",(rD.line:Int),(rD.col:Int))):=by
   rcases W with rfl|⟨n,rfl⟩
   ·exact m
   ·rw [bh (cH m n)];exact m
  have I3:aJ X (aq++[(f,kla_obj "<lambda>" (X.env.qual++"<lambda>") params body scope [(y,cy)] pm c' ctv)]) σ H' { s1 with heap:=h',toks:=tk }:=Y.GF λp g=>by
   rcases o9.mp g with g|g
   ·exact Y.pin p (iW _ g)
   ·rw [iu.mp g];exact ⟨R,fp.1,fp.2.1,fp.2.2.1,λv e=>by cases e⟩
  refine aos (J:=λH h=>J H/\h.CodeRec (.ref c') (X.env.qual++"<lambda>")/\H P=some (.iy (X.env.qual++"<lambda>",(rD.line:Int),(rD.col:Int)))/\H c'=some (.own P)) (kf:=kf) (I.ok.hd hcalm) (λH h z=>hl H z.1) (λH h h' z k=>⟨z.1,?_,z.2.2⟩) (λi v u s H own hi d z B=>?_) I3 ⟨C,S,O,D⟩ V (λi v u s H hi d z b B=>⟨v,H,B.xO,d,hq i v H hi z.1 b⟩)
  ·obtain ⟨c0,o,vs,t,e,R,r⟩:=z.2.1;cases e;exact ⟨_,o,vs,t,rfl,k _ o (by rw [z.2.2.2];simp) R,r⟩
  ·have pf:=B.pin (f,kla_obj "<lambda>" (X.env.qual++"<lambda>") params body scope [(y,cy)] pm c' ctv) (iW _ (Ag _ (iW _ (.head _))));refine jc (amr (A:=X.A.in1) B I.ok.frames (I.ok.hd hcalm) hroom LS pf.1 z.2.1 z.2.2.1 z.2.2.2 (hb _ _ _ _ _ _) hcy hk hj hσ d (hbody f (.ref c') s H) (a i v H hi z.1)) (λr s' he=>?_) λ_ _ h=>h;obtain ⟨v',H',I5,rv,⟨rfl,j5⟩,cr,t1,t2⟩:=he;obtain ⟨t,rfl⟩:=rv;exact ⟨t,H',rfl,⟨j5,cr,t1,t2⟩,I5⟩
theorem tX.okC {k:Nat} (F:tX K x qual st f fd) (S:mF N ps (dX st)) (len:∀ vs H Q E,sp vs H Q E->vs.length=ps.length) (hbody:∀ (cdv:Value) (A:Around) (outer:mY) (s:Shared) (H:Hp) (vs:aD) (Q:VK) (E:XK),fd.code=cdv->dW k (A.deeper (envOfC qual (dX st) s.heap.objs.size f cdv))->sp vs H Q E ->∃ t,mR (XC P w K mg aF N qual (dX st) f cdv A outer s H E) (jk st) t/\t { nx:=λ_ H'=>Q .non H',rt:=Q } (start N vs) H):dz P w K mg aF (lF P w) (k+1) f fd ps sp:=by obtain ⟨oc,od,kV,c,pm,an,cdv,ct,osl,rfl,d,a⟩:=F.ex;exact Vc d a S len λA outer s H vs Q E hr b=>hbody cdv A outer s H vs Q E rfl hr b
def Vn (ns:aU) (m:Int):Prop:=m∈ns/\∀ a∈ns,m<=a
inductive ahA (K:bI) (xs:aD) (H:Hp) (Q:VK):Prop
 |mk (p:Addr) (ns:aU) (h1:xs=[.ref p]) (h2:dB K H p (ns.map V.int)) (h3:ns≠[]) (h4:∀ m,Vn ns m->Q (.int m) H)
theorem aj7 (hc:X.calm=true):iZ X (.builtin "min") (ahA X.K):=by
 rintro aq s σ H xs us Q I r ⟨p,ns,rfl,n,x,q⟩;obtain ⟨u,rfl,i⟩:=r.one;cases i;obtain ⟨aM,l,pl,B⟩:=I.list n;have hi:IntsAre aM ns:=intsAre_of l;have pos:0<ns.length:=CP.mpr x;have b:=pl.isList;obtain ⟨ys,e⟩:=hi.allInts.items;have c:ns=ys.toList.map (·.1):=by rw [<-hi.numsOf,<-nums_intItems,<-e]
 have y:ns.length=ys.size:=by rw [c];simp
 rw [e] at b;refine min_intList (I.ok.hd hc) b (by lk) λv h' tk m o=>?_;obtain ⟨t,rfl⟩:=intItems_at m;obtain ⟨z,g⟩:=argBest_lt (numAt ys) (ys.size-1);refine ⟨.int _,H,I.kept (t':=tk) o,⟨t,rfl⟩,q _ ⟨?_,λa d=>?_⟩⟩
 ·rw [c,numAt_eq];exact getD_mem (by rw [bD];rw [sS];lk)
 ·rw [c] at d;obtain ⟨j,k,rfl⟩:=mem_getD d;rw [<-numAt_eq];exact g j (by simp at k;lk)
theorem aj8 {mb:dH} {k:Nat} {fa c T:Addr} {q:jE} {s₁:Shared} (KX:K.In s₁.heap) (hns:s₁.heap.Ns mainGlobals mg) (hb:s₁.heap.Ns builtinsNs mb) (hbb:∀ x:Str,x≠"__name__"->mb x=bootBuiltins x) (hlim:s₁.heap.NoLimit) (hg:s₁.gens=#[]) (hC:CodeHd s₁.heap c T) (hTb:s₁.heap.get? T=some (tabObj #[])) (W_:K.lookup T=none) (hbm:s₁.heap.BuiltinsAt mg T) (ha:s₁.heap.get? a=some { cls:=.type "list",data:=.seq vs.toArray }) (hi:IntsAre vs ns) (hl:ns.length<=sizeLine) (hr:dW k callerA) (F:∀ aF:Heap,K.In aF->aF.Ns mainGlobals mg->yP mg aF c T->dz P w K mg aF CX k fa fd [x] sp) (hbind:∀ (s:Shared) (u:Value),BindsTo s fd ⟨[u],[]⟩ [(x,u)]) (hsp:∀ H:Hp,H T=some (.iy q)->dB K H a (ns.map V.int)->sp [.ref a] H (λv _=>v=.bl true) λ_ _ _=>False) (Xa:∀ H e s',CX [] H s₁ (λ_ _ _=>False) e s'->False) : codeAny (model P w) callerA (.call (.ref fa) ⟨[.ref a],[]⟩) (λr s'=>r=.ok (.ret (.bool true))/\OldK s₁.heap s'.heap/\s'.os=s₁.os/\AllBare s'.gens) s₁:=by
 have rv:=JL hi;have D:=hi.length;have aT:a≠T:=λz=>by rw [z,hTb] at ha;cases ha
 have p:∀ H:Hp,H T=some (.iy q)->dB K H a (ns.map V.int)->gU P w H s₁.heap->(∀ b,H b≠none->b=a\/b=T)->(H a=none\/(H a=some (.oK { cls:=.type "list",data:=.seq vs.toArray } (.lst (ns.map V.int)))/\K.lookup a=none)) ->codeAny (model P w) callerA (.call (.ref fa) ⟨[.ref a],[]⟩) (λr s'=>r=.ok (.ret (.bool true))/\OldK s₁.heap s'.heap/\s'.os=s₁.os/\AllBare s'.gens) s₁:=by
  intro H O hS Y hA L;have S:∀ {b:Addr} {o:Obj},s₁.heap.get? b=some o->H b=none->(uH s₁.heap H).get? b=some o:=λe n=>ald e n;have none_of:∀ {b:Addr} {o:Obj},s₁.heap.get? b=some o->o≠{ cls:=.type "list",data:=.seq vs.toArray }->o≠tabObj #[]->H b=none:=λ{b o} e n1 n2=>by
   cases l:H b with
   |none=>rfl
   |some u =>
    rcases hA b (by rw [l];simp) with e'|e'
    ·subst e';rw [ha] at e;cases e;exact absurd rfl n1
    ·subst e';rw [hTb] at e;cases e;exact absurd rfl n2
  have R:∀ {b:Addr} {m:dH},s₁.heap.Ns b m->(uH s₁.heap H).Ns b m:=λ{b m} ⟨o,es,ep,e,d,r⟩=>⟨o,es,ep,S e (none_of e (λz=>by rw [z] at d;cases d) (λz=>by rw [z] at d;cases d)),d,r⟩;have C:K.In (uH s₁.heap H):=λb o e=>S (KX b o e) (by
   cases l:H b with
   |none=>rfl
   |some u =>
    rcases hA b (by rw [l];simp) with e'|e'
    ·subst e';rcases L with z|⟨_,z⟩
     ·rw [l] at z;cases z
     ·rw [z] at e;cases e
    ·subst e';rw [W_] at e;cases e)
  have hM:Mod K mg (uH s₁.heap H):=⟨C,R hns,⟨mb,R hb,hbb⟩,let ⟨mc,h1,h2⟩:=hlim;⟨mc,R h1,h2⟩⟩;have e0:Bf P w K mg (uH s₁.heap H) callerA [] s₁ H:=⟨rfl,hM,λb o e=>anz e,Ua (ai3 _ _),trivial,λb hb=>absurd (show b∈([]:jq) from hb) (by simp),Y,.of_eq hg⟩;have U:yP mg (uH s₁.heap H) c T:=by
   refine ⟨?_,?_⟩
   ·obtain ⟨o,vs',I,tf,y,tg,inF,J,tt,e,B,r2,r⟩:=hC;exact ⟨o,vs',I,tf,y,tg,inF,J,tt,S e (none_of e (λz=>by rw [z] at B;injection B with B;exact absurd B (by decide)) (λz=>by rw [z] at B;cases B)),B,r2,r⟩
   ·obtain ⟨bm,ob,b1,b2,b3,b4,b5,t,b7⟩:=hbm;exact ⟨bm,ob,b1,b2,b3,b4,S b5 (none_of b5 (λz=>by rw [z] at t;injection t with t;exact absurd t (by decide)) (λz=>by rw [z] at t;cases t)),t,b7⟩
  refine uz ((F _ C (R hns) U).run callerA [] s₁ H ⟨[.ref a],[]⟩ [.ref a] [.ref a] _ _ hr e0 (hbind s₁ (.ref a)) (.cons rfl .nil) (hsp H O hS)) λr s' h=>?_;cases r with
  |error e=>exact (Xa H e s' h).elim
  |ok fl =>
   cases fl with
   |next=>exact elim h
   |brk=>exact elim h
   |cont=>exact elim h
   |ret u =>
    obtain ⟨v,H',os,N,un,j,r',q'⟩:=h;have q2:v=.bl true:=q';subst q2;obtain rfl:u=Value.bool true:=r';have nn:∀ b:Addr,b∉dY []:=λb z=>absurd (show b∈([]:jq) from z) (by simp);refine ⟨rfl,⟨λb o e=>?_,λb o e=>un.there b o e (by simp)⟩,os,N⟩;cases l:H b with
    |none=>exact .inl (un.keep b o e l (nn b) (by simp))
    |some u =>
     rcases hA b (by rw [l];simp) with z|z
     ·subst z;rcases L with z|⟨z,_⟩
      ·rw [l] at z;cases z
      ·have W:=un.lZ b _ _ z;obtain ⟨M,_⟩:=j b _ W;rw [ha] at e;cases e;exact .inl M
     ·subst z;rw [hTb] at e;cases e;have W:=(un.iw b _ O).1;rcases (show s'.heap.get? b=some { cls:=.none,data:=.fields #[] }\/∃ c',s'.heap.get? b=some { cls:=.none,data:=.fields #[rawInt q.2.1,rawInt q.2.2,.ref c'] }/\H' c'=some (.own b)/\s'.heap.CodeRec (.ref c') q.1 from j b _ W) with M|⟨c',M,_⟩
      ·exact .inl M
      ·exact .inr (.inl ⟨(hC.tab hTb).isCodeTable,rfl,#[],#[rawInt q.2.1,rawInt q.2.2,.ref c'],rfl,by simpa using M⟩)
 cases hk:K.lookup a with
 |some o =>
  have e:=KX a o hk;rw [ha] at e;cases e;refine p (λb=>if b=T then some (.iy q) else none) (bF rfl) (.inr ⟨_,vs.toArray,_,hk,rfl,rfl,rfl,by rw [fL,D];exact hl,by simpa using rv⟩) (λb u z=>?_) (λb z=>?_) (.inl (bw aT))
  ·by_cases hb:b=T
   ·subst hb;have i:=(bF rfl).symm.trans z;cases i;exact .inl hTb
   ·have i:=(bw hb).symm.trans z;cases i
  ·by_cases hb:b=T
   ·exact .inr hb
   ·exact absurd (bw hb) z
 |none =>
  refine p (λb=>if b=a then some (.oK { cls:=.type "list",data:=.seq vs.toArray } (.lst (ns.map V.int))) else if b=T then some (.iy q) else none) (by rw [bw (bL aT),bF rfl]) (.inl (.inr ⟨{ cls:=.type "list",data:=.seq vs.toArray },bF rfl⟩)) (λb u z=>?_) (λb z=>?_) (.inr ⟨bF rfl,hk⟩)
  ·by_cases hb:b=a
   ·subst hb;have i:=(bF rfl).symm.trans z;cases i;exact ⟨ha,by rw [bD];exact hl,vs,_,rv,ha⟩
   ·have z1:=(bw hb).symm.trans z;by_cases g:b=T
    ·subst g;have i:=(bF rfl).symm.trans z1;cases i;exact .inl hTb
    ·have i:=(bw g).symm.trans z1;cases i
  ·by_cases hb:b=a
   ·exact .inl hb
   ·by_cases g:b=T
    ·exact .inr g
    ·exact absurd ((bw hb).trans (bw g)) z
theorem amt {l:PySem.W.OpenLaw} {k:Nat} {d:DefRec} {K:Params->bI} {CX:World->qx} {sp:World->Addr->Sp} {y:Str} {qq:jE} (hn:l.most=some n) (hn2:n<=sizeLine) (hdf:d.params.defaults=[]) (hr:dW k callerA) (hrec:((recsOf q).find? (λe=>e.name == y)).isSome=true) (hY:∀ (w:World) (h:Heap),YP w h->(K w.params).In h) (F:∀ (w:World) (mg:dH) (fa:Addr) (h:Heap),(K w.params).In h->h.Ns mainGlobals mg->mg d.name=some (.ref fa) ->∃ (fd:FuncData) (c T:Addr),tabIn (K w.params) y=some (c,T)/\(K w.params).lookup T=none/\(∀ (s:Shared) (u:Value),BindsTo s fd ⟨[u],[]⟩ [(x,u)]) /\∀ aF:Heap,(K w.params).In aF->aF.Ns mainGlobals mg->yP mg aF c T->dz l.prog w (K w.params) mg aF (CX w) k fa fd [x] (sp w T)) (hsp:∀ (w:World) (T:Addr) (H:Hp) (a:Addr) (ns:aU),ns.length<=n->H T=some (.iy qq)->dB (K w.params) H a (ns.map V.int)->sp w T [.ref a] H (λv _=>v=.bl true) λ_ _ _=>False) (Xa:∀ (w:World) (H:Hp) (s:Shared) (e:Value) (s':Shared),CX w [] H s (λ_ _ _=>False) e s'->False) : PySem.W.WalkO q loose XP YP l.row.toRowW d [] (λf vs=>PySem.call f vs):=by
 refine Att.ahk hn hdf λw s₀ L mg mb fa o pm cd doc a vs ns G Y ho B hcd C j i I M=>?_;have KX:=hY w _ Y;obtain ⟨fd,c,T,ht,W_,hb,hF⟩:=F w mg fa _ KX G.T.g C;obtain ⟨d',t⟩:=Mi.mp hrec;obtain ⟨hC,m⟩:=PySem.W.tab_of G.T KX t ht;obtain ⟨N,O,b1,S,p,J,U,D⟩:=G.T.bmain;have r:L.heap.BuiltinsAt mg T:=by
  refine ⟨N,O,b1,S,λz=>?_,λz=>?_,p,J,U,D⟩
  ·obtain ⟨o,es,ep,e,B,_⟩:=G.T.g;rw [<-z,p] at e;cases e;rw [D] at B;cases B
  ·rw [z,m] at p;cases p;cases J
 exact aj8 KX G.T.g G.T.b G.T.builtins G.T.nolimit M hC m W_ r j i (eU I hn2) hr hF hb (λH hO R=>hsp w T H a ns I hO R) λH e s'=>Xa w H L e s'
end
end
section
section
structure tO (ns:aU) (g:Int):Prop where
 le:∀ x∈ns,∀ y∈ns,x-y<=g
 at_:∃ x∈ns,∃ y∈ns,x-y=g
theorem tO.uniq {g g':Int} (a:tO ns g) (b:tO ns g'):g=g':=by obtain ⟨x,k,y,l,e⟩:=a.at_;obtain ⟨i,c,j,d,m⟩:=b.at_;have h1:=b.le x k y l;have h2:=a.le i c j d;lk
theorem tO.of {a:Int} (ha:q8 ns a) (hb:Vn ns b):tO ns (a-b):=⟨λx c y d=>by have:=ha.2 x c;have:=hb.2 y d;lk, a,ha.1,b,hb.1,rfl⟩
theorem aeg:∀ (ns:aU),ns≠[]->∃ g,tO ns g:=by
 have e:∀ (ns:aU),ns≠[]->(∃ m,q8 ns m)/\∃ m,Vn ns m:=by
  intro ns;induction ns with
  |nil=>intro h;exact absurd rfl h
  |cons a r o =>
   intro _;cases r with
   |nil=>exact ⟨⟨a,iu.mpr rfl,λx c=>by rw [iu.mp c];exact kJ _⟩,⟨a,iu.mpr rfl,λx c=>by rw [iu.mp c];exact kJ _⟩⟩
   |cons b r =>
    obtain ⟨⟨m,i,d⟩,⟨n,j,n2⟩⟩:=o (by simp);constructor
    ·by_cases h:m<=a
     ·exact ⟨a,iU,λx c=>by
       rcases gn.mp c with rfl|c
       ·exact kJ _
       ·have:=d x c;lk⟩
     ·exact ⟨m,gK _ i,λx c=>by
       rcases gn.mp c with rfl|c
       ·lk
       ·exact d x c⟩
    ·by_cases h:a<=n
     ·exact ⟨a,iU,λx c=>by
       rcases gn.mp c with rfl|c
       ·exact kJ _
       ·have:=n2 x c;lk⟩
     ·exact ⟨n,gK _ j,λx c=>by
       rcases gn.mp c with rfl|c
       ·lk
       ·exact n2 x c⟩
 intro ns h;obtain ⟨⟨m,l⟩,⟨n,k⟩⟩:=e ns h;exact ⟨m-n,tO.of l k⟩
open Classical in
noncomputable def uL (ns:aU):Int:=if h:ns≠[] then (aeg ns h).choose else 0
theorem Tn (h:ns≠[]):tO ns (uL ns):=by unfold uL;rw [dif_pos h];exact (aeg ns h).choose_spec
theorem tO.eq {g:Int} (a:tO ns g):g=uL ns:=by
 have h:ns≠[]:=by obtain ⟨x,b,_⟩:=a.at_;intro z;rw [z] at b;cases b
 exact a.uniq (Tn h)
theorem aou:0<(gA (lK aj ws)).length:=by
 have h:(lK aj ws).map (λ_=>(0:Int))∈gA (lK aj ws):=by
  rw [vf];refine ⟨by simp,λx a=>?_⟩;have g:((lK aj ws).map (λ_=>(0:Int))).getD x 0=0:=by simp [List.getD,a]
  have b:x<aj.toNat:=by rw [Fw] at a;exact a
  have c:(lK aj ws).getD x []=if (x:Int)∈zQ aj ws then [0] else (range (2 ^ cW aj ws)).map λk:Nat=>(k:Int):=by unfold lK;simp [List.getD,b]
  rw [g,c];split
  ·simp
  ·exact gW.mpr ⟨0,sO.mpr (Gx (by decide)),rfl⟩
 exact CP.mpr (List.ne_nil_of_mem h)
inductive aqc (vs:aD) (H:Hp) (Q:VK):Prop
 |mk (v:V) (aj:Int) (ws:aK) (c:Addr) (cs:aU) (h1:vs=[v,.ref c]) (h2:dD H v aj ws) (h0:1<=aj) (h3:bC aj ws) (h4:ws.length<=100) (h5:H c=some (.lst (cs.map V.int))) (h6:cs.length=aj.toNat) (h7:∀ (H':Hp),aG H H'->Q (.int (uL (cR cs ws))) H')
def ard:=nE aqc
def qt (l c:Int):Str×Int×Int:=(("spread":Str)++".<locals>."++"<lambda>",l,c)
inductive aov (K:bI) (Tb:Addr) (q:jE) (vs:aD) (H:Hp) (Q:VK):Prop
 |mk (a:Addr) (ns:aU) (h1:vs=[.ref a]) (h2:dB K H a (ns.map V.int)) (h3:ns.length<=63) (h0:H Tb=some (.iy q)) (h4:∀ H',Q (.bl true) H')
def Mt (K:bI) (Tb:Addr) (q:jE):=nE (aov K Tb q)
end
end
section
open PySem.Spec PyProof.Rows
theorem ait (K:bI) (hK:X.K=K) (hc:X.calm=true):iZ X (.builtin "max") (aaD K):=by subst hK;exact FQ hc
end
section
open PySem.SeqAt
end
section
theorem aqd {a b:TS} (P:St->Hp->Prop) (ha:∀ N:St->Hp->Prop,(∀ σ H,P σ H->N σ H)->a { D with nx:=N } σ H) (hb:∀ σ H,P σ H->b D σ H):Vv a b D σ H:=ha (b D) hb
end
section
open PySem.SeqAt
end
section
open PySem.SeqAt PyProof.Rows
end
section
open PySem.Spec PyProof.Rows
section
end
end
section
open PySem.Spec PyProof.Rows HT
end
section
open PySem.SeqAt PyProof.Rows
inductive amu (vs:aD) (H:Hp) (Q:VK):Prop
 |mk (p:Addr) (aj:Int) (a:Addr) (ws:aK) (h1:vs=[.ref p,.int aj,.ref a]) (h2:jB H p) (h3:1<=aj) (h4:aj<=8) (h5:a≠p) (h6:eN H a ws) (h7:bC aj ws) (h8:ws.length<=200) (h9:∀ (l:Addr) (us:aK) (H':Hp),l≠p->Kp p H H'->jB H' p->eN H' l us->bC aj us->us.length<=ws.length+2->Q (.ref l) H')
def adA:=nE amu
theorem aqe (vs:aD) (H:Hp) (Q:VK) (E:XK) (h:apO vs H Q E):adA vs H Q E:=by obtain ⟨p,aj,a,ws,rfl,g,i,e,j,c,ok,len,q⟩:=h;exact ⟨p,aj,a,ws,rfl,g,i,e,j,c,ok,len,λl us H' n k d m b le=>q l us H' n k d m b (by lk)⟩
theorem aow {n:Int} (h0:0<=n) (h1:n<rs.length):(fX rs none (some n)).length+(fX rs (some (n+1)) none).length+1=rs.length:=by obtain ⟨k,rfl⟩:∃ k:Nat,n=(k:Int):=⟨n.toNat,by lk⟩;have a:HT.bV rs.length rs.length (some (k:Int))=min k rs.length:=HT.Ab _ _ k;have b:HT.bV rs.length 0 (some ((k:Int)+1))=min (k+1) rs.length:=HT.Ab _ _ (k+1);unfold fX;rw [a,b,HT.zO,HT.zO,eF,jO,eF,jO];lk
end
variable {tl:TE}
section
open PySem.Spec PyProof.Rows
section
def PJ (X:Cx) (parts:oA) (t:Str->St->Hp->VK->Prop):Prop :=
 ∀ (aq:List (Addr×Obj)) (s:Shared) (σ:St) (H:Hp) (a:Str) (Q:VK),aJ X aq σ H s->t a σ H Q->wpAny (model X.prog X.w) X.A (joinParts a (evalEach parts X.env)) (EP X aq σ Q) X.xe s
def asx:Str->St->Hp->VK->Prop:=λa σ H Q=>a.length<=sizeLine/\Q (.str a) H
def arf (te:TE) (t:Str->St->Hp->VK->Prop):Str->St->Hp->VK->Prop:=λa σ H Q=>te σ H λx H1=>∃ y,x=.str y/\(a++y).length<=sizeLine/\t (a++y) σ H1 Q
def aox (t:Str->St->Hp->VK->Prop):TE:=λσ H Q=>t empty σ H Q
def asy (te:TE):TE:=λσ H Q=>te σ H λx H1=>∃ i:Int,x=.int i/\i.natAbs.log2<1920/\Q (.str (toString i)) H1
theorem aqf:PJ X [] asx:=by intro aq s σ H a Q I h;exact joinParts_nil ⟨.str a,H,I.tok _,⟨_,rfl⟩,h.2⟩ h.1
theorem Lz {t:Str->St->Hp->VK->Prop} (he:PE X e te) (hr:PJ X es t):PJ X (e::es) (arf te t):=by intro aq s σ H a Q I h;show wpAny _ _ (joinParts a (eval e X.env::evalEach es X.env)) _ _ _;refine joinParts_cons (bH (he aq s σ H _ I h) λv c ⟨x,H1,b,d,y,ex,g,q⟩=>?_);subst ex;obtain ⟨t',rfl⟩:=d;exact ⟨g,hr aq c σ H1 _ Q b q⟩
theorem aj9 {e1 e2:Expr} {t:Str->St->Hp->VK->Prop} (h:PJ X (e1::e2::es) t):PE X (.JoinedStr (e1::e2::es) pos) (aox t):=by intro aq s σ H Q I a;exact JoinedStr_many (h aq s σ H empty Q I a)
theorem adB (he:PE X e te):PE X (.FormattedValue e (-1) none pos) (asy te):=by intro aq s σ H Q I h;refine FormattedValue_plain (bH (he aq s σ H _ I h) λv d ⟨x,H1,a,b,i,ex,c,q⟩=>?_);subst ex;obtain ⟨t',rfl⟩:=b;exact formatField_int_small c ⟨.str _,H1,a.tok _,⟨_,rfl⟩,q⟩
theorem ag1 {ys:bR} (h:bY (ys.map V.str) us):StrsAre us ys:=by
 induction ys generalizing us with
 |nil=>cases h;exact .nil
 |cons y r a=>cases h with|cons q h=>obtain ⟨t,e⟩:=q;subst e;exact .cons y t (a h)
inductive aeh (K:bI) (x:V) (xs:aD) (H:Hp) (Q:VK):Prop
 |mk (sep:Str) (l:Addr) (ys:bR) (h1:x=.str sep) (h2:xs=[.ref l]) (h3:dB K H l (ys.map V.str)) (h4:(ys.map (·.length)).sum+ys.length*sep.length<=16777216) (h5:Q (.str (Txt.join sep ys)) H)
theorem LK:Bo X "str.join" (aeh X.K):=by rintro aq s σ H x xs v us Q I c b ⟨i,l,ys,rfl,rfl,d,g,q⟩;obtain ⟨t,rfl⟩:=c;obtain ⟨u,rfl,a⟩:=b.one;cases a;obtain ⟨aM,r,p,_⟩:=I.list d;exact join_list p.isList (ag1 r) g λt' k=>⟨.str _,H,I.kept (t':=k) λ_ _ e=>e,⟨_,rfl⟩,q⟩
inductive amv (x:V) (xs:aD) (H:Hp) (Q:VK):Prop
 |mk (a b:Str) (h1:x=.str a) (h2:xs=[.str b]) (h3:Q (.bl (startswith a b)) H)
theorem aar:Bo X "str.startswith" amv:=by rintro aq s σ H x xs v us Q I d c ⟨a,b,rfl,rfl,q⟩;obtain ⟨t,rfl⟩:=d;obtain ⟨u,rfl,t',rfl⟩:=c.one;exact SC.startswith ⟨.bl _,H,I,rfl,q⟩
inductive aqg (x:V) (xs:aD) (H:Hp) (Q:VK):Prop
 |mk (a b:Str) (h1:x=.str a) (h2:xs=[.str b]) (h3:(b.length == 0)=false) (h4:a.length<=sizeLine) (h5:∀ t,H t=none->Q (.ref t) (upd H t (.tup [.str (partition a b).1,.str (partition a b).2.1,.str (partition a b).2.2])))
theorem aaz:Bo X "str.partition" aqg:=by
 rintro aq s σ H x xs v us Q I k j ⟨a,b,rfl,rfl,g,e,q⟩;obtain ⟨t,rfl⟩:=k;obtain ⟨u,rfl,t',rfl⟩:=j.one;refine mD F.slot_str_partition (uh _ _ _) F.entry_str_partition (F.args_str_partition_2 _ _) (meets_str_partition a b t t' g e) ?_;unfold partition at q;cases c:occurrences a b 0 a.length 1 with
 |nil =>rw [c] at q;refine ⟨.ref s.heap.objs.size,_,I.laid (t':=s.toks+1) (o:=.tup [.str a,.str empty,.str empty]) (λb d q=>cP _ q) (bJ _) ?_,rfl,q _ (I.hok.fresh (bJ _))⟩;exact ⟨aN (by show 3<=100000;decide),_,.cons ⟨_,rfl⟩ (.cons ⟨_,rfl⟩ (.cons ⟨_,rfl⟩ .nil)),oF.new _ _⟩
 |cons i r =>rw [c] at q;refine ⟨.ref s.heap.objs.size,_,I.laid (t':=s.toks+1+1) (o:=.tup [.str (strSub a 0 i),.str b,.str (strSub a (i+b.length) a.length)]) (λb d q=>cP _ q) (bJ _) ?_,rfl,q _ (I.hok.fresh (bJ _))⟩;exact ⟨aN (by show 3<=100000;decide),_,.cons ⟨_,rfl⟩ (.cons ⟨_,rfl⟩ (.cons ⟨_,rfl⟩ .nil)),oF.new _ _⟩
theorem QL:∀ (n:Nat) (l:bR),bY (l.map V.str) (strsFrom n l)
 |_,[]=>.nil
 |n,y::r=>.cons ⟨_,rfl⟩ (QL (n+1) r)
inductive aoy (x:V) (xs:aD) (H:Hp) (Q:VK):Prop
 |mk (a b:Str) (h1:x=.str a) (h2:xs=[.str b]) (h3:(b.length == 0)=false) (h4:a.length<=100000) (h5:∀ l,H l=none->Q (.ref l) (upd H l (.lst ((Txt.split a b).map V.str))))
theorem Cp:Bo X "str.split" aoy:=by
 rintro aq s σ H x xs v us Q I l k ⟨a,b,rfl,rfl,g,j,q⟩;obtain ⟨t,rfl⟩:=l;obtain ⟨u,rfl,t',rfl⟩:=k.one;have one:∀ tk:Nat,Txt.split a b=[a]->EP X aq σ Q (.ref s.heap.objs.size) { s with heap:=s.heap.push { cls:=.type "list",data:=.seq [Value.str a t].toArray },toks:=tk }:=λtk e=>by rw [e] at q;refine ⟨.ref s.heap.objs.size,_,I.laid (t':=tk) (o:=.lst [.str a]) (λb i q=>cP _ q) (bJ _) ?_,rfl,q _ (I.hok.fresh (bJ _))⟩;exact ⟨aN (by show 1<=100000;decide),_,0,.cons ⟨_,rfl⟩ .nil,eV _ rfl⟩
 cases h1:(decide (a.length<b.length) || decide (Builtin.Str.strKind a<Builtin.Str.strKind b))
 ·cases c:(occurrences a b 0 a.length (a.length+1)).isEmpty
  ·have e:Txt.split a b=partsBetween a (occurrences a b 0 a.length (a.length+1)) b.length:=by unfold Txt.split;rw [bw (Dc h1),bw (Dc c)]
   have d:=split_le a b;rw [e] at d q;refine mD Dd (uh _ _ _) Df (Sq _ _) (meets_str_split_sep a b t t' h1 g c (aN j) (eU d (by rw [Lb];lk))) ⟨.ref s.heap.objs.size,_,I.laid (t':=s.toks+(partsBetween a (occurrences a b 0 a.length (a.length+1)) b.length).length) (o:=.lst ((partsBetween a (occurrences a b 0 a.length (a.length+1)) b.length).map V.str)) (λb i q=>cP _ q) (bJ _) ?_,rfl,q _ (I.hok.fresh (bJ _))⟩;exact ⟨by rw [bD];exact eU d (by rw [Lb];lk),_,0,QL _ _,eV _ rfl⟩
  ·have e:Txt.split a b=[a]:=by unfold Txt.split;rw [bw (Dc h1),bF c]
   exact mD Dd (uh _ _ _) Df (Sq _ _) (meets_str_split_not_found a b t t' h1 g c) (one s.toks e)
 ·have e:Txt.split a b=[a]:=by unfold Txt.split;rw [bF h1]
  exact mD Dd (uh _ _ _) Df (Sq _ _) (meets_str_split_cannot_occur a b t t' h1) (one s.toks e)
inductive aqh (xs:aD) (H:Hp) (Q:VK):Prop
 |mk (x:Str) (n:Int) (h1:xs=[.str x]) (h2:PySem.intText? x=some n) (h3:x.length<=640) (h4:Q (.int n) H)
theorem QM:iZ X (.type "int") aqh:=by rintro aq s σ H xs us Q I r ⟨x,n,rfl,a,b,q⟩;obtain ⟨u,rfl,t,rfl⟩:=r.one;exact PySem.W.KIN.call_text a b ⟨.int n,H,I.tok _,⟨_,rfl⟩,q⟩
def Ey (x:Str):It:=⟨λi _=>i<x.cps.size,λi H v H'=>H'=H/\∃ c,x.cps[i]?=some c/\v=.str ⟨#[c]⟩,λi _=>x.cps.size<=i⟩
theorem aiu (x:Str) (t:Tok) (it:Addr):sX P w K tg (Ey x) [it] it (λi h=>h.IsStrIter it "str_ascii_iterator" x t i) where
 mem:=by simp
 obj:=λi h st b a=>by
  have e:b=it:=by simpa using a
  subst e;obtain ⟨o,e,c,d⟩:=st;exact ⟨o,e,λv z=>by rw [d] at z;cases z⟩
 keep:=λi h h' st k=>by obtain ⟨o,e,r⟩:=st;exact ⟨o,k it (by simp) o e,r⟩
 item:=by intro X n j hK y i aq s σ H E I g st l;subst n j hK;have hi:i<x.cps.size:=l;obtain ⟨f0,u,D,p,m,q⟩:=g it (by simp);refine wpAny_pyNext_ascii_item st (c:=x.cps[i]) (by simp [hi]) λh' B L=>?_;have C:aJ X aq σ H { s with heap:=h',toks:=s.toks+1 }:=I.turned (t':=s.toks+1) (λb o a e=>(L.2 b a).trans e) f0 u p m q;obtain ⟨o,e,c,d⟩:=id B;exact ⟨_,rfl,DQ (s:={ s with heap:=h',toks:=s.toks+1 }) e c d (by decide) ⟨.str ⟨#[x.cps[i]]⟩,H,C,⟨_,rfl⟩,⟨rfl,x.cps[i],by simp [hi],rfl⟩,B,λb a=>(g b a).1⟩⟩
 done:=by intro X n j hK y i aq s σ H E I g st l;subst n j hK;have hi:x.cps.size<=i:=l;obtain ⟨f0,u,D,p,m,q⟩:=g it (by simp);exact wpAny_pyNext_ascii_end (I.ok.hd y) st (by simp;lk) λh' J=>⟨rfl,I.turned (t':=s.toks) (λb o a e=>J b o a e) f0 u p m q⟩
 self:=λ_ _ _ _ _ st h=>wpAny_pyIter_striter_ascii st h
theorem aj_ (x:Str) (t:Tok) (it:Addr):sX P w K tg (Ey x) [it] it (λi h=>h.IsStrIter it "str_iterator" x t i) where
 mem:=by simp
 obj:=λi h st b a=>by
  have e:b=it:=by simpa using a
  subst e;obtain ⟨o,e,c,d⟩:=st;exact ⟨o,e,λv z=>by rw [d] at z;cases z⟩
 keep:=λi h h' st k=>by obtain ⟨o,e,r⟩:=st;exact ⟨o,k it (by simp) o e,r⟩
 item:=by intro X n j hK y i aq s σ H E I g st l;subst n j hK;have hi:i<x.cps.size:=l;obtain ⟨f0,u,D,p,m,q⟩:=g it (by simp);refine wpAny_pyNext_wide_item st (c:=x.cps[i]) (by simp [hi]) λh' B L=>?_;have C:aJ X aq σ H { s with heap:=h',toks:=s.toks+1 }:=I.turned (t':=s.toks+1) (λb o a e=>(L.2 b a).trans e) f0 u p m q;obtain ⟨o,e,c,d⟩:=id B;exact ⟨_,rfl,DQ (s:={ s with heap:=h',toks:=s.toks+1 }) e c d (by decide) ⟨.str ⟨#[x.cps[i]]⟩,H,C,⟨_,rfl⟩,⟨rfl,x.cps[i],by simp [hi],rfl⟩,B,λb a=>(g b a).1⟩⟩
 done:=by intro X n j hK y i aq s σ H E I g st l;subst n j hK;have hi:x.cps.size<=i:=l;obtain ⟨f0,u,D,p,m,q⟩:=g it (by simp);exact wpAny_pyNext_wide_end (I.ok.hd y) st (by simp;lk) λh' J=>⟨rfl,I.turned (t':=s.toks) (λb o a e=>J b o a e) f0 u p m q⟩
 self:=λ_ _ _ _ _ st h=>wpAny_pyIter_striter_wide st h
theorem aei {l:Expr} (hl:PE X l tl):PI X tg l (λσ H R=>tl σ H λv H1=>∃ x,v=.str x/\R (Ey x) H1):=by
 intro aq s σ H R I h;refine bH (hl aq s σ H _ I h) λv a ⟨y,H1,c,i,x,ex,q⟩=>?_;subst ex;obtain ⟨t,rfl⟩:=i;have fp:∀ b∈[a.heap.objs.size],i_ X aq H1 b:=λb g=>by
  have e:b=a.heap.objs.size:=by simpa using g
  subst e;exact c.m8 (bJ _) (c.hok.fresh (bJ _))
 cases d:x.cps.all (·<128)
 ·exact wpAny_pyIter_wide d ⟨a.heap.objs.size,[a.heap.objs.size],_,_,H1,rfl,c.kept (t':=a.toks) λb o e=>cP _ e,aj_ x t _,⟨_,eV _ rfl,rfl,rfl⟩,fp,q⟩
 ·exact wpAny_pyIter_ascii d ⟨a.heap.objs.size,[a.heap.objs.size],_,_,H1,rfl,c.kept (t':=a.toks) λb o e=>cP _ e,aiu x t _,⟨_,eV _ rfl,rfl,rfl⟩,fp,q⟩
theorem Rn {R:Hp->Prop} (Pv:Nat->aD->Hp->Prop) (h0:Pv 0 [] (upd H1 l (.lst []))) (hz:x.cps.size<=sizeLine) (hl:∀ i ys H,Pv i ys H->H l=some (.lst ys)/\ys.length<=i) (hs:∀ i c ys H,x.cps[i]?=some c->Pv i ys H->g (.str ⟨#[c]⟩) (gR own cN σ) H λσ2 H2=>Wk (gR own cN σ) σ2 /\tt σ2 H2 λb H3=>if b=true then te σ2 H3 λy H4=>H4 l=some (.lst ys)/\Pv (i+1) (ys++[y]) (upd H4 l (.lst (ys++[y]))) else Pv (i+1) ys H3) (hd:∀ ys H,Pv x.cps.size ys H->R H) : ∃ W:Nat->Nat->aD->Hp->Prop,(∃ m,W 0 m [] (upd H1 l (.lst []))) /\∀ i m ys H,W i m ys H->H l=some (.lst ys)/\(((Ey x).stop i H/\R H)\/((Ey x).go i H/\ys.length<sizeLine/\∃ N:aD->Hp->Prop,(∀ ys' H',N ys' H'->∃ m',m'<m/\W (i+1) m' ys' H') /\∀ v H',(Ey x).oM i H v H'->g v (gR own cN σ) H' λσ2 H2=>Wk (gR own cN σ) σ2 /\tt σ2 H2 λb H3=>if b=true then te σ2 H3 λy H4=>H4 l=some (.lst ys)/\N (ys++[y]) (upd H4 l (.lst (ys++[y]))) else N ys H3)):=by
 refine ⟨λi m ys H=>m=x.cps.size-i/\i<=x.cps.size/\Pv i ys H,⟨x.cps.size,by simp,d_ _,h0⟩,?_⟩;rintro i m ys H ⟨rfl,hi,p⟩;obtain ⟨d,n⟩:=hl i ys H p;refine ⟨d,?_⟩;by_cases a:i<x.cps.size
 ·refine .inr ⟨a,by lk, Pv (i+1),λys' H' k=>⟨x.cps.size-(i+1),by lk, rfl,a,k⟩,λv H' y=>?_⟩;obtain ⟨e,c,j,y⟩:=y;subst e y;exact hs i c ys _ j p
 ·have e:i=x.cps.size:=by lk
  subst e;exact .inl ⟨bJ _,hd ys H p⟩
end
section
def wI (x:Str) (n:Nat):Str:=⟨(x.cps.toList.drop n).toArray⟩
theorem abz (x:Str) (n:Nat):strSliceIndices (some (n:Int)) none 1 x.length=strSliceIndices (some (n:Int)) (some (x.length:Int)) 1 x.length:=by
  have h2:¬ ((x.length:Int)<0):=by lk
  have a:max (0:Int) (min (x.length:Int) (x.length:Int))=x.length:=by lk
  unfold strSliceIndices;simp only [h2,Ar,a];simp
theorem aiv (x:Str) (h:n<=x.length):(strSliceIndices (some (n:Int)) none 1 x.length).filterMap (x.cps[·]?)=x.cps.toList.drop n:=by have e:=abz x n;rw [e,StrLaws.sliced_plain x h (bJ _)];refine sI ?_;rw [jO];have:x.cps.toList.length=x.length:=sS;lk
def asz:V->Option Int->Option Int->Hp->VK->Prop:=λx lo hi H Q=>∃ (a:Str) (n:Nat),x=.str a/\lo=some (n:Int)/\hi=none/\n<=a.length/\a.length<=sizeLine/\Q (.str (wI a n)) H
theorem aej:Er X asz:=by
 intro aq s σ H x v vl vu lo hi sl Q I g j pl e h;obtain ⟨a,n,rfl,rfl,rfl,c,l,q⟩:=h;obtain ⟨t,rfl⟩:=g;cases e;cases pl with
 |int i tk =>
 refine ⟨"str",_,PyProof.Rows.slot_str_getitem.lookup,uh _ _ _,?_⟩;have b:s.heap.IsSlice sl (some ((n:Int),tk)) none none:=j;refine wpAny_getItem_str_slice b (by decide) ?_;unfold sliceMade;have d:(slicePicked a (some ((n:Int),tk)) none none).filterMap (a.cps[·]?)=a.cps.toList.drop n:=aiv a c;split
 ·rename_i hw;rw [vo] at hw;have h2:(slicePicked a (some ((n:Int),tk)) none none).length=a.length:=eq_of_beq hw.2;have m:(slicePicked a (some ((n:Int),tk)) none none).length=a.length-n:=by show (strSliceIndices (some (n:Int)) none 1 a.length).length=_;rw [abz,StrLaws.strSliceIndices_plain c (bJ _),bD,xW]
  have k:n=0:=by lk
  have:wI a n=a:=by rw [k];unfold wI;simp
  rw [this] at q;exact ⟨.str a,H,I,⟨_,rfl⟩,q⟩
 ·refine ⟨?_,⟨.str _,H,I.tok _,⟨_,rfl⟩,?_⟩⟩
  ·rw [d];show (a.cps.toList.drop n).toArray.size<=sizeLine;rw [fL,jO];have:a.cps.toList.length=a.length:=sS;lk
  ·rw [d];exact q
end
theorem adC {y:Str} (hg:Gl X x) (h:∃ t,X.mg x=some (.str y t)) (hd:(x == ("__debug__":Str))=false:=by decide):PE X (.Name x pos) (tC (.str y)):=by obtain ⟨t,h⟩:=h;exact xZ hg h ⟨t,rfl⟩ hd
theorem nF:bootBuiltins "str"=some (.type "str"):=by k_go
theorem PB (K:bI) (hK:X.K=K):iZ X (.type "str") (aak K):=by subst hK;exact qD
structure Dl (P:Program) (w:World) (K:bI) (a:Addr) (vs:gQ):Prop where
 ex:∃ o,K.lookup a=some o/\∀ h:Heap,h.get? a=some o->h.DictOf (jD P w) a vs
 ns:(a == sysModules)=false
theorem Dl.at_ {vs:gQ} (k:Dl P w K a vs) (x:K.In h):h.DictOf (jD P w) a vs :=
 let ⟨_,l,d⟩:=k.ex;d h (x _ _ l)
def aeU (vs:gQ) (ty:TE):TE:=λσ H Q=>ty σ H λy H1=>∃ k v,y=kV k/\valueAt vs k=some (.ref v)/\Q (.ref v) H1
def aoz (vs:gQ) (ty:TE):TE:=λσ H Q=>ty σ H λy H1=>∃ k,y=kV k/\Q (.bl (!(valueAt vs k).isSome)) H1
section
variable {o i:Expr} {ty:TE} {vs:gQ}
theorem adD (KD:Dl X.prog X.w X.K a vs) (ho:PE X o (tC (.ref a))) (hi:PE X i ty) (hs:VH i):PE X (.Subscript o i pos) (aeU vs ty):=by intro aq s σ H Q I h;refine adw acM.lookup hs (bH (ho aq s σ H (λv H1=>v=.ref a/\aeU vs ty σ H1 Q) I ⟨rfl,h⟩) λu j ⟨x,H1,c,n,ex,g⟩=>bH (hi aq j σ H1 _ c g) λr t ⟨y,H2,b,p,k,v,m,l,q⟩=>?_);subst ex;obtain rfl:u=Value.ref a:=n;subst m;have d:=KD.at_ b.fO;obtain ⟨e,es,z,h1,h2,_⟩:=id d;exact ⟨⟨e,h1,h2.1⟩,wpAny_getItem_of (yH p) d.mapOf l ⟨.ref v,H2,b.tok _,rfl,q⟩⟩
theorem aj' (KD:Dl X.prog X.w X.K a vs) (hi:PE X i ty) (ho:PE X o (tC (.ref a))):PC X .NotIn i o (aoz vs ty):=by intro aq s σ H Q I h;refine bH (hi aq s σ H _ I h) λn e ⟨y,H1,c,l,k,g,d⟩=>bH (ho aq e σ H1 (λv H2=>v=.ref a/\Q (.bl (!(valueAt vs k).isSome)) H2) c ⟨rfl,d⟩) λu p ⟨x,H2,b,j,ex,m⟩=>?_;subst ex;obtain rfl:u=Value.ref a:=j;subst g;exact wpAny_notIn_of (yH l) KD.ns (KD.at_ b.fO).mapOf ⟨.bl _,H2,b.tok _,rfl,m⟩
end
theorem ahB (x y:Str) {k:Int} (k0:0<=k):(splitMax x y k).length<=k.toNat+1:=by
 have e:limitOf x k=k.toNat:=by unfold limitOf;rw [bw (by lk)]
 unfold splitMax;split
 ·show 1<=_;lk
 ·split
  ·show 1<=_;lk
  ·rw [len_partsBetween,e];have:=StrLaws.occ_length_le x y 0 x.length k.toNat;lk
section
inductive amw (x:V) (xs:aD) (H:Hp) (Q:VK):Prop
 |mk (a b:Str) (k:Int) (h1:x=.str a) (h2:xs=[.str b,.int k]) (h3:(b.length == 0)=false) (h4:a.length<=90000) (h5:0<=k) (h6:k<=1000) (h7:∀ l,H l=none->Q (.ref l) (upd H l (.lst ((splitMax a b k).map V.str))))
theorem akb:Bo X "str.split" amw:=by
 rintro aq s σ H x xs v us Q I n m ⟨a,b,k,rfl,rfl,j,r,p,y,q⟩;obtain ⟨t,rfl⟩:=n;obtain ⟨u,z,rfl,⟨t',rfl⟩,⟨i,rfl⟩⟩:=Ln m;have g:(decide (k < -(2 ^ 63:Int)) || decide (k>=2 ^ 63))=false:=by rw [kh (by lk),kh (by lk)];rfl
 have one:∀ tk:Nat,splitMax a b k=[a]->EP X aq σ Q (.ref s.heap.objs.size) { s with heap:=s.heap.push { cls:=.type "list",data:=.seq [Value.str a t].toArray },toks:=tk }:=λtk e=>by rw [e] at q;refine ⟨.ref s.heap.objs.size,_,I.laid (t':=tk) (o:=.lst [.str a]) (λb l q=>cP _ q) (bJ _) ?_,rfl,q _ (I.hok.fresh (bJ _))⟩;exact ⟨aN (by show 1<=100000;decide),_,0,.cons ⟨_,rfl⟩ .nil,eV _ rfl⟩
 cases h1:(decide (a.length<b.length) || decide (Builtin.Str.strKind a<Builtin.Str.strKind b))
 ·cases c:(occurrences a b 0 a.length (limitOf a k)).isEmpty
  ·have e:splitMax a b k=partsBetween a (occurrences a b 0 a.length (limitOf a k)) b.length:=by unfold splitMax;rw [bw (Dc h1),bw (Dc c)]
   have d:=ahB a b p;rw [e] at d q;refine mD Dd (uh _ _ _) Df (Ss _ _ _) (meets_str_split_sep_max a b k t t' i g h1 j c (aN (by lk)) (eU d (by rw [Lb];lk))) ⟨.ref s.heap.objs.size,_,I.laid (t':=s.toks+(partsBetween a (occurrences a b 0 a.length (limitOf a k)) b.length).length) (o:=.lst ((partsBetween a (occurrences a b 0 a.length (limitOf a k)) b.length).map V.str)) (λb l q=>cP _ q) (bJ _) ?_,rfl,q _ (I.hok.fresh (bJ _))⟩;exact ⟨by rw [bD];exact eU d (by rw [Lb];lk),_,0,QL _ _,eV _ rfl⟩
  ·have e:splitMax a b k=[a]:=by unfold splitMax;rw [bw (Dc h1),bF c]
   exact mD Dd (uh _ _ _) Df (Ss _ _ _) (meets_str_split_max_not_found a b k t t' i g h1 j c) (one s.toks e)
 ·have e:splitMax a b k=[a]:=by unfold splitMax;rw [bF h1]
  exact mD Dd (uh _ _ _) Df (Ss _ _ _) (meets_str_split_max_cannot_occur a b k t t' i g h1) (one s.toks e)
end
end
section
open PySem.SeqAt PyProof.Rows
def Ls (x:Str):gk:=x.cps.toList
def Mk (l:gk):Str:=⟨l.toArray⟩
theorem wJ (x:Str):Mk (Ls x)=x:=by unfold Mk Ls;simp
theorem MF (l:gk):Ls (Mk l)=l:=rfl
theorem pD {y:Str} (h:Ls x=Ls y):x=y:=by rw [<-wJ x,h,wJ]
theorem dJ (x y:Str):Ls (x++y)=Ls x++Ls y:=by show (x.cps++y.cps).toList=_;rw [Array.toList_append];rfl
theorem cY (x:Str):(Ls x).length=x.length:=sS
theorem dO (x y:Str):(x++y).length=x.length+y.length:=by rw [<-cY,dJ,dj,cY,cY]
theorem Hl:StrLaws.At x ⟨#[c]⟩ x.length i↔(Ls x)[i]?=some c:=Sv x c i
theorem acf {a b:gk} (h:c∉a):partition (Mk (a++c::b)) ⟨#[c]⟩=(Mk a,⟨#[c]⟩,Mk b):=by
 have d:(a++c::b)[a.length]?=some c:=by simp
 rcases StrLaws.occ_head (Mk (a++c::b)) ⟨#[c]⟩ 1 (bJ _) with ⟨_,no⟩|⟨i,r,g,j,no⟩
 ·exact absurd (Hl.mpr d) (no a.length)
 ·have hi:(a++c::b)[i]?=some c:=Hl.mp j;have i1:¬ a.length<i:=λz=>no _ z (Hl.mpr d);have i2:¬ i<a.length:=λz=>by rw [ou z] at hi;exact h (fQ hi)
  have e:i=a.length:=by lk
  subst e;unfold partition;rw [g];refine Kf ?_ (Kf rfl ?_)
  ·refine pD ?_;show ((Mk (a++c::b)).cps.extract 0 a.length).toList=a;unfold Mk;simp
  ·refine pD ?_;show ((Mk (a++c::b)).cps.extract (a.length+1) (Mk (a++c::b)).length).toList=b;unfold Mk;simp [Str.length];exact sI (by lk)
theorem adE {a b a' b':gk}:∀ (h:c∉a) (h':c∉a') (e:a++c::b=a'++c::b'),a=a'/\b=b':=by
 induction a generalizing a' with
 |nil =>
  intro _ h' e;cases a' with
  |nil=>simp at e;exact ⟨rfl,e⟩
  |cons x r=>simp at e;exact absurd (e.1 ▸ iU) h'
 |cons x r g =>
  intro h h' e;cases a' with
  |nil=>simp at e;exact absurd (e.1 ▸ iU) h
  |cons y s =>simp at e;obtain ⟨d,i⟩:=g (λz=>h (gK _ z)) (λz=>h' (gK _ z)) e.2;exact ⟨by rw [e.1,d],i⟩
theorem nJ (c:Nat) (x y:Str) (r:bR):Ls (Str.join ⟨#[c]⟩ (x::y::r))=Ls x++c::Ls (Str.join ⟨#[c]⟩ (y::r)):=by show Ls (x++⟨#[c]⟩++Str.join ⟨#[c]⟩ (y::r))=_;rw [dJ,dJ,zV];rfl
theorem acg:∀ (xs ys:bR),xs≠[]->ys≠[]->(∀ p∈xs,c∉Ls p)->(∀ p∈ys,c∉Ls p)->Ls (Str.join ⟨#[c]⟩ xs)=Ls (Str.join ⟨#[c]⟩ ys)->xs=ys
 |[],_,h,_,_,_,_=>absurd rfl h
 |_,[],_,h,_,_,_=>absurd rfl h
 |[x],[y],_,_,_,_,e=>by rw [pD (show Ls x=Ls y from e)]
 |[x],y::z::r,_,_,hx,hy,e=>by
  rw [nJ] at e;have:c∈Ls x:=by rw [show Ls x=_ from e];simp
  exact absurd this (hx x (by simp))
 |x::z::r,[y],_,_,hx,hy,e=>by
  rw [nJ] at e;have:c∈Ls y:=by rw [show Ls y=_ from e.symm];simp
  exact absurd this (hy y (by simp))
 |x::x2::r,y::y2::s,_,_,hx,hy,e=>by rw [nJ,nJ] at e;obtain ⟨b,d⟩:=adE (hx x (by simp)) (hy y (by simp)) e;rw [pD b,acg (x2::r) (y2::s) (by simp) (by simp) (λp a=>hx p (gK _ a)) (λp a=>hy p (gK _ a)) d]
theorem B_ {ws:bR} (ne:ws≠[]) (h:∀ p∈ws,c∉Ls p):Txt.split (Str.join ⟨#[c]⟩ ws) ⟨#[c]⟩=ws:=acg _ _ (λz=>by have:=split_pos (Str.join ⟨#[c]⟩ ws) ⟨#[c]⟩;rw [z] at this;simp at this) ne (StrLaws.split_free _ c) h (by rw [StrLaws.join_split])
theorem xJ (sep:Str):∀ l:bR,Txt.join sep l=Str.join sep l:=StrLaws.glued_eq_join sep
def dg (n:Int):Nat:=48+n.toNat
def bT (n:Int):Str:=toString n
theorem Az {n:Int} (h0:0<=n) (h9:n<=9):bT n=Mk [dg n]:=by
 have c:n=0\/n=1\/n=2\/n=3\/n=4\/n=5\/n=6\/n=7\/n=8\/n=9:=by lk
 rcases c with e|e|e|e|e|e|e|e|e|e<;>subst e<;>k_go
def nA (w:Int×Int):Str:=Mk [dg w.1,45,dg w.2]
def jG (ws:aK):gk:=ws.flatMap λw=>32::Ls (nA w)
def jK (aj:Int) (ws:aK):Str:=Mk (dg aj::58::jG ws)
def Vo (ws:aK):Prop:=∀ w∈ws,0<=w.1/\w.1<=9/\0<=w.2/\w.2<=9
theorem Uy (w8:aj<=8) (h:bC aj ws):Vo ws:=λw e=>by obtain ⟨a,b,c,d,_⟩:=h w e;exact ⟨a,by lk, c,by lk⟩
theorem QS (ws:aK):(jG ws).length=4*ws.length:=by
 induction ws with
 |nil=>rfl
 |cons w r a =>have e:jG (w::r)=(32::Ls (nA w))++jG r:=rfl;rw [e,dj,a,gj];show 4+4*r.length=4*(r.length+1);lk
theorem zR (aj:Int) (ws:aK):(jK aj ws).length=4*ws.length+2:=by rw [<-cY];show (dg aj::58::jG ws).length=_;rw [gj,gj,QS]
theorem Tp (f:(Int×Int)->Str):∀ (ws:aK),(∀ w∈ws,(f w).length<=n)->((ws.map f).map (·.length)).sum<=n*ws.length
 |[],_=>by simp
 |w::r,h=>by rw [iC,iC,Gz,gj];have a:=h w iU;have b:=Tp f r λx c=>h x (gK _ c);rw [Nat.mul_add];lk
theorem join_none {f:Int×Int->Str}:∀ (ws:aK),(∀ w∈ws,Ls (f w)=32::Ls (nA w))->Ls (Txt.join empty (ws.map f))=jG ws:=by
 intro ws;rw [xJ];induction ws with
 |nil=>intro _;rfl
 |cons w r b =>
  intro h;have i:=b λx a=>h x (gK _ a);have e:jG (w::r)=(32::Ls (nA w))++jG r:=rfl;rw [e,<-i,<-h w iU];cases r with
  |nil =>show Ls (f w)=Ls (f w)++[];rw [kO]
  |cons c r =>show Ls (f w++empty++Str.join empty (f c::r.map f))=_;rw [dJ,dJ];show Ls (f w)++[]++_=_;rw [kO];rfl
theorem aa3 {f:Int×Int->Str}:∀ (ws:aK),(∀ w∈ws,f w=nA w)->Ls (Str.join ⟨#[32]⟩ (x::ws.map f))=Ls x++jG ws:=by
 intro ws;induction ws generalizing x with
 |nil=>intro _;show Ls x=Ls x++[];rw [kO]
 |cons w r a =>intro h;rw [iC,nJ,a λy b=>h y (gK _ b),h w iU];rfl
theorem akc {w:Int×Int}:jG (w::ws)=32::Ls (Str.join ⟨#[32]⟩ ((w::ws).map nA)):=by rw [iC,aa3 ws (λ_ _=>rfl)];rfl
theorem aoA (hc:c=32) {w:Int×Int} (h:0<=w.1/\w.1<=9/\0<=w.2/\w.2<=9):c∉Ls (nA w):=by subst hc;show 32∉[dg w.1,45,dg w.2];unfold dg;simp;lk
theorem ahC {w:Int×Int} (h:Vo (w::ws)):Txt.split (wI (Mk (jG (w::ws))) 1) ⟨#[32]⟩=(w::ws).map nA:=by
 have e:wI (Mk (jG (w::ws))) 1=Str.join ⟨#[32]⟩ ((w::ws).map nA):=by refine pD ?_;show (jG (w::ws)).drop 1=_;rw [akc];rfl
 rw [e];refine B_ (by simp) λp a=>?_;obtain ⟨v,b,rfl⟩:=gW.mp a;exact aoA rfl (h v b)
theorem amx (h0:0<=aj) (h9:aj<=9) (ws:aK):partition (jK aj ws) ⟨#[58]⟩=(Mk [dg aj],⟨#[58]⟩,Mk (jG ws)):=by refine acf (a:=[dg aj]) ?_;unfold dg;simp;lk
theorem aoB {w:Int×Int} (h:0<=w.1/\w.1<=9/\0<=w.2/\w.2<=9):partition (nA w) ⟨#[45]⟩=(Mk [dg w.1],⟨#[45]⟩,Mk [dg w.2]):=by refine acf (a:=[dg w.1]) (b:=[dg w.2]) ?_;unfold dg;simp;lk
theorem aqi {n:Int} (h0:0<=n) (h9:n<=9):PySem.intText? (Mk [dg n])=some n:=by
 have c:n=0\/n=1\/n=2\/n=3\/n=4\/n=5\/n=6\/n=7\/n=8\/n=9:=by lk
 rcases c with e|e|e|e|e|e|e|e|e|e<;>subst e<;>k_go
theorem Ck {n:Int} (h0:0<=n) (h9:n<=9):n.natAbs.log2<1920:=by
 have c:n=0\/n=1\/n=2\/n=3\/n=4\/n=5\/n=6\/n=7\/n=8\/n=9:=by lk
 rcases c with e|e|e|e|e|e|e|e|e|e<;>subst e<;>k_go
theorem Dm {n:Int} (h0:0<=n) (h9:n<=9):(bT n).length=1:=by rw [Az h0 h9];rfl
inductive amy (vs:aD) (H:Hp) (Q:VK):Prop
 |mk (v:V) (aj:Int) (ws:aK) (h1:vs=[v]) (h2:dD H v aj ws) (h3:1<=aj) (h4:aj<=8) (h5:bC aj ws) (h6:ws.length<=41) (h7:∀ H',aG H H'->Q (.str (jK aj ws)) H')
def adF:=nE amy
inductive amA (vs:aD) (H:Hp) (Q:VK):Prop
 |mk (n:Int) (h1:vs=[.str (Mk [dg n])]) (h2:0<=n) (h3:n<=9) (h4:∀ H',aG H H'->Q (.bl true) H')
def adG:=nE amA
inductive amB (vs:aD) (H:Hp) (Q:VK):Prop
 |mk (n:Int) (h1:vs=[.str (Mk [dg n])]) (h2:0<=n) (h3:n<=9) (h4:∀ H',aG H H'->Q (.int n) H')
def aoC:=nE amB
inductive aoD (vs:aD) (H:Hp) (Q:VK):Prop
 |mk (w:Int×Int) (h1:vs=[.str (nA w)]) (h2:0<=w.1/\w.1<=9/\0<=w.2/\w.2<=9) (h3:∀ (t:Addr) (H':Hp),aG H H'->H' t=some (.tup [.int w.1,.int w.2])->Q (.ref t) H')
def aqj:=nE aoD
inductive amC (vs:aD) (H:Hp) (Q:VK):Prop
 |mk (ws:aK) (h1:vs=[.str (Mk (jG ws))]) (h2:Vo ws) (h3:ws.length<=40) (h4:∀ (l:Addr) (H':Hp),aG H H'->eN H' l ws->Q (.ref l) H')
def aoE:=nE amC
inductive aoF (vs:aD) (H:Hp) (Q:VK):Prop
 |mk (aj:Int) (ws:aK) (h1:vs=[.str (jK aj ws)]) (h2:1<=aj) (h3:aj<=8) (h4:bC aj ws) (h5:ws.length<=40) (h6:∀ (v:V) (H':Hp),aG H H'->dD H' v aj ws->Q v H')
def aqk:=nE aoF
end
section
open PySem.SeqAt PySem.NumText
def eZ (l:gk):gk:=if l.head?=some 45 then l.tail else l
def rz (l:gk):Prop:=1<=(eZ l).length/\(eZ l).length<=60/\AllDigits (eZ l)/\(l=[48]\/(eZ l).head?≠some 48)
def RdN (l:gk) (n:Int):Prop:=∀ d:Int,0<=d->d<=9->(n=d↔l=[dg d])
theorem aoG {d:Int} (h0:0<=d) (h9:d<=9):rz [dg d]:=by
 have e:eZ [dg d]=[dg d]:=by unfold eZ;rw [bw];intro z;have:dg d=45:=gw z;unfold dg at this;lk
 unfold rz;rw [e];refine ⟨by simp,by simp,λc a=>?_,?_⟩
 ·rw [iu.mp a];unfold dg;lk
 ·by_cases c:d=0
  ·subst c;exact .inl rfl
  ·refine .inr λz=>?_;have:dg d=48:=gw z;unfold dg at this;lk
theorem Uz:∀ (cs:gk) (a:Nat),a*10 ^ cs.length<=cs.foldl (λbU c=>bU*10+(c-48)) a
 |[],a=>by simp
 |c::r,a=>by rw [um,gj,RN];refine eU ?_ (Uz r (a*10+(c-48)));rw [Kv (10 ^ r.length) 10,<-Nat.mul_assoc];exact acP _ (vH _ _)
theorem aoH {d:Nat} {r:gk} (h:AllDigits (c::d::r)) (n0:c≠48):10<=digitsVal (c::d::r):=by
 have a:=h.head;unfold digitsVal;rw [um,um];refine eU ?_ (Uz r _);have p:1<=10 ^ r.length:=Gx (by decide);have q:10<=(0*10+(c-48))*10+(d-48):=by lk
 calc 10=10*1:=rfl
  _<=_:=Ld q p
theorem aoI {r:gk} (h:AllDigits (c::r)) (n0:c≠48):1<=digitsVal (c::r):=by
 have a:=h.head;unfold digitsVal;rw [um];refine eU ?_ (Uz r _);have p:1<=10 ^ r.length:=Gx (by decide);have q:1<=0*10+(c-48):=by lk
 calc 1=1*1:=rfl
  _<=_:=Ld q p
theorem aoJ {l:gk} (h:rz l):∃ n:Int,PySem.intText? (Mk l)=some n/\RdN l n/\l.length<=61:=by
 obtain ⟨i,o,g,z⟩:=h;by_cases c:l.head?=some 45
 ·obtain ⟨r,rfl⟩:∃ r,l=45::r:=by
   cases l with
   |nil=>cases c
   |cons a r=>exact ⟨r,by rw [gw c]⟩
  have m:eZ (45::r)=r:=by unfold eZ;rw [bF c];rfl
  rw [m] at i o g z;have j:r≠[]:=λe=>by rw [e] at i;simp at i
  refine ⟨_,intText_neg (x:=Mk (45::r)) (cs:=r) rfl g j (by rw [<-cY];show (45::r).length<=4300;rw [gj];lk),λd t u=>?_,by rw [gj];lk⟩;constructor
  ·intro e;exfalso;rcases z with z|z
   ·cases z
   ·cases r with
    |nil=>exact j rfl
    |cons a q =>have:=aoI g (λy=>z (by rw [y];rfl));lk
  ·intro e;exfalso;have:(45:Nat)=dg d:=(GC e).1;unfold dg at this;lk
 ·have m:eZ l=l:=by unfold eZ;rw [bw c]
  rw [m] at i o g z;have k:l≠[]:=λe=>by rw [e] at i;simp at i
  refine ⟨_,intText_digits (x:=Mk l) g k (by rw [<-cY];show l.length<=4300;lk),λd t u=>?_,by lk⟩;show ((digitsVal l:Nat):Int)=d↔_
  match l,k with
  |[a],_ =>
   have B:=g.head;have p:digitsVal [a]=a-48:=by unfold digitsVal;simp
   rw [p];constructor
   ·intro e;have:a=dg d:=by unfold dg;lk
    rw [this]
   ·intro e;have:a=dg d:=(GC e).1;unfold dg at this;lk
  |a::b::r,_ =>
   have v:a≠48:=λy=>by
    rcases z with z|z
    ·cases z
    ·exact z (by rw [y];rfl)
   have:=aoH g v;constructor
   ·intro e;lk
   ·intro e;cases e
inductive akd (vs:aD) (H:Hp) (Q:VK):Prop
 |mk (x:Str) (h1:vs=[.str x]) (h2:x.length<=5000) (h3:∀ (b:Bool) (H':Hp),aG H H'->(b=true↔rz (Ls x))->Q (.bl b) H')
def ach:=nE akd
theorem aiw (x:Str) (c:Nat):startswith x ⟨#[c]⟩=decide ((Ls x).head?=some c):=by
 unfold startswith;have h:=Sv x c 0;have e:(Ls x).head?=(Ls x)[0]?:=by cases Ls x<;>rfl
 rw [e,vX,vo,nQ,nQ];exact h
theorem adH (c:Nat):(!(occurrences (ofString "0123456789") ⟨#[c]⟩ 0 (ofString "0123456789").length 1).isEmpty)=decide (48<=c/\c<=57):=by
 rw [StrLaws.found_one];have e:(ofString "0123456789").cps.toList=(range 10).map (·+48):=by k_go
 rw [e,vX,nQ,nQ,gW];constructor
 ·rintro ⟨k,a,rfl⟩;have:=sO.mp a;lk
 ·intro h;exact ⟨c-48,sO.mpr (by lk),by lk⟩
theorem ake (x:Str) (c:Nat):Txt.split x ⟨#[c]⟩≠[]/\(∀ p∈Txt.split x ⟨#[c]⟩,c∉Ls p)/\Str.join ⟨#[c]⟩ (Txt.split x ⟨#[c]⟩)=x/\(Txt.split x ⟨#[c]⟩).length<=x.length+2:=by
 refine ⟨?_,StrLaws.split_free x c,StrLaws.join_split x _,PyProof.Rows.split_le x _⟩;unfold Txt.split;split
 ·simp
 ·split
  ·simp
  ·intro h;have:=gM List.length h;rw [PyProof.Rows.len_partsBetween] at this;simp at this
end
section
open PySem.Spec PyProof.Rows
section
variable (K:bI) (hK:X.K=K)
include hK
end
end
section
open PySem.SeqAt
end
section
open PySem.Spec PyProof.Rows
end
section
end
section
open PySem.SeqAt
end
section
end
section
open PySem.SeqAt
end
section
open PySem.Spec PyProof.Rows
section
end
end
section
open PySem.SeqAt
end
section
open PySem.Spec PyProof.Rows
inductive aaL (xs:aD) (H:Hp) (Q:VK):Prop
 |int (i:Int) (h1:xs=[.int i]) (h2:i.natAbs.log2<1920) (h3:Q (.str (toString i)) H)
 |str (x:Str) (h1:xs=[.str x]) (h3:Q (.str x) H)
theorem akf:iZ X (.type "str") aaL:=by
 intro aq s σ H xs us Q I r h;rcases h with ⟨i,rfl,a,q⟩|⟨x,rfl,q⟩
 ·obtain ⟨u,rfl,t,rfl⟩:=qM r;exact PySem.P.str_of_int a ⟨.str _,H,I.tok _,⟨_,rfl⟩,q⟩
 ·obtain ⟨u,rfl,t,rfl⟩:=qM r;exact PySem.P.str_of_str ⟨.str _,H,I,⟨_,rfl⟩,q⟩
section
variable {f0:Addr} {s₀:Shared} {H₀:Hp} {E:XK}
def aoK (P:Program) (w:World) (K:bI) (mg:dH) (aF:Heap) (E:XK) (k:Nat) (tf:TE) (t:TA):TE:=λσ H Q=>tf σ H λv H1=>∃ g ps sp,v=.ref g/\aeN P w K mg aF g k ps sp/\t σ H1 λvs H2=>∃ b:VK,sp vs H2 b E/\∀ v a,b v a->Q v a
theorem akg {f:Expr} {k:Nat} {tf:TE} {t:TA} (hf:PE (XC P w K mg aF N qual scope f0 cd A outer s₀ H₀ E) f tf) (hr:dW k (XC P w K mg aF N qual scope f0 cd A outer s₀ H₀ E).A) (ha:PA (XC P w K mg aF N qual scope f0 cd A outer s₀ H₀ E) (e::es) t) (ht:eval (.Call f (e::es) [] pos) (XC P w K mg aF N qual scope f0 cd A outer s₀ H₀ E).env=(do callWith pos (<-eval f (XC P w K mg aF N qual scope f0 cd A outer s₀ H₀ E).env) [] (backTo pos (starEach (e::es) (XC P w K mg aF N qual scope f0 cd A outer s₀ H₀ E).env)) (backToKw pos (keywordEach [] (XC P w K mg aF N qual scope f0 cd A outer s₀ H₀ E).env))):=by rfl) (he:starEach (e::es) (XC P w K mg aF N qual scope f0 cd A outer s₀ H₀ E).env=(false,eval e (XC P w K mg aF N qual scope f0 cd A outer s₀ H₀ E).env)::starEach es (XC P w K mg aF N qual scope f0 cd A outer s₀ H₀ E).env:=by rfl) (hpl:(backTo pos (starEach es (XC P w K mg aF N qual scope f0 cd A outer s₀ H₀ E).env)).any (·.1)=false:=by rfl) : PE (XC P w K mg aF N qual scope f0 cd A outer s₀ H₀ E) (.Call f (e::es) [] pos) (aoK P w K mg aF E k tf t):=by intro aq s σ H Q I h;rw [ht];refine aW (bH (hf aq s σ H _ I h) λu d ⟨x,H1,a,l,g,ps,sp,ex,C,q⟩=>?_);subst ex;obtain rfl:u=Value.ref g:=l;obtain ⟨fd,F,i,o⟩:=C.ex;refine G_ (h₀:=(XC P w K mg aF N qual scope f0 cd A outer s₀ H₀ E).aF) a.ok.mod.yS o (bH (ha pos aq d σ H1 _ a q) λus z ⟨vs,H2,c,r,B,p,imp⟩=>⟨c.fO,?_⟩) he hpl;exact bH (Uo F hr i .nil aeM c r (by rw [kO];exact p)) (by rintro u y ⟨v,b,m,n,j⟩;exact ⟨v,b,m,n,imp v b j⟩)
end
theorem dz.none {k:Nat} (F:dz P w K mg aF (lF P w) k f fd ps sp):dz P w K mg aF jj k f fd ps (λvs H Q _=>sp vs H Q λ_ _ _=>False):=⟨λvs H Q E h=>F.len vs H Q _ h,λA outer s H a us vs Q E hr i d r g=>uz (F.run A outer s H a us vs Q (λ_ _ _=>False) hr i d r g) λb s' q=>by
  cases b with
  |ok c=>cases c with
   |ret u=>exact q
   |next=>exact q
   |brk=>exact q
   |cont=>exact q
  |error e =>obtain ⟨_,_,_,_,_,_,_,_,_,_,_,_,_,z⟩:=q;exact z.elim⟩
def Cq (w:World):List DictEntry->bR->Prop
 |[],[]=>True
 |e::es,x::xs=>(∃ t,e.key=.str x t)/\e.hash=hashStr w x/\Cq w es xs
 |_,_=>False
def wK:List DictEntry->bR->gQ
 |e::es,x::xs=>(.inr x,e.val)::wK es xs
 |_,_=>[]
theorem aa4:∀ {es:List DictEntry} {xs:bR},Cq w es xs->(wK es xs).map (·.1)=xs.map Sum.inr
 |[],[],_=>rfl
 |e::es,x::xs,h=>by show Sum.inr x::_=Sum.inr x::_;rw [aa4 h.2.2]
 |[],_::_,h=>h.elim
 |_::_,[],h=>h.elim
theorem aaM:∀ {es:List DictEntry} {xs:bR},Cq w es xs->Pairs (jD P w) es (wK es xs)
 |[],[],_=>.nil
 |e::es,x::xs,h=>by obtain ⟨⟨t,a⟩,_,r⟩:=h;exact .cons (by rw [a];exact Qc P w x t) rfl (aaM r)
 |[],_::_,h=>h.elim
 |_::_,[],h=>h.elim
theorem aa5:∀ {es:List DictEntry} {xs:bR},Cq w es xs->∀ e∈es,∃ k,(jD P w).is k e.key=true/\e.hash=(jD P w).hash k
 |[],[],_=>λe a=>by cases a
 |e::es,x::xs,h=>λd g=>by
  obtain ⟨⟨t,c⟩,b,r⟩:=h;rcases gn.mp g with rfl|z
  ·exact ⟨.inr x,by rw [c];exact Qc P w x t,b⟩
  ·exact aa5 r d z
 |[],_::_,h=>h.elim
 |_::_,[],h=>h.elim
theorem aci:∀ {es:List DictEntry} {xs:bR} {i:Nat} {e:DictEntry} {x:Str},xs.Nodup->es[i]?=some e->xs[i]?=some x->valueAt (wK es xs) (.inr x)=some e.val
 |[],_,_,_,_,_,h,_=>by simp at h
 |_::_,[],_,_,_,_,_,h=>by simp at h
 |d::es,y::xs,0,e,x,_,h1,h2=>by simp at h1 h2;subst h1 h2;simp [wK,valueAt,xX]
 |d::es,y::xs,i+1,e,x,nd,h1,h2=>by
  have a:xs[i]?=some x:=by simpa using h2
  have g:¬ y=x:=λz=>by subst z;exact (vY.mp nd).1 (fQ a)
  have b:=aci (i:=i) (vY.mp nd).2 (by simpa using h1) a;rw [<-b];show Option.map _ (List.find? _ ((Sum.inr y,d.val)::wK es xs))=_;rw [xX];have c:decide ((Sum.inr y:dR)=Sum.inr x)=false:=kh λz=>g (U8 z);simp only [c];rfl
theorem akh {xs:bR} (h:xs.Nodup):(xs.map (Sum.inr:Str->dR)).Nodup:=by
 induction xs with
 |nil=>exact List.nodup_nil
 |cons x r c =>obtain ⟨a,b⟩:=vY.mp h;refine vY.mpr ⟨λz=>a ?_,c b⟩;obtain ⟨y,d,e⟩:=gW.mp z;exact U8 e ▸ d
theorem amD {es:Array DictEntry} {ep:Nat} {xs:bR} (l:K.lookup a=some ⟨.type "dict",none,.dict es ep,#[]⟩) (h:Cq w es.toList xs) (nd:xs.Nodup) (ns:(a == sysModules)=false):Dl P w K a (wK es.toList xs):=⟨⟨_,l,λc e=>⟨_,es,ep,e,⟨rfl,rfl,rfl⟩,rfl,λd b=>aa5 h d (ad1.mpr b),aaM h,by rw [aa4 h];exact akh nd⟩⟩,ns⟩
theorem agG (l:Addr) (items:fV) (n:Nat) (dd:jf) (sl:qX) (u:Tok) (h0:items.isEmpty=false) : Meets (Builtin.«tuple.__mul__» ⟨[.ref l,.int 1 u],[]⟩) (λ_ R s=>s.heap.get? l=some { cls:=.type "tuple",dict:=dd,data:=.seq items n,slots:=sl }/\R (.ok (.ret (.ref l))) s):=.of_wp λprog w A R s h=>by
  obtain ⟨c,g,d,tk,b⟩:=s;obtain ⟨a,h⟩:=h
  wp_walk using Dt a
  exact ⟨_,rfl,h⟩
theorem agp (l:Addr) (items:fV) (n:Nat) (dd:jf) (sl:qX) (x:Int) (u:Tok) (h0:items.isEmpty=false) (h1:x<=0) (h2:-1000<=x) : Meets (Builtin.«tuple.__mul__» ⟨[.ref l,.int x u],[]⟩) (λ_ R s=>s.heap.get? l=some { cls:=.type "tuple",dict:=dd,data:=.seq items n,slots:=sl }/\R (.ok (.ret (.ref s.heap.objs.size))) { s with heap:=s.heap.push { cls:=.type "tuple",data:=.seq #[] } }):=.of_wp λprog w A R s h=>by
  obtain ⟨c,g,d,tk,b⟩:=s;obtain ⟨a,h⟩:=h
  wp_walk using Dt a
  rw [bw (by simp;lk)]
  wp_walk using Dt a
  rw [bw (by simp [h0];lk)]
  wp_walk
  exact ⟨_,rfl,h⟩
inductive aql (x:V) (y:V) (H:Hp) (Q:VK):Prop
 |mk (l:Addr) (k:Int) (xs:aD) (h1:x=.ref l) (h2:y=.int k) (h3:H l=some (.tup xs)) (h4:1<=xs.length) (h5:-1000<=k) (h6:xs.length*k.toNat<=1000) (h7:∀ p H',aG H H'->H' p=some (.tup (replicate k.toNat xs).flatten)->Q (.ref p) H')
def arh:R2:=λx y H Q=>aql x y H Q
theorem aoL:dN X (binaryOp .Mult) arh:=by
 rintro aq s σ H x y v u Q I z B ⟨l,k,xs,rfl,rfl,i,h1,h5,O,q⟩;by_cases M:2<=k
 ·exact aoq aq s σ H _ _ v u Q I z B ⟨l,k,xs,rfl,rfl,i,h1,M,O,λp fp=>q p _ (bM fp _) aO⟩
 cases z;obtain ⟨t,rfl⟩:=B;obtain ⟨aM,r,D,_⟩:=I.tuple (aX (K:=X.K) i);obtain ⟨⟨m,d,S,g⟩,c,C,n,N⟩:=id D;cases C;cases N;have J:xs.length=aM.length:=r.length;have j:aM.toArray.isEmpty=false:=by
  cases aM with
  |nil=>rw [show xs.length=0 from J] at h1;lk
  |cons a b=>rfl
 by_cases m:k=1
 ·subst m;exact Ko (T:="tuple") (U:="int") (by decide) ⟨_,c,rfl⟩ (λs'=>vq s' 1 t) Pb Kq xR P_ Kr.lookup (mD xR (vq s 1 t) Ks (Ku _ _) (Pq 1 t l aM.toArray n d g) ⟨c,rfl,⟨_,c,rfl⟩,mD Gy ⟨_,c,rfl⟩ Sd (Sg _ _) (agG l aM.toArray n d g t j) ⟨c,.ref l,H,I,rfl,q l H (cO _) (by rw [show (1:Int).toNat=1 from rfl,List.replicate_one,List.flatten_singleton];exact i)⟩⟩)
 ·refine Ko (T:="tuple") (U:="int") (by decide) ⟨_,c,rfl⟩ (λs'=>vq s' k t) Pb Kq xR P_ Kr.lookup (mD xR (vq s k t) Ks (Ku _ _) (Pq k t l aM.toArray n d g) ⟨c,rfl,⟨_,c,rfl⟩,mD Gy ⟨_,c,rfl⟩ Sd (Sg _ _) (agp l aM.toArray n d g k t j (by lk) h5) ⟨c,?_⟩⟩);have R:(replicate k.toNat xs).flatten=[]:=by rw [show k.toNat=0 by lk];rfl
  have L:aJ X aq σ (upd H s.heap.objs.size (.tup [])) { s with heap:=s.heap.push { cls:=.type "tuple",data:=.seq #[] } }:=I.laid (t':=s.toks) (λb o e=>cP _ e) (bJ _) (show dU X.prog X.w _ _ _ (.tup []) from ⟨d_ _,[],.nil,oF.new _ _⟩);exact ⟨.ref _,_,L,rfl,q _ _ (bM I.fresh _) (by rw [R];exact aO)⟩
def qu (K:bI) (H:Hp) (a:Addr) (xs:aD):Prop:=H a=some (.tup xs)\/∃ (o:Obj) (aM:fV) (n:Nat),K.lookup a=some o/\o.cls=.type "tuple"/\o.data=.seq aM n/\aM.size<=sizeLine/\bY xs aM.toList
theorem qu.sq (h:qu K H a xs):fY K H a xs:=h.elim (λe=>aX e) λe=>.inr e
theorem qu.kt (h:qu K H a xs) (k:∀ b ys,H b=some (.tup ys)->H' b=some (.tup ys)):qu K H' a xs:=h.imp (λe=>k _ _ e) id
theorem qu.same (h:qu K H a xs) (s:aG H H'):qu K H' a xs:=h.kt λb ys e=>s _ _ e
inductive aqm (K:bI) (x y:V) (H:Hp) (Q:VK):Prop
 |mk (a b:Addr) (xs ys:aD) (h1:x=.ref a) (h2:y=.ref b) (h3:qu K H a xs) (h4:H b=some (.tup ys)) (h5:xs≠[]) (h6:xs.length+ys.length<=sizeLine) (h7:∀ c H',aG H H'->qu K H' c (xs++ys)->Q (.ref c) H')
def ari (K:bI):R2:=λx y H Q=>aqm K x y H Q
theorem aoM:dN X (binaryOp .Add) (ari X.K):=by
 rintro aq s σ H x y v u Q I g k ⟨a,b,xs,ys,rfl,rfl,c,d,l,j,q⟩;refine ac8 aq s σ H _ _ v u Q I g k ⟨a,b,xs,ys,rfl,rfl,c.sq,aX d,l,j,λe=>?_,λ_ p i=>?_⟩
 ·subst e;exact q a H (cO _) (by rw [kO];exact c)
 ·exact q p _ (bM i _) (.inl aO)
theorem aki {k:Nat} (M:Maker X.prog X.w X.K X.mg X.aF x C k ps sp) (hr:dW (k+1) X.A) (hg:Gl X x) (hdb:(x == ("__debug__":Str))=false:=by decide) : PE X (.Call (.Name x p) [] [] pos) (aeJ C sp [] E0 Bd):=by obtain ⟨f,fd,F,b,a⟩:=M.ex;exact alk a F hr hg M.at_ b .nil Ve hdb
end
section
open PySem.SeqAt PyProof.Rows
theorem Ro (x:Str) (c hi o8:Nat) (hh:hi=x.length):∀ (l:gk) (l':gk) (st:Array Nat×Nat),(∀ i∈l,(Ls x)[i]?≠some c) ->forIn (m:=Id) (l++l') st (occBody x ⟨#[c]⟩ hi o8)=forIn (m:=Id) l' st (occBody x ⟨#[c]⟩ hi o8)
 |[],_,_,_=>rfl
 |i::l,l',st,h=>by rw [R7,Cz];have n:¬ (((st.fst.size<o8/\st.snd<=i)/\i+(⟨#[c]⟩:Str).length<=hi)/\subAt x ⟨#[c]⟩ i=true):=λz=>h i iU (Hl.mp ⟨hh ▸ z.1.2,z.2⟩);unfold occBody;rw [bw n];exact Ro x c hi o8 hh l l' st λj a=>h j (gK _ a)
theorem adI (x:Str) (c hi o8:Nat) (hh:hi=x.length) (i:Nat) (l':gk) (st:Array Nat×Nat) (h:(Ls x)[i]?=some c) (h1:st.1.size<o8) (h2:st.2<=i) : forIn (m:=Id) (i::l') st (occBody x ⟨#[c]⟩ hi o8)=forIn (m:=Id) l' (st.1.push i,i+1) (occBody x ⟨#[c]⟩ hi o8):=by
 rw [Cz];have a:=Hl.mpr h;have n:(((st.fst.size<o8/\st.snd<=i)/\i+(⟨#[c]⟩:Str).length<=hi)/\subAt x ⟨#[c]⟩ i=true):=⟨⟨⟨h1,h2⟩,hh ▸ a.1⟩,a.2⟩
 conv=>lhs;unfold occBody
 rw [bF n];rfl
theorem acj (x:Str) (c hi o8:Nat):∀ (l:gk) (st:Array Nat×Nat),o8<=st.1.size->(forIn (m:=Id) l st (occBody x ⟨#[c]⟩ hi o8))=st
 |[],_,_=>rfl
 |i::l,st,h=>by
  rw [Cz];have n:¬ (((st.fst.size<o8/\st.snd<=i)/\i+(⟨#[c]⟩:Str).length<=hi)/\subAt x ⟨#[c]⟩ i=true):=λz=>by have:=z.1.1.1;lk
  unfold occBody;rw [bw n];exact acj x c hi o8 l st h
theorem aoN {a b d:gk} (ha:c∉a) (hb:c∉b):occurrences (Mk (a++c::(b++c::d))) ⟨#[c]⟩ 0 (Mk (a++c::(b++c::d))).length 2=[a.length,a.length+1+b.length]:=by
 have l:(Mk (a++c::(b++c::d))).length=a.length+1+b.length+1+d.length:=by rw [<-cY,MF];simp;lk
 have g:∀ i:Nat,(Ls (Mk (a++c::(b++c::d))))[i]?=(a++c::(b++c::d))[i]?:=λi=>by rw [MF]
 rw [StrLaws.occ_eq];have k:range' 0 ((Mk (a++c::(b++c::d))).length+1-0)=range' 0 a.length++a.length::(range' (a.length+1) b.length++(a.length+1+b.length)::range' (a.length+1+b.length+1) (d.length+1)):=by rw [l,show a.length+1+b.length+1+d.length+1-0=a.length+(1+(b.length+(1+(d.length+1)))) by lk];rw [<-Le,K_,<-Le (n:=b.length+(1+(d.length+1))),<-Le (n:=1+(d.length+1)),<-Le (n:=d.length+1)];rfl
 rw [k];have e:∀ i∈range' 0 a.length,(Ls (Mk (a++c::(b++c::d))))[i]?≠some c:=λi hi z=>by
  have m:i<a.length:=by have:=List.mem_range'_1.mp hi;lk
  rw [g,ou m] at z;exact ha (fQ z)
 have n2:∀ i∈range' (a.length+1) b.length,(Ls (Mk (a++c::(b++c::d))))[i]?≠some c:=λi hi z=>by obtain ⟨h1,h2⟩:=List.mem_range'_1.mp hi;obtain ⟨j,rfl⟩:∃ j,i=a.length+1+j:=⟨i-a.length-1,by lk⟩;rw [g,Aq (by lk),show a.length+1+j-a.length=j+1 by lk, acQ,ou (by lk)] at z;exact hb (fQ z)
 rw [Ro _ _ _ _ rfl _ _ _ e,adI _ _ _ _ rfl _ _ _ (by rw [g];simp) (by decide) (d_ _),Ro _ _ _ _ rfl _ _ _ n2,adI _ _ _ _ rfl _ _ _ ?_ (by simp) (by show a.length+1<=_;lk),acj _ _ _ _ _ _ (by simp)]
 ·rfl
 ·rw [g,Aq (by lk),show a.length+1+b.length-a.length=b.length+1 by lk, acQ];simp
theorem amE (x:Str) (hc:c<256):¬ (Builtin.Str.strKind x<Builtin.Str.strKind ⟨#[c]⟩):=by
 have e:Builtin.Str.strKind ⟨#[c]⟩=1:=by unfold Builtin.Str.strKind;rw [bF (by simp [hc])]
 rw [e];unfold Builtin.Str.strKind;split
 ·lk
 ·split<;>lk
theorem akj {a b d:gk} (hc:c<256) (ha:c∉a) (hb:c∉b):splitMax (Mk (a++c::(b++c::d))) ⟨#[c]⟩ 2=[Mk a,Mk b,Mk d]:=by
 have e:(Mk (a++c::(b++c::d))).length=a.length+1+b.length+1+d.length:=by rw [<-cY,MF];simp;lk
 have j:limitOf (Mk (a++c::(b++c::d))) 2=2:=rfl;unfold splitMax;rw [j,aoN ha hb,bw,bw (by simp)]
 ·unfold partsBetween strSub;rw [e];show [_,_,_]=_;have k:((Mk (a++c::(b++c::d))).cps.extract 0 a.length)=a.toArray:=by unfold Mk;simp
  have g:((Mk (a++c::(b++c::d))).cps.extract (a.length+1) (a.length+1+b.length))=b.toArray:=by
   unfold Mk;rw [acR,acS,List.drop_take]
   congr 1
   rw [show a.length+1+b.length-(a.length+1)=b.length by lk, <-Lf,Sw];simp
  have i:((Mk (a++c::(b++c::d))).cps.extract (a.length+1+b.length+1) (a.length+1+b.length+1+d.length))=d.toArray:=by
   unfold Mk;rw [acR,acS,List.drop_take]
   congr 1
   rw [show a.length+1+b.length+1+d.length-(a.length+1+b.length+1)=d.length by lk, show a.length+1+b.length+1=a.length+(1+(b.length+1)) by lk, <-Lf,Sw,<-Lf,List.drop_one,List.tail_cons,<-Lf,Sw];simp
  show [(⟨_⟩:Str),⟨_⟩,⟨_⟩]=_;rw [show (⟨#[c]⟩:Str).length=1 from rfl,k,g,i];rfl
 ·simp only [sH,CQ,not_or];exact ⟨by rw [e];show ¬ _<1;lk, amE _ hc⟩
theorem split_head {a b:gk} (h:Ls x=a++c::b) (ha:c∉a):∃ r,Txt.split x ⟨#[c]⟩=Mk a::r:=by
 obtain ⟨g,d,j,_⟩:=ake x c;generalize Txt.split x ⟨#[c]⟩=ps at g d j;cases ps with
 |nil=>exact absurd rfl g
 |cons p r =>
  refine ⟨r,?_⟩;cases r with
  |nil =>have e:p=x:=j;have:=d p iU;rw [e,h] at this;exact absurd (by simp) this
  |cons p2 r =>have e:=gM Ls j;rw [nJ,h] at e;rw [show Mk a=p from pD (by rw [MF];exact (adE (d p iU) ha e).1.symm)]
end
section
open PySem.Spec PyProof.Rows
end
section
open PySem.SeqAt
def Wt (qs:bR):Nat:=(qs.map (·.length)).sum+qs.length
theorem adJ (y:Str) (b:bR):Wt (y::b)=y.length+1+Wt b:=by unfold Wt;rw [iC,Gz,gj];lk
theorem adK:∀ (qs:bR),qs≠[]->(Str.join ⟨#[32]⟩ qs).length+1=Wt qs
 |[x],_=>by rw [adJ];show x.length+1=_;rfl
 |x::y::r,_=>by have e:=gM List.length (nJ 32 x y r);rw [cY,dj,cY,gj,cY] at e;have:=adK (y::r) (by simp);rw [adJ];lk
theorem UG (qs:bR):(Txt.join ⟨#[32]⟩ qs).length<=Wt qs:=by
 rw [xJ];cases qs with
 |nil=>exact d_ _
 |cons a b =>have:=adK (a::b) (by simp);lk
theorem aoO (A:bR) (lo hi:Option Int):fX (A.map V.str) lo hi=((A.drop (HT.bV A.length 0 lo)).take (HT.bV A.length A.length hi-HT.bV A.length 0 lo)).map V.str:=by unfold fX;rw [bD,<-List.map_drop,<-List.map_take]
end
section
open PySem.Spec PyProof.Rows
theorem aG.asA (e:aG H H') (h:fY K H a xs):fY K H' a xs:=by
 rcases h with (h|⟨o,h⟩)|h
 ·exact .inl (.inl (e _ _ h))
 ·exact .inl (.inr ⟨o,e _ _ h⟩)
 ·exact .inr h
end
variable {kn:dh}
section
open PySem.SeqAt PyProof.Rows
theorem Cr {cs:bR} {j:Nat} {x:V} (h:(cs.map V.str)[j]?=some x):∃ z,cs[j]?=some z/\x=V.str z:=by
 rw [lN] at h;cases e:cs[j]? with
 |none=>rw [e] at h;cases h
 |some z=>rw [e] at h;exact ⟨z,rfl,(gw h).symm⟩
theorem abA (x:Str) (r:bR):fX (map V.str (x::r)) (some 1) none=map V.str r:=by
 rw [aoO]
 congr 1
 have a:HT.bV (x::r).length 0 (some 1)=1:=by unfold HT.bV;simp
 have b:HT.bV (x::r).length (x::r).length none=(x::r).length:=rfl;rw [a,b];simp
theorem uM {r:bR}:gD (map V.str (x::r)) 0=some (V.str x):=by show gD (map V.str (x::r)) ((0:Nat):Int)=_;exact vK rfl
theorem afm {y:Str} {r:bR}:gD (map V.str (x::y::r)) 1=some (V.str y):=by show gD (map V.str (x::y::r)) ((1:Nat):Int)=_;exact vK rfl
structure iB where
 dx:Addr
 n:Addr
 q:Addr
def uW (D:iB):List (Str×V):=j4 "plays" (.ref D.q) (j4 "nets" (.ref D.n) [])
theorem acn (D:iB):(uW D).lookup ("nets":Str)=some (.ref D.n):=by unfold uW;rw [zG,bw (by k_go),zG,bF rfl]
theorem abB (D:iB):(uW D).lookup ("plays":Str)=some (.ref D.q):=by unfold uW;rw [zG,bF rfl]
theorem UJ (D:iB) {m:Str} (h1:¬ m="plays") (h2:¬ m="nets"):(uW D).lookup m=none:=by unfold uW;rw [zG,bw h1,zG,bw h2];rfl
structure aeV (K:bI) (C:Addr):Prop where
 cl:qY K C
 nN:yt K C "nets"
 nP:yt K C "plays"
structure fM (C:Addr) (H:Hp) (d:Addr) (D:iB) (kn kp:dh):Prop where
 ob:H d=some (.ins C D.dx (uW D))
 ne:H D.n=some (.dK kn)
 pl:H D.q=some (.dK kp)
 nq:D.n≠D.q
 ln:kn.length<=1000
 lp:kp.length<=1000
theorem fM.same {d:Addr} {D:iB} {kp:dh} (h:fM C H d D kn kp) (s:aG H H'):fM C H' d D kn kp:={ h with ob:=s _ _ h.ob,ne:=s _ _ h.ne,pl:=s _ _ h.pl }
structure aeW (P:Program) (w:World) (K:bI) (mg:dH) (aR:Addr) (vs:gQ):Prop where
 kd:Dl P w K aR vs
 at_:mg "ROWS"=some (.ref aR)
structure VJ (K:bI) (vs:gQ) (x:Str) (n_:bR) (f:Addr):Prop where
 ex:∃ r kt,valueAt vs (.inr x)=some (.ref r)/\(∀ H,qu K H r [.ref kt,.ref f])/\(∀ H,qu K H kt (n_.map V.str))
structure jZ (P:Program) (w:World) (K:bI) (mg:dH) (aF:Heap) (vs:gQ) (k:Nat) (x:Str) (n_:bR) (sp:Sp):Prop where
 ex:∃ f,VJ K vs x n_ f/\aeN P w K mg aF f k ["things"] sp
def Gs:bR:=["net","folded","rounds","brick","behind","beside","mirror","slim","play","rest","show","depth","exits","levels","orders","bound","spread","alike","enter","back","step","counts","stands","owes","lacks"]
theorem aaN:Gs.Nodup:=by k_go
theorem aoP (vs:aD) (H:Hp) (Q:VK) (E:XK) (h:adG vs H Q E):ach vs H Q E:=by
 obtain ⟨n,rfl,d,a,q⟩:=h;refine ⟨Mk [dg n],rfl,?_,λb H' s c=>?_⟩
 ·rw [<-cY];show 1<=5000;decide
 ·rw [c.mpr (aoG d a)];exact q H' s
def yw (x:Str):bR:=if (Txt.split x ⟨#[32]⟩).head?=some (ofString "net") then splitMax x ⟨#[32]⟩ 2 else Txt.split x ⟨#[32]⟩
def g_ (x:Str) (n_:bR) (n:Nat):bR:=if x="exits" then n_++replicate (n-n_.length) ("number":Str) else n_
def fJ (l:gk):Prop:=1<=l.length/\l.length<=8/\∀ c∈l,97<=c/\c<=122
inductive pQ:Str->Str->Prop
 |text {x:Str}:pQ "text" x
 |num {x:Str} (h:rz (Ls x)):pQ "number" x
 |name {k x:Str} (n1:¬ k="text") (n2:¬ k="number") (h:fJ (Ls x)):pQ k x
inductive Ad (kn kp:dh):Str->Str->V->Prop
 |net {x:Str} {v:V} (h:cF kn (.inr x)=some v):Ad kn kp "net" x v
 |play {x:Str} {v:V} (h:cF kp (.inr x)=some v):Ad kn kp "play" x v
 |num {x:Str} {n:Int} (h:PySem.intText? x=some n) (l:x.length<=640):Ad kn kp "number" x (.int n)
 |other {k x:Str} (n1:¬ k="net") (n2:¬ k="play") (n3:¬ k="number"):Ad kn kp k x (.str x)
inductive mV (kn kp:dh):bR->bR->aD->Prop
 |nil:mV kn kp [] [] []
 |cons {k x:Str} {v:V} {ks xs:bR} {vs:aD} (h:Ad kn kp k x v) (t:mV kn kp ks xs vs):mV kn kp (k::ks) (x::xs) (v::vs)
theorem mV.len {kp:dh}:∀ {ks xs:bR} {vs:aD},mV kn kp ks xs vs->ks.length=xs.length/\vs.length=xs.length
 |_,_,_,.nil=>⟨rfl,rfl⟩
 |_,_,_,.cons _ t=>by obtain ⟨a,b⟩:=t.len;exact ⟨by simp [a],by simp [b]⟩
theorem mV.get {kp:dh}:∀ {ks xs:bR} {vs:aD} {i:Nat} {k x:Str},mV kn kp ks xs vs->ks[i]?=some k->xs[i]?=some x->∃ v,vs[i]?=some v/\Ad kn kp k x v
 |_,_,_,_,_,_,.nil,h,_=>by simp at h
 |_,_,_,0,_,_,.cons h _,h1,h2=>by simp at h1 h2;subst h1 h2;exact ⟨_,rfl,h⟩
 |_,_,_,i+1,_,_,.cons _ t,h1,h2=>by obtain ⟨v,a,b⟩:=t.get (i:=i) (by simpa using h1) (by simpa using h2);exact ⟨v,by simpa using a,b⟩
theorem aoQ (c:Nat):(!(occurrences (ofString "abcdefghijklmnopqrstuvwxyz") ⟨#[c]⟩ 0 (ofString "abcdefghijklmnopqrstuvwxyz").length 1).isEmpty)=decide (97<=c/\c<=122):=by
 rw [StrLaws.found_one];have e:(ofString "abcdefghijklmnopqrstuvwxyz").cps.toList=(range 26).map (·+97):=by k_go
 rw [e,vX,nQ,nQ,gW];constructor
 ·rintro ⟨k,a,rfl⟩;have:=sO.mp a;lk
 ·intro h;exact ⟨c-97,sO.mpr (by lk),by lk⟩
theorem Rp (v:α):∀ n:Nat,(replicate n [v]).flatten=replicate n v
 |0=>rfl
 |n+1=>by rw [kI,sy,Rp v n,kI];rfl
inductive aix (cZ:gQ) (vs:aD) (H:Hp) (Q:VK):Prop
 |mk (x w0:Str) (r:bR) (h1:vs=[.str x]) (h2:x.length<=5000) (h3:Txt.split x ⟨#[32]⟩=w0::r) (h4:(valueAt cZ (.inr w0)).isSome=true) (q:∀ (l:Addr) (H':Hp),H l=none->aG H H'->H' l=some (.lst ((yw x).map V.str))->Q (.ref l) H')
def akk (cZ:gQ):=nE (aix cZ)
inductive amF (K:bI) (cZ:gQ) (vs:aD) (H:Hp) (Q:VK):Prop
 |mk (l:Addr) (w0:Str) (r n_:bR) (f:Addr) (h1:vs=[.ref l]) (h2:H l=some (.lst ((w0::r).map V.str))) (h3:VJ K cZ w0 n_ f) (h0:n_≠[]) (h4:n_.length<=10) (h5:r.length<=950) (q:∀ (t:Addr) (H':Hp),aG H H'->qu K H' t ((g_ w0 n_ r.length).map V.str)->Q (.ref t) H')
def aoR (K:bI) (cZ:gQ):=nE (amF K cZ)
inductive akl (vs:aD) (H:Hp) (Q:VK):Prop
 |mk (x:Str) (h1:vs=[.str x]) (h2:x.length<=5000) (h3:∀ (b:Bool) (H':Hp),aG H H'->(b=true↔fJ (Ls x))->Q (.bl b) H')
def amG:=nE akl
inductive aoS (vs:aD) (H:Hp) (Q:VK):Prop
 |mk (k x:Str) (h1:vs=[.str k,.str x]) (h2:x.length<=5000) (h3:∀ (b:Bool) (H':Hp),aG H H'->(b=true↔pQ k x)->Q (.bl b) H')
def aqn:=nE aoS
inductive aiy (K:bI) (vs:aD) (H:Hp) (Q:VK):Prop
 |mk (t l:Addr) (ks xs:bR) (h1:vs=[.ref t,.ref l]) (h2:fY K H t (ks.map V.str)) (h3:H l=some (.lst (xs.map V.str))) (h4:Paired pQ ks xs) (h5:xs.length<=1000) (h6:∀ x∈xs,x.length<=5000) (q:∀ H',aG H H'->Q .non H')
def akm (K:bI):=nE (aiy K)
inductive amH (vs:aD) (H:Hp) (Q:VK):Prop
 |mk (a:Addr) (aV:dh) (x:Str) (v:V) (h1:vs=[.ref a,.str x]) (h2:H a=some (.dK aV)) (h3:cF aV (.inr x)=some v) (q:Q v H)
def aoT:=nE amH
inductive amI (C:Addr) (vs:aD) (H:Hp) (Q:VK):Prop
 |mk (d:Addr) (D:iB) (kn kp:dh) (k x:Str) (v:V) (h1:vs=[.ref d,.str k,.str x]) (da:fM C H d D kn kp) (h:Ad kn kp k x v) (q:Q v H)
def aoU (C:Addr):=nE (amI C)
inductive amJ (C:Addr) (vs:aD) (H:Hp) (Q:VK):Prop
 |mk (d dx:Addr) (h1:vs=[.ref d]) (h2:H d=some (.ins C dx [])) (q:∀ (D:iB) (H':Hp),H D.n=none->H D.q=none->fM C H' d D [] []->(∀ b o,H b=some o->b≠d->H' b=some o)->Q .non H')
def adL (C:Addr):=nE (amJ C)
inductive A_ (D:iB) (kn kp:dh) (H1:Hp) (k0 x:Str) (Q:VK) (v:V) (H2:Hp):Prop
 |net (e:k0="new net") (s:aG H1 H2) (q:Q (.str "ok") (upd H2 D.n (.dK (cI kn (.inr x) v))))
 |play (e:k0="new play") (s:aG H1 H2) (q:Q (.str "ok") (upd H2 D.q (.dK (cI kp (.inr x) v))))
 |other (n1:¬ k0="new net") (n2:¬ k0="new play") (k:KT H1 H2) (q:Q v H2)
inductive aqo (P:Program) (w:World) (K:bI) (mg:dH) (aF:Heap) (cZ:gQ) (k:Nat) (C:Addr) (vs:aD) (H:Hp) (Q:VK) (E:XK):Prop
 |mk (d:Addr) (D:iB) (kn kp:dh) (x w0 x0 k0:Str) (xr kr:bR) (sp:Sp) (ts:aD) (h1:vs=[.ref d,.str x]) (da:fM C H d D kn kp) (h2:x.length<=5000) (h3:(Txt.split x ⟨#[32]⟩).head?=some w0) (h4:yw x=w0::x0::xr) (h5:jZ P w K mg aF cZ k w0 (k0::kr) sp) (h6:kr.length<=8) (h7:xr.length<=900)
   (h8:Paired pQ (g_ w0 (k0::kr) (xr.length+1)) (x0::xr)) (h9:mV kn kp (g_ w0 (k0::kr) (xr.length+1)) (x0::xr) ts) (h10:∀ y∈x0::xr,y.length<=5000) (ln:kn.length<900) (lp:kp.length<900)
   (q:∀ (l:Addr) (H1:Hp),H l=none->aG H H1->H1 l=some (.lst ts)->sp [.ref l] H1 (A_ D kn kp H1 k0 x0 Q) E)
def rA (P:Program) (w:World) (K:bI) (mg:dH) (aF:Heap) (cZ:gQ) (k:Nat) (C:Addr):Sp:=λvs H Q E=>aqo P w K mg aF cZ k C vs H Q E
def aqp (P:Program) (w:World) (K:bI) (mg:dH) (aF:Heap) (cZ:gQ) (k:Nat) (C:Addr):Sp:=λvs H Q _=>rA P w K mg aF cZ k C vs H Q λ_ _ _=>False
end
section
open PySem.Spec PyProof.Rows
section
variable {s₀:Shared} {H₀:Hp} {E:XK}
end
end
section
open PySem.SeqAt
end
section
open PySem.SeqAt PyProof.Rows
inductive aiz (vs:aD) (H:Hp) (Q:VK):Prop
 |mk (l:Addr) (x0:Str) (aj:Int) (ws:aK) (h1:vs=[.ref l]) (h2:H l=some (.lst [.str x0,.str (jK aj ws)])) (w1:1<=aj) (w8:aj<=8) (ok:bC aj ws) (len:ws.length<=40) (q:∀ (v:V) (H':Hp),aG H H'->dD H' v aj ws->Q v H')
def abC:=nE aiz
end
section
open PySem.Spec PyProof.Rows
section
end
section
variable {m:Str} {k:Nat} {o:Expr} {ta:TE} {t:TA} {apos:Pos}
theorem amK (he:PE X.rE o ta) (c:qY X.K C) (M:DW X.prog X.w X.K X.mg X.aF C m k ps sp) (hr:dW k X.A) (ha:PA X.rE (e::es) t) (hst:starEach (e::es) X.env=(false,eval e X.env)::starEach es X.env:=by rfl) (hpl:(backTo pos (starEach es X.env)).any (·.1)=false:=by rfl) (ht:eval (.Call (.Attribute o m apos) (e::es) [] pos) X.env=(do
   let ov <-eval o X.env
   standAt apos.atName
   let (f1,first) <-holding [ov] (getMethod ov m pl)
   callWith pos f1 first (backTo pos (starEach (e::es) X.env)) (backToKw pos (keywordEach [] X.env))):=by rfl) :
  PX X (.Call (.Attribute o m apos) (e::es) [] pos) (λσ H Q E=>ta σ H λx H1=>aeH C m x H1 (t σ H1 λvs H2=>∃ (Q':VK) (E':XK),sp (x::vs) H2 Q' E'/\(∀ v H3,Q' v H3->Q v H3)/\∀ c H3,E' c none H3->E c none H3)):=by
 intro aq s σ H Q E xe I h hx;obtain ⟨f,fd,F,W,D⟩:=M.ex;have rE:∀ {α:Type} {t:Sem α} {Q:α->Shared->Prop} {s:Shared},wpAny (model X.prog X.w) X.A t Q (λ_ _=>False) s->wpAny (model X.prog X.w) X.A t Q xe s:=λh=>jc h (λ_ _ z=>z) λ_ _ z=>z.elim;refine ad2 (pl:=pl) (rE (bH (he aq s σ H _ (I.wish _) h) λu S ⟨x,H1,L,rx,a,dx,fs,ex,ea,l,q⟩=>?_)) ht;subst ex;obtain rfl:u=Value.ref a:=rx;have g:=L.oG;refine aaV g ea c D l (G_ (first:=[.ref a]) (h₀:=X.aF) I.ok.mod.yS D.kp (jc (ha pos aq S σ H1 _ (g.wish _) q) (λus n ⟨vs,H2,y,r,Q',E',J,i1,i2⟩=>⟨y.oG.fO,?_⟩) (λ_ _ z=>elim z)) hst hpl);have i:=y.oG;have p:bY (V.ref a::vs) (Value.ref a::us):=.cons rfl r;have hl:(Value.ref a::us).length=ps.length:=by rw [<-p.length];exact F.len _ _ _ _ J
 have b:=W n (.ref a::us) i.fO (by rw [kO];exact hl);rw [kO] at b;refine Ak (uz (F.run X.A X.stack n H2 ⟨.ref a::us,[]⟩ (.ref a::us) (.ref a::vs) Q' E' hr i.env0 b p J) λj s' d=>?_);cases j with
 |error e =>obtain ⟨ea,cls,a0,B,H',N,e2,e3,Y,R,e6,e7,e8,U⟩:=d;exact hx H2 n e s' i ⟨ea,cls,a0,B,H',N,e2,e3,Y,R,e6,e7,e8,i2 _ _ U⟩
 |ok O=>cases O with
  |ret u =>obtain ⟨v,H',I4,r4,q4⟩:=i.after d;exact ⟨v,H',I4,r4,i1 _ _ q4⟩
  |next=>exact d.elim
  |brk=>exact d.elim
  |cont=>exact d.elim
end
end
variable {w0:Str}
section
open PySem.SeqAt PyProof.Rows
theorem blank:(ofString " ")=⟨#[32]⟩:=by k_go
theorem rN {l:gk} (h:fJ l):32∉l:=λz=>by have:=h.2.2 32 z;lk
theorem nM (h:fJ (Ls x)):x.length<=8:=by rw [<-cY];exact h.2.1
theorem abD {l:gk} (h:rz l):32∉l:=λz=>by
 by_cases c:l.head?=some 45
 ·cases l with
  |nil=>cases z
  |cons a r =>
   have ea:a=45:=gw c;have b:=h.2.2.1;have d:eZ (a::r)=r:=by unfold eZ;rw [bF c];rfl
   rw [d] at b;rcases gn.mp z with y|y
   ·lk
   ·have:=b 32 y;lk
 ·have d:eZ l=l:=by unfold eZ;rw [bw c]
  have b:=h.2.2.1;rw [d] at b;have:=b 32 z;lk
theorem JR (h:rz (Ls x)):x.length<=61:=by obtain ⟨n,_,_,l⟩:=aoJ h;rw [<-cY];exact l
theorem aqq {a b:Str} (hx:Ls x=Ls a++32::Ls b) (ha:32∉Ls a) (hb:32∉Ls b):Txt.split x ⟨#[32]⟩=[a,b]:=by
 rw [show x=Str.join ⟨#[32]⟩ [a,b] from pD (by rw [hx,nJ];rfl)];exact B_ (by simp) λp c=>by
  simp at c;rcases c with rfl|rfl
  ·exact ha
  ·exact hb
theorem UL {a b c:Str} (hx:Ls x=Ls a++32::(Ls b++32::Ls c)) (ha:32∉Ls a) (hb:32∉Ls b) (hc:32∉Ls c):Txt.split x ⟨#[32]⟩=[a,b,c]:=by
 rw [show x=Str.join ⟨#[32]⟩ [a,b,c] from pD (by rw [hx,nJ,nJ];rfl)];exact B_ (by simp) λp d=>by
  simp at d;rcases d with rfl|rfl|rfl
  ·exact ha
  ·exact hb
  ·exact hc
theorem Dn {r:bR} (h:Txt.split x ⟨#[32]⟩=w0::r) (n:¬ w0="net"):yw x=w0::r:=by unfold yw;rw [h,bw (show ¬ (w0::r).head?=some (ofString "net") from λz=>n (gw z))]
section
variable {cZ:gQ} {k:Nat} {d:Addr} {D:iB} {kp:dh} {Q:VK} {E:XK} {nm c:Str}
theorem arj (RA:jZ P w K mg aF cZ k w0 ["net"] sp) (da:fM C H d D kn kp) (ln:kn.length<900) (lp:kp.length<900) (hp:cF kn (.inr nm)=some v) (hx:Ls x=Ls w0++32::Ls nm) (nw:32∉Ls w0) (lw:w0.length<=10) (n1:¬ w0="net") (n2:¬ w0="exits") (hn:fJ (Ls nm)) (q:∀ (l:Addr) (H1:Hp),H l=none->aG H H1->H1 l=some (.lst [v])->sp [.ref l] H1 (A_ D kn kp H1 "net" nm Q) E):rA P w K mg aF cZ k C [.ref d,.str x] H Q E:=by
 have a:=aqq hx nw (rN hn);have g:=nM hn;have e:x.length<=100:=by rw [<-cY,hx];simp [cY];lk
 have b:g_ w0 ["net"] 1=(["net"]:bR):=bw n2;refine ⟨d,D,kn,kp,x,w0,nm,"net",[],[],sp,[v],rfl,da,by lk, by rw [a];rfl,Dn a n1,RA,by simp,by simp,?_,?_,λy c=>?_,ln,lp,q⟩
 ·show Paired pQ (g_ w0 ["net"] 1) [nm];rw [b];exact .cons (.name (by k_go) (by k_go) hn) .nil
 ·show mV kn kp (g_ w0 ["net"] 1) [nm] _;rw [b];exact .cons (.net hp) .nil
 ·have:y=nm:=by simpa using c
  rw [this];lk
theorem aoV {txt:Str} (RA:jZ P w K mg aF cZ k "net" ["new net","text"] sp) (da:fM C H d D kn kp) (ln:kn.length<900) (lp:kp.length<900) (hx:Ls x=Ls (ofString "net")++32::(Ls nm++32::Ls txt)) (hn:fJ (Ls nm)) (lt:txt.length<=4000) (q:∀ (l:Addr) (H1:Hp),H l=none->aG H H1->H1 l=some (.lst [.str nm,.str txt])->sp [.ref l] H1 (A_ D kn kp H1 "new net" nm Q) E):rA P w K mg aF cZ k C [.ref d,.str x] H Q E:=by
 have m:=nM hn;have b:32∉Ls (ofString "net"):=by k_go
 have j:(ofString "net").length=3:=by k_go
 have g:x.length<=5000:=by rw [<-cY,hx];simp [cY];lk
 obtain ⟨r,a⟩:=split_head hx b;rw [wJ] at a;have ex:x=Mk (Ls (ofString "net")++32::(Ls nm++32::Ls txt)):=by rw [<-hx,wJ]
 have e:yw x=[ofString "net",nm,txt]:=by unfold yw;rw [a,bF (show (ofString "net":: r).head?=some (ofString "net") from rfl),ex,akj (by decide) b (rN hn),wJ,wJ,wJ]
 have c:g_ "net" ["new net","text"] 2=(["new net","text"]:bR):=bw (by k_go);refine ⟨d,D,kn,kp,x,"net",nm,"new net",[txt],["text"],sp,[.str nm,.str txt],rfl,da,g,by rw [a];rfl,e,RA,by simp,by simp,?_,?_,λy i=>?_,ln,lp,q⟩
 ·show Paired pQ (g_ "net" ["new net","text"] 2) [nm,txt];rw [c];exact .cons (.name (by k_go) (by k_go) hn) (.cons .text .nil)
 ·show mV kn kp (g_ "net" ["new net","text"] 2) [nm,txt] _;rw [c];exact .cons (.other (by k_go) (by k_go) (by k_go)) (.cons (.other (by k_go) (by k_go) (by k_go)) .nil)
 ·have:y=nm\/y=txt:=by simpa using i
  rcases this with rfl|rfl<;>lk
end
theorem akn (n:Nat) (h:n<100):rz (Ls (bT n))/\PySem.intText? (bT n)=some (n:Int):=by
 have a:∀ m:Fin 100,(1<=(eZ (Ls (bT (m.val:Int)))).length/\(eZ (Ls (bT (m.val:Int)))).length<=60/\(∀ c∈eZ (Ls (bT (m.val:Int))),48<=c/\c<=57)/\(Ls (bT (m.val:Int))=[48]\/(eZ (Ls (bT (m.val:Int)))).head?≠some 48))/\PySem.intText? (bT (m.val:Int))=some (m.val:Int):=by k_go
 exact a ⟨n,h⟩
theorem amL:rz (Ls (bT (-1)))/\PySem.intText? (bT (-1))=some (-1):=by
 have a:(1<=(eZ (Ls (bT (-1)))).length/\(eZ (Ls (bT (-1)))).length<=60/\(∀ c∈eZ (Ls (bT (-1))),48<=c/\c<=57)/\(Ls (bT (-1))=[48]\/(eZ (Ls (bT (-1)))).head?≠some 48))/\PySem.intText? (bT (-1))=some (-1):=by k_go
 exact a
theorem aoW {i:Int} (h0:-1<=i) (h1:i<100):rz (Ls (bT i))/\PySem.intText? (bT i)=some i:=by
 by_cases c:i=-1
 ·subst c;exact amL
 ·obtain ⟨n,rfl⟩:∃ n:Nat,i=(n:Int):=⟨i.toNat,by lk⟩;exact akn n (by lk)
end
section
open PySem.SeqAt
inductive ark (m:Sp) (vs:aD) (H:Hp) (Q:VK) (E:XK):Prop
 |mk (l:Addr) (y x:V) (h1:vs=[.ref l]) (h2:H l=some (.lst [y,x])) (h:m [x] H Q E)
def yQ (m:Sp):Sp:=λvs H Q E=>ark m vs H Q E
inductive arl (m:Sp) (vs:aD) (H:Hp) (Q:VK) (E:XK):Prop
 |mk (l:Addr) (y x z:V) (h1:vs=[.ref l]) (h2:H l=some (.lst [y,x,z])) (h:m [x,z] H Q E)
def Ng (m:Sp):Sp:=λvs H Q E=>arl m vs H Q E
inductive arn (m:Sp) (vs:aD) (H:Hp) (Q:VK) (E:XK):Prop
 |mk (l:Addr) (y x:V) (h1:vs=[.ref l]) (h2:H l=some (.lst [y,x])) (h:m [x] H (λu H'=>∃ (t:Addr) (v p:V),u=.ref t/\H' t=some (.tup [v,p])/\Q v H') E)
def afn (m:Sp):Sp:=λvs H Q E=>arn m vs H Q E
theorem ahD {an:Addr} {vs:aD} {Q Q':VK} {E:XK} (h:ug an n vs H Q E) (i:∀ u H',Q u H'->Q' u H'):ug an n vs H Q' E:=by
 rcases h with h|h
 ·obtain ⟨k,e,kn,b,q⟩:=h;exact .inl ⟨k,e,kn,b,λT v pv H' f s x a c=>i _ _ (q T v pv H' f s x a c)⟩
 ·exact .inr h
theorem ako (v:V) (xs:aD):fX (v::xs) (some 1) none=xs:=by
 unfold fX;have a:HT.bV (v::xs).length 0 (some 1)=1:=by unfold HT.bV;simp
 have b:HT.bV (v::xs).length (v::xs).length none=(v::xs).length:=rfl;rw [a,b];show (xs.take _)=xs;rw [sI (by simp)]
end
section
open PySem.Spec PyProof.Rows
end
variable {kd:dh}
section
open PySem.SeqAt PyProof.Rows
inductive wU:Str->Int->wH->Prop
 |fold {k:Nat} (k3:k<=3):wU "folded" (pw k) (.net (pw k) (jo k))
 |rnd {k:Nat} (k3:k<=3):wU "rounds" (pw k) (.net (pw k) (Bj k))
 |brk {i:Int} (i1:1<=i) (i8:i<=8):wU "brick" i (.net i (wj i))
 |aro {i:Int} (h:¬ sZ i):wU "folded" i .none
 |asB {i:Int} (h:¬ sZ i):wU "rounds" i .none
 |asC {i:Int} (h:¬ (1<=i/\i<=8)):wU "brick" i .none
inductive uG (H:Hp) (kn:dh):Str->Str->wH->Prop
 |net {aj:Int} {ws:aK} (w1:1<=aj) (w8:aj<=8) (ok:bC aj ws) (l:ws.length<=40):uG H kn "net" (jK aj ws) (.net aj ws)
 |blt {w:Str} {i:Int} {o:wH} (h:wU w i o) (i0:-1<=i) (i1:i<100):uG H kn w (bT i) o
 |Ez {nm:Str} {u:V} {aj:Int} {ws:aK} (hn:fJ (Ls nm)) (h:cF kn (.inr nm)=some u) (net:dG H u aj ws) (l:ws.length<=40):uG H kn "mirror" nm (.net aj (ws.map (mO aj)))
 |EY {nm:Str} {u:V} {aj:Int} {ws:aK} (hn:fJ (Ls nm)) (h:cF kn (.inr nm)=some u) (net:dG H u aj ws) (l:ws.length<=40):uG H kn "slim" nm (.net aj (jt ws))
 |E_ {nm nm':Str} {u u':V} {a b:Int} {us vs:aK} (hn:fJ (Ls nm)) (hn':fJ (Ls nm')) (h:cF kn (.inr nm)=some u) (h':cF kn (.inr nm')=some u') (net:dG H u a us) (fB:dG H u' b vs):uG H kn "behind" ((nm++ofString " ")++nm') (yj a us b vs)
 |Fb {nm nm':Str} {u u':V} {a b:Int} {us vs:aK} (hn:fJ (Ls nm)) (hn':fJ (Ls nm')) (h:cF kn (.inr nm)=some u) (h':cF kn (.inr nm')=some u') (net:dG H u a us) (fB:dG H u' b vs):uG H kn "beside" ((nm++ofString " ")++nm') (yp a us b vs)
theorem aqr {a b c e:Str} (hx:Ls x=Ls a++32::(Ls b++32::(Ls c++32::Ls e))) (ha:32∉Ls a) (hb:32∉Ls b) (hc:32∉Ls c) (he:32∉Ls e):Txt.split x ⟨#[32]⟩=[a,b,c,e]:=by
 rw [show x=Str.join ⟨#[32]⟩ [a,b,c,e] from pD (by rw [hx,nJ,nJ,nJ];rfl)];exact B_ (by simp) λp d=>by
  simp at d;rcases d with rfl|rfl|rfl|rfl
  ·exact ha
  ·exact hb
  ·exact hc
  ·exact he
section
variable {cZ:gQ} {k:Nat} {d:Addr} {D:iB} {kp:dh} {Q:VK} {E:XK} {nm c:Str}
theorem Dz {n:Int} (RA:jZ P w K mg aF cZ k w0 ["new net","number"] sp) (da:fM C H d D kn kp) (ln:kn.length<900) (lp:kp.length<900) (hx:Ls x=Ls w0++32::(Ls nm++32::Ls c)) (nw:32∉Ls w0) (lw:w0.length<=10) (n1:¬ w0="net") (n2:¬ w0="exits") (hn:fJ (Ls nm)) (hc:rz (Ls c)) (hv:PySem.intText? c=some n) (q:∀ (l:Addr) (H1:Hp),H l=none->aG H H1->H1 l=some (.lst [.str nm,.int n])->sp [.ref l] H1 (A_ D kn kp H1 "new net" nm Q) E):rA P w K mg aF cZ k C [.ref d,.str x] H Q E:=by
 have a:=UL hx nw (rN hn) (abD hc);have j:=nM hn;have i:=JR hc;have g:x.length<=100:=by rw [<-cY,hx];simp [cY];lk
 have b:g_ w0 ["new net","number"] 2=(["new net","number"]:bR):=bw n2;refine ⟨d,D,kn,kp,x,w0,nm,"new net",[c],["number"],sp,[.str nm,.int n],rfl,da,by lk, by rw [a];rfl,Dn a n1,RA,by simp,by simp,?_,?_,λy e=>?_,ln,lp,q⟩
 ·show Paired pQ (g_ w0 ["new net","number"] 2) [nm,c];rw [b];exact .cons (.name (by k_go) (by k_go) hn) (.cons (.num hc) .nil)
 ·show mV kn kp (g_ w0 ["new net","number"] 2) [nm,c] _;rw [b];exact .cons (.other (by k_go) (by k_go) (by k_go)) (.cons (.num hv (by lk)) .nil)
 ·have:y=nm\/y=c:=by simpa using e
  rcases this with rfl|rfl<;>lk
theorem aek {a:Str} (RA:jZ P w K mg aF cZ k w0 ["new net","net"] sp) (da:fM C H d D kn kp) (ln:kn.length<900) (lp:kp.length<900) (hp:cF kn (.inr a)=some v) (hx:Ls x=Ls w0++32::(Ls nm++32::Ls a)) (nw:32∉Ls w0) (lw:w0.length<=10) (n1:¬ w0="net") (n2:¬ w0="exits") (hn:fJ (Ls nm)) (ha:fJ (Ls a)) (q:∀ (l:Addr) (H1:Hp),H l=none->aG H H1->H1 l=some (.lst [.str nm,v])->sp [.ref l] H1 (A_ D kn kp H1 "new net" nm Q) E):rA P w K mg aF cZ k C [.ref d,.str x] H Q E:=by
 have b:=UL hx nw (rN hn) (rN ha);have j:=nM hn;have g:=nM ha;have i:x.length<=100:=by rw [<-cY,hx];simp [cY];lk
 have c:g_ w0 ["new net","net"] 2=(["new net","net"]:bR):=bw n2;refine ⟨d,D,kn,kp,x,w0,nm,"new net",[a],["net"],sp,[.str nm,v],rfl,da,by lk, by rw [b];rfl,Dn b n1,RA,by simp,by simp,?_,?_,λy e=>?_,ln,lp,q⟩
 ·show Paired pQ (g_ w0 ["new net","net"] 2) [nm,a];rw [c];exact .cons (.name (by k_go) (by k_go) hn) (.cons (.name (by k_go) (by k_go) ha) .nil)
 ·show mV kn kp (g_ w0 ["new net","net"] 2) [nm,a] _;rw [c];exact .cons (.other (by k_go) (by k_go) (by k_go)) (.cons (.net hp) .nil)
 ·have:y=nm\/y=a:=by simpa using e
  rcases this with rfl|rfl<;>lk
theorem ael {v':V} {a b:Str} (RA:jZ P w K mg aF cZ k w0 ["new net","net","net"] sp) (da:fM C H d D kn kp) (ln:kn.length<900) (lp:kp.length<900) (hp:cF kn (.inr a)=some v) (hp':cF kn (.inr b)=some v') (hx:Ls x=Ls w0++32::(Ls nm++32::(Ls a++32::Ls b))) (nw:32∉Ls w0) (lw:w0.length<=10) (n1:¬ w0="net") (n2:¬ w0="exits") (hn:fJ (Ls nm)) (ha:fJ (Ls a)) (hb:fJ (Ls b)) (q:∀ (l:Addr) (H1:Hp),H l=none->aG H H1->H1 l=some (.lst [.str nm,v,v'])->sp [.ref l] H1 (A_ D kn kp H1 "new net" nm Q) E):rA P w K mg aF cZ k C [.ref d,.str x] H Q E:=by
 have c:=aqr hx nw (rN hn) (rN ha) (rN hb);have n:=nM hn;have i:=nM ha;have m:=nM hb;have j:x.length<=100:=by rw [<-cY,hx];simp [cY];lk
 have e:g_ w0 ["new net","net","net"] 3=(["new net","net","net"]:bR):=bw n2;refine ⟨d,D,kn,kp,x,w0,nm,"new net",[a,b],["net","net"],sp,[.str nm,v,v'],rfl,da,by lk, by rw [c];rfl,Dn c n1,RA,by simp,by simp,?_,?_,λy g=>?_,ln,lp,q⟩
 ·show Paired pQ (g_ w0 ["new net","net","net"] 3) [nm,a,b];rw [e];exact .cons (.name (by k_go) (by k_go) hn) (.cons (.name (by k_go) (by k_go) ha) (.cons (.name (by k_go) (by k_go) hb) .nil))
 ·show mV kn kp (g_ w0 ["new net","net","net"] 3) [nm,a,b] _;rw [e];exact .cons (.other (by k_go) (by k_go) (by k_go)) (.cons (.net hp) (.cons (.net hp') .nil))
 ·have:y=nm\/y=a\/y=b:=by simpa using g
  rcases this with rfl|rfl|rfl<;>lk
end
structure MJ (P:Program) (w:World) (K:bI) (mg:dH) (aF:Heap) (cZ:gQ) (k:Nat) (a:mQ):Prop where
 net:jZ P w K mg aF cZ k "net" ["new net","text"] abC
 folded:jZ P w K mg aF cZ k "folded" ["new net","number"] (afn (ug a.fW 4))
 rounds:jZ P w K mg aF cZ k "rounds" ["new net","number"] (yQ (JQ a.fW))
 Vp:jZ P w K mg aF cZ k "brick" ["new net","number"] (yQ (J0 a.fW))
 behind:jZ P w K mg aF cZ k "behind" ["new net","net","net"] (Ng (Dv a yj))
 beside:jZ P w K mg aF cZ k "beside" ["new net","net","net"] (Ng (Dv a yp))
 mirror:jZ P w K mg aF cZ k "mirror" ["new net","net"] (yQ Ql)
 slim:jZ P w K mg aF cZ k "slim" ["new net","net"] (yQ Ur)
def arp (a:mQ) (D:iB) (kn:dh) (nm:Str) (H:Hp) (Q:VK) (E:XK):wH->Prop
 |.none=>∀ H1,aG H H1->E (.ref a.fW) none H1
 |.many=>∀ H1,aG H H1->E (.ref a.many) none H1
 |.net aj ws=>∀ u H1,aG H H1->dD H1 u aj ws->Q (.str "ok") (upd H1 D.n (.dK (cI kn (.inr nm) u)))
section
variable {cZ:gQ} {k:Nat} {a:mQ} {d:Addr} {D:iB} {kp:dh} {Q:VK} {E:XK} {nm rest:Str} {o:wH}
theorem aem (R:MJ P w K mg aF cZ k a) (da:fM C H d D kn kp) (ln:kn.length<900) (lp:kp.length<900) (hn:fJ (Ls nm)) (r:uG H kn w0 rest o) (hx:Ls x=Ls w0++32::(Ls nm++32::Ls rest)) (q:arp a D kn nm H Q E o):rA P w K mg aF cZ k C [.ref d,.str x] H Q E:=by
 cases r with
 |@net aj ws W O ok l =>exact aoV R.net da ln lp hx hn (by rw [zR];lk) λj H1 n c g=>⟨j,nm,aj,ws,rfl,g,W,O,ok,l,λv H2 t n2=>.net rfl t (q v H2 (aB c t) n2)⟩
 |@blt _ i _ h V i1 =>
  obtain ⟨p,n2⟩:=aoW V i1;cases h with
  |@fold k J=>exact Dz R.folded da ln lp hx (by k_go) (by k_go) (by k_go) (by k_go) hn p n2 λj H1 n c g=>⟨j,_,_,rfl,g,.inl ⟨k,rfl,by lk, J,λT v pv H' f s' x net Y=>⟨T,v,pv,rfl,x,.net rfl s' (q v H' (aB c s') net)⟩⟩⟩
  |@rnd k J=>exact Dz R.rounds da ln lp hx (by k_go) (by k_go) (by k_go) (by k_go) hn p n2 λj H1 n c g=>⟨j,_,_,rfl,g,.inl ⟨k,rfl,J,λv H' s' net=>.net rfl s' (q v H' (aB c s') net)⟩⟩
  |brk U S=>exact Dz R.Vp da ln lp hx (by k_go) (by k_go) (by k_go) (by k_go) hn p n2 λj H1 n c g=>⟨j,_,_,rfl,g,.inl ⟨i,rfl,U,S,λv H' s' net=>.net rfl s' (q v H' (aB c s') net)⟩⟩
  |aro h=>exact Dz R.folded da ln lp hx (by k_go) (by k_go) (by k_go) (by k_go) hn p n2 λj H1 n c g=>⟨j,_,_,rfl,g,.inr ⟨by decide,_,rfl,.inr ⟨i,rfl,h⟩,q H1 c⟩⟩
  |asB h=>exact Dz R.rounds da ln lp hx (by k_go) (by k_go) (by k_go) (by k_go) hn p n2 λj H1 n c g=>⟨j,_,_,rfl,g,.inr ⟨_,rfl,.inr ⟨i,rfl,h⟩,q H1 c⟩⟩
  |asC h=>exact Dz R.Vp da ln lp hx (by k_go) (by k_go) (by k_go) (by k_go) hn p n2 λj H1 n c g=>⟨j,_,_,rfl,g,.inr ⟨_,rfl,.inr ⟨i,rfl,h⟩,q H1 c⟩⟩
 |@Ez _ u aj ws h1 h net l =>exact aek R.mirror da ln lp h hx (by k_go) (by k_go) (by k_go) (by k_go) hn h1 λj H1 n c g=>⟨j,_,_,rfl,g,⟨u,aj,ws,rfl,net.1.kt (b_ c (bG _)),by lk, λv' H' s' y=>.net rfl s' (q v' H' (aB c s') y)⟩⟩
 |@EY _ u aj ws h1 h net l =>exact aek R.slim da ln lp h hx (by k_go) (by k_go) (by k_go) (by k_go) hn h1 λj H1 n c g=>⟨j,_,_,rfl,g,⟨u,aj,ws,rfl,net.1.kt (b_ c (bG _)),net.2.1,net.2.2.1,net.2.2.2.1,by lk, λv' H' s' y=>.net rfl s' (q v' H' (aB c s') y)⟩⟩
 |@E_ p n2 u L B I us vs h1 h2 M N net m =>
  have z:Ls x=Ls ("behind":Str)++32::(Ls nm++32::(Ls p++32::Ls n2)):=by rw [hx,dJ,dJ,blank];show _++32::(_++32::((_++[32])++_))=_;simp
  refine ael R.behind da ln lp M N z (by k_go) (by k_go) (by k_go) (by k_go) hn h1 h2 λj H1 n c g=>⟨j,_,_,_,rfl,g,u,L,B,I,us,vs,rfl,net.1.kt (b_ c (bG _)),m.1.kt (b_ c (bG _)),net.2.1,net.2.2.1,m.2.1,m.2.2.1,net.2.2.2.1,m.2.2.2.1,by have:=net.2.2.2.2;lk, by have:=m.2.2.2.2;lk, ?_⟩;cases e:yj B us I vs with
  |none=>rw [e] at q;exact λH2 t=>q H2 (aB c t)
  |many=>rw [e] at q;exact λH2 t=>q H2 (aB c t)
  |net a b=>rw [e] at q;exact λv' H' s' y=>.net rfl s' (q v' H' (aB c s') y)
 |@Fb p n2 u L B I us vs h1 h2 M N net m =>
  have z:Ls x=Ls ("beside":Str)++32::(Ls nm++32::(Ls p++32::Ls n2)):=by rw [hx,dJ,dJ,blank];show _++32::(_++32::((_++[32])++_))=_;simp
  refine ael R.beside da ln lp M N z (by k_go) (by k_go) (by k_go) (by k_go) hn h1 h2 λj H1 n c g=>⟨j,_,_,_,rfl,g,u,L,B,I,us,vs,rfl,net.1.kt (b_ c (bG _)),m.1.kt (b_ c (bG _)),net.2.1,net.2.2.1,m.2.1,m.2.2.1,net.2.2.2.1,m.2.2.2.1,by have:=net.2.2.2.2;lk, by have:=m.2.2.2.2;lk, ?_⟩;cases e:yp B us I vs with
  |none=>rw [e] at q;exact λH2 t=>q H2 (aB c t)
  |many=>rw [e] at q;exact λH2 t=>q H2 (aB c t)
  |net a b=>rw [e] at q;exact λv' H' s' y=>.net rfl s' (q v' H' (aB c s') y)
end
inductive akp (vs:aD) (H:Hp) (Q:VK):Prop
 |mk (t:Addr) (rs:aD) (aj:Int) (ws:aK) (h1:vs=[.ref t]) (h2:H t=some (.tup rs)) (h3:bZ H rs ws) (h4:bC aj ws) (h5:ws.length<=100) (q:∀ (t':Addr) (rs':aD) (H':Hp),aG H H'->H' t'=some (.tup rs')->bZ H' rs' (jt ws)->Q (.ref t') H')
def amM:=nE akp
def aoX (a:mQ) (Q:VK):XK:=λc _ H'=>(c=.ref a.fW/\∀ H2,aG H' H2->Q (.str "none") H2)\/(c=.ref a.many/\∀ H2,aG H' H2->Q (.str "many") H2)
inductive akq (P:Program) (w:World) (K:bI) (mg:dH) (aF:Heap) (cZ:gQ) (a:mQ) (C:Addr) (vs:aD) (H:Hp) (Q:VK):Prop
 |mk (d:Addr) (D:iB) (kn kp:dh) (x:Str) (h1:vs=[.ref d,.str x]) (da:fM C H d D kn kp) (h:rA P w K mg aF cZ 13 C [.ref d,.str x] H (λv H'=>(∃ y,v=.str y)/\Q v H') (aoX a Q))
def J4 (P:Program) (w:World) (K:bI) (mg:dH) (aF:Heap) (cZ:gQ) (a:mQ) (C:Addr):=nE (akq P w K mg aF cZ a C)
theorem J6 {p:Int×Int->Bool} (k:aK):∀ {j:Nat} {o:Int×Int},k[j]?=some o->p o=true->(∀ (m:Nat) (o':Int×Int),j<m->k[m]?=some o'->p o'=false)->lW p k=some o:=by
 refine GX (P:=λk=>∀ {j:Nat} {o:Int×Int},k[j]?=some o->p o=true->(∀ (m:Nat) (o':Int×Int),j<m->k[m]?=some o'->p o'=false)->lW p k=some o) (λ{j o} h=>by simp at h) (λl a q=>?_) k;intro j o e g b;rw [zJ];by_cases c:j<l.length
 ·rw [ou c] at e;have r:=b l.length a c (by simp);rw [r,bw (by decide)];exact q e g λm o' i d=>b m o' i (by have:m<l.length:=(gb.mp d).1;rw [ou this];exact d)
 ·have n:j=l.length:=by have:=(gb.mp e).1;rw [dj] at this;simp at this;lk
  subst n;have ea:a=o:=by simpa using e
  subst ea;rw [g,bF rfl]
theorem aco {p:Int×Int->Bool} (k:aK) (h:∀ o∈k,p o=false):lW p k=none:=by rw [<-agY,show k.filter p=[] from List.filter_eq_nil_iff.mpr λa b=>by rw [h a b];decide];rfl
def tQ (kd:dh) (k:aK):Prop:=∀ l:Int,(cF kd (.inl l)=none/\∀ o∈k,gY l o=false) \/
 ∃ (j:Nat) (o:Int×Int),cF kd (.inl l)=some (.int j)/\k[j]?=some o/\gY l o=true/\∀ (m:Nat) (o':Int×Int),j<m->k[m]?=some o'->gY l o'=false
theorem tQ.nil:tQ [] []:=λl=>.inl ⟨rfl,λ_ h=>nomatch h⟩
theorem tQ.more {k:aK} (h:tQ kd k) (w:Int×Int):tQ (cI (cI kd (.inl w.1) (.int k.length)) (.inl w.2) (.int k.length)) (k++[w]):=λl=>by
 rw [vh,vh];have c:∀ (m:Nat) (o:Int×Int),k.length<m->(k++[w])[m]?=some o->False:=λm o d e=>by have:=(gb.mp e).1;simp at this;lk
 by_cases p:l=w.2
 ·refine .inr ⟨k.length,w,by rw [bF (gM Sum.inl p)],by simp,by simp [gY,p],λm o d e=>(c m o d e).elim⟩
 ·rw [bw λz=>p (U7 z)];by_cases i:l=w.1
  ·refine .inr ⟨k.length,w,by rw [bF (gM Sum.inl i)],by simp,by simp [gY,i],λm o d e=>(c m o d e).elim⟩
  ·rw [bw λz=>i (U7 z)];have q:gY l w=false:=by simp [gY];exact ⟨λz=>i z.symm,λz=>p z.symm⟩
   rcases h l with ⟨a,b⟩|⟨j,o,a,e,g,b⟩
   ·refine .inl ⟨a,λo t=>?_⟩;rcases o9.mp t with z|z
    ·exact b o z
    ·have:o=w:=by simpa using z
     rw [this];exact q
   ·have r:j<k.length:=(gb.mp e).1;refine .inr ⟨j,o,a,by rw [ou r];exact e,g,λm o' d n=>?_⟩;by_cases u:m<k.length
    ·rw [ou u] at n;exact b m o' d n
    ·have:m=k.length:=by have:=(gb.mp n).1;simp at this;lk
     subst this;have:w=o':=by simpa using n
     rw [<-this];exact q
theorem tQ.idle {k:aK} (h:tQ kd k) {w:Int×Int} {j:Nat} (a1:cF kd (.inl w.1)=some (.int j)) (a2:cF kd (.inl w.2)=some (.int j)) (e:k[j]?=some w):L2.idle k w:=by
 refine (JX k w).mp ⟨?_,?_⟩
 ·rcases h w.1 with ⟨a,_⟩|⟨d,o,a,c,g,b⟩
  ·rw [a1] at a;cases a
  ·rw [a1] at a;have:j=d:=by have:=V.int.inj (gw a);lk
   subst this;rw [e] at c;cases c;exact J6 k e g b
 ·rcases h w.2 with ⟨a,_⟩|⟨d,o,a,c,g,b⟩
  ·rw [a2] at a;cases a
  ·rw [a2] at a;have:j=d:=by have:=V.int.inj (gw a);lk
   subst this;rw [e] at c;cases c;exact J6 k e g b
theorem tQ.aoY {k:aK} (h:tQ kd k) {w:Int×Int} (i:L2.idle k w):∃ j:Nat,cF kd (.inl w.1)=some (.int j)/\cF kd (.inl w.2)=some (.int j)/\k[j]?=some w:=by
 obtain ⟨i1,i2⟩:=(JX k w).mpr i;have m:gY w.1 w=true:=by simp [gY]
 have n2:gY w.2 w=true:=by simp [gY]
 rcases h w.1 with ⟨_,b⟩|⟨j,o,a,e,g,b⟩
 ·rw [aco k b] at i1;cases i1
 rcases h w.2 with ⟨_,d⟩|⟨l,o',p,n,g',d⟩
 ·rw [aco k d] at i2;cases i2
 rw [J6 k e g b] at i1;rw [J6 k n g' d] at i2;cases i1;cases i2;have:j=l:=by
  rcases Nat.lt_trichotomy j l with c|c|c
  ·rw [b l w c n] at m;cases m
  ·exact c
  ·rw [d j w c e] at n2;cases n2
 subst this;exact ⟨j,a,p,e⟩
end
section
open PyProof.Rows
section
variable {a₀:Array Keyed} {st:SortSt} {lo:Nat}
end
end
section
open PySem.Spec PyProof.Rows
end
section
open PySem.SeqAt
end
section
open PySem.Spec PyProof.Rows
end
section
open PySem.SeqAt PyProof.Rows
def D_ (nm:Str) (cs:aU):Str:=Txt.join ⟨#[32]⟩ (ofString "exits":: nm::cs.map bT)
section
variable {cZ:gQ} {k:Nat} {d:Addr} {D:iB} {kp:dh} {Q:VK} {E:XK} {nm c:Str}
theorem aoZ {v':V} {b:Str} (RA:jZ P w K mg aF cZ k w0 ["net","net"] sp) (da:fM C H d D kn kp) (ln:kn.length<900) (lp:kp.length<900) (hp:cF kn (.inr nm)=some v) (hp':cF kn (.inr b)=some v') (hx:Ls x=Ls w0++32::(Ls nm++32::Ls b)) (nw:32∉Ls w0) (lw:w0.length<=10) (n1:¬ w0="net") (n2:¬ w0="exits") (hn:fJ (Ls nm)) (hb:fJ (Ls b)) (q:∀ (l:Addr) (H1:Hp),H l=none->aG H H1->H1 l=some (.lst [v,v'])->sp [.ref l] H1 (A_ D kn kp H1 "net" nm Q) E):rA P w K mg aF cZ k C [.ref d,.str x] H Q E:=by
 have a:=UL hx nw (rN hn) (rN hb);have j:=nM hn;have i:=nM hb;have g:x.length<=100:=by rw [<-cY,hx];simp [cY];lk
 have c:g_ w0 ["net","net"] 2=(["net","net"]:bR):=bw n2;refine ⟨d,D,kn,kp,x,w0,nm,"net",[b],["net"],sp,[v,v'],rfl,da,by lk, by rw [a];rfl,Dn a n1,RA,by simp,by simp,?_,?_,λy e=>?_,ln,lp,q⟩
 ·show Paired pQ (g_ w0 ["net","net"] 2) [nm,b];rw [c];exact .cons (.name (by k_go) (by k_go) hn) (.cons (.name (by k_go) (by k_go) hb) .nil)
 ·show mV kn kp (g_ w0 ["net","net"] 2) [nm,b] _;rw [c];exact .cons (.net hp) (.cons (.net hp') .nil)
 ·have:y=nm\/y=b:=by simpa using e
  rcases this with rfl|rfl<;>lk
end
end
section
open PySem.SeqAt PyProof.Rows PySem.NumText
theorem aen (m:Nat):Ls (bT (m:Int))=(toDigits 10 m).map toNat:=PySem.W.KIN.signs_num m
theorem aeo (m:Nat):Ls (bT (Int.negSucc m))=45::(toDigits 10 (m+1)).map toNat:=by show (ofString (toString (Int.negSucc m))).cps.toList=_;rw [signs_ofString];show ("-"++Nat.repr (m+1)).toList.map toNat=_;rw [String.toList_append,Nat.toList_repr];rfl
theorem G3 (m:Nat):AllDigits ((toDigits 10 m).map toNat):=λc b=>by obtain ⟨ch,a,e⟩:=gW.mp b;rw [<-e];exact digit_range (Nat.isDigit_of_mem_toDigits (by decide) (by decide) a)
theorem DG (m:Nat):(toDigits 10 m).map toNat≠[]:=λe=>Nat.toDigits_ne_nil (List.map_eq_nil_iff.mp e)
theorem LQ {m k:Nat} (k0:0<k) (h:m<10 ^ k):((toDigits 10 m).map toNat).length<=k:=by rw [bD];exact (Nat.length_toDigits_le_iff (by decide) k0).mpr h
theorem acp {m:Nat} (h:0<m):((toDigits 10 m).map toNat).head?≠some 48:=by
 induction m using Nat.strongRecOn with
 |_ m ih =>
  by_cases c:m<10
  ·rw [Nat.toDigits_of_lt_base c];have:∀ d:Nat,d<10->0<d->((Nat.digitChar d).toNat)≠48:=by decide
   exact λz=>this m c h (gw z)
  ·rw [Nat.toDigits_of_base_le (by decide) (by lk),dF,List.head?_append];have:=ih (m / 10) (by lk) (by lk);cases e:((toDigits 10 (m / 10)).map toNat).head? with
   |none=>exact absurd (List.head?_eq_none_iff.mp e) (DG _)
   |some z=>rw [e] at this;exact this
theorem J7 (m:Nat):eZ ((toDigits 10 m).map toNat)=(toDigits 10 m).map toNat:=by
 unfold eZ;rw [bw];intro z;cases e:(toDigits 10 m).map toNat with
 |nil=>exact DG m e
 |cons c r =>rw [e] at z;have:=G3 m c (by rw [e];exact iU);have:=gw z;lk
theorem J8 (r:gk):eZ (45::r)=r:=by unfold eZ;exact bF rfl
theorem zT {i:Int} {k:Nat} (k0:0<k) (h:i.natAbs<10 ^ k):(bT i).length<=k+1:=by
 rw [<-cY];cases i with
 |ofNat m=>rw [show Int.ofNat m=(m:Int) from rfl,aen];have:=LQ (m:=m) k0 h;lk
 |negSucc m=>rw [aeo,gj];have:=LQ (m:=m+1) k0 h;lk
theorem Ae {i:Int} (h:i.natAbs<10 ^ 60):rz (Ls (bT i))/\PySem.intText? (bT i)=some i:=by
 cases i with
 |ofNat m =>
  have e:Ls (bT (Int.ofNat m))=(toDigits 10 m).map toNat:=aen m;have l:=LQ (m:=m) (k:=60) (by decide) h;refine ⟨⟨?_,?_,?_,?_⟩,?_⟩
  ·rw [e,J7];exact CP.mpr (DG m)
  ·rw [e,J7];exact l
  ·rw [e,J7];exact G3 m
  ·rw [e,J7];by_cases z:m=0
   ·subst z;exact .inl (by decide)
   ·exact .inr (acp (by lk))
  ·have:=intText_digits (x:=bT (Int.ofNat m)) (by show AllDigits (Ls _);rw [e];exact G3 m) (by show Ls _≠_;rw [e];exact DG m) (by rw [<-cY,e];lk);rw [this];show some ((digitsVal (Ls (bT (Int.ofNat m))):Nat):Int)=_;rw [e,acT];rfl
 |negSucc m =>
  have e:=aeo m;have l:=LQ (m:=m+1) (k:=60) (by decide) h;refine ⟨⟨?_,?_,?_,?_⟩,?_⟩
  ·rw [e,J8];exact CP.mpr (DG _)
  ·rw [e,J8];exact l
  ·rw [e,J8];exact G3 _
  ·rw [e,J8];exact .inr (acp (by lk))
  ·have:=intText_neg (x:=bT (Int.negSucc m)) e (G3 _) (DG _) (by rw [<-cY,e,gj];lk);rw [this,acT];rfl
theorem qI {i:Int} (h:i.natAbs<10 ^ 62):i.natAbs.log2<1920:=by
 by_cases z:i.natAbs=0
 ·rw [z];decide
 ·exact (Nat.log2_lt z).mpr (j9 h (by k_go))
end
section
open PySem.SeqAt
end
variable {nm:Str}
section
open PySem.SeqAt PyProof.Rows
def Wn (lo hi:Int) (cs:aU):Prop:=∀ c∈cs,lo<=c/\c<=hi
theorem Wn.mono {lo' hi':Int} (h:Wn lo hi cs) (a:lo'<=lo) (b:hi<=hi'):Wn lo' hi' cs:=λc d=>by have:=h c d;lk
theorem Wn.getD (h:Wn lo hi cs) (a:lo<=0) (b:0<=hi) (i:Nat):lo<=cs.getD i 0/\cs.getD i 0<=hi:=by
 by_cases c:i<cs.length
 ·have:=h cs[i] (RD c);simp [List.getD,c];exact this
 ·simp [List.getD,c];exact ⟨a,b⟩
theorem Wn.asD (w:Int×Int) (h:Wn lo hi cs) (a:lo<=0) (b:0<=hi):Wn lo hi (ji cs w):=λc d=>by
 have g:=h.getD a b w.1.toNat;have e:=h.getD a b w.2.toNat;unfold ji at d;rcases Sx d with z|z
 ·rcases Sx z with z|z
  ·exact h c z
  ·rw [z];unfold iJ;lk
 ·rw [z];unfold iJ;lk
theorem Wn.Nh (a:lo<=0) (b:0<=hi):∀ (ws:aK) {cs:aU},Wn lo hi cs->Wn lo hi (cR cs ws)
 |[],_,h=>h
 |w::r,cs,h=>Wn.Nh a b r (cs:=ji cs w) (h.asD w a b)
theorem Wn.ao0 (h:∀ i,i<cs.length->lo<=cs.getD i 0/\cs.getD i 0<=hi):Wn lo hi cs:=λc b=>by obtain ⟨i,a,rfl⟩:=List.getElem_of_mem b;have:=h i a;simpa [List.getD,a] using this
theorem UW {d:Nat} {secs:aU} (hd:d<=41) (h:r∈gA (jJ n secs d)):Wn 0 (2 ^ 42) r:=by
 obtain ⟨b,hr⟩:=(vf _ r).mp h;refine Wn.ao0 λi hi=>?_;have:=hr i (by lk);have c:i<n:=by simpa [jJ,b] using hi
 have e:(jJ n secs d).getD i []=if (i:Int)∈secs then [0] else (range (2 ^ d)).map λk:Nat=>(k:Int):=by simp [jJ,List.getD,c]
 rw [e] at this;have p:(2:Nat) ^ d<=2 ^ 41:=uo (by decide) hd;split at this
 ·rw [iu.mp this];exact ⟨by lk, by decide⟩
 ·obtain ⟨k,a,e⟩:=gW.mp this;have:=sO.mp a;rw [<-e];lk
theorem U0 {m:Int} (h:0<=m):Wn 0 m (lB n i m):=λc a=>by
 unfold lB at a;rcases Sx a with z|z
 ·rw [List.eq_of_mem_replicate z];lk
 ·rw [z];lk
theorem acq {a:Int} {us:aK} (ok1:bC a us) (ok2:bC b ws) (l1:us.length<=41) (l2:ws.length<=41):jx a us b ws<=41:=by have:=vL ok1;have:=vL ok2;unfold jx;split<;>lk
theorem aqs (h:Wn lo hi cs) (ne:cs≠[]):0<=uL cs/\uL cs<=hi-lo:=by obtain ⟨x,a,y,b,e⟩:=(Tn ne).at_;have:=h x a;have:=h y b;have:=(Tn ne).le x a x a;lk
theorem aeX {B:Int} (b0:0<=B) {a b:Nat}:∀ (M:List aU),(∀ r∈M,Wn (-B) B r)->0<=uR M a b/\uR M a b<=2*B*M.length
 |[],_=>⟨kJ _,by simp [uR]⟩
 |r::M,h=>by
  have g:=aeX b0 (a:=a) (b:=b) M λx c=>h x (gK _ c);have w:=h r iU;have i:=w.getD (by lk) b0 a;have d:=w.getD (by lk) b0 b;have e:uR (r::M) a b=eE (r.getD a 0-r.getD b 0) 0+uR M a b:=by simp [uR]
  have m:0<=eE (r.getD a 0-r.getD b 0) 0/\eE (r.getD a 0-r.getD b 0) 0<=2*B:=by unfold eE;split<;>lk
  rw [e,gj,Int.natCast_succ,Int.mul_add];lk
theorem arq {B:Int} (hB:0<=B) (h:∀ a b,uR M a b<=B) (n i:Nat):zc n M i<=B:=by
 have e:∀ (a:Nat) (g:Int) (j:Nat),g<=B->yM M a g j<=B:=λa g j d=>by
  induction j with
  |zero=>exact d
  |succ j c =>rw [QC];have:=h a j;unfold eE;split<;>lk
 induction i with
 |zero=>exact hB
 |succ i c=>rw [Rb];exact e _ _ _ c
theorem aqt (ok:bC aj ws) (len:ws.length<=41):jQ aj ws<=2 ^ 50:=by
 have m:=JW ok len;have n:=JM aj ws;have d:∀ (us:aK) (i:Nat),Wn 0 (whole aj ws) (g8 aj.toNat (cW aj ws) us i):=λus i=>Wn.Nh (kJ _) (by lk) us (U0 (by lk));refine arq (by decide) (λa b=>?_) _ _;have:=(aeX (B:=2 ^ 41) (by decide) (a:=a) (b:=b) (sY aj ws) λr hr=>?_).2
 ·rw [aaX] at this;refine qJ this ?_;have:(2:Int)*2 ^ 41*(ws.length:Int)<=2*2 ^ 41*41:=Int.mul_le_mul_of_nonneg_left (by lk) (by decide);exact qJ this (by decide)
 ·obtain ⟨i,hi⟩:=acU hr;obtain ⟨j,l⟩:=aaY hi;rw [l,aaI (w:=ws[i]) (by simp [j])];intro c g;obtain ⟨k,_,e⟩:=gW.mp g;have o:=(d (ws.drop (i+1)) (ws[i].1.toNat)).getD (kJ _) (by lk) k;have p:=(d (ws.drop (i+1)) (ws[i].2.toNat)).getD (kJ _) (by lk) k;rw [<-e];lk
theorem aep {a B:Int} (ha:0<=a) (hB:a<=B) (hb:0<b):0<=a / b/\a / b<=B:=⟨Int.ediv_nonneg ha (by lk),qJ (Int.ediv_le_self _ ha) hB⟩
theorem U3 {i:Int} {k:Nat} (h0:0<=i) (h:i<=2 ^ 60):i.natAbs<10 ^ 60:=by
 have:(2:Int) ^ 60<10 ^ 60:=by decide
 have e:((10 ^ 60:Nat):Int)=10 ^ 60:=by decide
 lk
inductive Bs:V->Str->Prop
 |int {i:Int} (h:i.natAbs<10 ^ 62):Bs (.int i) (bT i)
 |str {x:Str} (h:x.length<=64):Bs (.str x) x
theorem Bs.len (h:Bs v x):x.length<=64:=by
 cases h with
 |int h=>exact eU (zT (by decide) h) (by decide)
 |str h=>exact h
theorem Dp:∀ {xs:aD} {ys:bR},Paired Bs xs ys->(ys.map (·.length)).sum<=64*xs.length
 |_,_,.nil=>by simp
 |_,_,.cons h t=>by have:=h.len;have:=Dp t;simp;lk
theorem xQ:∀ {ns:aU},(∀ n∈ns,n.natAbs<10 ^ 62)->Paired Bs (ns.map V.int) (ns.map bT)
 |[],_=>.nil
 |n::r,h=>.cons (.int (h n iU)) (xQ λm a=>h m (gK _ a))
theorem Wn.abs {B:Int} {k:Nat} (h:Wn (-B) B cs) (e:B<((10 ^ k:Nat):Int)):∀ n∈cs,n.natAbs<10 ^ k:=λn a=>by have:=h n a;lk
theorem Wn.small {k:Nat} (h:Wn 0 (2 ^ 42) cs) (k1:13<=k):∀ n∈cs,n.natAbs<10 ^ k:=λn a=>by have:=h n a;have:(10:Nat) ^ 13<=10 ^ k:=uo (by decide) k1;lk
def pJ (x:Str) (r:aU):Str:=Txt.join ⟨#[32]⟩ (x::r.map bT)
theorem acr (x:Str):pJ x []=x:=by refine pD ?_;show Ls (Txt.join ⟨#[32]⟩ [x])=_;rw [xJ];show Ls (Str.join ⟨#[32]⟩ [x])=_;simp [Str.join]
inductive aiA (vs:aD) (H:Hp) (Q:VK):Prop
 |mk (a:Addr) (xs:aD) (ys:bR) (h1:vs=[.ref a]) (h2:H a=some (.lst xs)\/H a=some (.tup xs)) (h3:Paired Bs xs ys) (h4:xs.length<=100) (q:∀ H',aG H H'->Q (.str (Txt.join ⟨#[32]⟩ ys)) H')
def akr:=nE aiA
inductive amN (vs:aD) (H:Hp) (Q:VK):Prop
 |one (T:Addr) (x:Str) (h1:vs=[.ref T]) (h2:H T=some (.tup [.str x])) (q:∀ H',aG H H'->Q (.str x) H')
 |two (T l:Addr) (x:Str) (r:aU) (h1:vs=[.ref T]) (h2:H T=some (.tup [.str x,.ref l])) (h3:H l=some (.lst (r.map V.int))) (h4:∀ n∈r,n.natAbs<10 ^ 62) (h5:r.length<=8) (h6:x.length<=64) (q:∀ H',aG H H'->Q (.str (pJ x r)) H')
def ao1:=nE amN
structure Ek (aj:Int) (ws:aK) (r:aU) (g:Int):Prop where
 mem:r∈gA (lK aj ws)
 gap:g=uL (cR r ws)
 most:∀ c∈gA (lK aj ws),uL (cR c ws)<=g
theorem aks {r':aU} {g g':Int} (w:Ek aj ws r g) (w':Ek aj ws r' g'):g'=g:=by have h1:=w'.most r w.mem;have h2:=w.most r' w'.mem;have a:=w.gap;have b:=w'.gap;lk
inductive aiB (am Tb:Addr) (q:jE) (vs:aD) (H:Hp) (Q:VK) (E:XK):Prop
 |mk (v:V) (aj:Int) (ws:aK) (h1:vs=[v]) (h2:dD H v aj ws) (h3:1<=aj) (h4:aj<=8) (h5:bC aj ws) (h6:ws.length<=41) (h0:H Tb=some (.iy q)) (h7:lC (fD aj ws)->lX aj ws->∀ H',aG H H'->E (.ref am) none H')
   (h8:∀ (T:Addr) (i k:Nat) (H':Hp),H T=none->aG H H'->H' T=some (.tup [.str "uneven",.int i,.int 0,.int k])->uJ (fD aj ws) i k->Q (.ref T) H')
   (h9:lC (fD aj ws)->¬ lX aj ws->∀ (T l:Addr) (r:aU) (g:Int) (H':Hp),H T=none->H l=none->aG H H'->H' T=some (.tup [.str "spread",.int g,.ref l])->H' l=some (.lst (r.map V.int))->Ek aj ws r g->Q (.ref T) H')
def abE (am Tb:Addr) (q:jE):Sp:=λvs H Q E=>aiB am Tb q vs H Q E
def Ir (aj:Int) (ws:aK):Prop:=lC (fD aj ws)/\∀ r∈gA (lK aj ws),Dj (cR r ws)
def N8 (a:Int) (us ws:aK):Prop:=Dw a us ws/\∀ r∈gA (jJ a.toNat (gB a us a ws) (jx a us a ws)),cR r us=cR r ws
inductive H_ (aj:Int) (ws:aK):Str->Prop
 |many (ev:lC (fD aj ws)) (mu:lX aj ws):H_ aj ws "many"
 |Iu (n:¬ (lC (fD aj ws)/\lX aj ws)) (all:Ir aj ws):H_ aj ws "levels"
 |not (n:¬ (lC (fD aj ws)/\lX aj ws)) (r:aU) (l:r.length=aj.toNat) (b:Wn 0 (2 ^ 42) r) (h:¬ Dj (cR r ws)) (na:¬ Ir aj ws):H_ aj ws (pJ "not" r)
inductive Ni (aj:Int) (ws:aK):Str->Prop
 |ord (all:afi aj.toNat ws):Ni aj ws "orders"
 |not (r:aU) (b:Bh aj.toNat r) (h:¬ yg (tR r ws)):Ni aj ws (pJ "not" r)
inductive El (aj:Int) (ws:aK):Str->Prop
 |un (i k:Nat) (u:uJ (fD aj ws) i k):El aj ws "uneven"
 |bnd (ev:lC (fD aj ws)):El aj ws ((bT (jQ aj ws / j6 (jQ aj ws) (jR aj ws))++ofString "/")++bT (jR aj ws / j6 (jQ aj ws) (jR aj ws)))
inductive Ia (aj:Int) (ws:aK):Str->Prop
 |many (ev:lC (fD aj ws)) (mu:lX aj ws):Ia aj ws "many"
 |un (i k:Nat) (u:uJ (fD aj ws) i k):Ia aj ws "uneven"
 |Fd (ev:lC (fD aj ws)) (mu:¬ lX aj ws) (r:aU) (g:Int) (w:Ek aj ws r g):Ia aj ws (bT g)
inductive wL (a:Int) (us:aK) (b:Int) (ws:aK):Str->Prop
 |none (n:a≠b):wL a us b ws "none"
 |many (e:a=b) (h:Dw a us ws) (mu:yF a us ws):wL a us b ws "many"
 |yes (e:a=b) (mu:¬ yF a us ws) (all:N8 a us ws):wL a us b ws "yes"
 |no (e:a=b) (n:¬ (Dw a us ws/\yF a us ws)) (r:aU) (l:r.length=a.toNat) (bd:Wn 0 (2 ^ 42) r) (h:cR r us≠cR r ws) (na:¬ N8 a us ws):wL a us b ws (pJ "no" r)
inductive aiC (am:Addr) (vs:aD) (H:Hp) (Q:VK) (E:XK):Prop
 |mk (v:V) (aj:Int) (ws:aK) (h1:vs=[v]) (h2:dD H v aj ws) (h3:1<=aj) (h4:aj<=8) (h5:bC aj ws) (h6:ws.length<=41) (h7:(lC (fD aj ws)->lX aj ws->∀ H',aG H H'->E (.ref am) none H')) (h8:(¬ (lC (fD aj ws)/\lX aj ws)->∀ (T:Addr) (H':Hp),H T=none->aG H H'->H' T=some (.tup [.str "levels"])->Ir aj ws->Q (.ref T) H')) (h9:(¬ (lC (fD aj ws)/\lX aj ws)->∀ (T l:Addr) (r:aU) (H':Hp),H T=none->H l=none->aG H H'->H' T=some (.tup [.str "not",.ref l])->H' l=some (.lst (r.map V.int))->r.length=aj.toNat->Wn 0 (2 ^ 42) r->¬ Dj (cR r ws)->¬ Ir aj ws->Q (.ref T) H'))
def abF (am:Addr):Sp:=λvs H Q E=>aiC am vs H Q E
inductive aiD (an am:Addr) (vs:aD) (H:Hp) (Q:VK) (E:XK):Prop
 |mk (v1 v2:V) (a b:Int) (us ws:aK) (h1:vs=[v1,v2]) (h2:dD H v1 a us) (h3:dD H v2 b ws) (h4:1<=a) (h5:a<=8) (h6:1<=b) (h7:b<=8) (h8:bC a us) (h9:bC b ws) (h10:us.length<=41) (h11:ws.length<=41) (h12:(a≠b->∀ H',aG H H'->E (.ref an) none H')) (h13:(a=b->Dw a us ws->yF a us ws->∀ H',aG H H'->E (.ref am) none H')) (h14:(a=b->¬ yF a us ws->N8 a us ws->∀ H',aG H H'->Q .non H')) (h15:(a=b->¬ (Dw a us ws/\yF a us ws)->∀ (t:Addr) (r:aU) (H':Hp),H t=none->aG H H'->H' t=some (.lst (r.map V.int))->r.length=a.toNat->Wn 0 (2 ^ 42) r->cR r us≠cR r ws->¬ N8 a us ws->Q (.ref t) H'))
def akt (an am:Addr):Sp:=λvs H Q E=>aiD an am vs H Q E
inductive ars (am:Addr) (pre:Hp->Prop) (T:Int->aK->Str->Prop) (vs:aD) (H:Hp) (Q:VK) (E:XK):Prop
 |mk (l:Addr) (v:V) (aj:Int) (ws:aK) (h1:vs=[.ref l]) (h2:H l=some (.lst [v])) (net:dG H v aj ws) (hp:pre H) (e:T aj ws "many"->∀ H',aG H H'->E (.ref am) none H') (q:∀ y,T aj ws y->∀ H',aG H H'->Q (.str y) H')
def Bk (am:Addr) (pre:Hp->Prop) (T:Int->aK->Str->Prop):Sp:=λvs H Q E=>ars am pre T vs H Q E
inductive aru (an am:Addr) (vs:aD) (H:Hp) (Q:VK) (E:XK):Prop
 |mk (l:Addr) (v v':V) (a b:Int) (us ws:aK) (h1:vs=[.ref l]) (h2:H l=some (.lst [v,v'])) (net:dG H v a us) (fB:dG H v' b ws) (e1:wL a us b ws "none"->∀ H',aG H H'->E (.ref an) none H') (e2:wL a us b ws "many"->∀ H',aG H H'->E (.ref am) none H') (q:∀ y,wL a us b ws y->∀ H',aG H H'->Q (.str y) H')
def afo (an am:Addr):Sp:=λvs H Q E=>aru an am vs H Q E
def Hu:Hp->Prop:=λ_=>True
inductive aku (vs:aD) (H:Hp) (Q:VK):Prop
 |mk (l:Addr) (v:V) (aj:Int) (ws:aK) (cs:aU) (h1:vs=[.ref l]) (h2:H l=some (.lst (v::cs.map V.int))) (net:dG H v aj ws) (lc:cs.length=aj.toNat) (hp:∀ n∈cR cs ws,n.natAbs<10 ^ 62) (q:∀ H',aG H H'->Q (.str (Txt.join ⟨#[32]⟩ ((cR cs ws).map bT))) H')
def Rq:=nE aku
inductive aiE (vs:aD) (H:Hp) (Q:VK):Prop
 |mk (a:Addr) (ns:aU) (h1:vs=[.ref a]) (h2:H a=some (.lst (ns.map V.int))) (h3:∀ n∈ns,n.natAbs<10 ^ 62) (h4:ns.length<=100) (q:∀ H',aG H H'->Q (.str (Txt.join ⟨#[32]⟩ (ns.map bT))) H')
def akv:=nE aiE
theorem JH {k:Nat} (h:Bh n r):∀ c∈r,c.natAbs<10 ^ (k+1):=λc a=>by
 obtain ⟨i,hi,rfl⟩:=List.getElem_of_mem a;have:=h.2 i (by rw [<-h.1];exact hi);have e:r.getD i 0=r[i]:=by simp [List.getD,hi]
 rw [e] at this;have:(10:Nat) ^ 1<=10 ^ (k+1):=uo (by decide) (by lk);lk
theorem aer (ok:bC aj ws) (len:ws.length<=41):(jQ aj ws / j6 (jQ aj ws) (jR aj ws)).natAbs<10 ^ 60/\(jR aj ws / j6 (jQ aj ws) (jR aj ws)).natAbs<10 ^ 60:=by
 have g:=JW ok len;have i:=JM aj ws;have d:0<=jQ aj ws:=aaZ _ _ _;have e:0<jR aj ws:=by unfold jR;lk
 have c:=abX (a:=jQ aj ws) e;have t:=aep d (aqt ok len) c;have b:=aep (a:=jR aj ws) (B:=2 ^ 42) (by lk) (by unfold jR;lk) c;exact ⟨U3 (k:=0) t.1 (qJ t.2 (by decide)),U3 (k:=0) b.1 (qJ b.2 (by decide))⟩
theorem aes {g:Int} (w1:1<=aj) (ok:bC aj ws) (len:ws.length<=41) (wd:Ek aj ws r g):g.natAbs<10 ^ 60:=by
 have b:=UW (n:=aj.toNat) (secs:=zQ aj ws) (by have:=vL ok;lk) wd.mem;have a:=((vf _ r).mp wd.mem).1;rw [Fw] at a;have c:cR r ws≠[]:=λz=>by have:=rP ws r;rw [z,a] at this;simp at this;lk
 have:=aqs (Wn.Nh (kJ 0) (by decide) ws b) c;rw [<-wd.gap] at this;exact U3 (k:=0) this.1 (qJ this.2 (by decide))
theorem adM {i:Int} (h:i.natAbs<10 ^ 60):32∉Ls (bT i):=abD (Ae h).1
theorem Ci (hx:32∉Ls x) (hr:∀ n∈r,n.natAbs<10 ^ 60):Txt.split (pJ x r) ⟨#[32]⟩=x::r.map bT:=by
 unfold pJ;rw [xJ];refine B_ (by simp) λp a=>?_;rcases gn.mp a with rfl|a
 ·exact hx
 ·obtain ⟨n,b,rfl⟩:=gW.mp a;exact adM (hr n b)
theorem ao2 {y:Str} (hx:32∉Ls x) (hy:32∉Ls y) (hr:∀ n∈r,n.natAbs<10 ^ 60) (n:x≠y):pJ x r≠y:=λe=>by have a:=Ci hx hr;have b:=Ci (r:=[]) hy (λ_ z=>nomatch z);rw [e,<-acr y,b] at a;exact n (GC a).1.symm
theorem J9 (lx:x.length<=64) (hr:∀ n∈r,n.natAbs<10 ^ 62) (l8:r.length<=8):(pJ x r).length<=1000:=by have a:=UG (x::r.map bT);have b:=Dp (.cons (.str lx) (xQ hr));unfold Wt at a;rw [gj,bD] at a b;show (Txt.join ⟨#[32]⟩ _).length<=_;lk
theorem Bb (hr:∀ n∈r,n.natAbs<10 ^ 60):∀ n∈r,n.natAbs<10 ^ 62:=λn a=>xY (hr n a) (by k_go)
def Em (aj:Int) (ws:aK):Prop:=lC (fD aj ws)/\lX aj ws
inductive akx (vs:aD) (H:Hp) (Q:VK):Prop
 |mk (x:Str) (r:aU) (h1:vs=[.str (pJ x r)]) (hx:32∉Ls x) (lx:x.length<=64) (hr:∀ n∈r,n.natAbs<10 ^ 60) (l8:r.length<=8) (q0:r=[]->∀ H',aG H H'->Q .non H') (q1:r≠[]->∀ (l:Addr) (H':Hp),H l=none->aG H H'->H' l=some (.lst (r.map V.int))->Q (.ref l) H')
def amO:=nE akx
inductive aky (Tb:Addr) (lq:jE) (vs:aD) (H:Hp) (Q:VK):Prop
 |mk (x:Str) (v:V) (aj:Int) (ws:aK) (h1:vs=[.str x,v]) (net:dG H v aj ws) (hT:H Tb=some (.iy lq)) (q:∀ (b:Bool) (H':Hp),aG H H'->(b=true↔Em aj ws)->Q (.bl b) H')
def amP (Tb:Addr) (lq:jE):=nE (aky Tb lq)
inductive amQ (Tb:Addr) (lq:jE) (vs:aD) (H:Hp) (Q:VK):Prop
 |ord (y:Str) (v:V) (aj:Int) (ws:aK) (h1:vs=[.str "orders",v,.str y]) (net:dG H v aj ws) (h:Ni aj ws y) (q:∀ H',aG H H'->Q (.bl true) H')
 |Iu (y:Str) (v:V) (aj:Int) (ws:aK) (h1:vs=[.str "levels",v,.str y]) (net:dG H v aj ws) (hT:H Tb=some (.iy lq)) (h:H_ aj ws y) (q:∀ H',aG H H'->Q (.bl true) H')
def ao3 (Tb:Addr) (lq:jE):=nE (amQ Tb lq)
inductive amR (Tb:Addr) (lq:jE) (vs:aD) (H:Hp) (Q:VK):Prop
 |bnd (y:Str) (v:V) (aj:Int) (ws:aK) (h1:vs=[.str "bound",v,.str y]) (net:dG H v aj ws) (h:El aj ws y) (q:∀ H',aG H H'->Q (.bl true) H')
 |Fd (y:Str) (v:V) (aj:Int) (ws:aK) (h1:vs=[.str "spread",v,.str y]) (net:dG H v aj ws) (hT:H Tb=some (.iy lq)) (h:Ia aj ws y) (q:∀ H',aG H H'->Q (.bl true) H')
def ao4 (Tb:Addr) (lq:jE):=nE (amR Tb lq)
inductive amS (vs:aD) (H:Hp) (Q:VK):Prop
 |mk (y:Str) (v v':V) (a b:Int) (us ws:aK) (h1:vs=[v,v',.str y]) (net:dG H v a us) (fB:dG H v' b ws) (h:wL a us b ws y) (q:∀ H',aG H H'->Q (.bl true) H')
def ao5:=nE amS
inductive amT (vs:aD) (H:Hp) (Q:VK):Prop
 |mk (v:V) (aj:Int) (ws:aK) (h1:vs=[v]) (net:dG H v aj ws) (n:¬ Em aj ws) (all:Ir aj ws) (q:∀ (T:Addr) (H':Hp),H T=none->aG H H'->H' T=some (.tup [.str "levels"])->Q (.ref T) H')
def adN:=nE amT
theorem akz {am:Addr} (vs:aD) (H:Hp) (Q:VK) (E:XK) (h:adN vs H Q E):abF am vs H Q λ_ _ _=>False:=by obtain ⟨v,aj,ws,rfl,c,n,all,q⟩:=h;exact ⟨v,aj,ws,rfl,c.1,c.2.1,c.2.2.1,c.2.2.2.1,c.2.2.2.2,λa b=>absurd ⟨a,b⟩ n,λ_ T H' f s x _=>q T H' f s x,λ_ T l r H' _ _ _ _ _ _ _ _ z=>absurd all z⟩
inductive amU (Tb:Addr) (lq:jE) (vs:aD) (H:Hp) (Q:VK):Prop
 |mk (v:V) (aj:Int) (ws:aK) (h1:vs=[v]) (net:dG H v aj ws) (hT:H Tb=some (.iy lq)) (n:¬ Em aj ws) (q1:∀ (T:Addr) (i k:Nat) (H':Hp),aG H H'->H' T=some (.tup [.str "uneven",.int i,.int 0,.int k])->uJ (fD aj ws) i k->Q (.ref T) H') (q2:∀ (T l:Addr) (r:aU) (g:Int) (H':Hp),aG H H'->lC (fD aj ws)->H' T=some (.tup [.str "spread",.int g,.ref l])->Ek aj ws r g->Q (.ref T) H')
def adO (Tb:Addr) (lq:jE):=nE (amU Tb lq)
theorem akA {am Tb:Addr} {lq:jE} (vs:aD) (H:Hp) (Q:VK) (E:XK) (h:adO Tb lq vs H Q E):abE am Tb lq vs H Q λ_ _ _=>False:=by obtain ⟨v,aj,ws,rfl,c,j,n,d,m⟩:=h;exact ⟨v,aj,ws,rfl,c.1,c.2.1,c.2.2.1,c.2.2.2.1,c.2.2.2.2,j,λa b=>absurd ⟨a,b⟩ n,λT i k H' _ s x u=>d T i k H' s x u,λe _ T l r g H' _ _ s x _ w=>m T l r g H' s e x w⟩
theorem eqT {Q:VK} {x:V} (h:Q (.bl true) H):Q (.bl (decide (x=x))) H:=by rw [d7 rfl];exact h
theorem afp {Q:VK} {x:V} (e:x=y) (h:Q (.bl true) H):Q (.bl (decide (x=y))) H:=by rw [d7 e];exact h
theorem aiF {k:Nat} (h:uJ (fD aj ws) i k):i<aj.toNat/\k<aj.toNat:=by
 obtain ⟨hi,_,a,d,_⟩:=h;have b:i<aj.toNat:=by simpa [fD] using hi
 have c:pL (fD aj ws) i=g8 aj.toNat (cW aj ws) ws i:=by unfold pL fD;simp [List.getD,b]
 rw [c] at a;rw [rM] at a;exact ⟨b,a⟩
def wM (n:Nat):aU:=(range n).map λk:Nat=>(0+(k:Int)) % 2
theorem J_ (n:Nat):(wM n).length=n:=by simp [wM]
theorem ao6 {j:Nat} (h:j<n):(wM n)[j]?=some ((0+(j:Int)) % 2):=by simp [wM,h]
theorem akB (n:Nat):Bh n (wM n):=⟨J_ n,λi hi=>by
 have e:(wM n).getD i 0=(0+(i:Int)) % 2:=by simp [wM,List.getD,hi]
 rw [e];lk⟩
theorem agH (r:aU):shaped (.list (r.map PyData.int))=true:=by obtain ⟨a,b⟩:=adv r;show (canLay0 _ && decide (PyData.depth _<=64))=true;simp [canLay0,canLayAll0,PyData.depth,depthAll,a];lk
inductive aiG (vs:aD) (H:Hp) (Q:VK):Prop
 |mk (p:Addr) (aj:Int) (h1:vs=[.ref p,.int aj]) (h2:jB H p) (h3:1<=aj) (h4:aj<=8) (h5:∀ (l:Addr) (cs:aU) (H':Hp),H l=none->Kp p H H'->jB H' p->H' l=some (.lst (cs.map V.int))->cs.length=aj.toNat->Wn (1-10 ^ 60) (10 ^ 60-1) cs->Q (.ref l) H')
def akC:=nE aiG
theorem adP (h:Wn lo hi cs) (a:lo<=z) (b:z<=hi):Wn lo hi (cs++[z]):=λc d=>by
 rcases o9.mp d with x|x
 ·exact h c x
 ·rw [iu.mp x];exact ⟨a,b⟩
inductive aiH (vs:aD) (H:Hp) (Q:VK):Prop
 |mk (p:Addr) (h1:vs=[.ref p]) (h2:jB H p) (h3:∀ (v:V) (aj:Int) (ws:aK) (H':Hp),Kp p H H'->jB H' p->dG H' v aj ws->ws.length<=7->Q v H')
def akD:=nE aiH
inductive afq (aj:Int) (ws:aK):Str->Prop
 |mk:afq aj ws (jK aj ws)
inductive afr (aj:Int) (ws:aK):Str->Prop
 |mk:afr aj ws (bT (cW aj ws:Int))
theorem aeu (ok:bC aj ws) {m:Int} (h0:(cM aj ws).2=[]->m=0) (h1:(cM aj ws).2≠[]->q8 (cM aj ws).2 m):m=(cW aj ws:Int):=GR ok h0 h1
section
variable {cZ:gQ} {a:mQ} {d:Addr} {D:iB} {kp:dh} {Q:VK} {E:XK} {nm':Str} {v':V} {jy:Int} {ws':aK}
theorem wz {pre:Hp->Prop} {T:Int->aK->Str->Prop} (RA:jZ P w K mg aF cZ 13 w0 ["net"] (Bk a.many pre T)) (da:fM C H d D kn kp) (ln:kn.length<900) (lp:kp.length<900) (hp:cF kn (.inr nm)=some v) (net:dG H v aj ws) (hpre:∀ H',aG H H'->pre H') (hx:Ls x=Ls w0++32::Ls nm) (nw:32∉Ls w0) (lw:w0.length<=10) (n1:¬ w0="net") (n2:¬ w0="exits") (hn:fJ (Ls nm)) (q:∀ y,T aj ws y->∀ H',aG H H'->Q (.str y) H'):J4 P w K mg aF cZ a C [.ref d,.str x] H Q E:=⟨d,D,kn,kp,x,rfl,da,arj RA da ln lp hp hx nw lw n1 n2 hn λl H1 j c e=>⟨l,v,aj,ws,rfl,e,net.kt (b_ c (bG _)),hpre H1 c,λt H2 b=>.inr ⟨rfl,λg i=>q _ t g (aB c (aB b i))⟩,λy t H2 b=>.other (by k_go) (by k_go) (b_ b (bG _)) ⟨⟨y,rfl⟩,q y t H2 (aB c b)⟩⟩⟩
theorem aqu (RA:jZ P w K mg aF cZ 13 "alike" ["net","net"] (afo a.fW a.many)) (da:fM C H d D kn kp) (ln:kn.length<900) (lp:kp.length<900) (hp:cF kn (.inr nm)=some v) (hp':cF kn (.inr nm')=some v') (net:dG H v aj ws) (fB:dG H v' jy ws') (hx:Ls x=Ls (ofString "alike")++32::(Ls nm++32::Ls nm')) (hn:fJ (Ls nm)) (hn':fJ (Ls nm')) (q:∀ y,wL aj ws jy ws' y->∀ H',aG H H'->Q (.str y) H'):J4 P w K mg aF cZ a C [.ref d,.str x] H Q E:=⟨d,D,kn,kp,x,rfl,da,aoZ RA da ln lp hp hp' hx (by k_go) (by k_go) (by k_go) (by k_go) hn hn' λl H1 j c i=>⟨l,v,v',aj,jy,ws,ws',rfl,i,net.kt (b_ c (bG _)),fB.kt (b_ c (bG _)),λt H2 b=>.inl ⟨rfl,λe g=>q _ t e (aB c (aB b g))⟩,λt H2 b=>.inr ⟨rfl,λe g=>q _ t e (aB c (aB b g))⟩,λy t H2 b=>.other (by k_go) (by k_go) (b_ b (bG _)) ⟨⟨y,rfl⟩,q y t H2 (aB c b)⟩⟩⟩
theorem abG:∀ {cs:aU},(∀ c∈cs,c.natAbs<10 ^ 60)->Paired pQ (replicate cs.length ("number":Str)) (cs.map bT)
 |[],_=>.nil
 |c::r,h=>.cons (.num (Ae (h c iU)).1) (abG λz a=>h z (gK _ a))
theorem aaO:∀ {cs:aU},(∀ c∈cs,c.natAbs<10 ^ 60)->mV kn kp (replicate cs.length ("number":Str)) (cs.map bT) (cs.map V.int)
 |[],_=>.nil
 |c::r,h=>.cons (.num (Ae (h c iU)).2 (eU (JR (Ae (h c iU)).1) (by decide))) (aaO λz a=>h z (gK _ a))
theorem aqv (RA:jZ P w K mg aF cZ 13 "exits" ["net","number"] Rq) (da:fM C H d D kn kp) (ln:kn.length<900) (lp:kp.length<900) (hp:cF kn (.inr nm)=some v) (net:dG H v aj ws) (hn:fJ (Ls nm)) (cm:∀ c∈cs,c.natAbs<10 ^ 60) (lc:cs.length=aj.toNat) (sm:∀ n∈cR cs ws,n.natAbs<10 ^ 62) (hx:x=D_ nm cs) (q:∀ H',aG H H'->Q (.str (Txt.join ⟨#[32]⟩ ((cR cs ws).map bT))) H'):J4 P w K mg aF cZ a C [.ref d,.str x] H Q E:=by
 subst hx;refine ⟨d,D,kn,kp,_,rfl,da,?_⟩;have O:=net.2.1;have M:=net.2.2.1;have u:∀ p∈ofString "exits":: nm::cs.map bT,32∉Ls p:=λp hp=>by
  rcases gn.mp hp with rfl|hp
  ·k_go
  rcases gn.mp hp with rfl|hp
  ·exact rN hn
  obtain ⟨c,e,rfl⟩:=gW.mp hp;exact adM (cm c e)
 have r:Txt.split (D_ nm cs) ⟨#[32]⟩=ofString "exits":: nm::cs.map bT:=by unfold D_;rw [xJ];exact B_ (by simp) u
 have R:=nM hn;have I:∀ y∈cs.map bT,y.length<=61:=λy g=>by obtain ⟨c,e,rfl⟩:=gW.mp g;exact JR (Ae (cm c e)).1
 have B:(D_ nm cs).length<=5000:=by
  have a:=UG (ofString "exits":: nm::cs.map bT);have b:=Dp (xQ (Bb cm));rw [bD] at b;unfold Wt at a;rw [iC,iC,Gz,Gz,gj,gj,bD] at a;have N:(ofString "exits").length=5:=by k_go
  show (Txt.join ⟨#[32]⟩ _).length<=_;lk
 have o:(cs.map bT).length=cs.length:=bD ..;have j:g_ "exits" ["net","number"] ((cs.map bT).length+1)=("net":Str)::replicate cs.length ("number":Str):=by unfold g_;rw [bF rfl,o];obtain ⟨m,J⟩:∃ m,cs.length=m+1:=⟨cs.length-1,by lk⟩;rw [J];rfl
 refine ⟨d,D,kn,kp,_,ofString "exits",nm,"net",cs.map bT,["number"],Rq,v::cs.map V.int,rfl,da,B,by rw [r];rfl,Dn r (by k_go),RA,by simp,by rw [o];lk, ?_,?_,λy g=>?_,ln,lp,λl H1 L i t=>?_⟩
 ·show Paired pQ (g_ "exits" ["net","number"] _) _;rw [j];exact .cons (.name (by k_go) (by k_go) hn) (abG cm)
 ·show mV kn kp (g_ "exits" ["net","number"] _) _ _;rw [j];exact .cons (.net hp) (aaO cm)
 ·rcases gn.mp g with z|z
  ·rw [z];lk
  ·have:=I y z;lk
 ·exact ⟨l,v,aj,ws,cs,rfl,t,net.kt (b_ i (bG _)),lc,sm,λH2 k=>.other (by k_go) (by k_go) (b_ k (bG _)) ⟨⟨_,rfl⟩,q H2 (aB i k)⟩⟩
end
theorem amV (h:cs≠[]):((ofString "exits "++nm)++ofString " ")++Txt.join ⟨#[32]⟩ (cs.map bT)=D_ nm cs:=by
 refine pD ?_;rw [dJ,dJ,dJ];unfold D_;obtain ⟨c,r,rfl⟩:∃ c r,cs=c::r:=by
  cases cs with
  |nil=>exact absurd rfl h
  |cons c r=>exact ⟨c,r,rfl⟩
 rw [xJ,xJ,iC,nJ,nJ];have a:Ls (ofString "exits ")=Ls (ofString "exits")++[32]:=by k_go
 have b:Ls (ofString " ")=[32]:=by k_go
 rw [a,b];simp
inductive amW (Cd Tb:Addr) (lq:jE) (vs:aD) (H:Hp) (Q:VK):Prop
 |mk (pn d:Addr) (D:iB) (kn:dh) (nm:Str) (u v:V) (aj:Int) (ws:aK) (h1:vs=[.ref pn,.ref d,.str nm,u]) (pe:jB H pn) (da:fM Cd H d D kn []) (ln:kn.length<900) (hn:fJ (Ls nm)) (hv:cF kn (.inr nm)=some v) (net:dG H v aj ws) (fB:dG H u aj ws) (hT:H Tb=some (.iy lq)) (q:∀ H',Kp pn H H'->jB H' pn->Q (.bl true) H')
def ao7 (Cd Tb:Addr) (lq:jE):=nE (amW Cd Tb lq)
inductive amX (Cd Tb:Addr) (lq:jE) (vs:aD) (H:Hp) (Q:VK):Prop
 |mk (d ka:Addr) (D:iB) (kn kk:dh) (x nm nm':Str) (u v u' v':V) (aj jy:Int) (ws ws':aK) (h1:vs=[.ref d,.str x,.str nm,.str nm',.ref ka]) (hx:x="levels" \/ x="orders" \/ x="spread" \/ x="alike") (da:fM Cd H d D kn []) (ln:kn.length<900) (hk:H ka=some (.dK kk)) (hn:fJ (Ls nm)) (hn':fJ (Ls nm')) (hv:cF kn (.inr nm)=some v) (hv':cF kn (.inr nm')=some v') (hu:cF kk (.inr nm)=some u) (hu':cF kk (.inr nm')=some u') (n1:dG H v aj ws) (n2:dG H u aj ws) (n3:dG H v' jy ws') (n4:dG H u' jy ws') (hT:H Tb=some (.iy lq)) (q:∀ H',aG H H'->Q (.bl true) H')
def ao8 (Cd Tb:Addr) (lq:jE):=nE (amX Cd Tb lq)
theorem fM.Bt {d pn:Addr} {D:iB} {kp:dh} (h:fM C H d D kn kp) (hp:H pn=some (.lst xs)) (k:Kp pn H H'):fM C H' d D kn kp:=by exact { h with ob:=k _ _ h.ob (oJ h.ob hp (by intro z;cases z)),ne:=k _ _ h.ne (oJ h.ne hp (by intro z;cases z)),pl:=k _ _ h.pl (oJ h.pl hp (by intro z;cases z)) }
theorem vU:Ls ((w0++ofString " ")++nm)=Ls w0++32::Ls nm:=by rw [dJ,dJ,show Ls (ofString " ")=[32] from by k_go];simp
theorem amY {y y':Str} (a:El aj ws y) (b:El aj ws y'):y=y':=by
 cases a with
 |un i k u=>cases b with
  |un _ _ _=>rfl
  |bnd c=>exact absurd c u.not
 |bnd c=>cases b with
  |un _ _ u=>exact absurd c u.not
  |bnd _=>rfl
end
section
theorem arv {c:Int} (a:1-10 ^ 60<=c) (b:c<=10 ^ 60-1):c.natAbs<10 ^ 60:=by
 have e:((10 ^ 60:Nat):Int)=10 ^ 60:=by k_go
 lk
theorem ao9 {nm':Str}:Ls (((ofString "alike "++nm)++ofString " ")++nm')=Ls (ofString "alike")++32::(Ls nm++32::Ls nm'):=by rw [dJ,dJ,dJ,show Ls (ofString " ")=[32] from by k_go,show Ls (ofString "alike ")=Ls (ofString "alike")++[32] from by k_go];simp
end
section
open PySem.SeqAt PyProof.Rows
abbrev Hv:=List (Str×Int×aK)
def aev (x:Str×Int×aK) (p:Str):Prop:=Ls p=Ls (ofString "net")++32::(Ls x.1++32::Ls (jK x.2.1 x.2.2))
inductive lV (ts:Hv):Str->Str->Int->aK->Prop
 |net {aj:Int} {ws:aK} (h0:ts=[]):lV ts "net" (jK aj ws) aj ws
 |blt {x:Str} {i aj:Int} {ws:aK} (h0:ts=[]) (h:wU x i (.net aj ws)) (i0:-1<=i) (i1:i<100):lV ts x (bT i) aj ws
 |Ez {aj:Int} {ws:aK} (h:ts=[(ofString "tmp",aj,ws)]):lV ts "mirror" "tmp" aj (ws.map (mO aj))
 |EY {aj:Int} {ws:aK} (h:ts=[(ofString "tmp",aj,ws)]):lV ts "slim" "tmp" aj (jt ws)
 |E_ {aj:Int} {us ws:aK} (h:ts=[(ofString "tmp",aj,us),(ofString "rest",aj,ws)]) (l:us.length+ws.length<=40):lV ts "behind" ((ofString "tmp"++ofString " ")++ofString "rest") aj (us++ws)
 |Fb {aj:Int} {ws:aK} (h:ts=[(ofString "tmp",aj,ws),(ofString "rest",1,[])]) (w8:aj<8) (l:ws.length<=40):lV ts "beside" ((ofString "tmp"++ofString " ")++ofString "rest") (aj+1) ws
structure Xc (nm:Str) (rows:bR) (aj:Int) (ws:aK):Prop where
 ex:∃ (ts:Hv) (pr:bR) (x rest r:Str),rows=pr++[r]/\Paired aev ts pr/\ts.length<=2/\Ls r=Ls x++32::(Ls nm++32::Ls rest)/\(∀ t∈ts,1<=t.2.1/\t.2.1<=8/\bC t.2.1 t.2.2/\t.2.2.length<=40)/\lV ts x rest aj ws
 ok:1<=aj/\aj<=8/\bC aj ws/\ws.length<=40
inductive amZ (vs:aD) (H:Hp) (Q:VK):Prop
 |mk (pn:Addr) (nm:Str) (u:V) (aj:Int) (ws:aK) (h1:vs=[.ref pn,.str nm,u]) (pe:jB H pn) (hn:fJ (Ls nm)) (net:dG H u aj ws) (len:ws.length<=20) (q:∀ (t l:Addr) (u':V) (rows:bR) (jy:Int) (ws':aK) (H':Hp),Kp pn H H'->jB H' pn->H' t=some (.tup [.ref l,u'])->H' l=some (.lst (rows.map V.str))->l≠pn->Xc nm rows jy ws'->dG H' u' jy ws'->Q (.ref t) H')
def ao_:=nE amZ
theorem akE {k:aK} {w:Int×Int}:mL (mL k w) w=mL k w:=by
 by_cases h:idle k w
 ·have e:mL k w=k:=bF h;rw [e,e]
 ·have e:mL k w=k++[w]:=bw h;rw [e];refine bF ?_;unfold idle;rw [zJ,bF (by simp [sJ,gY])]
theorem akF (ws:aK):∀ {w:Int×Int},ws.getLast?=some w->jt (ws++[w])=jt ws:=λ{w} h=>by
 obtain ⟨us,rfl⟩:∃ us,ws=us++[w]:=by have:=List.getLast?_eq_some_iff.mp h;obtain ⟨ys,e⟩:=this;exact ⟨ys,e⟩
 rw [Cg,Cg,akE]
theorem adQ (h:Mq aj):∃ k:Nat,k<=3/\aj=pw k:=by
 rcases h with rfl|rfl|rfl|rfl
 ·exact ⟨0,by decide,rfl⟩
 ·exact ⟨1,by decide,rfl⟩
 ·exact ⟨2,by decide,rfl⟩
 ·exact ⟨3,by decide,rfl⟩
theorem akG (vs:aD) (H:Hp) (Q:VK) (E:XK) (h:anK 4 vs H Q E):Dy 4 vs H Q E:=by
 obtain ⟨aj,rfl,h2,e,q⟩:=h;obtain ⟨k,b,rfl⟩:=adQ h2;refine ⟨k,rfl,by lk, b,λa H' f s c=>q a (jo k) H' f s c (fold_all b).1 ?_⟩;have d:k=0\/k=1\/k=2\/k=3:=by lk
 rcases d with rfl|rfl|rfl|rfl<;>k_go
theorem am0 (vs:aD) (H:Hp) (Q:VK) (E:XK) (h:alv vs H Q E):abv vs H Q E:=by obtain ⟨aj,rfl,h2,q⟩:=h;obtain ⟨k,b,rfl⟩:=adQ h2;exact ⟨k,rfl,b,λa H' f s c=>q a (Bj k) H' f s c (GZ b).1 (eU (GZ b).2 (by decide))⟩
theorem am1 (vs:aD) (H:Hp) (Q:VK) (E:XK) (h:anL vs H Q E):ab9 vs H Q E:=by obtain ⟨aj,rfl,h1,b,q⟩:=h;exact ⟨aj,rfl,h1,b,λa H' f s c=>q a (wj aj) H' f s c (Gn h1 b).1 (eU (Gn h1 b).2 (by decide))⟩
theorem aiI (xs:aD) (n:Nat):fX xs (some (n:Int)) none=xs.drop n:=by
 unfold fX;rw [HT.Ab,HT.zO];rw [sI (by rw [jO];lk)];by_cases h:n<=xs.length
 ·rw [vG h]
 ·rw [Nat.min_eq_right (by lk),acV (bJ _),acV (by lk)]
theorem aiJ (xs:aD):fX xs (some (-1)) none=xs.drop (xs.length-1):=by
 unfold fX;have a:HT.bV xs.length 0 (some (-1))=xs.length-1:=by unfold HT.bV;simp;lk
 rw [a,HT.zO];rw [sI (by rw [jO];lk)]
theorem akH (ws:aK):jt (ws++ws.drop (ws.length-1))=jt ws:=by
 rcases List.eq_nil_or_concat ws with rfl|⟨us,w,rfl⟩
 ·rfl
 ·have e:(us.concat w).drop ((us.concat w).length-1)=[w]:=by simp
  rw [e];exact akF _ (by simp)
theorem arw {c d:Bool} {A W:Prop} (hW:(if d=true then A else B)->W) (hA:c=true->d=true->A) (hB:¬ (c=true/\d=true)->B):if c=true then W else (if false=true then A else B):=by
 cases c with
 |false=>exact hB (λz=>nomatch z.1)
 |true =>
  refine hW ?_;cases d with
  |false=>exact hB (λz=>nomatch z.2)
  |true=>exact hA rfl rfl
theorem akI (ok:bC aj ws):bC (aj+1) ws:=λw a=>by have:=ok w a;lk
end
section
open PySem.Spec PyProof.Rows
end
section
open PySem.SeqAt
end
variable {ts:L2.Hv} {rest:Str} {gV kk:dh} {ka:Addr}
section
open PySem.SeqAt PyProof.Rows
theorem fM.kps {d:Addr} {D:iB} {kp:dh} (h:fM C H d D kn kp) (k:fZ S H H') (n1:d∉S) (n2:D.n∉S) (n3:D.q∉S):fM C H' d D kn kp:={ h with ob:=k _ _ h.ob n1,ne:=k _ _ h.ne n2,pl:=k _ _ h.pl n3 }
theorem Gu {Cd:Addr} {d pn:Addr} {D:iB} {kp:dh} (h:fM Cd H d D kn kp) (hp:H pn=some (.lst xs)):d≠pn/\D.n≠pn/\D.q≠pn:=⟨(λz=>by have:=h.ob;rw [z,hp] at this;cases this),(λz=>by have:=h.ne;rw [z,hp] at this;cases this),(λz=>by have:=h.pl;rw [z,hp] at this;cases this)⟩
section
variable {Cd:Addr} {d:Addr} {D:iB} {k:Nat} {ws0:aK} {j:Nat}
theorem Tq (aV:dh) (x:dR) (v:V):(cI aV x v).length<=aV.length+1:=by unfold cI;split<;>simp
theorem akJ {aV:dh} {x:dR} (v:V) (h:(cF aV x).isSome=true):(cI aV x v).length=aV.length:=by unfold cI;rw [Gp,bF h,bD]
end
theorem Ho:fJ (Ls (ofString "tmp")):=⟨by k_go,by k_go,by k_go⟩
theorem Tr:fJ (Ls (ofString "rest")):=⟨by k_go,by k_go,by k_go⟩
inductive uX:Hv->Prop
 |nil:uX []
 |one (a:Int×aK):uX [(ofString "tmp",a)]
 |two (a b:Int×aK):uX [(ofString "tmp",a),(ofString "rest",b)]
theorem lV.pnm (l:lV ts x rest aj ws):uX ts:=by
 cases l with
 |net h=>rw [h];exact .nil
 |blt h=>rw [h];exact .nil
 |Ez h=>rw [h];exact .one _
 |EY h=>rw [h];exact .one _
 |E_ h=>rw [h];exact .two _ _
 |Fb h=>rw [h];exact .two _ _
theorem uX.name (p:uX ts) {j:Nat} {t:Str×Int×aK} (h:ts[j]?=some t):(j=0/\t.1=ofString "tmp")\/(j=1/\t.1=ofString "rest"):=by
 cases p with
 |nil=>simp at h
 |one a =>
  have:j=0:=by have:=(gb.mp h).1;simp at this;exact this
  subst this;simp at h;subst h;exact .inl ⟨rfl,rfl⟩
 |two a b =>
  have:j=0\/j=1:=by have:=(gb.mp h).1;simp at this;lk
  rcases this with rfl|rfl
  ·simp at h;subst h;exact .inl ⟨rfl,rfl⟩
  ·simp at h;subst h;exact .inr ⟨rfl,rfl⟩
theorem uX.isName (p:uX ts) {j:Nat} {t:Str×Int×aK} (h:ts[j]?=some t):fJ (Ls t.1):=by
 rcases p.name h with ⟨_,e⟩|⟨_,e⟩<;>rw [e]
 ·exact Ho
 ·exact Tr
structure lG (Cd:Addr) (G H:Hp) (d:Addr) (D:iB) (ts:Hv) (lJ:dh) (j:Nat) (kn:dh):Prop where
 ks:fZ [D.n] G H
 kt:KT G H
 da:fM Cd H d D kn []
 ln:kn.length<=lJ.length+j
 tl:∀ (i:Nat) (t:Str×Int×aK),i<j->ts[i]?=some t->∃ u,cF kn (.inr t.1)=some u/\dG H u t.2.1 t.2.2
 ol:∀ x:Str,x≠ofString "tmp"->x≠ofString "rest"->cF kn (.inr x)=cF lJ (.inr x)
section
variable {Cd:Addr} {d:Addr} {D:iB} {j:Nat} {lJ:dh}
theorem lG.same (h:lG Cd G H d D ts lJ j kn) (s:aG H H2):lG Cd G H2 d D ts lJ j kn:=by
 have kt:KT H H2:=b_ s (bG _);exact { h with
  ks:=fZ.trans h.ks (fZ.same s)
  kt:=wF h.kt kt
  da:=h.da.same s
  tl:=λi t z e=>let ⟨v,a,b⟩:=h.tl i t z e;⟨v,a,b.kt kt⟩ }
theorem lG.lst (h:lG Cd G H d D ts lJ j kn) {l:Addr} {ys zs:aD} (f:G l=none) (x:H l=some (.lst ys)):lG Cd G (upd H l (.lst zs)) d D ts lJ j kn:=by
 have kt:KT H (upd H l (.lst zs)):=iD x (bG _);have ks:fZ [l] H (upd H l (.lst zs)):=fZ.upd (by simp);obtain ⟨c,m,g⟩:=Gu h.da x;exact { h with
  ks:=λb o e k=>(bh (λz=>by rw [z,f] at e;cases e)).trans (h.ks b o e k)
  kt:=wF h.kt kt
  da:=h.da.kps ks (by simpa using c) (by simpa using m) (by simpa using g)
  tl:=λi t z e=>let ⟨v,a,b⟩:=h.tl i t z e;⟨v,a,b.kt kt⟩ }
theorem aa6 (da:fM Cd H d D kn []) (l:kn.length<900):fM Cd (upd H D.n (.dK (cI kn (.inr x) v))) d D (cI kn (.inr x) v) []:=by have pl:=Tq kn (.inr x) v;exact ⟨(bh (oJ da.ob da.ne (by intro z;cases z))).trans da.ob,aO,(bh (bL da.nq)).trans da.pl,da.nq,by lk, da.lp⟩
theorem lG.put (h:lG Cd G H d D ts lJ j kn) (p:uX ts) (l0:kn.length<900) (s:aG H H2) {t:Str×Int×aK} (ht:ts[j]?=some t) (net:dG H2 v t.2.1 t.2.2) : lG Cd G (upd H2 D.n (.dK (cI kn (.inr t.1) v))) d D ts lJ (j+1) (cI kn (.inr t.1) v):=by
 have h2:=h.same s;have y:fZ [D.n] H2 (upd H2 D.n (.dK (cI kn (.inr t.1) v))):=fZ.upd (by simp);have l:KT H2 (upd H2 D.n (.dK (cI kn (.inr t.1) v))):=λb xs e=>(bh (oJ e h2.da.ne (by intro z;cases z))).trans e;have pl:=Tq kn (.inr t.1) v;refine ⟨fZ.trans h2.ks y,wF h2.kt l,aa6 h2.da l0,by have:=h.ln;lk, λi t' hi g=>?_,λx m n2=>?_⟩
 ·by_cases c:i=j
  ·subst c;rw [ht] at g;cases g;exact ⟨v,by rw [vh,bF rfl],net.kt l⟩
  ·obtain ⟨u,a,b⟩:=h2.tl i t' (by lk) g;refine ⟨u,?_,b.kt l⟩;rw [vh,bw ?_]
   ·exact a
   ·rcases p.name ht with ⟨r,k⟩|⟨r,k⟩<;>rcases p.name g with ⟨B,o⟩|⟨B,o⟩
    ·lk
    ·lk
    ·rw [k,o];k_go
    ·lk
 ·have e:¬ (Sum.inr x:dR)=Sum.inr t.1:=λz=>by
   have q:x=t.1:=by injection z
   rcases p.name ht with ⟨_,k⟩|⟨_,k⟩
   ·exact m (q.trans k)
   ·exact n2 (q.trans k)
  rw [vh,bw (λz=>e (by first|exact z|exact z.symm))];exact h.ol x m n2
theorem lV.row (l:lV ts x rest aj ws) (m:lG Cd G H d D ts lJ ts.length kn) (bt:∀ t∈ts,1<=t.2.1/\t.2.1<=8/\bC t.2.1 t.2.2/\t.2.2.length<=40) (ok:1<=aj/\aj<=8/\bC aj ws/\ws.length<=40):uG H kn x rest (.net aj ws):=by
 cases l with
 |net h=>exact .net ok.1 ok.2.1 ok.2.2.1 ok.2.2.2
 |blt o h k i1=>exact .blt h k i1
 |Ez h =>subst h;obtain ⟨u,a,b⟩:=m.tl 0 _ (by simp) rfl;exact .Ez Ho a b (bt _ (iu.mpr rfl)).2.2.2
 |EY h =>subst h;obtain ⟨u,a,b⟩:=m.tl 0 _ (by simp) rfl;exact .EY Ho a b (bt _ (iu.mpr rfl)).2.2.2
 |@E_ _ us vs h l =>
  subst h;obtain ⟨u,a,b⟩:=m.tl 0 _ (by simp) rfl;obtain ⟨j,g,c⟩:=m.tl 1 _ (by simp) rfl;have e:yj aj us aj vs=.net aj (us++vs):=by unfold yj;rw [bw (λz=>z rfl),bw (by lk)]
  have:=uG.E_ Ho Tr a g b c;rwa [e] at this
 |@Fb i _ h n l =>
  subst h;obtain ⟨u,a,b⟩:=m.tl 0 _ (by simp) rfl;obtain ⟨j,g,c⟩:=m.tl 1 _ (by simp) rfl;have e:yp i ws 1 []=.net (i+1) ws:=by unfold yp;rw [bw (by lk),bw (by show ¬ 40<ws.length+0;lk)];show wH.net _ (ws++[])=_;rw [kO]
  have:=uG.Fb Ho Tr a g b c;rwa [e] at this
theorem lG.last (h:lG Cd G H d D ts lJ j kn) (l0:kn.length<900) (s:aG H H2) (net:dG H2 v aj ws) : fZ [D.n] G (upd H2 D.n (.dK (cI kn (.inr nm) v)))/\KT G (upd H2 D.n (.dK (cI kn (.inr nm) v)))/\fM Cd (upd H2 D.n (.dK (cI kn (.inr nm) v))) d D (cI kn (.inr nm) v) []/\(cI kn (.inr nm) v).length<=lJ.length+j+1/\cF (cI kn (.inr nm) v) (.inr nm)=some v/\dG (upd H2 D.n (.dK (cI kn (.inr nm) v))) v aj ws/\(∀ x:Str,x≠nm->x≠ofString "tmp"->x≠ofString "rest"->cF (cI kn (.inr nm) v) (.inr x)=cF lJ (.inr x)):=by have h2:=h.same s;have i:fZ [D.n] H2 (upd H2 D.n (.dK (cI kn (.inr nm) v))):=fZ.upd (by simp);have a:KT H2 (upd H2 D.n (.dK (cI kn (.inr nm) v))):=λb xs e=>(bh (oJ e h2.da.ne (by intro z;cases z))).trans e;have pl:=Tq kn (.inr nm) v;refine ⟨fZ.trans h2.ks i,wF h2.kt a,aa6 h2.da l0,by have:=h.ln;lk, by rw [vh,bF rfl],net.kt a,λx g c n2=>?_⟩;have e:¬ (Sum.inr x:dR)=Sum.inr nm:=λz=>g (by injection z);rw [vh,bw (λz=>e (by first|exact z|exact z.symm))];exact h.ol x c n2
theorem lG.afs (h:lG Cd G H d D ts lJ j kn) (s:aG H H2) {ys:aD} (x:H l=some (.lst ys)):(upd H2 D.n o) l=some (.lst ys):=(bh (oJ x h.da.ne (by intro z;cases z))).trans (s _ _ x)
variable {cZ:gQ} {k:Nat} {a:mQ} {Q:VK} {E:XK} {z:Str}
theorem akK (R:MJ P w K mg aF cZ k a) (m:lG Cd G H d D ts lJ j kn) (p:uX ts) (l0:kn.length<900) {t:Str×Int×aK} (ht:ts[j]?=some t) (bt:1<=t.2.1/\t.2.1<=8/\bC t.2.1 t.2.2/\t.2.2.length<=40) (hz:aev t z) (q:∀ gV H',lG Cd G H' d D ts lJ (j+1) gV->(∀ (l:Addr) (ys:aD),H l=some (.lst ys)->H' l=some (.lst ys))->Q (.str "ok") H'):rA P w K mg aF cZ k Cd [.ref d,.str z] H Q E:=aem R m.da l0 (by show 0<900;decide) (p.isName ht) (.net bt.1 bt.2.1 bt.2.2.1 bt.2.2.2) hz λu H1 s n=>q _ _ (m.put p l0 s ht ⟨n,bt.1,bt.2.1,bt.2.2.1,by have:=bt.2.2.2;lk⟩) λl ys x=>m.afs s x
theorem aiK (R:MJ P w K mg aF cZ k a) (m:lG Cd G H d D ts lJ ts.length kn) (l0:kn.length<900) (lt:ts.length<=2) (hn:fJ (Ls nm)) (l:lV ts x rest aj ws) (bt:∀ t∈ts,1<=t.2.1/\t.2.1<=8/\bC t.2.1 t.2.2/\t.2.2.length<=40) (ok:1<=aj/\aj<=8/\bC aj ws/\ws.length<=40) (hz:Ls z=Ls x++32::(Ls nm++32::Ls rest)) (q:∀ gV v H',fZ [D.n] G H'->KT G H'->fM Cd H' d D gV []->gV.length<=lJ.length+3->cF gV (.inr nm)=some v->dG H' v aj ws->(∀ x:Str,x≠nm->x≠ofString "tmp"->x≠ofString "rest"->cF gV (.inr x)=cF lJ (.inr x))->(∀ (l:Addr) (ys:aD),H l=some (.lst ys)->H' l=some (.lst ys))->Q (.str "ok") H'):rA P w K mg aF cZ k Cd [.ref d,.str z] H Q E:=aem R m.da l0 (by show 0<900;decide) hn (l.row m bt ok) hz λu H1 s n=>by obtain ⟨g,j,b,o,c,i,e⟩:=m.last (nm:=nm) (aj:=aj) (ws:=ws) l0 s ⟨n,ok.1,ok.2.1,ok.2.2.1,by have:=ok.2.2.2;lk⟩;exact q _ _ _ g j b (by lk) c i e λl ys x=>m.afs s x
end
def Bl (H:Hp) (t:Addr):Prop:=∃ (x:Str) (i j:Int),H t=some (.tup [.str x,.int i,.int j])/\(x="levels" \/ x="orders" \/ x="spread" \/ x="alike")/\0<=i/\i<2/\0<=j/\j<2
def aft (H:Hp) (l:Addr):Prop:=∃ a b:Addr,H l=some (.lst [.ref a,.ref b])/\Bl H a/\Bl H b
theorem Bl.kt (k:KT H H') (h:Bl H t):Bl H' t:=let ⟨x,i,j,e,r⟩:=h;⟨x,i,j,k _ _ e,r⟩
theorem ao' {p:Addr} (a:jB H p) (b:aft H l):l≠p:=λz=>by obtain ⟨_,_,_,e⟩:=a;obtain ⟨_,_,f,_⟩:=b;rw [z,e] at f;cases f
structure jM (Cd:Addr) (G H:Hp) (p d lj:Addr) (D:iB) (kn:dh):Prop where
 sm:aG G H
 fp:G p=none
 fn:G D.n=none
 pe:jB H p
 da:fM Cd H d D kn []
 ju:aft H lj
section
variable {Cd:Addr} {p d lj:Addr} {D:iB}
theorem jM.same (h:jM Cd G H p d lj D kn) (s:aG H H2):jM Cd G H2 p d lj D kn:=by obtain ⟨k,l,e,j,g⟩:=h.ju;obtain ⟨a,b,c,i⟩:=h.pe;exact { h with sm:=aB h.sm s,pe:=⟨a,b,c,s _ _ i⟩,da:=h.da.same s,ju:=⟨k,l,s _ _ e,j.kt (b_ s (bG _)),g.kt (b_ s (bG _))⟩ }
theorem jM.kp (h:jM Cd G H p d lj D kn) (k:Kp p H H2) (pe:jB H2 p):jM Cd G H2 p d lj D kn:=by obtain ⟨u,v,e,q,m⟩:=h.ju;obtain ⟨a,b,c,g⟩:=h.pe;have n:=ao' h.pe h.ju;have kt:KT H H2:=KT.kp k g (bG _);obtain ⟨i,r,l⟩:=Gu h.da g;have ks:fZ [p] H H2:=λb o e j=>k b o e (by simpa using j);exact { h with sm:=ks.old h.sm (λx t=>by rw [iu.mp t];exact h.fp),pe:=pe,da:=h.da.kps ks (by simpa using i) (by simpa using r) (by simpa using l),ju:=⟨u,v,k _ _ e n,q.kt kt,m.kt kt⟩ }
theorem jM.Fe (h:jM Cd G H p d lj D kn) {a c:Int}:jM Cd G (upd H p (.lst [.int a,.int b,.int c])) p d lj D kn:=h.kp rm ⟨_,_,_,aO⟩
theorem jM.put (h:jM Cd G H p d lj D kn) (f:G l=none) (kt:KT H (upd H l o)) (n1:l≠p) (n2:l≠lj) (n3:d≠l) (n4:D.n≠l) (n5:D.q≠l):jM Cd G (upd H l o) p d lj D kn:=by obtain ⟨k,m,e,j,g⟩:=h.ju;obtain ⟨a,b,c,i⟩:=h.pe;exact { h with sm:=bO f h.sm,pe:=⟨a,b,c,(bh (bL n1)).trans i⟩,da:=h.da.kps (S:=[l]) (fZ.upd (by simp)) (by simpa using n3) (by simpa using n4) (by simpa using n5),ju:=⟨k,m,(bh (bL n2)).trans e,j.kt kt,g.kt kt⟩ }
theorem jM.afu (h:jM Cd G H p d lj D kn) (k:fZ [D.n] H H2) (kt:KT H H2) (da:fM Cd H2 d D gV []):jM Cd G H2 p d lj D gV:=by
 obtain ⟨l,o,e,m,i⟩:=h.ju;obtain ⟨a,b,c,g⟩:=h.pe;exact { h with
  sm:=k.old h.sm (λx j=>by rw [iu.mp j];exact h.fn)
  pe:=⟨a,b,c,k _ _ g (by rw [iu];exact oJ g h.da.ne (by intro z;cases z))⟩
  da:=da
  ju:=⟨l,o,k _ _ e (by rw [iu];exact oJ e h.da.ne (by intro z;cases z)),m.kt kt,i.kt kt⟩ }
theorem jM.aqw (h:jM Cd G H p d lj D kn) {p2:Addr} {a c:Int} (f:H p2=none):jM Cd G (upd H p2 (.lst [.int a,.int b,.int c])) p2 d lj D kn:=by have h2:=h.same (bM f (HO.lst [.int a,.int b,.int c]));exact { h2 with fp:=h.sm.free f,pe:=⟨_,_,_,aO⟩ }
end
structure wV (Cd:Addr) (G H:Hp) (p d lw lj:Addr) (D:iB) (ts:jq):Prop where
 sm:aG G H
 fp:G p=none
 fl:G lj=none
 pe:jB H p
 da:fM Cd H d D [] []
 hw:H lw=some (.lst [.str "levels",.str "orders",.str "spread",.str "alike"])
 hl:H lj=some (.lst (ts.map V.ref))
 np:lj≠p
 nw:lj≠lw
 ju:∀ t∈ts,Bl H t
section
variable {Cd:Addr} {p d lw lj:Addr} {D:iB} {ts:jq}
theorem wV.Fe (h:wV Cd G H p d lw lj D ts) {a c:Int}:wV Cd G (upd H p (.lst [.int a,.int b,.int c])) p d lw lj D ts:=by
 obtain ⟨_,_,_,e⟩:=h.pe;have k:Kp p H (upd H p (.lst [.int a,.int b,.int c])):=rm;have kt:=KT.kp k e (bG _);obtain ⟨i,l,g⟩:=Gu h.da e;have m:lw≠p:=λz=>by have:=h.hw;rw [z,e] at this;cases this
 exact { h with sm:=bO h.fp h.sm,pe:=⟨_,_,_,aO⟩,da:=h.da.kps (S:=[p]) (fZ.upd (by simp)) (by simpa using i) (by simpa using l) (by simpa using g),hw:=k _ _ h.hw m,hl:=k _ _ h.hl h.np,ju:=λt j=>(h.ju t j).kt kt }
theorem wV.add (h:wV Cd G H p d lw lj D ts) (f:H t=none) {i j:Int} (hx:x="levels" \/ x="orders" \/ x="spread" \/ x="alike") (i0:0<=i) (i1:i<2) (j0:0<=j) (j1:j<2) : (upd H t (.tup [.str x,.int i,.int j])) lj=some (.lst (ts.map V.ref))/\wV Cd G (upd (upd H t (.tup [.str x,.int i,.int j])) lj (.lst ((ts++[t]).map V.ref))) p d lw lj D (ts++[t]):=by
 have s:=bM f (HO.tup [.str x,.int i,.int j]);have e:=s _ _ h.hl;have m:(upd H t (.tup [.str x,.int i,.int j])) t=some (.tup [.str x,.int i,.int j]):=aO;generalize upd H t (HO.tup [V.str x,V.int i,V.int j])=g at s e m;have kt:KT g (upd g lj (.lst ((ts++[t]).map V.ref))):=iD e (bG _);have k:KT H g:=b_ s (bG _);have da:=h.da.same s;obtain ⟨o,r,n⟩:=Gu da e;obtain ⟨a,b,c,q⟩:=h.pe;refine ⟨e,{ h with sm:=bO h.fl (aB h.sm s),pe:=⟨a,b,c,(bh (bL h.np)).trans (s _ _ q)⟩,da:=da.kps (S:=[lj]) (fZ.upd (by simp)) (by simpa using o) (by simpa using r) (by simpa using n),hw:=(bh (bL h.nw)).trans (s _ _ h.hw),hl:=aO,ju:=λt' l=>?_ }⟩;rcases o9.mp l with z|z
 ·exact ((h.ju t' z).kt k).kt kt
 ·rw [iu.mp z];exact ⟨x,i,j,kt _ _ m,hx,i0,i1,j0,j1⟩
theorem wV.two (h:wV Cd G H p d lw lj D ts) (l:ts.length=2) (fn:G D.n=none):jM Cd G H p d lj D []:=by
 match ts,l with
 |[t1,t2],_=>exact ⟨h.sm,h.fp,fn,h.pe,h.da,t1,t2,h.hl,h.ju t1 (by simp),h.ju t2 (by simp)⟩
end
structure m9 (H:Hp) (ka:Addr) (kk kn:dh) (S:Str->Prop) (m:Nat):Prop where
 hk:H ka=some (.dK kk)
 cX:kk.length<=2
 ex:∀ nm:Str,nm="a" \/ nm="other"->∃ (u:V) (aj:Int) (ws:aK),cF kk (.inr nm)=some u/\dG H u aj ws/\(¬ S nm->ws.length<=m)/\(S nm->∃ v,cF kn (.inr nm)=some v/\dG H v aj ws)
theorem m9.mono {S:Str->Prop} {m m':Nat} (h:m9 H ka kk kn S m) (mm:m<=m'):m9 H ka kk kn S m':=⟨h.hk,h.cX,λnm e=>let ⟨u,aj,ws,a,b,c,d⟩:=h.ex nm e;⟨u,aj,ws,a,b,λz=>eU (c z) mm,d⟩⟩
theorem m9.keep {S:Str->Prop} {m:Nat} (h:m9 H ka kk kn S m) (e:H2 ka=some (.dK kk)) (kt:KT H H2):m9 H2 ka kk kn S m:=⟨e,h.cX,λnm g=>let ⟨u,aj,ws,a,b,c,d⟩:=h.ex nm g;⟨u,aj,ws,a,b.kt kt,c,λz=>let ⟨v,x,y⟩:=d z;⟨v,x,y.kt kt⟩⟩⟩
theorem m9.get {S:Str->Prop} {m:Nat} (h:m9 H ka kk kn S m) {u:V} (e:cF kk (.inr nm)=some u):jz H ka (.str nm) (some u):=by have:=jz.k (k:=.inr nm) h.hk;rw [e] at this;exact this
theorem m9.put {S S':Str->Prop} {m:Nat} (h:m9 H ka kk kn S m) (hnm:nm="a" \/ nm="other") {u:V} (net:dG H u aj ws) (n1:¬ S' nm->ws.length<=m) (n2:S' nm->∃ v,cF gV (.inr nm)=some v/\dG H v aj ws) (o1:∀ x:Str,x≠nm->(S' x↔S x)) (o2:∀ x:Str,x≠nm->S x->cF gV (.inr x)=cF kn (.inr x)):m9 (upd H ka (.dK (cI kk (.inr nm) u))) ka (cI kk (.inr nm) u) gV S' m:=by
 have kt:KT H (upd H ka (.dK (cI kk (.inr nm) u))):=λb xs e=>by rw [bh (λz=>by rw [z,h.hk] at e;cases e)];exact e
 refine ⟨aO,?_,λx k=>?_⟩
 ·obtain ⟨d,_,_,e,_⟩:=h.ex nm hnm;rw [akJ u (by rw [e];rfl)];exact h.cX
 ·by_cases c:x=nm
  ·subst c;exact ⟨u,aj,ws,by rw [vh,bF rfl],net.kt kt,n1,λz=>let ⟨v,a,b⟩:=n2 z;⟨v,a,b.kt kt⟩⟩
  ·obtain ⟨d,w0,ws0,e,l,j,g⟩:=h.ex x k;have i:¬ (Sum.inr x:dR)=Sum.inr nm:=λz=>c (by injection z);refine ⟨d,w0,ws0,?_,l.kt kt,λz=>j (λy=>z ((o1 x c).mpr y)),λz=>?_⟩
   ·rw [vh,bw (λz=>i (by first|exact z|exact z.symm))];exact e
   ·obtain ⟨v,a,b⟩:=g ((o1 x c).mp z);exact ⟨v,by rw [o2 x c ((o1 x c).mp z)];exact a,b.kt kt⟩
theorem aew:fJ (Ls (ofString "a")):=⟨by k_go,by k_go,by k_go⟩
theorem aex:fJ (Ls (ofString "other")):=⟨by k_go,by k_go,by k_go⟩
end
section
open PySem.Spec PyProof.Rows
section
variable {I:Addr} {wr:jq} {G:Array GenState->Array GenState->Prop} {P:Nat->Value->Prop} {St:Nat->Shared->Prop}
end
end
section
open PySem.SeqAt PyProof.Rows
theorem aey {ys zs:dh} (e:H a=some (.dK ys)):KT H (upd H a (.dK zs)):=λq xs h=>(bh (oJ h e (by intro z;cases z))).trans h
end
section
open PySem.Spec PyProof.Rows
end
section
open PySem.SeqAt PyProof.Rows
end
section
theorem N_ (f : H a = none) (o : HO) : ∃ H', H' = upd H a o /\ aG H H' /\ H' a = some o := ⟨_, rfl, bM f o, aO⟩
def top (i:Nat):Stmt:=PySem.Challenge.pw_evenpass_k85_what_a_desk_tells_of_nets.main.body.getD i (.Pass ⟨0,0,0,0⟩)
abbrev agI:Stmt:=top 2
abbrev apa:Stmt:=top 3
abbrev am2:Stmt:=top 5
abbrev apb:Stmt:=top 6
abbrev agJ:Stmt:=top 7
abbrev ag2:Stmt:=top 18
abbrev am3:Stmt:=top 19
abbrev aqx:Stmt:=top 20
abbrev apc:Stmt:=top 21
abbrev am4:Stmt:=top 22
abbrev agK:Stmt:=top 25
abbrev akL:Stmt:=top 26
abbrev aas:Stmt:=top 27
abbrev aah:Stmt:=top 28
abbrev am5:Stmt:=top 29
abbrev af7:Stmt:=top 31
abbrev afX:Stmt:=top 32
abbrev am6:Stmt:=top 33
abbrev aiL:Stmt:=top 37
abbrev akM:Stmt:=top 38
abbrev ahE:Stmt:=top 39
abbrev agL:Stmt:=top 40
abbrev ahF:Stmt:=top 41
abbrev am7:Stmt:=top 42
abbrev afT:Stmt:=top 45
abbrev af2:Stmt:=top 46
abbrev am8:Stmt:=top 47
abbrev afZ:Stmt:=top 48
abbrev Rr:Stmt:=top 49
abbrev Tt:Stmt:=top 50
abbrev am9:Stmt:=top 51
abbrev adR:Stmt:=top 52
abbrev agq:Stmt:=top 54
abbrev af8:Stmt:=top 55
abbrev af3:Stmt:=top 56
abbrev apd:Stmt:=top 57
abbrev am_:Stmt:=top 58
abbrev vm:Stmt:=top 59
abbrev am':Stmt:=top 61
abbrev akN:Stmt:=top 62
abbrev ana:Stmt:=top 63
abbrev anb:Stmt:=top 64
abbrev aiM:Stmt:=top 65
abbrev akO:Stmt:=top 66
abbrev agr:Stmt:=top 68
abbrev ape:Stmt:=top 69
abbrev anc:Stmt:=top 70
abbrev atL:Stmt:=top 72
abbrev ato:Stmt:=top 73
abbrev aty:Stmt:=j8 (top 74) 0
abbrev atp:Stmt:=j8 (top 74) 1
abbrev atf:Stmt:=j8 (top 74) 2
abbrev ati:Stmt:=j8 (top 74) 3
abbrev atq:Stmt:=j8 (top 74) 4
abbrev atz:Stmt:=j8 (top 74) 5
abbrev atr:Stmt:=j8 (top 74) 6
abbrev ate:Stmt:=j8 (top 74) 7
abbrev atA:Stmt:=j8 (top 74) 8
abbrev atk:Stmt:=j8 (top 74) 9
abbrev atu:Stmt:=j8 (top 74) 10
abbrev atm:Stmt:=j8 (top 74) 11
abbrev ath:Stmt:=j8 (top 74) 12
abbrev atB:Stmt:=j8 (top 74) 13
abbrev atj:Stmt:=j8 (top 74) 14
abbrev atD:Stmt:=j8 (top 74) 15
abbrev atE:Stmt:=j8 (top 74) 16
abbrev aa7:Stmt:=top 78
abbrev ahG:Stmt:=top 79
abbrev ahH:Stmt:=top 80
abbrev ahI:Stmt:=top 81
abbrev aaA:Stmt:=top 82
abbrev aiN:Stmt:=top 83
abbrev aiO:Stmt:=top 85
abbrev acs:Stmt:=top 87
abbrev ane:Stmt:=top 91
abbrev atg:Stmt:=top 92
abbrev af9:Stmt:=top 93
abbrev agM:Stmt:=top 94
abbrev af_:Stmt:=top 95
abbrev af':Stmt:=top 96
abbrev ags:Stmt:=top 97
abbrev aga:Stmt:=top 98
abbrev agb:Stmt:=top 99
abbrev agc:Stmt:=top 100
abbrev agN:Stmt:=top 101
abbrev atM:Stmt:=top 102
abbrev atN:Stmt:=top 103
abbrev aiP:Stmt:=top 104
abbrev ahJ:Stmt:=top 105
abbrev ahK:Stmt:=top 106
abbrev ag3:Stmt:=top 107
abbrev ag4:Stmt:=top 108
abbrev ahL:Stmt:=top 109
abbrev ag5:Stmt:=top 110
abbrev ahM:Stmt:=top 111
abbrev atF:Stmt:=top 112
abbrev atO:Stmt:=top 113
abbrev atP:Stmt:=top 114
abbrev atv:Stmt:=top 115
abbrev atw:Stmt:=top 116
abbrev atQ:Stmt:=top 117
abbrev atG:Stmt:=top 118
abbrev aiQ:Stmt:=top 120
abbrev aiR:Stmt:=top 121
abbrev akP:Stmt:=top 122
abbrev aqy:Stmt:=top 123
abbrev afS:Stmt:=top 124
abbrev ag6:Stmt:=top 125
abbrev aaP:Stmt:=j8 (top 126) 0
abbrev aiS:Stmt:=j8 (top 126) 1
abbrev agd:Stmt:=j8 (top 126) 2
abbrev arx:Stmt:=top 128
abbrev aqz:Stmt:=top 129
abbrev akQ:Stmt:=top 130
abbrev anf:Stmt:=top 131
abbrev Qm:Stmt:=top 132
abbrev QT:Stmt:=top 133
abbrev akR:Stmt:=top 134
abbrev aiT:Stmt:=top 135
abbrev aqA:Stmt:=top 136
abbrev arz:Stmt:=top 137
abbrev ang:Stmt:=top 138
abbrev aez:Stmt:=top 139
abbrev apf:Stmt:=top 140
abbrev aqB:Stmt:=top 141
abbrev akS:Stmt:=top 142
abbrev akT:Stmt:=top 143
abbrev agf:Stmt:=top 144
abbrev ahN:Stmt:=top 145
abbrev agO:Stmt:=top 146
abbrev apg:Stmt:=top 147
abbrev anh:Stmt:=top 148
abbrev ahO:Stmt:=top 149
abbrev ahP:Stmt:=top 150
abbrev ani:Stmt:=top 151
abbrev yI:Stmt:=top 152
end
variable {sl:qX} {dc:Value} {ks:bR}
section
open PySem.SeqAt
section
section
variable {a b:Expr} {ta tb:TE} {r:R2}
theorem bB (i:Nat) (hN:X.N.Nodup) (he:PE X e te) (hi:X.N[i]?=some x:=by rfl) (hx:wA X.env.scope x:=by first|exact Or.inl rfl|exact Cy rfl) (hs:swapsWith e (some (.Name x pos')) pos.line X.env=pure false:=by rfl) (hf:X.fn x=true\/X.env.scope.names.lookup x=some .local:=by first|exact .inl rfl|exact .inr rfl|assumption) : PS X (.Assign [.Name x pos'] e pos) (yL te (kj i)):=apz hN hi hx he hs hf
theorem dI (i:Nat) (hN:X.N.Nodup) (hi:X.N[i]?=some x:=by rfl) (hx:wA X.env.scope x:=by first|exact Or.inl rfl|exact Cy rfl) (hf:X.fn x=true\/X.env.scope.names.lookup x=some .local:=by first|exact .inl rfl|exact .inr rfl|assumption):PG X (.Name x pos) (kj i):=anA hN hi hx hf
theorem bQ (ha:PE X a ta) (hb:PE X b tb) (hs:S8 b:=by exact λ_ _=>rfl):PE X (.Subscript a b pos) (uO (M5 X.K) ta tb):=qZ aea ha hb hs
theorem cD (ha:PE X a ta) (hb:PE X b tb) (hs:S8 b:=by exact λ_ _=>rfl):PE X (.Subscript a b pos) (uO (VB X.K) ta tb):=qZ ac_ ha hb hs
theorem bW (ho:dN X (compareOp op) r) (ha:PE X a ta) (hb:PE X b tb) (hm:behindInMarks op b=false:=by exact ad8 _):PT X (.Compare a [op] [b] pos) (Mv (uO r ta tb)):=Lk ho ha hb hm
theorem je (ho:dN X (compareOp op) r) (ha:PE X a ta) (hb:PE X b tb) (hm:behindInMarks op b=false:=by exact ad8 _):PE X (.Compare a [op] [b] pos) (uO r ta tb):=S5 ho ha hb hm
theorem jH (T:Bn X.mg) (he:PE X e te) (hg:Gl X "len":=by rfl) (hs:starEach [e] X.env=(false,eval e X.env)::starEach [] X.env:=by rfl):PE X (.Call (.Name "len" pos') [e] [] pos) (Nv (aal X.K) (yC te Bd)):=jC agV hg T.Vh Sy (ak he au hs) (he:=hs)
end
theorem dW.m {j k:Nat} (r:dW k A) (h:j<=k:=by first|decide|omega):dW j A:=r.mono h
theorem zup (f:H a=none) (o:HO):∃ H',upd H a o=H'/\aG H H'/\H' a=some o:=⟨_,rfl,bM f o,aO⟩
local macro_rules|`(tactic| k_mem)=>`(tactic| (intro _ _ _ _ _ _;exact anG))
local macro_rules|`(tactic| k_all)=>`(tactic| (intro _ _ _ _ _ _;refine dI 0 ?_;dsimp only [pC];decide +kernel))
local macro_rules|`(tactic| kl_no)=>`(tactic| first|(show 0<=100000;decide)|(show 1<=100000;decide)|(show 2<=100000;decide)|(show 3<=100000;decide)|(show 4<=100000;decide)|(show 5<=100000;decide)|(show 6<=100000;decide)|(show 7<=100000;decide)|(show 8<=100000;decide))
local macro_rules|`(tactic| o_head $t)=>`(tactic| (have $(Lean.mkIdent `T):ident:=$(Lean.mkIdent `Z.T);have $(Lean.mkIdent `nd):ident:=(by decide +kernel:List.Nodup (α:=Str) $t);refine $(Lean.mkIdent `F.fn.ok) (N:=$t) ⟨rfl,rfl,rfl,$(Lean.mkIdent `nd),rfl,by decide +kernel,by decide +kernel⟩ (λ_ _ _ _ h=>by first|(cases h<;>(subst_vars;rfl;done))|(obtain ⟨_,e,_⟩:=h;subst e;rfl;done)|(obtain ⟨_,_,e,_⟩:=h;subst e;rfl;done)|(obtain ⟨_,_,_,e,_⟩:=h;subst e;rfl;done)|(obtain ⟨_,_,_,_,e,_⟩:=h;subst e;rfl;done)|(obtain ⟨_,_,_,_,_,e,_⟩:=h;subst e;rfl;done)|(obtain ⟨_,_,_,_,_,_,e,_⟩:=h;subst e;rfl;done)|(obtain ⟨e,_⟩:=h;subst e;rfl;done)|(rcases h with h|h<;>(first|(cases h<;>(subst_vars;rfl;done))|(obtain ⟨_,e,_⟩:=h;subst e;rfl;done)|(obtain ⟨_,_,e,_⟩:=h;subst e;rfl;done)|(obtain ⟨_,_,_,e,_⟩:=h;subst e;rfl;done)|(obtain ⟨_,_,_,_,e,_⟩:=h;subst e;rfl;done)|(obtain ⟨_,_,_,_,_,e,_⟩:=h;subst e;rfl;done)|(obtain ⟨_,_,_,_,_,_,e,_⟩:=h;subst e;rfl;done)|(obtain ⟨e,_⟩:=h;subst e;rfl;done)))) (λ_ $(Lean.mkIdent `A) $(Lean.mkIdent `outer) $(Lean.mkIdent `s) $(Lean.mkIdent `H) $(Lean.mkIdent `vs) $(Lean.mkIdent `Q) $(Lean.mkIdent `E) $(Lean.mkIdent `hr) $(Lean.mkIdent `h)=>?_)))
local macro_rules|`(tactic| o_head ($h,$t))=>`(tactic| (refine $h fun $(Lean.mkIdent `f) $(Lean.mkIdent `fd) $(Lean.mkIdent `F)=>?_;o_head $t))
local macro_rules|`(tactic| o_head ($t,1,1))=>`(tactic| (have $(Lean.mkIdent `T):ident:=$(Lean.mkIdent `Z.T);have $(Lean.mkIdent `nd):ident:=(by decide +kernel:List.Nodup (α:=Str) $t);refine $(Lean.mkIdent `F.fn.Ik) (N:=$t) ⟨rfl,rfl,rfl,$(Lean.mkIdent `nd),rfl,by decide +kernel,by decide +kernel⟩ (λ_ _ _ _ h=>by first|(cases h<;>(subst_vars;rfl;done))|(obtain ⟨_,e,_⟩:=h;subst e;rfl;done)|(obtain ⟨_,_,e,_⟩:=h;subst e;rfl;done)|(obtain ⟨_,_,_,e,_⟩:=h;subst e;rfl;done)|(obtain ⟨_,_,_,_,e,_⟩:=h;subst e;rfl;done)|(obtain ⟨_,_,_,_,_,e,_⟩:=h;subst e;rfl;done)|(obtain ⟨_,_,_,_,_,_,e,_⟩:=h;subst e;rfl;done)|(obtain ⟨e,_⟩:=h;subst e;rfl;done)|(rcases h with h|h<;>(first|(cases h<;>(subst_vars;rfl;done))|(obtain ⟨_,e,_⟩:=h;subst e;rfl;done)|(obtain ⟨_,_,e,_⟩:=h;subst e;rfl;done)|(obtain ⟨_,_,_,e,_⟩:=h;subst e;rfl;done)|(obtain ⟨_,_,_,_,e,_⟩:=h;subst e;rfl;done)|(obtain ⟨_,_,_,_,_,e,_⟩:=h;subst e;rfl;done)|(obtain ⟨_,_,_,_,_,_,e,_⟩:=h;subst e;rfl;done)|(obtain ⟨e,_⟩:=h;subst e;rfl;done)))) (λ_ $(Lean.mkIdent `A) $(Lean.mkIdent `outer) $(Lean.mkIdent `s) $(Lean.mkIdent `H) $(Lean.mkIdent `vs) $(Lean.mkIdent `Q) $(Lean.mkIdent `E) $(Lean.mkIdent `hr) $(Lean.mkIdent `h)=>?_)))
local macro_rules|`(tactic| o_head ($h,$t,0))=>`(tactic| (refine $h fun $(Lean.mkIdent `f) $(Lean.mkIdent `fd) $(Lean.mkIdent `F)=>?_;o_head ($t,1,1)))
abbrev adr {H:Hp} {l:Addr} (_:H l=none):=l
theorem arA {H H':Hp} {l:Addr} {o:HO} (f:H l=none) (e:upd H l o=H'):aG H H'/\H' l=some o:=by subst e;exact ⟨bM f _,aO⟩
theorem arB {G H H':Hp} {p:Addr} {o:HO} (k:Kp p G H) (e:upd H p o=H'):Kp p G H'/\H' p=some o:=by subst e;exact ⟨cV k rm,aO⟩
theorem Iv {H:Hp} {p:Addr}:Kp p H H:=λ_ _ e _=>e
theorem arC {H H':Hp} {p l:Addr} {o:HO} {xs:aD} (hp:H p=some (.lst xs)) (f:H l=none) (e:upd H l o=H'):Kp p H H'/\H' p=some (.lst xs)/\H' l=some o/\l≠p:=by subst e;exact FN hp f _
local macro_rules|`(tactic| w_call $H $h $f $k $q $x $n)=>`(tactic| (generalize e:upd _ (adr $f) _=$H:ident;obtain ⟨$k:ident,$q:ident,$x:ident,$n:ident⟩:=arC $h $f e;clear e))
local macro_rules|`(tactic| km_lay $_ $H $f $s $x)=>`(tactic| (generalize e:upd _ (adr $f) _=$H:ident;obtain ⟨$s:ident,$x:ident⟩:=arA $f e;clear e))
local macro_rules|`(tactic| kn_lay $l $f $H $s $x)=>`(tactic| (refine ⟨aN (by kl_no),fun $l $f=>?_⟩;km_lay $l $H $f $s $x))
local macro_rules|`(tactic| wrow_args $p $H $j $k $q)=>`(tactic| (generalize e:upd _ $p _=$H:ident;obtain ⟨$k:ident,$q:ident⟩:=arB $j e;clear e))
local macro_rules|`(tactic| w_up)=>`(tactic| refine ⟨_,rfl,rfl,_,rfl,bK (by decide) ?_⟩)
local macro_rules|`(tactic| tm_up)=>`(tactic| refine ⟨_,rfl,rfl,_,rfl,cA (by simp) ?_⟩)
local macro_rules|`(tactic| sr_in)=>`(tactic| refine ⟨_,rfl,rfl,_,rfl,?_⟩)
local macro_rules|`(tactic| walk2)=>`(tactic| refine ⟨_,rfl,bK (by decide) ?_⟩)
local macro_rules|`(tactic| k_upd)=>`(tactic| refine ⟨_,rfl,rfl,_,rfl,bK (by k_go) ?_⟩)
local macro_rules|`(tactic| w_fin)=>`(tactic| refine ⟨_,rfl,_,_,rfl,rfl,⟨by decide,by decide⟩,?_⟩)
local macro_rules|`(tactic| w_left)=>`(tactic| refine ⟨_,rfl,?_⟩)
local macro_rules|`(tactic| isplit)=>`(tactic| refine ⟨⟨.inl rfl,trivial⟩,mZ ?_⟩)
local macro_rules|`(tactic| got_up)=>`(tactic| refine ⟨⟨.inl rfl,.inr rfl,trivial⟩,mZ ?_⟩)
local macro_rules|`(tactic| is_list)=>`(tactic| refine ⟨⟨.inl rfl,.inr rfl,.inr rfl,trivial⟩,mZ ?_⟩)
local macro_rules|`(tactic| mod_arm)=>`(tactic| refine ⟨_,rfl,rfl,_,rfl,bK (by simp) ?_⟩)
local macro_rules|`(tactic| l_ints)=>`(tactic| refine ⟨_,rfl,rfl,_,rfl,cA (by decide) ?_⟩)
local macro_rules|`(tactic| row_wit1 $t)=>`(tactic| (intro _ _ _ _ _ _;exact $t))
local macro_rules|`(tactic| w_tab)=>`(tactic| (intro _ _ _ _ _ _;refine anI $(Lean.mkIdent `K) rfl (n:=2) rfl (ig (dI 0 ?_) (ig (dI 1 ?_) oX))<;>(dsimp only [pC];decide +kernel)))
local macro_rules|`(tactic| walk_at "cm")=>`(tactic| first|exact .inr ⟨by decide,by decide⟩|exact .inl ⟨by decide,by decide⟩|exact .inl ⟨by omega,by omega⟩|exact .inr ⟨by omega,by omega⟩)
local macro_rules|`(tactic| walk_at "side")=>`(tactic| first
 |(show (0:Int)<_;first|decide|omega)
 |(show HJ _ _;walk_at "cm")
 |(show List.length _<=sizeLine;exact aN (by simp only [gj,R8]<;>omega))
 |(show Wq _ _ _ _;exact .inl ⟨rfl,_,aQ (by walk_at "hh")⟩)
 |(show ae9 _ _;exact ⟨by decide,by decide,by decide⟩)
 |(show _/\_;exact ⟨by first|decide|omega,by first|decide|omega⟩)
 |omega)
local macro_rules|`(tactic| walk_at "rd1")=>`(tactic| first
 |refine ⟨_,rfl,?_⟩
 |refine ⟨_,_,rfl,rfl,?_⟩
 |refine ⟨_,_,_,_,rfl,rfl,aQ (by assumption),by first|rfl|assumption,?_⟩
 |refine ⟨_,_,_,_,rfl,rfl,aX (by assumption),by first|rfl|assumption,?_⟩
 |refine ⟨_,_,rfl,rfl,by walk_at "side",?_⟩
 |refine pK.mk rfl ?_
 |refine ae'.mk rfl ?_
 |refine U9.mk (by walk_at "side") ?_
 |refine And.intro rfl ?_
 |refine And.intro (by walk_at "side") ?_
 |refine Cy ⟨_,rfl,?_⟩)
local macro_rules|`(tactic| walk_at "rd")=>`(tactic| repeat walk_at "rd1")
local macro_rules|`(tactic| walk_at "ne")=>`(tactic| first
 |assumption
 |exact bL (by assumption)
 |exact ne1 (by assumption) (by walk_at "hh")
 |exact ne2 (by assumption) (by walk_at "hh")
 |exact Mz (by assumption) (by walk_at "hh")
 |exact ne4 (by assumption) (by walk_at "hh"))
local macro_rules|`(tactic| walk_at "hh")=>`(tactic| first
 |assumption
 |exact aO
 |exact (bh (by walk_at "ne")).trans (by walk_at "hh")
 |exact (by assumption:aG _ _) _ _ (by walk_at "hh")
 |exact (by assumption:Kp _ _ _) _ _ (by walk_at "hh") (by walk_at "ne"))
local macro_rules|`(tactic| walk_at "fr")=>`(tactic| first
 |assumption
 |exact aq1 (by assumption) (by walk_at "sm"))
local macro_rules|`(tactic| walk_at "sm")=>`(tactic| first
 |assumption
 |exact cO _
 |exact bO (by walk_at "fr") (by walk_at "sm")
 |exact auh (by assumption) (by walk_at "sm"))
local macro_rules|`(tactic| walk_at "kt")=>`(tactic| first
 |exact bG _
 |assumption
 |exact KT.new (by assumption) (by walk_at "kt")
 |exact iD (by walk_at "hh") (by walk_at "kt")
 |exact b_ (by assumption) (by walk_at "kt")
 |exact KT.kp (by assumption) (by walk_at "hh") (by walk_at "kt"))
theorem zH:mF ["_law_wide","_law_half","_law_below","_law_found","_law_gap"] ["_law_wide"] (dX Qm):=⟨rfl,rfl,rfl,by k_go,rfl,by k_go,by k_go⟩
theorem Qn:mF ["_law_wide","_law_half","_law_below"] ["_law_wide"] (dX QT):=⟨rfl,rfl,rfl,by k_go,rfl,by k_go,by k_go⟩
theorem agP:mF ["text"] ["text"] (dX aaA):=⟨rfl,rfl,rfl,by k_go,rfl,by k_go,by k_go⟩
theorem ag7 {w:Int×Int}:startswith (Mk (jG (w::ws))) ⟨#[32]⟩=true:=by unfold startswith;have:=(Sv (Mk (jG (w::ws))) 32 0).mpr rfl;rw [this.2,Bool.and_true];exact d7 this.1
theorem ahQ:mF ["net"] ["net"] (dX aa7):=⟨rfl,rfl,rfl,by k_go,rfl,by k_go,by k_go⟩
def zu (w:Int×Int):Str:=empty++(" ":Str)++bT w.1++("-":Str)++bT w.2
theorem aeA {w:Int×Int} (h:0<=w.1/\w.1<=9/\0<=w.2/\w.2<=9):Ls (zu w)=32::Ls (nA w):=by unfold zu;rw [Az h.1 h.2.1,Az h.2.2.1 h.2.2.2,dJ,dJ,dJ,dJ];rfl
theorem aph {w:Int×Int} (h:0<=w.1/\w.1<=9/\0<=w.2/\w.2<=9):(zu w).length=4:=by rw [<-cY,aeA h];rfl
theorem Gd:mF ["wide","half","inner","wickets","paper"] ["wide"] (dX Rr):=⟨rfl,rfl,rfl,by k_go,rfl,by k_go,by k_go⟩
theorem acu:mF ["wide","half"] ["wide"] (dX Tt):=⟨rfl,rfl,rfl,by k_go,rfl,by k_go,by k_go⟩
theorem Rt:mF ["wide","wickets","row"] ["wide"] (dX adR):=⟨rfl,rfl,rfl,by k_go,rfl,by k_go,by k_go⟩
theorem aa8 (aj:Int) (i:Nat):(range (i+1)).flatMap (yN aj)=(range i).flatMap (yN aj)++yN aj i:=by rw [mW,SJ];simp
theorem acv (aj:Int) (h:aj<=8):∀ i:Nat,((range i).flatMap (yN aj)).length<=i*5
 |0=>by simp
 |i+1=>by
  have:=acv aj h i;have r:(yN aj i).length<=5:=by unfold yN n2;rw [bD,xW];lk
  rw [aa8,dj];lk
theorem agt:mF ["net"] ["net"] (dX aas):=⟨rfl,rfl,rfl,by k_go,rfl,by k_go,by k_go⟩
theorem aiU {w:Int×Int} {x:Int} (hw:ws[i]?=some w) (hx:d[i]?=some x):gP (ws.take (i+1)) (d.take (i+1))=gP (ws.take i) (d.take i)++(if x=1 then [w] else []):=by have lw:i<ws.length:=(gb.mp hw).1;have b:i<d.length:=(gb.mp hx).1;have a:ws.take (i+1)=ws.take i++[w]:=gF hw;have ex:d.take (i+1)=d.take i++[x]:=gF hx;unfold gP;rw [a,ex,List.zip_append (by rw [eF,eF];lk),vI,dF];by_cases c:x=1<;>simp [c]
theorem Jy:mF ["one","other","deeper","seconds","numbers"] ["one","other"] (dX aah):=⟨rfl,rfl,rfl,by k_go,rfl,by k_go,by k_go⟩
theorem asF (d:Nat):j7 0 ((2 ^ d:Nat):Int)=(range (2 ^ d)).map λk:Nat=>(k:Int):=by unfold j7;rw [Int.sub_zero,o_];exact RX λk _=>by lk
theorem apj (x:Int) (ns:aU):wC (.int x) (ns.map V.int)=decide (x∈ns):=by
 unfold wC;induction ns with
 |nil=>rfl
 |cons a r b =>
  rw [iC,zU,b];by_cases c:x=a
  ·simp [c,tW]
  ·simp [c,tW,bL c]
theorem aa9 {G':Hp} (k:∀ t,G t=none->G' t=none):∀ {rs:aD} {M:List aU},eG G H l rs M->eG G' H l rs M
 |_,_,.nil=>.nil
 |_,_,.cons ⟨t,e,n,g,h⟩ r=>.cons ⟨t,e,n,k t g,h⟩ (aa9 k r)
theorem aiV (ws:aK) (d:aU):(gP ws d).length<=ws.length:=by unfold gP;rw [bD];refine eU (List.length_filter_le _ _) ?_;rw [List.length_zip];exact Nat.min_le_left _ _
theorem QV:mF ["net","unlike","widest"] ["net"] (dX vm):=⟨rfl,rfl,rfl,by k_go,rfl,by k_go,by k_go⟩
theorem abH {C:List aU} (r:aU) (h:r∈gA C):r.length=C.length:=((vf C r).mp h).1
theorem QW:mF ["net","unlike","counts"] ["net"] (dX acs):=⟨rfl,rfl,rfl,by k_go,rfl,by k_go,by k_go⟩
theorem anj {k:Nat} (h:uJ (fD aj ws) i k):i<aj.toNat/\k<aj.toNat/\(g8 aj.toNat (cW aj ws) ws i).getD k 0≠(g8 aj.toNat (cW aj ws) ws i).getD 0 0:=by
 obtain ⟨hi,_,a,c,_⟩:=h;have b:i<aj.toNat:=by simpa [fD] using hi
 have d:pL (fD aj ws) i=g8 aj.toNat (cW aj ws) ws i:=by unfold pL fD;simp [List.getD,b]
 rw [d] at a c;rw [rM] at a;exact ⟨b,a,c⟩
theorem ank {C:List aU} (r:aU) (h:r∈gA C):r.length=C.length:=((vf C r).mp h).1
theorem apk:mF ["_law_net_here"] ["_law_net_here"] (dX aez):=⟨rfl,rfl,rfl,by k_go,rfl,by k_go,by k_go⟩
def Fg (w:Int×Int):Str:=bT w.1++("-":Str)++bT w.2
theorem aeB {w:Int×Int} (h:0<=w.1/\w.1<=9/\0<=w.2/\w.2<=9):Fg w=nA w:=by refine pD ?_;unfold Fg;rw [Az h.1 h.2.1,Az h.2.2.1 h.2.2.2,dJ,dJ];rfl
theorem Oa (h:us.length=1):∃ a,us=[a]:=by
 cases us with
 |nil=>cases h
 |cons a r=>cases r with
  |nil=>exact ⟨a,rfl⟩
  |cons b r=>simp at h
theorem us2 (h:us.length=2):∃ a b,us=[a,b]:=by
 cases us with
 |nil=>cases h
 |cons x r =>obtain ⟨a,rfl⟩:=Oa (us:=r) (by simpa using h);exact ⟨x,a,rfl⟩
theorem Og (h:us.length=3):∃ a b c,us=[a,b,c]:=by
 cases us with
 |nil=>cases h
 |cons x r =>obtain ⟨a,b,rfl⟩:=us2 (us:=r) (by simpa using h);exact ⟨x,a,b,rfl⟩
theorem Oh (h:us.length=4):∃ a b c d,us=[a,b,c,d]:=by
 cases us with
 |nil=>cases h
 |cons x r =>obtain ⟨a,b,c,rfl⟩:=Og (us:=r) (by simpa using h);exact ⟨x,a,b,c,rfl⟩
theorem us5 (h:us.length=5):∃ a b c d e,us=[a,b,c,d,e]:=by
 cases us with
 |nil=>cases h
 |cons x r =>obtain ⟨a,b,c,d,rfl⟩:=Oh (us:=r) (by simpa using h);exact ⟨x,a,b,c,d,rfl⟩
theorem us6 (h:us.length=6):∃ a b c d e f,us=[a,b,c,d,e,f]:=by
 cases us with
 |nil=>cases h
 |cons x r =>obtain ⟨a,b,c,d,e,rfl⟩:=us5 (us:=r) (by simpa using h);exact ⟨x,a,b,c,d,e,rfl⟩
theorem us7 (h:us.length=7):∃ a b c d e f g,us=[a,b,c,d,e,f,g]:=by
 cases us with
 |nil=>cases h
 |cons x r =>obtain ⟨a,b,c,d,e,f,rfl⟩:=us6 (us:=r) (by simpa using h);exact ⟨x,a,b,c,d,e,f,rfl⟩
inductive yJ:cG->bR->Prop
 |nil:yJ [] []
 |cons {t:Tok} {x:Str} {vs:cG} {xs:bR}:yJ vs xs->yJ (.str x t::vs) (x::xs)
theorem yJ.vals {xs:bR} (h:yJ vs xs):bY (xs.map V.str) vs:=by
 induction h with
 |nil=>exact .nil
 |cons _ a=>exact .cons ⟨_,rfl⟩ a
theorem yJ.len {xs:bR} (h:yJ vs xs):vs.length=xs.length:=by
 induction h with
 |nil=>rfl
 |cons _ a=>exact gM (·+1) a
local macro_rules|`(tactic| walk_at "b1")=>`(tactic| (intro _ _ _ _ _ _ u h;obtain ⟨_,e⟩:=Oa h;subst e;rfl))
local macro_rules|`(tactic| walk_at "b2")=>`(tactic| (intro _ _ _ _ _ _ u h;obtain ⟨_,_,e⟩:=us2 h;subst e;rfl))
local macro_rules|`(tactic| walk_at "b3")=>`(tactic| (intro _ _ _ _ _ _ u h;obtain ⟨_,_,_,e⟩:=Og h;subst e;rfl))
local macro_rules|`(tactic| walk_at "b4")=>`(tactic| (intro _ _ _ _ _ _ u h;obtain ⟨_,_,_,_,e⟩:=Oh h;subst e;rfl))
local macro_rules|`(tactic| walk_at "b5")=>`(tactic| (intro _ _ _ _ _ _ u h;obtain ⟨_,_,_,_,_,e⟩:=us5 h;subst e;rfl))
local macro_rules|`(tactic| walk_at "bb")=>`(tactic| first|walk_at "b1" |walk_at "b2" |walk_at "b3" |walk_at "b4" |walk_at "b5")
section
variable {q:Str} {k:Nat} {uP:Sp}
abbrev Ph (K:bI) (mg:dH) (x:Str) (st:Stmt):Prop:=∃ f fd,lU K mg x st f fd
theorem arD {kV:Value} (X:K.In h) (G:h.Ns mainGlobals mg) (a:nsIn K mainGlobals x=some (some (.ref f))) (l:K.lookup f=some ⟨oc,od,.func (fnOf x x (jX st) (jk st) (dX st) .none kV dc pm an cd ct),sl⟩) (c:codeIn K cd x=true) (k:keepIn K (.ref f)=true):Ph K mg x st:=⟨_,_,Hh l c k,iQ X G a⟩
theorem cL (p:Ph K mg x st) (F:∀ f fd,lU K mg x st f fd->dz P w K mg aF jj k f fd ps sp) (hb:∀ (kV doc pm:Value) (an:jf) (cdv ct:Value) (us:cG),us.length=ps.length->bindArgs (fnOf x x (jX st) (jk st) (dX st) .none kV doc pm an cdv ct) ⟨us,[]⟩=pure (ps.zip us):=by walk_at "bb"):mC P w K mg aF x k ps sp:=let ⟨f,fd,h⟩:=p;h.callee (F f fd h) hb
theorem tU (p:Ph K mg x st) (F:∀ f fd,lU K mg x st f fd->dz P w K mg aF (lF P w) k f fd ps sp) (hb:∀ (kV doc pm:Value) (an:jf) (cdv ct:Value) (us:cG),us.length=ps.length->bindArgs (fnOf x x (jX st) (jk st) (dX st) .none kV doc pm an cdv ct) ⟨us,[]⟩=pure (ps.zip us):=by walk_at "bb"):qO P w K mg aF x k ps sp:=let ⟨f,fd,h⟩:=p;h.Lw (F f fd h) hb
theorem qO.imp (C:qO P w K mg aF x k ps sp) (h:∀ vs H Q E,uP vs H Q E->sp vs H Q E):qO P w K mg aF x k ps uP :=
 let ⟨f,fd,a,b,c,d⟩:=C.ex
 ⟨f,fd,a.imp h,b,c,d⟩
theorem qO.non (C:qO P w K mg aF x k ps sp) (h:∀ vs H Q E,uP vs H Q E->sp vs H Q λ_ _ _=>False):mC P w K mg aF x k ps uP :=
 let ⟨f,fd,a,b,c,d⟩:=C.ex
 ⟨f,fd,a.none.imp h,b,c,d⟩
abbrev Pm (K:bI) (mg:dH) (C:Addr) (x q:Str) (st:Stmt):Prop:=∃ f fd,yE K mg C x q st f fd
theorem arE {kV:Value} (mg:dH) (a:findIn K (.ref C) x=some (some (.ref f))) (i:isFn K (.ref f)=true) (l:K.lookup f=some ⟨oc,od,.func (fnOf x q (jX st) (jk st) (dX st) .none kV dc pm an cd ct),sl⟩) (c:codeIn K cd q=true) (k:keepIn K (.ref f)=true):Pm K mg C x q st:=⟨_,_,Hh l c k,a,i,k⟩
theorem asG (p:Pm K mg C x q st) (F:∀ f fd,yE K mg C x q st f fd->dz P w K mg aF jj k f fd ps sp) (hb:∀ (kV doc pm:Value) (an:jf) (cdv ct:Value) (us:cG),us.length=ps.length->bindArgs (fnOf x q (jX st) (jk st) (dX st) .none kV doc pm an cdv ct) ⟨us,[]⟩=pure (ps.zip us):=by walk_at "bb"):Eh P w K mg aF C x k ps sp:=let ⟨f,fd,h⟩:=p;h.asr (F f fd h) hb
theorem asH (p:Pm K mg C x q st) (F:∀ f fd,yE K mg C x q st f fd->dz P w K mg aF (lF P w) k f fd ps sp) (hb:∀ (kV doc pm:Value) (an:jf) (cdv ct:Value) (us:cG),us.length=ps.length->bindArgs (fnOf x q (jX st) (jk st) (dX st) .none kV doc pm an cdv ct) ⟨us,[]⟩=pure (ps.zip us):=by walk_at "bb"):DW P w K mg aF C x k ps sp:=let ⟨f,fd,h⟩:=p;h.aq7 (F f fd h) hb
theorem DW.non (D:DW P w K mg aF C x k ps sp):Eh P w K mg aF C x k ps (λvs H Q _=>sp vs H Q λ_ _ _=>False) :=
 let ⟨f,fd,a,b,c⟩:=D.ex
 ⟨f,fd,a.none,b,c⟩
abbrev vR (es:Array DictEntry):gQ:=wK es.toList Gs
abbrev Pr (K:bI) (mg:dH) (vs:gQ) (w0:Str) (ks:bR) (x:Str) (st:Stmt):Prop:=∃ f fd,lU K mg x st f fd/\VJ K vs w0 ks f
theorem arF {es:Array DictEntry} {kV:Value} (X:K.In h) (G:h.Ns mainGlobals mg) (i:Nat) {r kt:Addr} {hh:Int} {ky:Value} {o1 o2:jf} {n1 n2:Nat} {s1 s2:qX} {ts:fV} (a:nsIn K mainGlobals x=some (some (.ref f))) (l:K.lookup f=some ⟨oc,od,.func (fnOf x x (jX st) (jk st) (dX st) .none kV dc pm an cd ct),sl⟩) (c:codeIn K cd x=true) (k:keepIn K (.ref f)=true) (hi:Gs[i]?=some w0) (lk9:ks.length<=9) (ex:es.toList[i]?=some ⟨hh,ky,.ref r⟩) (lr:K.lookup r=some ⟨.type "tuple",o1,.seq #[.ref kt,.ref f] n1,s1⟩) (cX:K.lookup kt=some ⟨.type "tuple",o2,.seq ts n2,s2⟩) (hs:yJ ts.toList ks):Pr K mg (vR es) w0 ks x st:=⟨_,_,⟨Hh l c k,iQ X G a⟩,r,kt,aci aaN ex hi,λH=>.inr ⟨_,_,_,lr,rfl,rfl,aN (by show 2<=100000;decide),.cons rfl (.cons rfl .nil)⟩,λH=>.inr ⟨_,_,_,cX,rfl,rfl,aN (show ts.size<=100000 by have:=hs.len;rw [sS] at this;omega),hs.vals⟩⟩
theorem wN {vs:gQ} (k:Nat) (p:Pr K mg vs w0 ks x st) (F:∀ f fd,lU K mg x st f fd->dz P w K mg aF (lF P w) k f fd ["things"] sp) (hk:k<=13:=by decide) (hb:∀ (kV doc pm:Value) (an:jf) (cdv ct:Value) (us:cG),us.length=(["things"]:bR).length->bindArgs (fnOf x x (jX st) (jk st) (dX st) .none kV doc pm an cdv ct) ⟨us,[]⟩=pure ((["things"]:bR).zip us):=by walk_at "bb"):jZ P w K mg aF vs 13 w0 ks sp:=let ⟨f,fd,h,r⟩:=p;⟨_,r,⟨_,(F f fd h).mono hk,h.fn.binds hb,h.fn.2⟩⟩
theorem yR {vs:gQ} (k:Nat) (p:Pr K mg vs w0 ks x st) (F:∀ f fd,lU K mg x st f fd->dz P w K mg aF jj k f fd ["things"] sp) (hk:k<=13:=by decide) (hb:∀ (kV doc pm:Value) (an:jf) (cdv ct:Value) (us:cG),us.length=(["things"]:bR).length->bindArgs (fnOf x x (jX st) (jk st) (dX st) .none kV doc pm an cdv ct) ⟨us,[]⟩=pure ((["things"]:bR).zip us):=by walk_at "bb"):jZ P w K mg aF vs 13 w0 ks sp:=wN k p (λf fd h=>(F f fd h).up) hk hb
end
structure Ev0 (K:bI) (mg:dH) (Cd:Addr) (fP:Array DictEntry):Prop where
 p1:Ph K mg "_law_take" aqz
 p2:Ph K mg "_law_pen" arx
 p3:Ph K mg "_law_wickets" akQ
 p4:Ph K mg "_law_lifted" anf
 p5:Ph K mg "_law_folded" Qm
 p6:Ph K mg "_law_block" QT
 p7:Ph K mg "_law_brick" akR
 p8:Ph K mg "_law_rounds" aiT
 p9:Ph K mg "_law_bent" aqA
 Iw:Ph K mg "_law_net" arz
 Xd:Ph K mg "_law_counts" ang
 Xe:Ph K mg "is_whole" aiL
 Xf:Ph K mg "is_lane" akM
 Xg:Ph K mg "is_wicket" ahE
 Xh:Ph K mg "are_wickets" agL
 Xi:Ph K mg "makes_net" ahF
 Xj:Ph K mg "net_of" am7
 Xk:Ph K mg "is_number" ahG
 Xl:Ph K mg "number_of" ahH
 Xm:Ph K mg "wicket_of" ahI
 Xn:Ph K mg "wickets_of" aaA
 Xo:Ph K mg "read_net" aiN
 Xp:Ph K mg "show_net" aa7
 Xq:Ph K mg "refuse_unless_halved" afT
 Xr:Ph K mg "in_both_halves" af2
 Xu:Ph K mg "across" am8
 Xv:Ph K mg "by_falling_gaps" afZ
 Xw:Ph K mg "folded" Rr
 Xx:Ph K mg "block" Tt
 Xy:Ph K mg "rounds" am9
 Xz:Ph K mg "brick" adR
 XD:Ph K mg "joined" am'
 XF:Ph K mg "renamed" akN
 XH:Ph K mg "behind" ana
 XJ:Ph K mg "beside" anb
 XM:Ph K mg "mirrored" aiM
 XQ:Ph K mg "slimmed" akO
 XR:Ph K mg "let_through" agI
 XS:Ph K mg "exits" apa
 X3:Ph K mg "layers" am2
 X4:Ph K mg "depth" apb
 X5:Ph K mg "depth_power" agJ
 X6:Ph K mg "all_on_one" ag2
 X7:Ph K mg "shares" am3
 X8:Ph K mg "tilt" aqx
 X_:Ph K mg "tilts" apc
 Yb:Ph K mg "uneven" am4
 Yc:Ph K mg "longer_rows" agK
 Yd:Ph K mg "rows_of" akL
 Ye:Ph K mg "first_layer" aas
 Yg:Ph K mg "common_trials" aah
 Yh:Ph K mg "trials" am5
 Yi:Ph K mg "tilt_between" agq
 Yj:Ph K mg "greatest_tilt" af8
 Yk:Ph K mg "common_divisor" af3
 Yl:Ph K mg "bound" apd
 Ym:Ph K mg "gap_of" am_
 Yn:Ph K mg "falls" ape
 Yo:Ph K mg "is_level" aiO
 Yp:Ph K mg "levels" acs
 Yq:Ph K mg "put_in_order" agr
 Yr:Ph K mg "orders" anc
 Ys:Ph K mg "one_lane_each" af7
 Yt:Ph K mg "first_that_parts" afX
 Yu:Ph K mg "parted" am6
 Yv:Ph K mg "spaced" ane
 Yw:Pr K mg (vR fP) "net" ["new net","text"] "net_by_text" agM
 Yx:Pr K mg (vR fP) "folded" ["new net","number"] "net_by_folded" af_
 Yy:Pr K mg (vR fP) "rounds" ["new net","number"] "net_by_rounds" af'
 Yz:Pr K mg (vR fP) "brick" ["new net","number"] "net_by_brick" ags
 YB:Pr K mg (vR fP) "behind" ["new net","net","net"] "net_by_behind" aga
 YC:Pr K mg (vR fP) "beside" ["new net","net","net"] "net_by_beside" agb
 YD:Pr K mg (vR fP) "mirror" ["new net","net"] "net_by_mirror" agc
 YF:Pr K mg (vR fP) "slim" ["new net","net"] "net_by_slim" agN
 YG:Pr K mg (vR fP) "show" ["net"] "say_show" aiP
 YH:Pr K mg (vR fP) "depth" ["net"] "say_depth" ahJ
 YJ:Pr K mg (vR fP) "exits" ["net","number"] "say_exits" ahK
 YK:Ph K mg "words_of" aiQ
 YL:Ph K mg "kinds_of" aiR
 YM:Ph K mg "is_name" akP
 YQ:Ph K mg "fits" aqy
 YS:Ph K mg "refuse_unless_fitting" afS
 YT:Ph K mg "taken_from" ag6
 YW:Pm K mg Cd "__init__" "Desk.__init__" aaP
 YX:Pm K mg Cd "thing_of" "Desk.thing_of" agd
 YZ:Pm K mg Cd "say" "Desk.say" aiS
 Y0:Ph K mg "_law_text" aez
 Y4:Ph K mg "_law_words" apf
 Y5:Ph K mg "_law_slimmed" ahP
 Y6:Ph K mg "verdict_words" af9
 Y7:Pr K mg (vR fP) "levels" ["net"] "say_levels" ag3
 Y8:Pr K mg (vR fP) "orders" ["net"] "say_orders" ag4
 Y9:Pr K mg (vR fP) "bound" ["net"] "say_bound" ahL
 Y_:Pr K mg (vR fP) "spread" ["net"] "say_spread" ag5
 Za:Pr K mg (vR fP) "alike" ["net","net"] "say_alike" ahM
 Zb:Ph K mg "_law_said" aqB
 Zc:Ph K mg "_law_numbers" akS
 Zd:Ph K mg "_law_refused" akT
 VL:Ph K mg "_law_verdict_right" agf
 VN:Ph K mg "_law_far_right" ahN
 VP:Ph K mg "_law_alike_right" agO
 VR:Ph K mg "_law_asked" apg
 V0:Ph K mg "_law_judged" anh
 V1:Ph K mg "_law_small_net" ahO
 V2:Ph K mg "_law_making" ani
structure Ev (P:Program) (w:World) (K:bI) (mg:dH) (aF:Heap) (Cd:Addr) (fP:Array DictEntry) (eA:mQ) (RW:Addr) (cS:Addr) (Tb:Addr):Prop extends Ev0 K mg Cd fP where
 TD:aeV K Cd
 wW:aeO K mg eA.many
 uY:aee K mg eA.fW
 ER:Nf K mg eA
 zx:VG K mg eA
 GH:aeP K mg
 PK:∃ t,mg "LONGEST_NAME"=some (.int 8 t)
 Fz:∃ t,mg "MOST_LANES"=some (.int 8 t)
 Jz:∃ t,mg "MOST_WICKETS"=some (.int 40 t)
 Pj:∃ t,mg "MOST_DOUBLINGS"=some (.int 10 t)
 PL:∃ t,mg "MOST_FIGURES"=some (.int 60 t)
 Pu:∃ t,mg "SMALL_LETTERS"=some (.str "abcdefghijklmnopqrstuvwxyz" t)
 Ru:∃ t,mg "FIGURES"=some (.str "0123456789" t)
 RT:aeW P w K mg RW (vR fP)
 T:Bn mg
 LT:yP mg aF cS Tb
 pS:∃ f fd,lU K mg "spread" vm f fd/\fd.code=.ref cS
 akU:makesIn K Cd=true
 akV:keepIn K (.ref Cd)=true
 akW:mg "Desk"=some (.ref Cd)
section
variable {Cd:Addr} {fP:Array DictEntry} {eA:mQ} {RW:Addr} {cS:Addr} {Tb:Addr} (Z:Ev P w K mg aF Cd fP eA RW cS Tb)
abbrev Gc (_:Ev P w K mg aF Cd fP eA RW cS Tb) (x:Str) (k:Nat) (ps:bR) (sp:Sp):Prop:=mC P w K mg aF x k ps sp
abbrev Ge (_:Ev P w K mg aF Cd fP eA RW cS Tb) (x:Str) (k:Nat) (ps:bR) (sp:Sp):Prop:=qO P w K mg aF x k ps sp
abbrev Gr (_:Ev P w K mg aF Cd fP eA RW cS Tb) (x:Str) (ks:bR) (sp:Sp):Prop:=jZ P w K mg aF (vR fP) 13 x ks sp
def iH:Gc Z "_law_take" 1 ["_law_pen_here","_law_size"] apM:=by
 o_head (cL Z.p1,["_law_pen_here","_law_size","_law_found","_law_number"]);obtain ⟨p,a,b,c,n,rfl,d,e,h1,k⟩:=h;refine ⟨_,(aL (cu (bW tG (cD (pv 0) aA) aA)
 (aL (bB 2 nd (aY jY (cD (pv 0) aA) (pv 1)))
 (aL (mG (aY JV (cD (pv 0) aA) (pv 1)) (sW (pv 0) aA rK))
 (aP (bf (pv 2)))))
 cj)
 (aL (mG (aY gZ (cD (pv 0) aA) aA) (sW (pv 0) aA rK))
 (aL (bB 3 nd (aY jY (aY qg (aY gZ (cD (pv 0) aA) (aY qg aA (cD (pv 0) aA))) aA) aA))
 (aL (bB 3 nd (aY jY (aY gZ (aY qg (pv 3) (pv 3)) (aY qg aA (cD (pv 0) aA))) aA))
 (aL (bB 3 nd (aY jY (aY qg (pv 3) (aY gZ (aY jY (pv 3) aA) (cD (pv 0) aA))) aA))
 (aP (bf (aY jY (aY JV (pv 3) aA) (pv 1))))))))),?_⟩
 try dsimp only [bN]
 walk_at "rd";refine kE (λg=>?_) (λg=>?_)
 ·walk_at "rd";refine ⟨p,_,_,_,rfl,rfl,d,rfl,?_⟩;walk_at "rd";exact k _ _ _ _ (Dg _ (by lk)) (GD _ e)
 ·walk_at "rd";refine ⟨p,_,_,_,rfl,rfl,d,rfl,?_⟩;have i:(upd H p (HO.lst [V.int a,V.int (b+1),V.int c])) p=some (.lst [V.int a,V.int (b+1),V.int c]):=aO;walk_at "rd";exact k _ _ _ _ (Dg _ (by lk)) (GD _ e)
def abI:Gc Z "_law_pen" 1 ["_law_script","_law_k"] (aq0 K):=by
 o_head (cL Z.p2,["_law_script","_law_k","_law_cell"]);obtain ⟨a,ns,k,rfl,c,e,i,h1,q⟩:=h;refine ⟨_,(aL (bB 2 nd (aY gZ (aY qg aA (pv 1)) aA))
 (aL (cu (bW tG (jH T (pv 0)) aA)
 (aL (bB 2 nd (cD (pv 0) (aY jY (pv 1) (jH T (pv 0)))))
 (aP (cu (bW aeG (pv 1) (jH T (pv 0)))
 (aP (bB 2 nd (aY gZ (aY jY (pv 2) aA) (aY qg aA (pv 1)))))
 cj)))
 cj)
 (aL (cu (bW aeG (pv 2) (aY Ml aA aA))
 (aP (bf (cQ (ak (aY iI (pv 2) (aY Ml aA aA)) (ak aA (ak (aY gZ (aY jY (pv 2) aA) (pv 1)) au))))))
 cj)
 (aP (bf (cQ (ak aA (ak aA (ak (aY gZ (aY jY (pv 2) aA) (aY qg aA (pv 1))) au))))))))),?_⟩
 try dsimp only [bN]
 have d:(ns.map V.int).length=ns.length:=bD _;walk_at "rd";refine ⟨_,_,rfl,.inl c,?_⟩;walk_at "rd";refine kE (λg=>?_) (λg=>?_)
 ·have g':=iM g;rw [d] at g';walk_at "rd";refine ⟨_,_,rfl,.inl c,?_⟩;walk_at "rd";refine ⟨a,_,_,_,rfl,rfl,c,nZ (Dg _ (by lk)) (by rw [d];exact GD _ (by lk)),?_⟩;walk_at "rd";refine ⟨_,_,rfl,.inl c,?_⟩;walk_at "rd";refine kE (λg=>?_) (λg=>?_)
  all_goals
   walk_at "rd";refine kE (λg=>?_) (λg=>?_)
   ·walk_at "rd";intro p b;exact q p _ _ _ b
   ·walk_at "rd";intro p b;exact q p _ _ _ b
 ·walk_at "rd";refine kE (λg=>?_) (λg=>?_)
  ·walk_at "rd";intro p b;exact q p _ _ _ b
  ·walk_at "rd";intro p b;exact q p _ _ _ b
def JB:Gc Z "_law_wickets" 2 ["_law_pen_here","_law_wide","_law_many"] ajh:=by
 o_head (cL Z.p3,["_law_pen_here","_law_wide","_law_many","_law_found","_law_k","_law_first"]);obtain ⟨p,aj,d,rfl,⟨a0,b0,c0,r⟩,w1,w8,m0,m41,q⟩:=h;refine ⟨_,(aL (bB 3 nd (cQ au))
 (aL (jd iR rfl  (jU rfl T.iT (ak (aY qg (pv 2) (dM FT rfl T.wD xM (ak (je tG (pv 1) aA) au))) au)) (dI 4 nd)
 (aL (bB 5 nd (aZ (iH Z) hr.m rfl (ak (pv 0) (ak (pv 1) au))))
 (aP (pX (jg ux zZ z6 xK (pv 3) (ak (cU (ak (pv 5) (ak (aY jY (aY gZ (aY gZ (pv 5) aA) (aZ (iH Z) hr.m rfl (ak (pv 0) (ak (aY iI (pv 1) aA) au)))) (pv 1)) au))) au))))))
 (aP (bf (pv 3))))),?_⟩
 try dsimp only [bN]
 walk_at "rd";intro l C;have o:p≠l:=cH r C;walk_at "rd";have hj:∃ j:Nat,d*(if decide (1<aj)=true then (1:Int) else 0)=(j:Int)/\(j:Int)<=d/\(0<j->1<aj):=by
  by_cases y:1<aj
  ·exact ⟨d.toNat,by rw [bF (d7 y)];lk, by lk, λ_=>y⟩
  ·exact ⟨0,by rw [bw (by simpa using y)];lk, by lk, λz=>absurd z (by lk)⟩
 obtain ⟨j,ej,jm,jw⟩:=hj;show -(2 ^ 62)<=d*(if decide (1<aj)=true then (1:Int) else 0)/\_;rw [ej];refine ⟨by lk, by lk, ?_⟩;refine u_ (n:=(j:Int).toNat) (λi σ g=>∃ (I O:Option V) (ws:aK),σ=[some (.ref p),some (.int aj),some (.int d),some (.ref l),I,O]/\Kp p H g/\jB g p/\eN g l ws/\bC aj ws/\ws.length=i) ⟨none,none,[],rfl,Kp.put C (Kp.refl _ _),⟨a0,b0,c0,by rw [bh o];exact r⟩,⟨[],aO,.nil⟩,bC.nil,rfl⟩ ?_ ?_
 ·rintro i σ g hlt ⟨I,O,ws,rfl,kp,⟨a,b,c,Y⟩,⟨rs,k,R⟩,ok,len⟩;have y:1<aj:=jw (by lk);walk_at "rd";refine ⟨p,a,b,c,aj,rfl,Y,by lk, by lk, λv N D c' v0 vw=>?_⟩;have hl1:(upd g p (HO.lst [V.int N,V.int D,V.int c'])) l=some (.lst rs):=by rw [bh (bL o)];exact k
  walk_at "rd";refine ⟨p,N,D,c',aj-1,rfl,aO,by lk, by lk, λu U S W u0 uw=>?_⟩;walk_at "rd";intro t x;have B:Kp p g (upd (upd (upd g p (HO.lst [V.int N,V.int D,V.int c'])) p (HO.lst [V.int U,V.int S,V.int W])) t (HO.tup [V.int v,V.int ((v+1+u) % aj)])):=cV (cV rm rm) (q_ (bM x _));have ntl:t≠l:=λz=>by rw [z,bh (bL o),bh (bL o),k] at x;cases x
  have J:t≠p:=λz=>by rw [z,aO] at x;cases x
  refine ⟨l,rs,_,rfl,rfl,B l _ k (bL o),pH (by have:=R.len;lk),?_⟩;have L:(v+1+u) % aj≠v/\0<=(v+1+u) % aj/\(v+1+u) % aj<aj:=by
   refine ⟨λz=>?_,Dg _ (by lk),GD _ (by lk)⟩;by_cases hh:v+1+u<aj
   ·rw [Int.emod_eq_of_lt (by lk) hh] at z;lk
   ·have e2:(v+1+u) % aj=v+1+u-aj:=by rw [Int.emod_eq_emod_iff_emod_sub_eq_zero.mpr (show (v+1+u-(v+1+u-aj)) % aj=0 by rw [show v+1+u-(v+1+u-aj)=aj by lk];exact Int.emod_self)];exact Int.emod_eq_of_lt (by lk) (by lk)
    rw [e2] at z;lk
  refine ⟨_,_,ws++[(v,(v+1+u) % aj)],rfl,Kp.put C (cV kp B),?_,?_,ok.app (bC.one ⟨v0,vw,L.2.1,L.2.2,bL L.1⟩),by simp [len]⟩
  ·exact ⟨U,S,W,by rw [bh o,bh (bL J),aO]⟩
  ·refine ⟨_,aO,?_⟩;have M:=R.kp B Y;refine (M.app (.cons ⟨t,rfl,aO⟩ .nil)).mono λb xs e=>?_;rw [bh (λz=>?_)]
   ·exact e
   ·subst z;rw [B _ _ k (bL o)] at e;cases e
 ·rintro σ g ⟨I,O,ws,rfl,kp,pn,wl,ok,len⟩;walk_at "rd";exact q l ws g C kp pn wl ok (by lk)
def agQ:Gc Z "_law_lifted" 1 ["_law_wickets_here","_law_by"] abu:=by
 o_head (cL Z.p4,["_law_wickets_here","_law_by"]);obtain ⟨a,rs,ws,k,rfl,o,D,M,q⟩:=h;have I:=D.len;refine ⟨_,(aP (bf (gJ ["_law_first","_law_second"] [("_law_by",1)] rfl (Hs (lM (pv 0)) (oH (pv 0))) (by w_tab) (by k_mem) (by row_wit1 (cU (ak (aY gZ (pv 0) (pv 2)) (ak (aY gZ (pv 1) (pv 2)) au))))))),?_⟩
 try dsimp only [bN]
 have m:∀ {l:Addr} (j:H l=none) (i:Nat) (x:V) (ys:aD) (b:Hp),rs[i]?=some x->(aG H b/\b l=some (.lst ys)/\bZ b ys ((ws.take i).map (iY k)))->∃ (t:Addr) (c:Int×Int),x=.ref t/\b t=some (.tup [V.int c.1,V.int c.2]) /\∀ u,b u=none->(upd b u (HO.tup [V.int (c.1+k),V.int (c.2+k)])) l=some (.lst ys)/\aG H (upd (upd b u (HO.tup [V.int (c.1+k),V.int (c.2+k)])) l (HO.lst (ys++[V.ref u])))/\(upd (upd b u (HO.tup [V.int (c.1+k),V.int (c.2+k)])) l (HO.lst (ys++[V.ref u]))) l=some (.lst (ys++[V.ref u])) /\bZ (upd (upd b u (HO.tup [V.int (c.1+k),V.int (c.2+k)])) l (HO.lst (ys++[V.ref u]))) (ys++[V.ref u]) ((ws.take (i+1)).map (iY k)):=λ{l} j i x ys b B ⟨g,d,e⟩=>by
  obtain ⟨c,t,C,rfl,L⟩:=D.get B;refine ⟨t,c,rfl,g _ _ L,λu n=>?_⟩;have v:u≠l:=λz=>by rw [z,d] at n;cases n
  refine ⟨by rw [bh (bL v)];exact d,bO j (aB g (bM n _)),aO,?_⟩;rw [gF C,dF];have J:KT b (upd (upd b u (HO.tup [V.int (c.1+k),V.int (c.2+k)])) l (HO.lst (ys++[V.ref u]))):=iD ((bh (bL v)).trans d) (KT.new n (bG _));exact (e.kt J).app (.cons ⟨u,rfl,(bh v).trans aO⟩ .nil)
 rcases o with o|o
 ·refine .inl ⟨_,rfl,a,rfl,⟨_,aQ o⟩,λl j=>?_⟩;refine rO (xs:=rs) (λi ys b=>aG H b/\b l=some (.lst ys)/\bZ b ys ((ws.take i).map (iY k))) ⟨bO j (cO H),aO,.nil⟩ (aN (by lk)) (by rintro i ys b hi ⟨g,d,e⟩;exact ⟨aQ (g a _ o),d,by have:=e.len;simp at this;lk⟩) ?_ ?_
  ·rintro i x ys b B p;obtain ⟨t,c,rfl,y,r⟩:=m j i x ys b B p;refine ⟨t,_,rfl,aX y,rfl,_,_,rfl,_,_,rfl,rfl,⟨.inl rfl,.inl rfl,.inr rfl,trivial⟩,mZ ?_⟩;walk_at "rd";exact λu n=>r u n
  ·rintro ys b ⟨g,d,e⟩;rw [I,gG] at e;exact q l b j g ⟨ys,d,e⟩
 ·refine .inr ⟨_,rfl,a,rfl,⟨_,aX o⟩,λl j=>?_⟩;refine rT (xs:=rs) (λi ys b=>aG H b/\b l=some (.lst ys)/\bZ b ys ((ws.take i).map (iY k))) ⟨bO j (cO H),aO,.nil⟩ (aN (by lk)) (by rintro i ys b hi ⟨g,d,e⟩;exact ⟨aX (g a _ o),d,by have:=e.len;simp at this;lk⟩) ?_ ?_
  ·rintro i x ys b B p;obtain ⟨t,c,rfl,y,r⟩:=m j i x ys b B p;refine ⟨t,_,rfl,aX y,rfl,_,_,rfl,_,_,rfl,rfl,⟨.inl rfl,.inl rfl,.inr rfl,trivial⟩,mZ ?_⟩;walk_at "rd";exact λu n=>r u n
  ·rintro ys b ⟨g,d,e⟩;rw [I,gG] at e;exact q l b j g ⟨ys,d,e⟩
def aaB:Gc Z "_law_lifted" 1 ["_law_wickets_here","_law_by"] abQ:=(agQ Z).imp ajL
def ag8:dz P w K mg aF jj 1 f fd ["_law_wide"] (Dy 0):=⟨by rintro vs H Q E ⟨k,_,h,_,_⟩;exact absurd h (uq _),by rintro A outer s H a us vs Q E _ _ _ _ ⟨k,_,h,_,_⟩;exact absurd h (uq _)⟩
def ag9 {m:Nat} (F:lU K mg "_law_folded" Qm f fd) (xG:mC P w K mg aF "_law_folded" (m+1) ["_law_wide"] (Dy n)):dz P w K mg aF jj (m+2) f fd ["_law_wide"] (Dy (n+1)):=by
 have T:=Z.T;refine F.fn.ok zH (λvs H Q E h=>?_) (λcdv A outer s H vs Q E hr h=>?_)
 ·obtain ⟨k,rfl,_⟩:=h;rfl
 ·obtain ⟨k,rfl,kn,k3,q⟩:=h;refine ⟨_,(aL (cu (bW cT (pv 0) aA)
  (aP (bf (cQ au)))
  cj)
  (aL (bB 1 zH.nd (aY oY (pv 0) aA))
  (aL (bB 2 zH.nd (aZ xG hr.m rfl (ak (pv 1) au)))
  (aL (bB 3 zH.nd (aY j_ (aY j_ (pv 2) (aZ (aaB Z) hr.m rfl (ak (pv 2) (ak (pv 1) au)))) (gJ ["_law_k"] [("_law_wide",0)] rfl (jU rfl T.iT (ak (pv 1) au)) (by k_all) (by k_mem) (by row_wit1 (cU (ak (pv 0) (ak (aY iI (aY iI (pv 1) aA) (pv 0)) au)))))))
  (aL (bB 4 zH.nd (aY oY (pv 1) aA))
  (aL (JT iR  (bW tG (pv 4) aA)
  (aL (bB 3 zH.nd (aY j_ (pv 3) (gJ ["_law_k"] [("_law_gap",4)] rfl (jU rfl T.iT (ak (pv 0) au)) (by k_all) (by row_wit1 (GK (bW cT (aY jY (aY oY (pv 0) (pv 1)) aA) aA))) (by row_wit1 (cU (ak (pv 0) (ak (aY gZ (pv 0) (pv 1)) au)))))))
  (aP (bB 4 zH.nd (aY oY (pv 4) aA)))))
  (aP (bf (pv 3))))))))),?_⟩
  try dsimp only [bN]
  sr_in;cases k with
  |zero =>refine cA (by decide) ?_;refine ⟨aN (by kl_no),λl d=>?_⟩;exact q l _ d (bM d _) ⟨[],aO,.nil⟩
  |succ k =>
   have ps:=yq k;have pp:=wu k;have p8:=yG k3;have bl:=(fold_all (k:=k) (by lk)).2;have fe:jo (k+1)=(jo k++(jo k).map (iY (pw k)))++pY (pw (k+1))++tM k (pw (k+1)):=rfl;have f24:=(fold_all (k:=k+1) k3).2;refine bK (by rw [nQ];intro z;have:=V.int.inj z;lk) ?_;w_fin;have eh:pw (k+1) / 2=pw k:=by lk
   dsimp only;rw [eh];refine ⟨_,rfl,k,rfl,by lk, by lk, λlb H2 fb s2 ⟨rb,xb,S⟩=>?_⟩;have l2:=S.len;refine ⟨_,rfl,_,rfl,_,rfl,lb,_,pw k,rfl,⟨rb,xb,S⟩,by lk, λle B fe3 a ⟨re,xe,Y⟩=>?_⟩;have l3:=Y.len;rw [bD] at l3;refine ⟨lb,le,_,_,rfl,rfl,a _ _ xb,xe,aN (by lk),λld t=>?_⟩;km_lay t U t s4 x4;have r4:bZ U (rb++re) (jo k++(jo k).map (iY (pw k))):=((S.same a).app Y).same s4;have iK:=aB s2 (aB a s4);refine ⟨_,rfl,_,rfl,by lk, by lk, λlc fc=>?_⟩;refine qG (n:=(pw k).toNat) (λi ys J=>aG U J/\J lc=some (.lst ys)/\ys.length<=i/\bZ J ys ((range i).map λj:Nat=>((j:Int),pw (k+1)-1-(j:Int)))) ⟨bO fc (cO U),aO,d_ _,.nil⟩ (aN (by lk)) (by rintro i ys J ⟨_,e,l,_⟩;exact ⟨e,l⟩) ?_ ?_
   ·rintro i ys J hi ⟨r,D,ly,x⟩;got_up;refine ⟨_,rfl,_,rfl,_,_,rfl,rfl,_,rfl,_,_,rfl,rfl,aN (by kl_no),λu N=>?_⟩;km_lay N B N a L;have p:=a _ _ D;refine ⟨p,bO fc (aB r a),aO,by rw [dj];simp;lk, ?_⟩;rw [mW,dF];have M:KT B (upd B lc (HO.lst (ys++[V.ref u]))):=iD p (bG _);rw [qK] at L;exact ((x.same a).kt M).app (.cons ⟨u,rfl,M _ _ L⟩ .nil)
   rintro ys J ⟨r,D,ly,x⟩;have eA:((range (pw k).toNat).map λj:Nat=>((j:Int),pw (k+1)-1-(j:Int)))=pY (pw (k+1)):=by unfold pY;rw [eh]
   rw [eA] at x;have l1:=x.len;refine ⟨ld,lc,_,_,rfl,rfl,r _ _ x4,D,aN (by rw [dj];lk),λl5 f5=>?_⟩;km_lay l5 H5 f5 y x5;have r5:=((r4.same r).app x).same y;have zy:=aB iK (aB r y);have f5':H l5=none:=(aB iK r).free f5;clear y r D x fc x4 s4 r4 iK t xe Y a fe3 xb S fb s2;w_fin;refine Te (λm σ g=>∃ (ws:aK) (rs:aD) (d:Addr),m<=k/\σ=[some (.int (pw (k+1))),some (.int (pw k)),some (.ref lb),some (.ref d),some (.int (pw m / 2))]/\H d=none/\aG H g/\g d=some (.lst rs)/\bZ g rs ws/\ws++tM m (pw (k+1))=jo (k+1)) k ⟨_,_,l5,bJ _,rfl,f5',zy,x5,r5,fe.symm⟩ ?_ ?_
   ·rintro m σ g ⟨ws,rs,d,mk,rfl,Oi,sw,xw,R,W⟩;have lw:=R.len;have le:ws.length+(tM m (pw (k+1))).length=(jo (k+1)).length:=by rw [<-W,dj]
    refine ⟨_,rfl,_,_,rfl,rfl,_,rfl,?_⟩;cases m with
    |zero =>
     refine bK (by decide) ?_;w_left;have e0:ws=jo (k+1):=by rw [<-W];exact (kO ws).symm
     rw [e0] at R;exact q d g Oi sw ⟨rs,xw,R⟩
    |succ m =>
     have pm:=yq m;have pmp:=wu m;have pm8:=yG (k:=m) (by lk);have eg:pw (m+1) / 2=pw m:=by lk
     rw [eg];refine cA (d7 (show (0:Int)<pw m by lk)) ⟨_,rfl,_,rfl,_,rfl,by lk, by lk, λlg fg=>?_⟩;refine qG (n:=(pw (k+1)).toNat) (λj zs o=>aG g o/\o lg=some (.lst zs)/\zs.length<=j/\bZ o zs (((range j).filter λi:Nat=>decide ((i:Int) / pw m % 2=0)).map λi:Nat=>((i:Int),(i:Int)+pw m))) ⟨bO fg (cO g),aO,d_ _,.nil⟩ (aN (by lk)) (by rintro j zs o ⟨_,e,lz,_⟩;exact ⟨e,lz⟩) ?_ ?_
     ·rintro j zs o hj ⟨I,C,lz,O⟩;refine ⟨⟨.inl rfl,.inr rfl,trivial⟩,_,rfl,_,rfl,_,_,rfl,rfl,⟨by lk, by lk⟩,_,_,rfl,rfl,(show (0:Int)<2 by decide),rfl,_,rfl,?_⟩;rw [mW,vI,dF];by_cases c:(j:Int) / pw m % 2=0
      ·refine cA (d7 (gM V.int (by rw [qK];exact c))) ⟨_,rfl,_,rfl,_,rfl,_,_,rfl,rfl,aN (by kl_no),λu N=>?_⟩;km_lay N B N a L;have p:=a _ _ C;refine ⟨p,bO fg (aB I a),aO,by rw [dj];simp;lk, ?_⟩;have M:KT B (upd B lg (HO.lst (zs++[V.ref u]))):=iD p (bG _);rw [qK] at L;have one:(([j].filter λi:Nat=>decide ((i:Int) / pw m % 2=0)).map λi:Nat=>((i:Int),(i:Int)+pw m))=[((j:Int),(j:Int)+pw m)]:=by simp [c]
       rw [one];exact ((O.same a).kt M).app (.cons ⟨u,rfl,M _ _ L⟩ .nil)
      ·refine bK (by rw [nQ];intro z;have z':=V.int.inj z;rw [qK] at z';exact c z') ?_;have Hy:(([j].filter λi:Nat=>decide ((i:Int) / pw m % 2=0)).map λi:Nat=>((i:Int),(i:Int)+pw m))=[]:=by simp [c]
       rw [Hy,kO];exact ⟨I,C,by lk, O⟩
     ·rintro zs o ⟨I,C,lz,O⟩;refine ⟨d,lg,_,_,rfl,rfl,I _ _ xw,C,aN (by lk),λlo fo=>?_⟩;have y:aG o (upd o lo (HO.lst (rs++zs))):=bM fo _;have Iz:=aB sw I;refine ⟨_,rfl,_,_,rfl,rfl,⟨by decide,by decide⟩,m,Aj _,ws++Ej (pw (k+1)) (pw m),rs++zs,lo,by lk, rfl,Iz.free fo,aB Iz y,aO,((R.same I).app O).same y,?_⟩;rw [<-W,zV];rfl
   ·rintro σ g Q1 Q2 hm ⟨v,e,h⟩;refine ⟨v,e,?_⟩;obtain ⟨i,j,D,C,b,p,h⟩:=h;exact ⟨i,j,D,C,b,p,hm _ _ h⟩
def aiW (n:Nat):mC P w K mg aF "_law_folded" (n+1) ["_law_wide"] (Dy n):=by
 obtain ⟨_,_,F⟩:=Z.p5;induction n with
 |zero=>exact F.callee ag8 (by k_dec)
 |succ n a=>exact F.callee (ag9 Z F a) (by k_dec)
def xG:Gc Z "_law_folded" 6 ["_law_wide"] (Dy 4):=(aiW Z 4).mono (by decide)
def ahR:dz P w K mg aF jj 1 f fd ["_law_wide"] (uF 0):=⟨by rintro vs H Q E ⟨k,_,h,_,_⟩;exact absurd h (uq _),by rintro A outer s H a us vs Q E _ _ _ _ ⟨k,_,h,_,_⟩;exact absurd h (uq _)⟩
def ahS {m:Nat} (F:lU K mg "_law_block" QT f fd) (Qg:mC P w K mg aF "_law_block" (m+1) ["_law_wide"] (uF n)):dz P w K mg aF jj (m+2) f fd ["_law_wide"] (uF (n+1)):=by
 have T:=Z.T;refine F.fn.ok Qn (λvs H Q E h=>?_) (λcdv A outer s H vs Q E hr h=>?_)
 ·obtain ⟨k,rfl,_⟩:=h;rfl
 ·obtain ⟨k,rfl,kn,k3,q⟩:=h;refine ⟨_,(aL (cu (bW cT (pv 0) aA)
  (aP (bf (cQ au)))
  cj)
  (aL (bB 1 Qn.nd (aY oY (pv 0) aA))
  (aL (bB 2 Qn.nd (aZ Qg hr.m rfl (ak (pv 1) au)))
  (aP (bf (aY j_ (aY j_ (gJ ["_law_k"] [("_law_wide",0)] rfl (jU rfl T.iT (ak (pv 1) au)) (by k_all) (by k_mem) (by row_wit1 (cU (ak (pv 0) (ak (aY iI (aY iI (pv 1) aA) (pv 0)) au))))) (pv 2)) (aZ (aaB Z) hr.m rfl (ak (pv 2) (ak (pv 1) au))))))))),?_⟩
  try dsimp only [bN]
  sr_in;cases k with
  |zero =>refine cA (by decide) ?_;refine ⟨aN (by kl_no),λl J=>?_⟩;exact q l _ J (bM J _) ⟨[],aO,.nil⟩
  |succ k =>
   have ps:=yq k;have pp:=wu k;have p8:=yG k3;have bl:=Lx (k:=k) (by lk);refine bK (by rw [nQ];intro z;have:=V.int.inj z;lk) ?_;w_fin;have eh:pw (k+1) / 2=pw k:=by lk
   dsimp only;rw [eh];refine ⟨_,rfl,k,rfl,by lk, by lk, λL H2 fb W ⟨C,O,o⟩=>⟨_,rfl,_,rfl,by lk, by lk, λr D=>?_⟩⟩;refine qG (n:=(pw k).toNat) (λi ys a=>aG H2 a/\a r=some (.lst ys)/\ys.length<=i/\bZ a ys ((range i).map λj:Nat=>((j:Int),pw (k+1)-1-(j:Int)))) ⟨bO D (cO H2),aO,d_ _,.nil⟩ (aN (by lk)) (by rintro i ys a ⟨_,e,l,_⟩;exact ⟨e,l⟩) ?_ ?_
   ·rintro i ys a hi ⟨d,g,ly,c⟩;got_up;refine ⟨_,rfl,_,rfl,_,_,rfl,rfl,_,rfl,_,_,rfl,rfl,aN (by kl_no),λu U=>?_⟩;km_lay U N U p x3;have S:=p _ _ g;refine ⟨S,bO D (aB d p),aO,by rw [dj];simp;lk, ?_⟩;rw [mW,dF];have I:KT N (upd N r (HO.lst (ys++[V.ref u]))):=iD S (bG _);rw [qK] at x3;exact ((c.same p).kt I).app (.cons ⟨u,rfl,I _ _ x3⟩ .nil)
   ·rintro ys a ⟨d,g,ly,c⟩;have eA:((range (pw k).toNat).map λj:Nat=>((j:Int),pw (k+1)-1-(j:Int)))=pY (pw (k+1)):=by unfold pY;rw [eh]
    rw [eA] at c;have l1:=c.len;have l2:=o.len;refine ⟨_,rfl,r,L,_,_,rfl,rfl,g,d _ _ O,aN (by lk),λld b=>?_⟩;km_lay b H4 b y x4;have t:=aB d y;refine ⟨_,rfl,_,rfl,L,_,pw k,rfl,⟨C,t _ _ O,o.same t⟩,by lk, λle R fe v ⟨re,xe,B⟩=>?_⟩;have l3:=B.len;rw [bD] at l3;refine ⟨ld,le,_,_,rfl,rfl,v _ _ x4,xe,aN (by rw [dj];lk),λlo M=>?_⟩;have Y:aG R (upd R lo (HO.lst (ys++C++re))):=bM M _;have x:=aB t v;refine q lo _ ((aB W x).free M) (aB W (aB x Y)) ⟨_,aO,?_⟩;show bZ _ _ (pY (pw (k+1))++(rC k++(rC k).map (iY (pw k))));rw [<-zV];exact ((((c.same (aB y v)).app (o.same x))).app B).same Y
def akX (n:Nat):mC P w K mg aF "_law_block" (n+1) ["_law_wide"] (uF n):=by
 obtain ⟨_,_,F⟩:=Z.p6;induction n with
 |zero=>exact F.callee ahR (by k_dec)
 |succ n a=>exact F.callee (ahS Z F a) (by k_dec)
def Qg:Gc Z "_law_block" 6 ["_law_wide"] (uF 4):=(akX Z 4).mono (by decide)
def Ca:Gc Z "_law_brick" 1 ["_law_wide"] ab9:=by
 o_head (cL Z.p7,["_law_wide","_law_found","_law_row"]);obtain ⟨aj,rfl,w1,W,q⟩:=h;refine ⟨_,(aL (bB 1 nd (cQ au))
 (aL (jd iR rfl  (jU rfl T.iT (ak (pv 0) au)) (dI 2 nd)
 (aP (bB 1 nd (aY j_ (pv 1) (gJ ["_law_k"] [("_law_row",2)] rfl (jU rfl T.iT (ak (aY iI (pv 0) aA) au)) (by k_all) (by row_wit1 (GK (bW cT (aY jY (pv 0) aA) (aY jY (pv 1) aA)))) (by row_wit1 (cU (ak (pv 0) (ak (aY gZ (pv 0) aA) au)))))))))
 (aP (bf (pv 1))))),?_⟩
 try dsimp only [bN]
 refine ⟨aN (by kl_no),λl N=>⟨_,rfl,aj,rfl,by lk, by lk, ?_⟩⟩;refine u_ (n:=aj.toNat) (λi σ b=>∃ (y:Option V) (d:Addr) (ys:aD),σ=[some (.int aj),some (.ref d),y]/\H d=none/\aG H b/\b d=some (.lst ys)/\bZ b ys (HY aj i)/\ys.length<=i*8) ⟨none,l,[],rfl,N,bM N _,aO,.nil,d_ _⟩ ?_ ?_
 ·rintro i σ b hi ⟨y,d,ys,rfl,L,B,x,m,Y⟩;refine ⟨_,rfl,_,rfl,_,_,rfl,rfl,_,rfl,by lk, by lk, λv C=>?_⟩;refine qG (n:=(aj-1).toNat) (λj zs a=>aG b a/\a v=some (.lst zs)/\zs.length<=j/\bZ a zs (((range j).filter λk:Nat=>decide ((k:Int) % 2=(i:Int) % 2)).map λk:Nat=>((k:Int),(k:Int)+1))) ⟨bO C (cO b),aO,d_ _,.nil⟩ (aN (by lk)) (by rintro j zs a ⟨_,e,t,_⟩;exact ⟨e,t⟩) ?_ ?_
  ·rintro j zs a hj ⟨g,o,t,p⟩;refine ⟨⟨.inl rfl,.inr rfl,trivial⟩,_,rfl,_,_,rfl,rfl,(show (0:Int)<2 by decide),_,rfl,_,_,rfl,rfl,(show (0:Int)<2 by decide),rfl,_,rfl,?_⟩;rw [mW,vI,dF];by_cases c:(j:Int) % 2=(i:Int) % 2
   ·refine cA (d7 (gM V.int (by lk))) ⟨_,rfl,_,rfl,_,_,rfl,rfl,aN (by kl_no),λu O=>?_⟩;km_lay O J O r S;have M:=r _ _ o;refine ⟨M,bO C (aB g r),aO,by rw [dj];simp;lk, ?_⟩;have D:KT J (upd J v (HO.lst (zs++[V.ref u]))):=iD M (bG _);rw [qK] at S;have one:(([j].filter λk:Nat=>decide ((k:Int) % 2=(i:Int) % 2)).map λk:Nat=>((k:Int),(k:Int)+1))=[((j:Int),(j:Int)+1)]:=by simp [c]
    rw [one];exact ((p.same r).kt D).app (.cons ⟨u,rfl,D _ _ S⟩ .nil)
   ·refine bK (by rw [nQ];intro z;have:=V.int.inj z;lk) ?_;have Hy:(([j].filter λk:Nat=>decide ((k:Int) % 2=(i:Int) % 2)).map λk:Nat=>((k:Int),(k:Int)+1))=[]:=by simp [c]
    rw [Hy,kO];exact ⟨g,o,by lk, p⟩
  ·rintro zs a ⟨g,o,t,p⟩;refine ⟨d,v,_,_,rfl,rfl,g _ _ x,o,aN (by lk),λlo I=>?_⟩;have R:aG a (upd a lo (HO.lst (ys++zs))):=bM I _;have U:=aB B g;refine ⟨_,lo,ys++zs,rfl,U.free I,aB U R,aO,?_,by rw [dj];lk⟩;have e:HY aj (i+1)=HY aj i++(((range (aj-1).toNat).filter λk:Nat=>decide ((k:Int) % 2=(i:Int) % 2)).map λk:Nat=>((k:Int),(k:Int)+1)):=by unfold HY;rw [mW,SJ];simp
   rw [e];exact ((m.same g).app p).same R
 ·rintro σ b ⟨y,d,ys,rfl,L,B,x,m,Y⟩;rw [ap5 w1 W] at m;exact ⟨_,rfl,q d b L B ⟨ys,x,m⟩⟩
def BX:Gc Z "_law_rounds" 7 ["_law_wide"] abv:=by
 o_head (cL Z.p8,["_law_wide"]);obtain ⟨k,rfl,b,q⟩:=h;have y:=Lx b;refine ⟨_,(aP (bf (aY Ax (aZ (Qg Z) hr.m rfl (ak (pv 0) au)) (cD (cQ (ak aA (ak aA (ak aA (ak aA (ak aA (ak aA (ak aA (ak aA (ak aA au)))))))))) (pv 0))))),?_⟩
 try dsimp only [bN]
 refine ⟨_,rfl,k,rfl,by lk, b,λn H1 x p ⟨a,t,i⟩=>?_⟩;have B:=i.len;refine ⟨aN (by kl_no),λu e=>?_⟩;km_lay e H2 e c v;have r:gD [V.int 0,V.int 0,V.int 1,V.int 0,V.int 2,V.int 0,V.int 0,V.int 0,V.int 3] (pw k)=some (.int (k:Int)):=by
  have:k=0\/k=1\/k=2\/k=3:=by lk
  rcases this with z|z|z|z<;>subst z<;>rfl
 refine ⟨_,rfl,u,_,_,_,rfl,rfl,aQ v,r,?_⟩;have o:a.length*k<=36:=eU (Ld (show a.length<=12 by lk) b) (by decide);refine ⟨n,(k:Int),a,rfl,rfl,c _ _ t,by lk, by lk, aN (by rw [o_];lk),λd l=>?_⟩;have j:aG H2 (upd H2 d (HO.lst (replicate ((k:Int).toNat) a).flatten)):=bM l _;have g:=aB p c;refine q d _ (g.free l) (aB g j) ⟨_,aO,?_⟩;rw [o_];exact ((i.same (aB c j)).rep k)
def Cj:Gc Z "_law_bent" 3 ["_law_pen_here","_law_wide","_law_wickets_here"] adA:=by
 o_head (cL Z.p9,["_law_pen_here","_law_wide","_law_wickets_here","_law_at","_law_first","_law_second","_law_way","_law_put"]);obtain ⟨p,aj,a,ws,rfl,⟨a0,b0,c0,i⟩,w1,w8,j,⟨rs,I,cg⟩,ok,len,q⟩:=h;have lrs:=cg.len;refine ⟨_,(aL (cu (bW (abP hr.ad') (pv 2) (cQ au))
 (aP (bf (pv 2)))
 cj)
 (aL (bB 3 nd (aZ (iH Z) hr.m rfl (ak (pv 0) (ak (jH T (pv 2)) au))))
 (aL (mG (cD (pv 2) (pv 3)) (pB rfl (ig (dI 4 nd) (ig (dI 5 nd) oX))))
 (aL (bB 6 nd (aZ (iH Z) hr.m rfl (ak (pv 0) (ak aA au))))
 (aL (bB 7 nd (cD (cQ (ak (cQ au) (ak (cQ (ak (cU (ak (pv 5) (ak (pv 4) au))) au)) (ak (aY Ax (cQ (ak (cU (ak (pv 4) (ak (pv 5) au))) au)) aA) (ak (aY j_ (aZ (JB Z) hr.m rfl (ak (pv 0) (ak (pv 1) (ak aA au)))) (cQ (ak (cU (ak (pv 4) (ak (pv 5) au))) au))) au))))) (pv 6)))
 (aP (bf (aY j_ (aY j_ (nG yc (pv 2) nW (nY (pv 3))) (pv 7)) (nG yc (pv 2) (nY (aY gZ (pv 3) aA)) nW))))))))),?_⟩
 try dsimp only [bN]
 walk_at "rd";intro l0 f0;w_call H1 i f0 l y x1 n1;refine ⟨a,l0,rs,rfl,rfl,aQ (l a _ I j),aQ x1,_,rfl,kE (λg=>?_) (λg=>?_)⟩
 ·walk_at "rd";exact q a ws H1 j l ⟨a0,b0,c0,y⟩ ⟨rs,l a _ I j,cg.kp l i⟩ ok (by lk)
 ·have ne:rs≠[]:=Td g;have aup:0<rs.length:=CP.mpr ne;walk_at "rd";refine ⟨_,_,rfl,.inl (aQ (l a _ I j)),?_⟩;walk_at "rd";refine ⟨p,a0,b0,c0,rs.length,rfl,y,by lk, by lk, λat_ a2 b2 c2 U atl=>?_⟩;wrow_args p H2 l k2 hp2;walk_at "rd";obtain ⟨t,w0,et,mw0,_,ht⟩:=ac' cg U atl;refine ⟨a,_,_,_,rfl,rfl,aQ (k2 a _ I j),et,t,_,rfl,aX (k2.tup i ht),rfl,_,_,rfl,_,_,rfl,rfl,?_⟩;obtain ⟨o1,o2,o3,o4,o5⟩:=ok w0 mw0;walk_at "rd";refine ⟨p,a2,b2,c2,4,rfl,hp2,by decide,by decide,λc a3 b3 c3 afv asI=>?_⟩;wrow_args p H3 k2 k3 hp3;walk_at "rd";intro e0 f0';w_call H4 hp3 f0' k4 IK x4 n4;walk_at "rd";intro t1 f1;w_call H5 IK f1 k5 oR x5 n5;walk_at "rd";intro e1 Ze;w_call H6 oR Ze k6 wX x6 n6;walk_at "rd";intro d f2;w_call H7 wX f2 k7 mj x7 n7;walk_at "rd";intro e2 Oj;w_call H8 mj Oj k8 hp8 x8 n8;walk_at "rd";refine ⟨e2,2,_,rfl,rfl,x8,by decide,by decide,aN (by show 1*2<=100000;decide),λe3 f3=>?_⟩;obtain ⟨k9,k,x9,n9⟩:=FN hp8 f3 (.lst [.ref d,.ref d]);show yC _ _ _ (upd H8 e3 (HO.lst [V.ref d,V.ref d])) _;generalize hH9:upd H8 e3 (HO.lst [V.ref d,V.ref d])=H9 at k9 k x9;walk_at "rd";refine ⟨p,aj,1,rfl,⟨_,_,_,k⟩,w1,w8,by decide,by decide,λe4 Oh iG f4 k10 ⟨a10,b10,c10,En⟩ ⟨IV,x10,J⟩ Zf asJ=>?_⟩;have n:e4≠p:=bL (cH k f4);have l4:=J.len;walk_at "rd";intro t3 f3';w_call yZ En f3' O V3 x11 n11;walk_at "rd";intro e5 f5;w_call m_ V3 f5 x asK x12 n12;walk_at "rd";refine ⟨e4,e5,IV,[.ref t3],rfl,rfl,x _ _ (O _ _ x10 n) n,x12,aN (by simp;lk),λe6 f6=>?_⟩;w_call H13 asK f6 k13 asL x13 B;walk_at "rd";intro e7 f7;w_call b asL f7 W R x14 n14
  -- all that was made stands at b
  have asM:Kp p m_ b:=cV k13 W;have r:Kp p yZ b:=cV x asM;have D:Kp p iG b:=cV O r;have v:Kp p H9 b:=cV k10 D;have kk9:Kp p H8 b:=cV k9 v;have Zg:Kp p H7 b:=cV k8 kk9;have z:Kp p H6 b:=cV k7 Zg;have L:Kp p H5 b:=cV k6 z;have M:Kp p H4 b:=cV k5 L;have Zh:Kp p H b:=cV k3 (cV k4 M);have put:∃ (e:Addr) (qs:aD) (us:aK),gD [V.ref e0,V.ref e1,V.ref e3,V.ref e6] c=some (.ref e)/\e≠p/\b e=some (.lst qs)/\bZ b qs us/\bC aj us/\us.length<=3:=by
   have wc:c=0\/c=1\/c=2\/c=3:=by lk
   rcases wc with h|h|h|h<;>subst h
   ·exact ⟨e0,[],[],rfl,n4,M _ _ x4 n4,.nil,bC.nil,by decide⟩
   ·exact ⟨e1,[.ref t1],[(w0.2,w0.1)],rfl,n6,z _ _ x6 n6,.cons ⟨t1,rfl,L _ _ x5 n5⟩ .nil,bC.one ⟨o3,o4,o1,o2,bL o5⟩,by simp⟩
   ·exact ⟨e3,[.ref d,.ref d],[(w0.1,w0.2),(w0.1,w0.2)],rfl,n9,v _ _ x9 n9,.cons ⟨d,rfl,Zg _ _ x7 n7⟩ (.cons ⟨d,rfl,Zg _ _ x7 n7⟩ .nil),bC.app (bC.one ⟨o1,o2,o3,o4,o5⟩) (bC.one ⟨o1,o2,o3,o4,o5⟩),by simp⟩
   ·exact ⟨e6,IV++[.ref t3],Oh++[(w0.1,w0.2)],rfl,B,W _ _ x13 B,(J.kp D En).app (.cons ⟨t3,rfl,r _ _ x11 n11⟩ .nil),Zf.app (bC.one ⟨o1,o2,o3,o4,o5⟩),by simp;lk⟩
  obtain ⟨e,qs,us,ee,ne',xe,hq,okq,lq⟩:=put;have lqs:=hq.len;refine ⟨_,rfl,e7,_,_,_,rfl,rfl,aQ x14,ee,?_⟩;have Y:=Zh a _ I j;have afC:=cg.kp Zh i;refine ⟨_,rfl,_,rfl,_,rfl,a,rs,rfl,aQ Y,λs1 fs1=>?_⟩;obtain ⟨Oa,N,Nj,len1⟩:=afC.cut none (some at_);w_call H15 R fs1 Zi asN x15 n15;have lc1:=N.len;walk_at "rd";refine ⟨s1,e,_,_,rfl,rfl,x15,Zi _ _ xe ne',aN (by lk),λs2 fs2=>?_⟩;w_call H16 asN fs2 u asO x16 n16;refine ⟨_,rfl,_,rfl,_,_,rfl,rfl,_,rfl,a,rs,rfl,aQ (u _ _ (Zi _ _ Y j) j),λs3 fs3=>?_⟩;obtain ⟨Og,C,asQ,auq⟩:=afC.cut (some (at_+1)) none;w_call H17 asO fs3 o asR x17 n17;have lc3:=C.len;refine ⟨s2,s3,_,_,rfl,rfl,o _ _ x16 n16,x17,aN (by rw [dj];lk),λs4 fs4=>?_⟩;obtain ⟨k18,asS,x18,n18⟩:=FN asR fs4 (.lst ((fX rs none (some at_)++qs)++fX rs (some (at_+1)) none));have S:Kp p b _:=cV Zi (cV u (cV o k18));refine q s4 ((Oa++us)++Og) _ n18 (cV Zh S) ⟨_,_,_,asS⟩ ⟨_,x18,(((N.app hq).app C).kp S R)⟩ (bC.app (bC.app (ok.sub Nj) okq) (ok.sub asQ)) ?_;rw [dj,dj];have ct:=aow (rs:=rs) U (by lk);lk
def akY:Gc Z "_law_net" 8 ["_law_pen_here"] aor:=by
 refine cL Z.Iw λf fd F=>?_;have T:=Z.T;have xG:=xG Z;have BX:=BX Z;have Ca:=Ca Z;have Cj:=Cj Z
 replace Cj:=Cj.imp aqe
 replace xG:=xG.imp akG
 replace BX:=BX.imp am0
 replace Ca:=Ca.imp am1
 o_head ["_law_pen_here","_law_way","_law_wide","_law_found"];obtain ⟨p,rfl,⟨a0,b0,c0,hp0⟩,q⟩:=h
 -- the last row
 have U:∀ (b aj:Int) (d:Addr) (ws:aK) (M:Hp),Kp p H M->jB M p->eN M d ws->1<=aj->aj<=8->bC aj ws ->ae5 (afb (yC (HD 2) (yC (Nv (aag K) (yC (tSl (afc K) (HD 3) ac7 (aeK (tC (.int 40)))) Bd)) Bd))) { nx:=λ_ H'=>Q .non H',rt:=Q } [some (.ref p),some (.int b),some (.int aj),some (.ref d)] M:=by
  rintro b aj d ws M kp ⟨a1,b1,c1,j⟩ ⟨rs,hfl,cg⟩ w1 w8 ok;refine ⟨_,rfl,_,rfl,_,rfl,d,rs,rfl,aQ hfl,λs1 fs1=>?_⟩;have hc1:bZ M (fX rs none (some 40)) ((ws.drop (HT.bV rs.length 0 none)).take (HT.bV rs.length rs.length (some 40)-HT.bV rs.length 0 none)):=(cg.drop _).take _;have Nj:∀ w∈(ws.drop (HT.bV rs.length 0 none)).take (HT.bV rs.length rs.length (some 40)-HT.bV rs.length 0 none),w∈ws:=λw hw=>RK (KH hw);have le1:((ws.drop (HT.bV rs.length 0 none)).take (HT.bV rs.length rs.length (some 40)-HT.bV rs.length 0 none)).length<=40:=by rw [eF];have e:HT.bV rs.length rs.length (some ((40:Nat):Int))=min 40 rs.length:=HT.Ab _ _ 40;have e':HT.bV rs.length rs.length (some 40)=min 40 rs.length:=e;rw [e'];lk
  generalize (ws.drop (HT.bV rs.length 0 none)).take (HT.bV rs.length rs.length (some 40)-HT.bV rs.length 0 none)=us at hc1 Nj le1;w_call H2 j fs1 I o x2 n2;refine ⟨s1,_,rfl,.inl ⟨aQ x2,λt3 ft3=>?_⟩⟩;w_call H3 o ft3 B c W n3;refine ⟨aN (by kl_no),λn4 fn4=>?_⟩;obtain ⟨k4,IK,x4,m4⟩:=FN c fn4 (.tup [.int aj,.ref t3]);exact q (.ref n4) aj us _ (cV kp (cV I (cV B k4))) ⟨_,_,_,IK⟩ ⟨n4,t3,_,rfl,x4,k4 _ _ W n3,hc1.kp (cV I (cV B k4)) j⟩ w1 w8 (ok.sub Nj) (by lk)
 refine ⟨_,(aL (bB 1 nd (aZ (iH Z) hr.m rfl (ak (pv 0) (ak aA au))))
 (aL (cu (bW Va (pv 1) aA)
 (aL (bB 2 nd (aY gZ aA (aZ (iH Z) hr.m rfl (ak (pv 0) (ak aA au)))))
 (aP (bf (cU (ak (pv 2) (ak (dM uc rfl T.o7 qF (ak (aZ (JB Z) hr.m rfl (ak (pv 0) (ak (pv 2) (ak (aZ (iH Z) hr.m rfl (ak (pv 0) (ak (cD (cQ (ak aA (ak aA (ak aA au)))) (pv 1)) au))) au)))) au)) au))))))
 cj)
 (aL (bB 2 nd (cD (cQ (ak aA (ak aA (ak aA (ak aA (ak aA au)))))) (aZ (iH Z) hr.m rfl (ak (pv 0) (ak aA au)))))
 (aL (bB 3 nd (cD (cQ (ak (aZ xG hr.m rfl (ak (pv 2) au)) (ak (aZ BX hr.m rfl (ak (pv 2) au)) au))) (aZ (iH Z) hr.m rfl (ak (pv 0) (ak aA au)))))
 (aL (cu (bW cT (pv 1) aA)
 (aL (bB 2 nd (aY gZ aA (aZ (iH Z) hr.m rfl (ak (pv 0) (ak aA au)))))
 (aP (bB 3 nd (aZ Ca hr.m rfl (ak (pv 2) au)))))
 cj)
 (aL (cu (bW cT (pv 1) aA)
 (aP (bB 3 nd (aZ Cj hr.m rfl (ak (pv 0) (ak (pv 2) (ak (pv 3) au))))))
 cj)
 (aL (cu (bW cT (pv 1) aA)
 (aP (bB 3 nd (aY j_ (aZ (JB Z) hr.m rfl (ak (pv 0) (ak (pv 2) (ak (aZ (iH Z) hr.m rfl (ak (pv 0) (ak aA au))) au)))) (pv 3))))
 cj)
 (aL (cu (bW cT (pv 1) aA)
 (aP (bB 3 nd (aY j_ (pv 3) (aZ (JB Z) hr.m rfl (ak (pv 0) (ak (pv 2) (ak (aZ (iH Z) hr.m rfl (ak (pv 0) (ak aA au))) au)))))))
 cj)
 (aP (bf (cU (ak (pv 2) (ak (dM uc rfl T.o7 qF (ak (nG yc (pv 3) nW (nY aA)) au)) au))))))))))))),?_⟩
 try dsimp only [bN]
 walk_at "rd";refine ⟨p,a0,b0,c0,8,rfl,hp0,by decide,by decide,λb a1 b1 c1 afv aur=>?_⟩;wrow_args p H1 Iv k1 j;walk_at "rd";refine kE (λg=>?_) (λg=>?_)
 ·have g3:b<3:=iM g;walk_at "rd";refine ⟨p,_,_,_,8,rfl,j,by decide,by decide,λv2 a2 b2 c2 v20 v28=>?_⟩;wrow_args p H2 k1 I o;walk_at "rd";intro l3 Nx;w_call H3 o Nx B c W n3;obtain ⟨z,ez,z0,z41⟩:∃ z:Int,gD [V.int 4,V.int 12,V.int 41] b=some (.int z)/\0<z/\z<=41:=by
   have D:b=0\/b=1\/b=2:=by lk
   rcases D with h|h|h<;>subst h
   ·exact ⟨4,rfl,by decide,by decide⟩
   ·exact ⟨12,rfl,by decide,by decide⟩
   ·exact ⟨41,rfl,by decide,by decide⟩
  walk_at "rd";refine ⟨p,_,_,_,z,rfl,c,by lk, by lk, λY a4 b4 c4 m0 mz=>?_⟩;have k_:=cV I B;wrow_args p H4 k_ k4 IK;refine ⟨p,1+v2,Y,rfl,⟨_,_,_,IK⟩,by lk, by lk, m0,by lk, λJ Zj H5 f5 k5 ⟨a5,b5,c5,L⟩ ⟨Ol,x5,Zk⟩ Zm asT=>⟨J,_,rfl,.inl ⟨aQ x5,λt6 ft6=>?_⟩⟩⟩;w_call H6 L ft6 k6 wX x6 n6;refine ⟨aN (by kl_no),λn7 fn7=>?_⟩;obtain ⟨t,r,x7,m7⟩:=FN wX fn7 (.tup [.int (1+v2),.ref t6]);exact q (.ref n7) (1+v2) Zj _ (cV k4 (cV k5 (cV k6 t))) ⟨_,_,_,r⟩ ⟨n7,t6,_,rfl,x7,t _ _ x6 n6,Zk.kp (cV k6 t) L⟩ (by lk) (by lk) Zm (by lk)
 ·have g3:¬ b<3:=Td g;walk_at "rd";intro l2 fl2;w_call H2 j fl2 I o x2 n2;walk_at "rd";refine ⟨p,_,_,_,5,rfl,o,by decide,by decide,λN a3 b3 S v30 v35=>?_⟩;have B:Kp p H (upd H2 p (.lst [.int a3,.int b3,.int S])):=cV k1 (cV I rm);have c:(upd H2 p (.lst [.int a3,.int b3,.int S])) p=some (.lst [.int a3,.int b3,.int S]):=aO;have W:(upd H2 p (.lst [.int a3,.int b3,.int S])) l2=some (.lst [.int 2,.int 4,.int 4,.int 8,.int 1]):=by rw [bh n2];exact x2
  generalize hH3:upd H2 p (HO.lst [V.int a3,V.int b3,V.int S])=H3 at B c W;obtain ⟨aj,ez,Zn⟩:∃ z:Int,gD [V.int 2,V.int 4,V.int 4,V.int 8,V.int 1] N=some (.int z)/\Mq z:=by
   have D:N=0\/N=1\/N=2\/N=3\/N=4:=by lk
   rcases D with h|h|h|h|h<;>subst h
   ·exact ⟨2,rfl,.inr (.inl rfl)⟩
   ·exact ⟨4,rfl,.inr (.inr (.inl rfl))⟩
   ·exact ⟨4,rfl,.inr (.inr (.inl rfl))⟩
   ·exact ⟨8,rfl,.inr (.inr (.inr rfl))⟩
   ·exact ⟨1,rfl,.inl rfl⟩
  have a:1<=aj/\aj<=8/\aj*aj<=64/\aj<2 ^ 4:=by rcases Zn with h|h|h|h<;>subst h<;>decide
  refine ⟨l2,_,_,_,rfl,rfl,aQ W,ez,_,rfl,aj,rfl,Zn,a.2.2.2,λl4 ws4 H4 f4 s4 ⟨IV,x4,hr4⟩ Zf asJ=>⟨_,rfl,aj,rfl,Zn,λJ Zj H5 f5 s5 ⟨Ol,x5,Zk⟩ Zm asT=>?_⟩⟩;have L:=s5 _ _ (s4 _ _ c);have k5:Kp p H H5:=cV B (q_ (aB s4 s5));have n4:l4≠p:=bL (cH c f4);have n5:J≠p:=bL (cH (s4 _ _ c) f5);walk_at "rd";intro l6 f6;w_call H6 L f6 k6 wX x6 n6;walk_at "rd";refine ⟨p,_,_,_,2,rfl,wX,by decide,by decide,λv7 a7 b7 c7 v70 v72=>?_⟩;have Om:Kp p H5 (upd H6 p (.lst [.int a7,.int b7,.int c7])):=cV k6 rm;have r:(upd H6 p (.lst [.int a7,.int b7,.int c7])) p=some (.lst [.int a7,.int b7,.int c7]):=aO;have x7:(upd H6 p (.lst [.int a7,.int b7,.int c7])) l6=some (.lst [.ref l4,.ref J]):=by rw [bh n6];exact x6
  generalize hH7:upd H6 p (HO.lst [V.int a7,V.int b7,V.int c7])=H7 at Om r x7;have t:Kp p H H7:=cV k5 Om;obtain ⟨d,ws,efl,Zo,Oo,uT,lef⟩:∃ (d:Addr) (ws:aK),gD [V.ref l4,V.ref J] v7=some (.ref d)/\d≠p/\eN H7 d ws/\bC aj ws/\ws.length<=200:=by
   have D:v7=0\/v7=1:=by lk
   rcases D with h|h<;>subst h
   ·exact ⟨l4,ws4,rfl,n4,eN.kp Om L n4 ⟨IV,s5 _ _ x4,hr4.same s5⟩,Zf,by lk⟩
   ·exact ⟨J,Zj,rfl,n5,eN.kp Om L n5 ⟨Ol,x5,Zk⟩,Zm,by lk⟩
  refine ⟨l6,_,_,_,rfl,rfl,aQ x7,efl,?_⟩;have D:b=3\/b=4\/b=5\/b=6\/b=7:=by lk
  rcases D with h|h|h|h|h<;>subst h
  ·-- Vp
   l_ints;walk_at "rd";refine ⟨p,_,_,_,8,rfl,r,by decide,by decide,λO a8 b8 c8 Oq v88=>?_⟩;wrow_args p H8 t k8 n;walk_at "rd";refine ⟨_,rfl,by lk, by lk, λC IW H9 f9 s9 Zq y V4=>?_⟩;w_up;w_up;w_up;exact U 3 (1+O) C IW H9 (cV k8 (q_ s9)) ⟨_,_,_,s9 _ _ n⟩ Zq (by lk) (by lk) y
  ·-- aus
   w_up;l_ints;walk_at "rd";refine ⟨p,aj,d,ws,rfl,⟨_,_,_,r⟩,a.1,a.2.1,Zo,Oo,uT,by lk, λC us9 H9 n9 x pn9 Zq y V4=>?_⟩;w_up;w_up;exact U 4 aj C us9 H9 (cV t x) pn9 Zq a.1 a.2.1 y
  ·-- some ahead
   w_up;w_up;l_ints;walk_at "rd";refine ⟨p,_,_,_,4,rfl,r,by decide,by decide,λO a8 b8 c8 Oq v84=>?_⟩;wrow_args p H8 Iv R n;refine ⟨p,aj,O,rfl,⟨_,_,_,n⟩,a.1,a.2.1,Oq,by lk, λC IW H9 f9 x ⟨a9,b9,c9,i⟩ ⟨Ja,x9,k⟩ y V4=>?_⟩;obtain ⟨rsf,xf,Jb⟩:=eN.kp (cV R x) r Zo Oo;have lr9:=k.len;have Zr:=Jb.len;walk_at "rd";refine ⟨C,d,_,_,rfl,rfl,x9,xf,aN (by lk),λu Zt=>?_⟩;w_call iG i Zt l En v n10;w_up;exact U 5 aj u (IW++ws) iG (cV t (cV R (cV x l))) ⟨_,_,_,En⟩ ⟨_,v,(k.app Jb).kp l i⟩ a.1 a.2.1 (y.app uT)
  ·-- some behind
   w_up;w_up;w_up;l_ints;walk_at "rd";refine ⟨p,_,_,_,3,rfl,r,by decide,by decide,λO a8 b8 c8 Oq v84=>?_⟩;wrow_args p H8 Iv R n;refine ⟨p,aj,O,rfl,⟨_,_,_,n⟩,a.1,a.2.1,Oq,by lk, λC IW H9 f9 x ⟨a9,b9,c9,i⟩ ⟨Ja,x9,k⟩ y V4=>?_⟩;obtain ⟨rsf,xf,Jb⟩:=eN.kp (cV R x) r Zo Oo;have lr9:=k.len;have Zr:=Jb.len;refine ⟨d,C,_,_,rfl,rfl,xf,x9,aN (by lk),λu Zt=>?_⟩;w_call iG i Zt l En v n10;exact U 6 aj u (ws++IW) iG (cV t (cV R (cV x l))) ⟨_,_,_,En⟩ ⟨_,v,(Jb.app k).kp l i⟩ a.1 a.2.1 (uT.app y)
  ·w_up;w_up;w_up;w_up;exact U 7 aj d ws H7 t ⟨_,_,_,r⟩ Oo a.1 a.2.1 uT
def ag':Gc Z "_law_counts" 2 ["_law_pen_here","_law_wide"] akC:=by
 o_head (cL Z.Xd,["_law_pen_here","_law_wide","_law_way","_law_found","_law_lane","_law_number"]);obtain ⟨p,aj,rfl,⟨a0,b0,c0,L⟩,w1,w8,q⟩:=h;refine ⟨_,(aL (bB 2 nd (aZ (iH Z) hr.m rfl (ak (pv 0) (ak aA au))))
 (aL (bB 3 nd (cQ au))
 (aL (jd iR rfl  (jU rfl T.iT (ak (pv 1) au)) (dI 4 nd)
 (aL (bB 5 nd (cD (cQ (ak (aZ (iH Z) hr.m rfl (ak (pv 0) (ak aA au))) (ak (aY iI (aZ (iH Z) hr.m rfl (ak (pv 0) (ak aA au))) aA) (ak (aY oY (aZ (iH Z) hr.m rfl (ak (pv 0) (ak aA au))) aA) (ak aA au))))) (pv 2)))
 (aL (cu (bW cT (pv 2) aA)
 (aP (bB 5 nd (aY gZ (aY iI (aZ (iH Z) hr.m rfl (ak (pv 0) (ak (aY iI (aY qg aA (aY Ml aA aA)) aA) au))) (aY Ml aA aA)) aA)))
 cj)
 (aP (pX (jg ux zZ z6 xK (pv 3) (ak (pv 5) au)))))))
 (aP (bf (pv 3)))))),?_⟩
 try dsimp only [bN]
 walk_at "rd";refine ⟨p,a0,b0,c0,4,rfl,L,by decide,by decide,λa a1 b1 c1 afv asI=>?_⟩;walk_at "rd";intro l S;have t:p≠l:=cH aO S;have C:H l=none:=by rw [bh (bL t)] at S;exact S
 refine ⟨_,rfl,_,rfl,by lk, by lk, ?_⟩;refine u_ (n:=aj.toNat) (λi σ c=>∃ J M cs,σ=[some (.ref p),some (.int aj),some (.int a),some (.ref l),J,M]/\Kp p H c/\jB c p/\c l=some (.lst (cs.map V.int))/\cs.length=i/\Wn (1-10 ^ 60) (10 ^ 60-1) cs) ⟨none,none,[],rfl,Kp.put C rm,⟨a1,b1,c1,by walk_at "hh"⟩,aO,rfl,λ_ z=>(nomatch z)⟩ ?_ ?_
 ·rintro i σ c hi ⟨J,M,cs,rfl,kp,⟨a2,b2,c2,O⟩,B,len,D⟩;walk_at "rd";refine ⟨p,a2,b2,c2,10,rfl,O,by decide,by decide,λv a3 b3 c3 x30 x31=>?_⟩;walk_at "rd";refine ⟨p,a3,b3,c3,41,rfl,aO,by decide,by decide,λx a4 b4 Y x40 x41=>?_⟩;walk_at "rd";refine ⟨p,a4,b4,Y,7,rfl,aO,by decide,by decide,λu k r j x50 x51=>?_⟩;rw [Dh,Dh];walk_at "rd";intro d I;obtain ⟨z,ez,z0,z1⟩:∃ z:Int,gD [V.int v,V.int (x-20),V.int (u / 6),V.int 0] a=some (.int z)/\-20<=z/\z<=40:=by
   have wc:a=0\/a=1\/a=2\/a=3:=by lk
   rcases wc with h|h|h|h<;>subst h
   ·exact ⟨_,rfl,by lk, by lk⟩
   ·exact ⟨_,rfl,by lk, by lk⟩
   ·exact ⟨_,rfl,by lk, by lk⟩
   ·exact ⟨_,rfl,by lk, by lk⟩
  have y:p≠d:=cH aO I;have Ot:l≠d:=cH ((bh (bL t)).trans B) I;have N:c d=none:=by rw [bh (bL y)] at I;exact I
  have R:(upd (upd c p (HO.lst [V.int k,V.int r,V.int j])) d (HO.lst [V.int v,V.int (x-20),V.int (u / 6),V.int 0])) p=some (.lst [.int k,.int r,.int j]):=by rw [bh y,aO]
  have W:(upd (upd c p (HO.lst [V.int k,V.int r,V.int j])) d (HO.lst [V.int v,V.int (x-20),V.int (u / 6),V.int 0])) l=some (.lst (cs.map V.int)):=by rw [bh Ot,bh (bL t)];exact B
  have U:Kp p H (upd (upd c p (HO.lst [V.int k,V.int r,V.int j])) d (HO.lst [V.int v,V.int (x-20),V.int (u / 6),V.int 0])):=λb o e n=>by rw [bh (cH (kp b o e n) N),bh n];exact kp b o e n
  refine ⟨_,rfl,d,_,_,_,rfl,rfl,aQ aO,ez,?_⟩;generalize upd (upd c p (HO.lst [V.int k,V.int r,V.int j])) d (HO.lst [V.int v,V.int (x-20),V.int (u / 6),V.int 0])=H6 at R W U;sr_in;refine kE (λg=>?_) (λg=>?_)
  ·walk_at "rd";refine ⟨p,k,r,j,2*10 ^ 60-1,rfl,R,by decide,by decide,λx7 a7 b7 c7 x70 x71=>?_⟩;walk_at "rd";refine ⟨l,_,_,rfl,rfl,(bh (bL t)).trans W,pH (by rw [bD];lk),_,_,cs++[x7-10 ^ 60+1],rfl,Kp.put C (cV U rm),⟨a7,b7,c7,by rw [bh t,aO]⟩,?_,by simp [len],adP D (by lk) (by lk)⟩;rw [aO,dF];rfl
  ·walk_at "rd";refine ⟨l,_,_,rfl,rfl,W,pH (by rw [bD];lk),_,_,cs++[z],rfl,Kp.put C U,⟨k,r,j,by rw [bh t];exact R⟩,?_,by simp [len],adP D (qJ (by decide) z0) (qJ z1 (by decide))⟩;rw [aO,dF];rfl
 ·rintro σ c ⟨J,M,cs,rfl,kp,pn,hl,len,D⟩;w_left;exact q l cs c C kp pn hl len D
def Qo:Gc Z "is_whole" 1 ["thing"] ab6:=by
 o_head (cL Z.Xe,["thing"]);obtain ⟨x,rfl,h⟩:=h;refine ⟨_,(aP (bf (qe (jC Fy rfl T.xu boot_isinstance (ak (pv 0) (ak (Aa (v:=V.ty "int") (u:=.type "int") rfl T.wD (by k_go) rfl) au))) (qT (Uk (jC Fy rfl T.xu boot_isinstance (ak (pv 0) (ak (Aa (v:=V.ty "bool") (u:=.type "bool") rfl T.apK (by k_go) rfl) au)))))))),?_⟩
 try dsimp only [bN]
 rcases h with ⟨i,rfl,q⟩|⟨o,q⟩
 ·exact ⟨_,rfl,_,_,_,true,rfl,jh.int i,rfl,_,rfl,cA rfl ⟨_,rfl,_,_,_,false,rfl,jh.int i,rfl,_,rfl,q⟩⟩
 ·cases o with
  |bl b =>refine ⟨_,rfl,_,_,_,true,rfl,jh.bl b,rfl,_,rfl,cA rfl ?_⟩;exact ⟨_,rfl,_,_,_,true,rfl,jh.bl b,rfl,_,rfl,q⟩
  |non=>exact ⟨_,rfl,_,_,_,false,rfl,jh.non,rfl,_,rfl,bK (by decide) q⟩
  |str z=>exact ⟨_,rfl,_,_,_,false,rfl,jh.str z,rfl,_,rfl,bK (by decide) q⟩
  |lst h=>exact ⟨_,rfl,_,_,_,false,rfl,jh.lst h,rfl,_,rfl,bK (by decide) q⟩
  |tup h=>exact ⟨_,rfl,_,_,_,false,rfl,jh.tup h,rfl,_,rfl,bK (by decide) q⟩
  |dct h=>exact ⟨_,rfl,_,_,_,false,rfl,jh.dK h,rfl,_,rfl,bK (by decide) q⟩
def Cm:Gc Z "is_whole" 1 ["thing"] abl:=(Qo Z).imp ami
def acw:Gc Z "is_lane" 2 ["wide","thing"] alP:=by
 o_head (cL Z.Xf,["wide","thing"]);obtain ⟨aj,i,rfl,a,h1,q⟩:=h;refine ⟨_,(aP (bf (qe (aZ (Cm Z) hr.m rfl (ak (pv 1) au)) (qT (abL tE Va aA (pv 1) (pv 0)))))),?_⟩
 try dsimp only [bN]
 refine ⟨_,rfl,i,rfl,_,rfl,cA rfl ⟨_,rfl,_,_,rfl,rfl,_,rfl,cA (d7 a) ⟨_,rfl,_,_,rfl,rfl,?_⟩⟩⟩;have z:Q (.bl (decide (i<aj))) H:=by rw [d7 h1];exact q
 exact z
def aiX:Gc Z "is_wicket" 3 ["wide","thing"] aip:=by
 o_head (cL Z.Xg,["wide","thing"]);obtain ⟨aj,t,w0,rfl,a,⟨b,d,c,g,i⟩,q⟩:=h;refine ⟨_,(aL (cu (PW.pt (tD (kZ (kY (jC Fy rfl T.xu boot_isinstance (ak (pv 1) (ak (Aa (v:=V.ty "tuple") (u:=.type "tuple") rfl T.o7 (by k_go) rfl) au))))) (vZ (bW pG (jH T (pv 1)) aA))))
 (aP (bf pF))
 cj)
 (aP (bf (qe (aZ (acw Z) hr.m rfl (ak (pv 0) (ak (bQ (pv 1) aA) au))) (qe (aZ (acw Z) hr.m rfl (ak (pv 0) (ak (bQ (pv 1) aA) au))) (qT (je pG (bQ (pv 1) aA) (bQ (pv 1) aA)))))))),?_⟩
 try dsimp only [bN]
 refine ⟨_,rfl,_,_,_,true,rfl,jh.tup a,rfl,_,rfl,bK (by decide) ⟨_,rfl,t,_,rfl,.inr (aX a),rfl,_,rfl,bK (by simp) ⟨_,rfl,_,rfl,t,_,_,_,rfl,rfl,aX a,rfl,aj,w0.1,rfl,b,d,_,rfl,cA rfl ⟨_,rfl,_,rfl,t,_,_,_,rfl,rfl,aX a,rfl,aj,w0.2,rfl,c,g,_,rfl,cA rfl ⟨_,rfl,t,_,_,_,rfl,rfl,aX a,rfl,_,rfl,t,_,_,_,rfl,rfl,aX a,rfl,rfl,?_⟩⟩⟩⟩⟩;have z:Q (.bl (!decide (V.int w0.1=V.int w0.2))) H:=by rw [kh (λe=>i (by injection e))];exact q
 exact z
def aha:Gc Z "are_wickets" 4 ["wide","things"] aoj:=by
 o_head (cL Z.Xh,["wide","things"]);obtain ⟨aj,l,ws,rfl,⟨rs,d,o⟩,ok,len,q⟩:=h;have t:=o.len;refine ⟨_,(aP (bf (qe (je tE (jH T (pv 1)) (yh rfl Z.Jz)) (qT (jC (Qx rfl) rfl T.Vi boot_all (ak (gJ ["thing"] [("wide",0)] rfl (Hs (lM (pv 1)) (oH (pv 1))) (by k_all) (by k_mem) (by row_wit1 (aZ (aiX Z) hr.m rfl (ak (pv 1) (ak (pv 0) au))))) au)))))),?_⟩
 try dsimp only [bN]
 refine ⟨_,rfl,l,_,rfl,(d.elim (λh=>.inl (aQ h)) λh=>.inr (aX h)),_,_,rfl,rfl,_,rfl,cA (d7 (by lk)) ?_⟩;rcases d with d|d
 ·refine .inl ⟨_,rfl,l,rfl,⟨_,aQ d⟩,λn k=>?_⟩;refine rO (xs:=rs) (λi ys a=>aG H a/\a n=some (.lst ys)/\ys=(replicate i true).map V.bl) ⟨bO k (cO H),aO,rfl⟩ (aN (by lk)) (by rintro i ys a hi ⟨b,c,j⟩;exact ⟨aQ (b _ _ d),c,by rw [j];simp⟩) ?_ ?_
  ·rintro i x ys a r ⟨b,c,j⟩;obtain ⟨w0,p,e,rfl,g⟩:=o.get r;got_up;refine ⟨_,rfl,_,rfl,aj,p,w0,rfl,b _ _ g,ok w0 (fQ e),c,bO k b,aO,?_⟩;rw [j,CZ,dF];rfl
  ·rintro ys a ⟨b,c,rfl⟩;refine ⟨n,_,rfl,aQ c,?_⟩;rw [all_true];exact q a b
 ·refine .inr ⟨_,rfl,l,rfl,⟨_,aX d⟩,λn k=>?_⟩;refine rT (xs:=rs) (λi ys a=>aG H a/\a n=some (.lst ys)/\ys=(replicate i true).map V.bl) ⟨bO k (cO H),aO,rfl⟩ (aN (by lk)) (by rintro i ys a hi ⟨b,c,j⟩;exact ⟨aX (b _ _ d),c,by rw [j];simp⟩) ?_ ?_
  ·rintro i x ys a r ⟨b,c,j⟩;obtain ⟨w0,p,e,rfl,g⟩:=o.get r;got_up;refine ⟨_,rfl,_,rfl,aj,p,w0,rfl,b _ _ g,ok w0 (fQ e),c,bO k b,aO,?_⟩;rw [j,CZ,dF];rfl
  ·rintro ys a ⟨b,c,rfl⟩;refine ⟨n,_,rfl,aQ c,?_⟩;rw [all_true];exact q a b
def aaQ:Gc Z "makes_net" 5 ["wide","wickets"] ab7:=by
 o_head (cL Z.Xi,["wide","wickets"]);obtain ⟨aj,l,ws,rfl,⟨rs,c,e⟩,i,k,ok,len,q⟩:=h;refine ⟨_,(aL (cu (PW.pt (tD (kZ (kY (aZ (Cm Z) hr.m rfl (ak (pv 0) au)))) (vZ (kZ (Q6 tE tE aA (pv 0) (yh rfl Z.Fz))))))
 (aP (bf pF))
 cj)
 (aP (bf (qe (jC ajU rfl T.xu boot_isinstance (ak (pv 1) (ak (cU (ak (Aa (v:=V.ty "list") (u:=.type "list") rfl T.Ay (by k_go) rfl) (ak (Aa (v:=V.ty "tuple") (u:=.type "tuple") rfl T.o7 (by k_go) rfl) au))) au))) (qT (aZ (aha Z) hr.m rfl (ak (pv 0) (ak (pv 1) au)))))))),?_⟩
 try dsimp only [bN]
 refine ⟨_,rfl,aj,rfl,_,rfl,bK (by decide) ⟨_,rfl,_,_,rfl,rfl,_,rfl,cA (d7 i) ⟨_,_,rfl,rfl,_,rfl,bK (by simp;lk) ⟨_,rfl,aN (by kl_no),λj b=>?_⟩⟩⟩⟩;km_lay b H1 b a d;exact ⟨l,j,rs,_,_,true,rfl,c.elim (λh=>.inl ⟨a _ _ h,rfl⟩) (λh=>.inr ⟨a _ _ h,rfl⟩),d,rfl,_,rfl,cA rfl ⟨_,rfl,_,rfl,aj,l,ws,rfl,⟨rs,c.imp (a _ _) (a _ _),e.same a⟩,ok,len,λH2 g=>q H2 (aB a g)⟩⟩
def Qp:Gc Z "makes_net" 5 ["wide","wickets"] adq:=(aaQ Z).imp makes_of
def Rv:Ge Z "net_of" 6 ["wide","wickets"] Uw:=by
 refine tU Z.Xj λf fd F=>?_;have T:=Z.T;have Qp:=(aaQ Z);o_head (["wide","wickets"],1,1);obtain ⟨aj,l,ws,rfl,⟨rs,p,I⟩,w1,w8,ok,len,q⟩:=h;have N:=I.len;refine ⟨_,(aL (cu (kZ (kY (aZ Qp hr.m rfl (ak (pv 0) (ak (pv 1) au)))))
 (aP (xP Z.uY.vP rfl Z.uY.uf (ak bA au)))
 cj)
 (aP (bf (cU (ak (pv 0) (ak (dM uc rfl T.o7 qF (ak (gJ ["wicket"] [] rfl (Hs (lM (pv 1)) (oH (pv 1))) (by k_all) (by k_mem) (by row_wit1 (cU (ak (qZ (Lr K rfl) (pv 0) aA (λ_ _=>rfl)) (ak (qZ (Lr K rfl) (pv 0) aA (λ_ _=>rfl)) au))))) au)) au)))))),?_⟩
 try dsimp only [bN]
 refine ⟨_,rfl,_,rfl,aj,l,ws,rfl,⟨rs,p,I⟩,w1,w8,ok,len,λH1 v=>?_⟩;w_left;refine bK (by decide) ?_;have step:∀ (c:Addr) (i:Nat) (x:V) (ys:aD) (a:Hp),H1 c=none->rs[i]?=some x->aG H1 a->a c=some (.lst ys)->ys.length<=i->bZ a ys (ws.take i)->∃ k a0 t,x=.ref k/\a k=some (.tup [.int a0,.int t])/\∀ u,a u=none->aG a (upd a u (.tup [.int a0,.int t]))/\(upd a u (.tup [.int a0,.int t])) c=some (.lst ys)/\aG H1 (upd (upd a u (.tup [.int a0,.int t])) c (.lst (ys++[.ref u])))/\bZ (upd (upd a u (.tup [.int a0,.int t])) c (.lst (ys++[.ref u]))) (ys++[.ref u]) (ws.take (i+1)):=λc i x ys a r C b g o e=>by obtain ⟨w0,k,J,rfl,M⟩:=I.get C;refine ⟨k,w0.1,w0.2,rfl,b _ _ (v _ _ M),λu B=>?_⟩;obtain ⟨H3,e_,D,x3⟩:=N_ B (HO.tup [V.int w0.1,V.int w0.2]);rw [<-e_];clear e_;have e3:=D _ _ g;refine ⟨D,e3,bO r (aB b D),?_⟩;rw [gF J];have Y:KT H3 (upd H3 c (HO.lst (ys++[V.ref u]))):=iD e3 (bG _);exact ((e.same D).kt Y).app (.cons ⟨u,rfl,Y _ _ x3⟩ .nil)
 have last:∀ (ys:aD) (a:Hp),aG H1 a->bZ a ys (ws.take rs.length)->∀ d,a d=none->∀ n,(upd a d (.tup ys)) n=none->Q (.ref n) (upd (upd a d (.tup ys)) n (.tup [.int aj,.ref d])):=λys a b e d z n y=>by rw [N,gG] at e;have U:aG a (upd a d (HO.tup ys)):=bM z _;have x5:(upd a d (HO.tup ys)) d=some (.tup ys):=aO;generalize upd a d (HO.tup ys)=H5 at U x5 y;have S:aG H5 (upd H5 n (HO.tup [V.int aj,V.ref d])):=bM y _;exact q _ _ (aB v (aB b (aB U S))) ⟨n,d,ys,rfl,aO,S _ _ x5,e.same (aB U S)⟩
 rcases p with p|p
 ·refine ⟨_,rfl,.inl ⟨_,rfl,l,rfl,⟨_,aQ (v _ _ p)⟩,λc r=>?_⟩⟩;refine rO (xs:=rs) (λi ys a=>aG H1 a/\a c=some (.lst ys)/\ys.length<=i/\bZ a ys (ws.take i)) ⟨bO r (cO H1),aO,d_ _,.nil⟩ (aN (by lk)) (by rintro i ys a hi ⟨b,g,o,e⟩;exact ⟨aQ (b _ _ (v _ _ p)),g,o⟩) ?_ ?_
  ·rintro i x ys a C ⟨b,g,o,e⟩;obtain ⟨k,a0,t,rfl,j,O⟩:=step c i x ys a r C b g o e;isplit;refine ⟨_,rfl,k,_,_,_,rfl,rfl,aX j,rfl,_,rfl,k,_,_,_,rfl,rfl,aX j,rfl,aN (by kl_no),λu B=>?_⟩;obtain ⟨_,W,R,L⟩:=O u B;exact ⟨W,R,aO,by rw [dj];simp;lk, L⟩
  ·rintro ys a ⟨b,g,o,e⟩;exact ⟨c,_,rfl,.inl ⟨aQ g,λd z=>⟨aN (by kl_no),λn y=>last ys a b e d z n y⟩⟩⟩
 ·refine ⟨_,rfl,.inr ⟨_,rfl,l,rfl,⟨_,aX (v _ _ p)⟩,λc r=>?_⟩⟩;refine rT (xs:=rs) (λi ys a=>aG H1 a/\a c=some (.lst ys)/\ys.length<=i/\bZ a ys (ws.take i)) ⟨bO r (cO H1),aO,d_ _,.nil⟩ (aN (by lk)) (by rintro i ys a hi ⟨b,g,o,e⟩;exact ⟨aX (b _ _ (v _ _ p)),g,o⟩) ?_ ?_
  ·rintro i x ys a C ⟨b,g,o,e⟩;obtain ⟨k,a0,t,rfl,j,O⟩:=step c i x ys a r C b g o e;isplit;refine ⟨_,rfl,k,_,_,_,rfl,rfl,aX j,rfl,_,rfl,k,_,_,_,rfl,rfl,aX j,rfl,aN (by kl_no),λu B=>?_⟩;obtain ⟨_,W,R,L⟩:=O u B;exact ⟨W,R,aO,by rw [dj];simp;lk, L⟩
  ·rintro ys a ⟨b,g,o,e⟩;exact ⟨c,_,rfl,.inl ⟨aQ g,λd z=>⟨aN (by kl_no),λn y=>last ys a b e d z n y⟩⟩⟩
def Af:Ge Z "net_of" 6 ["wide","wickets"] adt:=(Rv Z).imp adz
def anl:Gc Z "net_of" 6 ["wide","wickets"] Uw:=(Rv Z).non λ_ _ _ _ h=>h
def aaR:Gc Z "is_number" 1 ["word"] ach:=by
 o_head (cL Z.Xk,["word","figures"]);obtain ⟨x,rfl,len,q⟩:=h;have ed:(ofString "-")=⟨#[45]⟩:=by k_go
 refine ⟨_,(aL (bB 1 nd (ud (kY (jg nU acW acX aar (pv 0) (ak bA au))) (nG aej (pv 0) (nY aA) nW) (pv 0)))
 (aL (cu (PW.pt (tD (kZ (Q6 tE tE aA (jC aau rfl T.Vh Sy (ak (pv 1) au)) (yh rfl Z.PL))) (vZ (kZ (kY (jC (Qx rfl) rfl T.Vi boot_all (ak (gJ ["sign"] [] rfl (aei (pv 1)) (by k_all) (by k_mem) (by row_wit1 (S5 aa' (pv 0) (adC rfl Z.Ru) (by with_unfolding_all rfl)))) au)))))))
 (aP (bf pF))
 cj)
 (aP (bf (aeE (je cT (pv 0) bA) (qT (je pG (qZ apE (pv 1) aA (λ_ _=>rfl)) bA))))))),?_⟩
 try dsimp only [bN]
 refine ⟨_,rfl,rfl,x,ofString "-",rfl,rfl,?_⟩;rw [ed,aiw];w_left;by_cases B:(Ls x).head?=some 45
 ·refine cA (d7 B) ?_;have xl:1<=x.length:=by
   rw [<-cY];cases h:Ls x with
   |nil=>rw [h] at B;cases B
   |cons a b=>simp
  refine ⟨_,rfl,1,rfl,x,1,rfl,rfl,rfl,xl,aN (by lk),?_⟩;have e:Ls (wI x 1)=eZ (Ls x):=by unfold eZ;rw [bF B];show (Ls x).drop 1=_;exact List.drop_one
  have yl:(wI x 1).length<=5000:=by rw [<-cY];show ((Ls x).drop 1).length<=_;rw [jO,cY];lk
  generalize wI x 1=y at e yl
  try dsimp only [kj]
  refine ⟨_,rfl,y,rfl,aN (by lk),_,_,rfl,rfl,_,rfl,?_⟩;by_cases l:(1:Int)<=(y.length:Int)
  rotate_left
  ·exact bK (by simpa using l) ⟨_,rfl,cA rfl (q false H (cO _) (uU λz=>l (by have:=z.1;rw [<-e,cY] at this;lk)))⟩
  refine cA (d7 l) ?_;by_cases t:(y.length:Int)<=60
  rotate_left
  ·exact ⟨_,_,rfl,rfl,_,rfl,cA (by simpa using t) (q false H (cO _) (uU λz=>t (by have:=z.2.1;rw [<-e,cY] at this;lk)))⟩
  refine ⟨_,_,rfl,rfl,_,rfl,bK (by simpa using t) ⟨_,rfl,y,rfl,λJ C=>?_⟩⟩;refine Rn (x:=y) (λi ys d=>aG H d/\d J=some (.lst ys)/\ys=(((Ls y).take i).map λc=>decide (48<=c/\c<=57)).map V.bl) ⟨bO C (cO H),aO,rfl⟩ (aN (by show (Ls y).length<=_;rw [cY];lk)) (by rintro i ys d ⟨j,g,W⟩;exact ⟨g,by rw [W,bD,bD,eF];lk⟩) ?_ ?_
  ·rintro i c ys d k ⟨j,g,rfl⟩;isplit;refine ⟨_,rfl,_,_,rfl,rfl,?_⟩;rw [adH c];refine ⟨g,bO C j,aO,?_⟩;have p:(Ls y)[i]?=some c:=by unfold Ls;rw [SM];exact k
   rw [gF p,dF,dF];rfl
  ·rintro ys d ⟨j,g,rfl⟩;have S:((Ls y).take y.cps.size)=Ls y:=sI (by rw [cY];exact bJ _);rw [S] at g;refine ⟨J,_,rfl,aQ g,?_⟩;have m:(((Ls y).map λc=>decide (48<=c/\c<=57)).all id=true)↔PySem.NumText.AllDigits (eZ (Ls x)):=by
    rw [<-e,xU];constructor
    ·intro h c k;exact iM (h _ (gW.mpr ⟨c,k,rfl⟩))
    ·intro h b U;obtain ⟨c,k,rfl⟩:=gW.mp U;exact d7 (h c k)
   cases ea:((Ls y).map λc=>decide (48<=c/\c<=57)).all id with
   |false =>rw [ea] at m;refine ⟨_,rfl,cA rfl ?_⟩;exact q false d j (uU λz=>absurd (m.mpr z.2.2.1) (by decide))
   |true =>
    rw [ea] at m;have N:=m.mp rfl;walk2;sr_in;have u:(ofString "0")=Mk [48]:=by k_go
    have L:1<=(eZ (Ls x)).length:=by rw [<-e,cY];lk
    have I:(eZ (Ls x)).length<=60:=by rw [<-e,cY];lk
    by_cases n:x=Mk [48]
    ·exact cA (by rw [n,u];simp) (q true d j (Io ⟨L,I,N,.inl (by rw [n];rfl)⟩))
    ·refine bK (λz=>n (u ▸ V.str.inj (iM z))) ?_;obtain ⟨c,r,O⟩:∃ c r,Ls y=c::r:=by
      cases h:Ls y with
      |nil=>rw [<-cY,h] at l;simp at l
      |cons c r=>exact ⟨c,r,rfl⟩
     refine ⟨_,rfl,y,0,c,rfl,rfl,aN (by lk),by show gD (Ls y) 0=some c;rw [O];simp [gD,rF],rfl,?_⟩;have hx:Ls x≠[48]:=λz=>n (by rw [<-wJ x,z]);refine q _ d j ?_;have D:(V.str (⟨#[c]⟩:Str)=V.str (ofString "0"))↔c=48:=by
      rw [u];constructor
      ·intro z;have:=gM Ls (V.str.inj z);exact (GC this).1
      ·intro z;rw [z];rfl
     have M:(eZ (Ls x)).head?=some c:=by rw [<-e,O];rfl
     by_cases o:c=48
     ·rw [d7 (D.mpr o)];exact uU λz=>z.2.2.2.elim hx λy=>y (by rw [M,o])
     ·rw [kh (λz=>o (D.mp z))];exact Io ⟨L,I,N,.inr (by rw [M];exact λz=>o (gw z))⟩
 ·refine bK (by simpa using B) ?_;w_left;obtain ⟨y,Y⟩:∃ y,y=x:=⟨x,rfl⟩;have e:Ls y=eZ (Ls x):=by unfold eZ;rw [bw B,Y]
  have yl:y.length<=5000:=by rw [Y];exact len
  have hy:∀ (R:V->Prop),R (.str y)->R (.str x):=λR h=>Y ▸ h;refine hy (λv=>kj 1 v _ _ _) ?_
  try dsimp only [kj]
  refine ⟨_,rfl,y,rfl,aN (by lk),_,_,rfl,rfl,_,rfl,?_⟩;by_cases l:(1:Int)<=(y.length:Int)
  rotate_left
  ·exact bK (by simpa using l) ⟨_,rfl,cA rfl (q false H (cO _) (uU λz=>l (by have:=z.1;rw [<-e,cY] at this;lk)))⟩
  refine cA (d7 l) ?_;by_cases t:(y.length:Int)<=60
  rotate_left
  ·exact ⟨_,_,rfl,rfl,_,rfl,cA (by simpa using t) (q false H (cO _) (uU λz=>t (by have:=z.2.1;rw [<-e,cY] at this;lk)))⟩
  refine ⟨_,_,rfl,rfl,_,rfl,bK (by simpa using t) ⟨_,rfl,y,rfl,λJ C=>?_⟩⟩;refine Rn (x:=y) (λi ys d=>aG H d/\d J=some (.lst ys)/\ys=(((Ls y).take i).map λc=>decide (48<=c/\c<=57)).map V.bl) ⟨bO C (cO H),aO,rfl⟩ (aN (by show (Ls y).length<=_;rw [cY];lk)) (by rintro i ys d ⟨j,g,W⟩;exact ⟨g,by rw [W,bD,bD,eF];lk⟩) ?_ ?_
  ·rintro i c ys d k ⟨j,g,rfl⟩;isplit;refine ⟨_,rfl,_,_,rfl,rfl,?_⟩;rw [adH c];refine ⟨g,bO C j,aO,?_⟩;have p:(Ls y)[i]?=some c:=by unfold Ls;rw [SM];exact k
   rw [gF p,dF,dF];rfl
  ·rintro ys d ⟨j,g,rfl⟩;have S:((Ls y).take y.cps.size)=Ls y:=sI (by rw [cY];exact bJ _);rw [S] at g;refine ⟨J,_,rfl,aQ g,?_⟩;have m:(((Ls y).map λc=>decide (48<=c/\c<=57)).all id=true)↔PySem.NumText.AllDigits (eZ (Ls x)):=by
    rw [<-e,xU];constructor
    ·intro h c k;exact iM (h _ (gW.mpr ⟨c,k,rfl⟩))
    ·intro h b U;obtain ⟨c,k,rfl⟩:=gW.mp U;exact d7 (h c k)
   cases ea:((Ls y).map λc=>decide (48<=c/\c<=57)).all id with
   |false =>rw [ea] at m;refine ⟨_,rfl,cA rfl ?_⟩;exact q false d j (uU λz=>absurd (m.mpr z.2.2.1) (by decide))
   |true =>
    rw [ea] at m;have N:=m.mp rfl;walk2;sr_in;have u:(ofString "0")=Mk [48]:=by k_go
    have L:1<=(eZ (Ls x)).length:=by rw [<-e,cY];lk
    have I:(eZ (Ls x)).length<=60:=by rw [<-e,cY];lk
    by_cases n:x=Mk [48]
    ·exact cA (by rw [n,u];simp) (q true d j (Io ⟨L,I,N,.inl (by rw [n];rfl)⟩))
    ·refine bK (λz=>n (u ▸ V.str.inj (iM z))) ?_;obtain ⟨c,r,O⟩:∃ c r,Ls y=c::r:=by
      cases h:Ls y with
      |nil=>rw [<-cY,h] at l;simp at l
      |cons c r=>exact ⟨c,r,rfl⟩
     refine ⟨_,rfl,y,0,c,rfl,rfl,aN (by lk),by show gD (Ls y) 0=some c;rw [O];simp [gD,rF],rfl,?_⟩;have hx:Ls x≠[48]:=λz=>n (by rw [<-wJ x,z]);refine q _ d j ?_;have D:(V.str (⟨#[c]⟩:Str)=V.str (ofString "0"))↔c=48:=by
      rw [u];constructor
      ·intro z;have:=gM Ls (V.str.inj z);exact (GC this).1
      ·intro z;rw [z];rfl
     have M:(eZ (Ls x)).head?=some c:=by rw [<-e,O];rfl
     by_cases o:c=48
     ·rw [d7 (D.mpr o)];exact uU λz=>z.2.2.2.elim hx λy=>y (by rw [M,o])
     ·rw [kh (λz=>o (D.mp z))];exact Io ⟨L,I,N,.inr (by rw [M];exact λz=>o (gw z))⟩
def Qq:Gc Z "is_number" 1 ["word"] adG:=(aaR Z).imp aoP
def Qs:Gc Z "number_of" 2 ["word"] aoC:=by
 o_head (cL Z.Xl,["word"]);obtain ⟨n,rfl,a,b,q⟩:=h;refine ⟨_,(aL (cu (kZ (kY (aZ (Qq Z) hr.m rfl (ak (pv 0) au))))
 (aP rR)
 cj)
 (aP (bf (dM QM rfl T.wD xM (ak (pv 0) au))))),?_⟩
 try dsimp only [bN]
 refine ⟨_,rfl,n,rfl,a,b,λH1 c=>?_⟩;walk2;exact ⟨_,rfl,_,n,rfl,aqi a b,by show 1<=640;decide,q _ c⟩
def aiY:Gc Z "wicket_of" 3 ["word"] aqj:=by
 o_head (cL Z.Xm,["word","parts"]);obtain ⟨w0,rfl,a,q⟩:=h;refine ⟨_,(aL (bB 1 nd (jg nU acY acZ aaz (pv 0) (ak bA au)))
 (aP (bf (cU (ak (aZ (Qs Z) hr.m rfl (ak (bQ (pv 1) aA) au)) (ak (aZ (Qs Z) hr.m rfl (ak (bQ (pv 1) aA) au)) au)))))),?_⟩
 try dsimp only [bN]
 have g:(ofString "-")=⟨#[45]⟩:=by k_go
 refine ⟨_,rfl,rfl,nA w0,ofString "-",rfl,rfl,rfl,aN (by kl_no),λt i=>?_⟩;rw [g,aoB a];dsimp only;km_lay t H1 i j b;exact ⟨_,rfl,t,_,_,_,rfl,rfl,aX b,rfl,w0.1,rfl,a.1,a.2.1,λH2 c=>⟨_,rfl,t,_,_,_,rfl,rfl,aX (c _ _ b),rfl,w0.2,rfl,a.2.2.1,a.2.2.2,λk e=>⟨aN (by kl_no),λu d=>q u _ (aB j (aB c (aB e (bM d _)))) aO⟩⟩⟩
def ahT:Gc Z "wickets_of" 4 ["text"] aoE:=by
 refine cL Z.Xn λf fd F=>?_;have T:=Z.T;refine F.fn.ok agP (λvs H Q E h=>?_) (λN A outer s H vs Q E hr h=>?_)
 ·obtain ⟨ws,rfl,_⟩:=h;rfl
 ·obtain ⟨ws,rfl,I,len,q⟩:=h;refine ⟨_,(aL (cu (bW cT (pv 0) bA)
  (aP (bf (cQ au)))
  cj)
  (aL (cu (kZ (kY (jg nU acW acX aar (pv 0) (ak bA au))))
  (aP rR)
  cj)
  (aP (bf (gJ ["word"] [] rfl (lM (jg nU z7 z8 Cp (nG aej (pv 0) (nY aA) nW) (ak bA au))) (by k_all) (by k_mem) (by row_wit1 (aZ (aiY Z) hr.m rfl (ak (pv 0) au)))))))),?_⟩
  try dsimp only [bN]
  sr_in;cases ws with
  |nil =>refine cA (by k_go) ?_;refine ⟨aN (by kl_no),λl j=>?_⟩;exact q l _ (bM j _) ⟨[],aO,.nil⟩
  |cons w0 r =>
   have L:(ofString " ")=⟨#[32]⟩:=by k_go
   have C:=QS (w0::r);rw [gj] at C len;have U:(Mk (jG (w0::r))).length=4*(r.length+1):=by rw [<-cY];exact C
   refine bK (λz=>?_) ?_
   ·have R:=iM z;have e:=gM (λv=>match v with|V.str x=>x.length|_=>0) R;have S:(Mk (jG (w0::r))).length=0:=e;lk
   refine ⟨_,rfl,rfl,Mk (jG (w0::r)),ofString " ",rfl,rfl,?_⟩;rw [L,ag7];walk2;refine ⟨_,rfl,1,rfl,Mk (jG (w0::r)),1,rfl,rfl,rfl,by lk, aN (by lk),rfl,?_⟩;have o:(wI (Mk (jG (w0::r))) 1).length<=100000:=by rw [<-cY];show ((jG (w0::r)).drop 1).length<=_;rw [jO];lk
   refine ⟨_,ofString " ",rfl,rfl,rfl,o,λl j=>?_⟩;rw [L,ahC I];km_lay j H1 j M p;refine ⟨l,rfl,⟨_,aQ p⟩,λn u=>?_⟩;refine rO (xs:=((w0::r).map nA).map V.str) (λi ys a=>aG H1 a/\a n=some (.lst ys)/\bZ a ys ((w0::r).take i)) ⟨bO u (cO H1),aO,.nil⟩ (aN (by rw [bD,bD,gj];lk)) (by rintro i ys a hi ⟨g,c,b⟩;exact ⟨aQ (g _ _ p),c,by have:=b.len;rw [eF] at this;lk⟩) ?_ ?_
   ·rintro i x ys a d ⟨g,c,b⟩;rw [lN,lN] at d;obtain ⟨v,B,rfl⟩:∃ v,(w0::r)[i]?=some v/\x=V.str (nA v):=by
     cases J:(w0::r)[i]? with
     |none=>rw [J] at d;cases d
     |some v=>rw [J] at d;exact ⟨v,rfl,(gw d).symm⟩
    isplit;refine ⟨_,rfl,v,rfl,I v (fQ B),λt H2 k O=>?_⟩;have D:=k _ _ c;refine ⟨D,bO u (aB g k),aO,?_⟩;rw [gF B];have y:KT H2 (upd H2 n (HO.lst (ys++[V.ref t]))):=iD D (bG _);exact ((b.same k).kt y).app (.cons ⟨t,rfl,y _ _ O⟩ .nil)
   ·rintro ys a ⟨g,c,b⟩;rw [bD,bD,gG] at b;exact q n a (aB M g) ⟨ys,c,b⟩
def akZ:Gc Z "read_net" 7 ["text"] aqk:=by
 refine cL Z.Xo λf fd F=>?_;have T:=Z.T;have Af:=(anl Z).imp adz;o_head ["text","parts","wide","wickets"];obtain ⟨aj,ws,rfl,i,b,ok,len,q⟩:=h;have o:=Uy b ok;have z:=zR aj ws;have r:(ofString ":")=⟨#[58]⟩:=by k_go
 refine ⟨_,(aL (cu (kZ (kY (jC Fy rfl T.xu boot_isinstance (ak (pv 0) (ak (Aa (v:=V.ty "str") (u:=.type "str") rfl T.mJ (by k_go) rfl) au)))))
 (aP rR)
 cj)
 (aL (bB 1 nd (jg nU acY acZ aaz (pv 0) (ak bA au)))
 (aL (cu (bW cT (bQ (pv 1) aA) bA)
 (aP rR)
 cj)
 (aL (bB 2 nd (aZ (Qs Z) hr.m rfl (ak (bQ (pv 1) aA) au)))
 (aL (bB 3 nd (aZ (ahT Z) hr.m rfl (ak (bQ (pv 1) aA) au)))
 (aL (cu (kZ (kY (aZ (Qp Z) hr.m rfl (ak (pv 2) (ak (pv 3) au)))))
 (aP rR)
 cj)
 (aP (bf (aZ Af hr.m rfl (ak (pv 2) (ak (pv 3) au))))))))))),?_⟩
 try dsimp only [bN]
 refine ⟨_,rfl,_,_,_,true,rfl,jh.str _,rfl,_,rfl,bK (by decide) ⟨_,rfl,rfl,jK aj ws,ofString ":",rfl,rfl,rfl,aN (by lk),λt j=>?_⟩⟩;rw [r,amx (by lk) (by lk)];dsimp only;km_lay t H1 j k a;refine ⟨_,rfl,t,_,_,_,rfl,rfl,aX a,rfl,rfl,_,rfl,bK (by k_go) ⟨_,rfl,t,_,_,_,rfl,rfl,aX a,rfl,aj,rfl,by lk, by lk, λH2 g=>⟨_,rfl,t,_,_,_,rfl,rfl,aX (g _ _ a),rfl,ws,rfl,o,len,λl y n e=>⟨_,rfl,_,rfl,aj,l,ws,rfl,e,i,b,ok,len,λx d=>?_⟩⟩⟩⟩;walk2;exact ⟨_,rfl,_,rfl,aj,l,ws,rfl,e.same d,i,b,ok,len,λv B p c=>q v _ (aB k (aB g (aB n (aB d p)))) c⟩
def ak0:Gc Z "show_net" 1 ["net"] adF:=by
 refine cL Z.Xp λf fd F=>?_;have T:=Z.T;refine F.fn.ok ahQ (λvs H Q E h=>?_) (λJ A outer s H vs Q E hr h=>?_)
 ·obtain ⟨v,aj,ws,rfl,_⟩:=h;rfl
 ·obtain ⟨v,aj,ws,rfl,⟨n,t,rs,rfl,B,u,o⟩,O,D,ok,len,q⟩:=h;have l:=o.len;have m:=Uy D ok;have y:=Dm (n:=aj) (by lk) (by lk);refine ⟨_,(aP (bf (aY dZ (aY dZ (dM qD rfl T.mJ nF (ak (bQ (pv 0) aA) au)) bA) (jg nU Lg Lh LK bA (ak (gJ ["first","second"] [] rfl (oH (bQ (pv 0) aA)) (by w_tab) (by k_mem) (by row_wit1 (aj9 (Lz bA (Lz (adB (pv 0)) (Lz bA (Lz (adB (pv 1)) aqf))))))) au))))),?_⟩
  try dsimp only [bN]
  refine ⟨_,rfl,n,_,_,_,rfl,rfl,aX B,rfl,aj,rfl,Ck (by lk) (by lk),bT aj,":",rfl,rfl,aN (by rw [y];show 1+1<=100000;decide),rfl,_,rfl,n,_,_,_,rfl,rfl,aX B,rfl,t,rfl,⟨_,aX u⟩,λz p=>?_⟩;refine rT (xs:=rs) (λi ys d=>aG H d/\d z=some (.lst ys)/\ys=((ws.take i).map zu).map V.str) ⟨bO p (cO H),aO,rfl⟩ (aN (by lk)) (by rintro i ys d hi ⟨b,a,L⟩;exact ⟨aX (b _ _ u),a,by rw [L,bD,bD,eF];lk⟩) ?_ ?_
  ·rintro i x ys d M ⟨b,a,rfl⟩;obtain ⟨w0,I,c,rfl,k⟩:=o.get M;have f0:=m w0 (fQ c);have g:=Dm f0.1 f0.2.1;have n2:=Dm f0.2.2.1 f0.2.2.2;refine ⟨I,_,rfl,aX (b _ _ k),rfl,_,_,rfl,_,_,rfl,rfl,⟨.inl rfl,.inl rfl,trivial⟩,mZ ⟨" ",rfl,aN (by rw [dO];show 0+1<=_;decide),_,rfl,w0.1,rfl,Ck f0.1 f0.2.1,bT w0.1,rfl,aN (by rw [dO,dO,g];show 0+1+1<=_;decide),"-",rfl,aN (by rw [dO,dO,dO,g];show 0+1+1+1<=_;decide),_,rfl,w0.2,rfl,Ck f0.2.2.1 f0.2.2.2,bT w0.2,rfl,aN (by rw [dO,dO,dO,dO,g,n2];show 0+1+1+1+1<=_;decide),aN (by rw [dO,dO,dO,dO,g,n2];show 0+1+1+1+1<=_;decide),a,bO p b,aO,?_⟩⟩;rw [gF c,dF,dF];rfl
  ·rintro ys d ⟨b,a,rfl⟩;rw [l,gG] at a;have C:(ofString "")=empty:=by k_go
   have sl:=Tp zu (n:=4) ws λw j=>Ua (aph (m w j));have r:=join_none ws λw j=>aeA (m w j);have N:(Txt.join empty (ws.map zu)).length=4*ws.length:=by rw [<-cY,r,QS]
   refine ⟨ofString "",z,ws.map zu,rfl,rfl,aQ a,?_,?_⟩
   ·rw [bD,C];show _+ws.length*0<=_;lk
   ·rw [C];refine ⟨_,_,rfl,rfl,aN (by rw [dO,y,N];show 1+1+4*ws.length<=100000;lk),?_⟩;have e:bT aj++(":":Str)++Txt.join empty (ws.map zu)=jK aj ws:=by refine pD ?_;rw [dJ,dJ,r,Az (by lk) (by lk)];rfl
    rw [e];exact q _ b
def aac:Ge Z "refuse_unless_halved" 2 ["wide"] (amk eA.fW):=by
 refine tU Z.Xq λf fd F=>?_;have T:=Z.T;have Cm:=(Qo Z);obtain ⟨c,b,sq⟩:=Z.GH.ex;o_head (["wide"],1,1);obtain ⟨x,rfl,h⟩:=h;refine ⟨_,(aP (cu (PW.pt (tD (kZ (kY (aZ Cm hr.m rfl (ak (pv 0) au)))) (vZ (Lk agU (pv 0) (xZ (v:=V.ref _) rfl b rfl) (by with_unfolding_all rfl)))))
 (aP (xP Z.uY.vP rfl Z.uY.uf (ak bA au)))
 cj)),?_⟩
 try dsimp only [bN]
 have a:∀ i:Int,x=.int i->wC (.int i) [V.int 1,V.int 2,V.int 4,V.int 8]=decide (sZ i):=λi _=>by rw [vX,nQ];unfold sZ;simp only [wC,tW,zU,List.any_nil,Bool.or_false,sH,oh];lk
 rcases h with ⟨i,rfl,hi,q⟩|⟨o|⟨i,rfl,hi⟩,q⟩
 ·refine ⟨_,rfl,_,rfl,.inl ⟨i,rfl,?_⟩⟩;walk2;refine ⟨_,rfl,c,_,rfl,.inr (sq H),rfl,rfl,_,rfl,bK ?_ q⟩;show ¬ (!wC (.int i) [V.int 1,V.int 2,V.int 4,V.int 8])=true;rw [a i rfl,d7 hi];decide
 ·exact ⟨_,rfl,_,rfl,.inr ⟨o,_,rfl,cA (by decide) ⟨by show 1<=1000;decide,q⟩⟩⟩
 ·refine ⟨_,rfl,_,rfl,.inl ⟨i,rfl,?_⟩⟩;walk2;refine ⟨_,rfl,c,_,rfl,.inr (sq H),rfl,rfl,_,rfl,cA ?_ ?_⟩
  ·show (!wC (.int i) [V.int 1,V.int 2,V.int 4,V.int 8])=true;rw [a i rfl,kh hi];rfl
  ·exact ⟨by show 1<=1000;decide,q⟩
def aaf:Gc Z "in_both_halves" 1 ["wickets","half"] aby:=by
 o_head (cL Z.Xr,["wickets","half"]);obtain ⟨l,ws,k,rfl,⟨rs,j,y⟩,len,q⟩:=h;have D:=y.len;refine ⟨_,(aP (bf (aY j_ (dM JC rfl T.Ay Ce (ak (pv 0) au)) (gJ ["first","second"] [("half",1)] rfl (Hs (lM (pv 0)) (oH (pv 0))) (by w_tab) (by k_mem) (by row_wit1 (cU (ak (aY gZ (pv 0) (pv 2)) (ak (aY gZ (pv 1) (pv 2)) au)))))))),?_⟩
 try dsimp only [bN]
 refine ⟨_,rfl,l,_,rfl,j.imp aQ aX,λr f1=>?_⟩;km_lay f1 H1 f1 o S;have step:∀ (b:Addr) (i:Nat) (x:V) (ys:aD) (a:Hp),H1 b=none->rs[i]?=some x->aG H1 a->a b=some (.lst ys)->bZ a ys ((ws.take i).map (iY k))->∃ g a0 p,x=.ref g/\a g=some (.tup [.int a0,.int p])/\∀ u,a u=none->(upd a u (.tup [.int (a0+k),.int (p+k)])) b=some (.lst ys)/\aG H1 (upd (upd a u (.tup [.int (a0+k),.int (p+k)])) b (.lst (ys++[.ref u])))/\bZ (upd (upd a u (.tup [.int (a0+k),.int (p+k)])) b (.lst (ys++[.ref u]))) (ys++[.ref u]) ((ws.take (i+1)).map (iY k)):=λb i x ys a m v c e d=>by obtain ⟨w0,g,z,rfl,C⟩:=y.get v;refine ⟨g,w0.1,w0.2,rfl,c _ _ (o _ _ C),λu t=>?_⟩;obtain ⟨Y,e_,L,x3⟩:=N_ t (HO.tup [V.int (w0.1+k),V.int (w0.2+k)]);rw [<-e_];clear e_;have e3:=L _ _ e;refine ⟨e3,bO m (aB c L),?_⟩;rw [gF z,dF];have U:KT Y (upd Y b (HO.lst (ys++[V.ref u]))):=iD e3 (bG _);exact ((d.same L).kt U).app (.cons ⟨u,rfl,U _ _ x3⟩ .nil)
 have last:∀ (b:Addr) (ys:aD) (a:Hp),aG H1 a->bZ a ys ((ws.take rs.length).map (iY k))->∀ lo,a lo=none->Q (.ref lo) (upd a lo (.lst (rs++ys))):=λb ys a c d lo W=>by rw [D,gG] at d;have M:=aB o c;have s5:aG a (upd a lo (HO.lst (rs++ys))):=bM W _;exact q lo _ (M.free W) (aB M s5) ⟨_,aO,((y.same M).app d).same s5⟩
 rcases j with j|j
 ·refine .inl ⟨_,rfl,l,rfl,⟨_,aQ (o _ _ j)⟩,λb m=>?_⟩;refine rO (xs:=rs) (λi ys a=>aG H1 a/\a b=some (.lst ys)/\ys.length<=i/\bZ a ys ((ws.take i).map (iY k))) ⟨bO m (cO H1),aO,d_ _,.nil⟩ (aN (by lk)) (by rintro i ys a hi ⟨c,e,r,d⟩;exact ⟨aQ (c _ _ (o _ _ j)),e,r⟩) ?_ ?_
  ·rintro i x ys a v ⟨c,e,J,d⟩;obtain ⟨g,a0,p,rfl,n,I⟩:=step b i x ys a m v c e d;refine ⟨g,_,rfl,aX n,rfl,_,_,rfl,_,_,rfl,rfl,⟨.inl rfl,.inl rfl,.inr rfl,trivial⟩,mZ ⟨_,rfl,_,rfl,_,_,rfl,rfl,_,rfl,_,rfl,_,_,rfl,rfl,aN (by kl_no),λu t=>?_⟩⟩;obtain ⟨O,N,B⟩:=I u t;exact ⟨O,N,aO,by rw [dj];simp;lk, B⟩
  ·rintro ys a ⟨c,e,J,d⟩;have R:=d.len;rw [bD,eF] at R;exact ⟨r,b,_,_,rfl,rfl,c _ _ S,e,aN (by lk),last b ys a c d⟩
 ·refine .inr ⟨_,rfl,l,rfl,⟨_,aX (o _ _ j)⟩,λb m=>?_⟩;refine rT (xs:=rs) (λi ys a=>aG H1 a/\a b=some (.lst ys)/\ys.length<=i/\bZ a ys ((ws.take i).map (iY k))) ⟨bO m (cO H1),aO,d_ _,.nil⟩ (aN (by lk)) (by rintro i ys a hi ⟨c,e,r,d⟩;exact ⟨aX (c _ _ (o _ _ j)),e,r⟩) ?_ ?_
  ·rintro i x ys a v ⟨c,e,J,d⟩;obtain ⟨g,a0,p,rfl,n,I⟩:=step b i x ys a m v c e d;refine ⟨g,_,rfl,aX n,rfl,_,_,rfl,_,_,rfl,rfl,⟨.inl rfl,.inl rfl,.inr rfl,trivial⟩,mZ ⟨_,rfl,_,rfl,_,_,rfl,rfl,_,rfl,_,rfl,_,_,rfl,rfl,aN (by kl_no),λu t=>?_⟩⟩;obtain ⟨O,N,B⟩:=I u t;exact ⟨O,N,aO,by rw [dj];simp;lk, B⟩
  ·rintro ys a ⟨c,e,J,d⟩;have R:=d.len;rw [bD,eF] at R;exact ⟨r,b,_,_,rfl,rfl,c _ _ S,e,aN (by lk),last b ys a c d⟩
def Pk:Gc Z "in_both_halves" 1 ["wickets","half"] ab8:=(aaf Z).imp amn
def adS:Gc Z "across" 1 ["wide"] aml:=by
 o_head (cL Z.Xu,["wide"]);obtain ⟨aj,rfl,z,y,q⟩:=h;refine ⟨_,(aP (bf (gJ ["lane"] [("wide",0)] rfl (jU rfl T.iT (ak (aY oY (pv 0) aA) au)) (by k_all) (by k_mem) (by row_wit1 (cU (ak (pv 0) (ak (aY iI (aY iI (pv 1) aA) (pv 0)) au))))))),?_⟩
 try dsimp only [bN]
 w_fin;refine ⟨_,rfl,by lk, by lk, λj c=>?_⟩;refine qG (n:=(aj / 2).toNat) (λi ys a=>aG H a/\a j=some (.lst ys)/\ys.length<=i/\bZ a ys ((range i).map λk:Nat=>((k:Int),aj-1-(k:Int)))) ⟨bO c (cO H),aO,d_ _,.nil⟩ (aN (by lk)) (by rintro i ys a ⟨_,e,l,_⟩;exact ⟨e,l⟩) ?_ ?_
 ·rintro i ys a hi ⟨m,b,x,g⟩;got_up;refine ⟨_,rfl,_,rfl,_,_,rfl,rfl,_,rfl,_,_,rfl,rfl,aN (by kl_no),λu t=>?_⟩;km_lay t p t d v;have r:=d _ _ b;refine ⟨r,bO c (aB m d),aO,by rw [dj];simp;lk, ?_⟩;rw [mW,dF];have o:KT p (upd p j (HO.lst (ys++[V.ref u]))):=iD r (bG _);rw [qK] at v;exact ((g.same d).kt o).app (.cons ⟨u,rfl,o _ _ v⟩ .nil)
 ·rintro ys a ⟨m,b,x,g⟩;exact q j a c m ⟨ys,b,g⟩
def af4:Gc Z "by_falling_gaps" 1 ["wide"] aqa:=by
 o_head (cL Z.Xv,["wide","wickets","gap"]);obtain ⟨k,rfl,k2,q⟩:=h;have p1:=wu k;have ps:=yq k;have p8:=yG (k:=k+1) (by lk);refine ⟨_,(aL (bB 1 nd (cQ au))
 (aL (bB 2 nd (aY oY (pv 0) aA))
 (aL (JT iR  (bW tG (pv 2) aA)
 (aL (pX (jg ux SN SQ Qv (pv 1) (ak (gJ ["lane"] [("gap",2)] rfl (jU rfl T.iT (ak (pv 0) au)) (by k_all) (by row_wit1 (GK (bW cT (aY jY (aY oY (pv 0) (pv 1)) aA) aA))) (by row_wit1 (cU (ak (pv 0) (ak (aY gZ (pv 0) (pv 1)) au))))) au)))
 (aP (Ul (i:=2) nd rfl (by k_in) aA adu))))
 (aP (bf (pv 1)))))),?_⟩
 try dsimp only [bN]
 refine ⟨aN (by kl_no),λl t=>?_⟩;km_lay t H1 t s1 x1;w_fin;have e4:pw (k+1) / 4=pw k / 2:=by lk
 dsimp only;rw [e4];refine Te (λm σ d=>∃ (ws:aK) (rs:aD),m<=k/\σ=[some (.int (pw (k+1))),some (.ref l),some (.int (pw m / 2))]/\aG H d/\d l=some (.lst rs)/\bZ d rs ws/\ws++tM m (pw (k+1))=tM k (pw (k+1))/\ws.length+m*8<=16) k ⟨[],[],bJ _,rfl,s1,x1,.nil,rfl,by show 0+k*8<=16;lk⟩ ?_ ?_
 ·rintro m σ d ⟨ws,rs,mk,rfl,M,I,r,Y,aut⟩;have lw:=r.len;refine ⟨_,rfl,_,_,rfl,rfl,_,rfl,?_⟩;cases m with
  |zero =>
   refine bK (by decide) ?_;w_left;have e0:ws=tM k (pw (k+1)):=by rw [<-Y];exact (kO ws).symm
   rw [e0] at r;exact q l d t M ⟨rs,I,r⟩
  |succ m =>
   have pm:=yq m;have pmp:=wu m;have pm8:=yG (k:=m) (by lk);have eg:pw (m+1) / 2=pw m:=by lk
   rw [eg];refine cA (d7 (show (0:Int)<pw m by lk)) ⟨_,rfl,.inl ⟨rfl,_,aQ I⟩,_,rfl,_,rfl,by lk, by lk, λC S=>?_⟩;refine qG (n:=(pw (k+1)).toNat) (λj zs a=>aG d a/\a C=some (.lst zs)/\zs.length<=j/\bZ a zs (((range j).filter λi:Nat=>decide ((i:Int) / pw m % 2=0)).map λi:Nat=>((i:Int),(i:Int)+pw m))) ⟨bO S (cO d),aO,d_ _,.nil⟩ (aN (by lk)) (by rintro j zs a ⟨_,e,x,_⟩;exact ⟨e,x⟩) ?_ ?_
   ·rintro j zs a hj ⟨g,o,x,p⟩;refine ⟨⟨.inl rfl,.inr rfl,trivial⟩,_,rfl,_,rfl,_,_,rfl,rfl,⟨by lk, by lk⟩,_,_,rfl,rfl,(show (0:Int)<2 by decide),rfl,_,rfl,?_⟩;rw [mW,vI,dF];by_cases c:(j:Int) / pw m % 2=0
    ·refine cA (d7 (gM V.int (by rw [qK];exact c))) ⟨_,rfl,_,rfl,_,rfl,_,_,rfl,rfl,aN (by kl_no),λu R=>?_⟩;km_lay R N R D U;have y:=D _ _ o;refine ⟨y,bO S (aB g D),aO,by rw [dj];simp;lk, ?_⟩;have L:KT N (upd N C (HO.lst (zs++[V.ref u]))):=iD y (bG _);rw [qK] at U;have one:(([j].filter λi:Nat=>decide ((i:Int) / pw m % 2=0)).map λi:Nat=>((i:Int),(i:Int)+pw m))=[((j:Int),(j:Int)+pw m)]:=by simp [c]
     rw [one];exact ((p.same D).kt L).app (.cons ⟨u,rfl,L _ _ U⟩ .nil)
    ·refine bK (by rw [nQ];intro z;have W:=V.int.inj z;rw [qK] at W;exact c W) ?_;have Hy:(([j].filter λi:Nat=>decide ((i:Int) / pw m % 2=0)).map λi:Nat=>((i:Int),(i:Int)+pw m))=[]:=by simp [c]
     rw [Hy,kO];exact ⟨g,o,by lk, p⟩
   ·rintro zs a ⟨g,o,x,p⟩;have J:=g _ _ I;refine ⟨l,C,_,_,rfl,rfl,J,o,aN (by lk),?_⟩;have O:KT a (upd a l (HO.lst (rs++zs))):=iD J (bG _);have B:=p.len;have gl:(Ej (pw (k+1)) (pw m)).length<=8:=by have:zs.length<=(pw (k+1)).toNat:=x;show (Ej (pw (k+1)) (pw m)).length<=8;unfold Ej;rw [<-B];lk
    refine ⟨_,rfl,_,_,rfl,rfl,⟨by decide,by decide⟩,m,Aj _,ws++Ej (pw (k+1)) (pw m),rs++zs,by lk, rfl,bO t (aB M g),aO,((r.same g).kt O).app (p.kt O),?_,?_⟩
    ·rw [<-Y,zV];rfl
    ·rw [dj];lk
 ·rintro σ d Q1 Q2 hm ⟨v,e,h⟩;refine ⟨v,e,?_⟩;obtain ⟨i,j,e1,o,b,y,h⟩:=h;exact ⟨i,j,e1,o,b,y,hm _ _ h⟩
def aiZ:dz P w K mg aF (lF P w) 7 f fd ["wide"] (ug eA.fW 0):=⟨λvs H Q E h=>by rcases h with ⟨k,_,h,_⟩|⟨h,_⟩<;>exact absurd h (uq _),λA outer s H a us vs Q E _ _ _ _ h=>by rcases h with ⟨k,_,h,_⟩|⟨h,_⟩<;>exact absurd h (uq _)⟩
def ai0 {m:Nat} (F:lU K mg "folded" Rr f fd) (Tv:qO P w K mg aF "folded" (m+7) ["wide"] (ug eA.fW n)):dz P w K mg aF (lF P w) (m+8) f fd ["wide"] (ug eA.fW (n+1)):=by
 have T:=Z.T;have Af:=(Rv Z);have Pk:=(aaf Z);refine F.fn.Ik Gd (λvs H Q E h=>?_) (λcdv A outer s H vs Q E hr h=>?_)
 ·rcases h with ⟨k,rfl,_⟩|⟨_,x,rfl,_⟩<;>rfl
 ·refine ⟨_,(aL (pX (jV (aac Z) hr.m rfl (ak (pv 0) au)))
  (aL (cu (bW cT (pv 0) aA)
  (aP (bf (cU (ak (jV Af hr.m rfl (ak aA (ak (cU au) au))) (ak (cU (ak bA au)) au)))))
  cj)
  (aL (bB 1 Gd.nd (aY oY (pv 0) aA))
  (aL (bB 2 Gd.nd (jV Tv hr.m rfl (ak (pv 1) au)))
  (aL (bB 3 Gd.nd (aZ Pk hr.m rfl (ak (bQ (bQ (pv 2) aA) aA) (ak (pv 1) au))))
  (aL (bB 4 Gd.nd (cU (ak bA (ak (jH T (pv 3)) (ak (dM (aaK rfl) rfl T.o7 qF (ak (dM abr rfl T.iT JD (ak (pv 1) au)) au)) (ak (dM (aaK rfl) rfl T.o7 qF (ak (dM abq rfl T.iT JD (ak (pv 1) (ak (pv 0) au))) au)) (ak (bQ (pv 2) aA) (ak (bQ (pv 2) aA) au))))))))
  (aP (bf (cU (ak (jV Af hr.m rfl (ak (pv 0) (ak (aY j_ (aY j_ (pv 3) (aZ (adS Z) hr.m rfl (ak (pv 0) au))) (aZ (af4 Z) hr.m rfl (ak (pv 0) au))) au))) (ak (pv 4) au))))))))))),?_⟩
  rcases h with ⟨k,rfl,kn,k3,q⟩|⟨_,x,rfl,hx,q⟩
  rotate_left
  ·exact ⟨_,rfl,_,rfl,.inr ⟨hx,q⟩⟩
  have hv:sZ (pw k):=by
   have:k=0\/k=1\/k=2\/k=3:=by lk
   rcases this with z|z|z|z<;>subst z
   ·exact .inl rfl
   ·exact .inr (.inl rfl)
   ·exact .inr (.inr (.inl rfl))
   ·exact .inr (.inr (.inr rfl))
  refine ⟨_,rfl,_,rfl,.inl ⟨_,rfl,hv,?_⟩⟩;sr_in;cases k with
  |zero =>refine cA (by decide) ?_;refine ⟨aN (by kl_no),λt0 f0=>?_⟩;obtain ⟨H0,d,s0,x0⟩:=N_ f0 (HO.tup []);rw [<-d];clear d;refine ⟨1,t0,[],rfl,⟨[],.inr x0,.nil⟩,by decide,by decide,λw hw=>(nomatch hw),by decide,λv H1 N gC=>?_⟩;refine ⟨aN (by kl_no),λt2 f2=>?_⟩;obtain ⟨H2,d,a,x2⟩:=N_ f2 (HO.tup [V.str "one"]);rw [<-d];clear d;refine ⟨aN (by kl_no),λt3 b=>?_⟩;have c:aG H2 (upd H2 t3 (HO.tup [v,V.ref t2])):=bM b _;have fK:=aB s0 (aB N a);exact q t3 v (.ref t2) _ (fK.free b) (aB fK c) aO (gC.kt (b_ (aB a c) (bG _))) (.one (c _ _ x2))
  |succ k =>
   have ps:=yq k;have pp:=wu k;have p8:=yG k3;have bl:=(fold_all (k:=k) (by lk)).2;obtain ⟨uT,M⟩:=fold_all (k:=k+1) k3;have fe:jo (k+1)=(jo k++(jo k).map (iY (pw k)))++pY (pw (k+1))++tM k (pw (k+1)):=rfl;have fl:(jo k++(jo k).map (iY (pw k))).length+(pY (pw (k+1))).length+(tM k (pw (k+1))).length<=24:=by rw [<-dj,<-dj,<-fe];exact M
   refine bK (by rw [nQ];intro z;have:=V.int.inj z;lk) ?_;w_fin;have eh:pw (k+1) / 2=pw k:=by lk
   dsimp only;rw [eh];refine ⟨_,rfl,.inl ⟨k,rfl,by lk, by lk, λS vi pi H1 fT N J r R=>?_⟩⟩;obtain ⟨ni,ti,ri,rfl,L,p,y⟩:=id r;refine ⟨_,rfl,S,_,_,_,rfl,rfl,aX J,rfl,ni,_,_,_,rfl,rfl,aX L,rfl,_,rfl,ti,_,pw k,rfl,⟨ri,.inr p,y⟩,by lk, λlw H2 fw a ⟨rw2,xw,i⟩=>?_⟩;have B:=i.len;refine ⟨_,rfl,lw,_,rfl,.inl (aQ xw),_,rfl,_,rfl,λr3 b=>?_⟩;km_lay b H3 b c x3;refine ⟨r3,0,pw k,rfl,x3,by decide,by decide,by lk, by lk, by lk, λt4 f4=>?_⟩;km_lay f4 H4 f4 s4 x4;refine ⟨_,rfl,_,rfl,_,_,rfl,λr5 f5=>?_⟩;km_lay f5 H5 f5 s5 x5;refine ⟨r5,pw k,pw (k+1),rfl,x5,by lk, by lk, by lk, by lk, by lk, λt6 W=>?_⟩;km_lay W H6 W s6 x6;have Jd:=aB c (aB s4 (aB s5 s6));have wZ:=aB a Jd;refine ⟨_,rfl,S,_,_,_,rfl,rfl,aX (wZ _ _ J),rfl,_,rfl,S,_,_,_,rfl,rfl,aX (wZ _ _ J),rfl,aN (by kl_no),λt7 f7=>?_⟩;km_lay f7 H7 f7 s7 x7;have o:=aB Jd s7;refine ⟨_,rfl,_,rfl,_,rfl,pw (k+1),rfl,by lk, p8,λla H8 fa I ⟨ra,xa,Je⟩=>?_⟩;have la2:=Je.len;refine ⟨lw,la,_,_,rfl,rfl,I _ _ (o _ _ xw),xa,aN (by lk),λlc fc=>?_⟩;km_lay fc H9 fc s9 x9;have r9:=((i.same (aB o I)).app Je).same s9;refine ⟨_,rfl,k,rfl,by lk, λlg Ha fg C ⟨rg,xg,Ou⟩=>?_⟩;have lg2:=Ou.len;refine ⟨lc,lg,_,_,rfl,rfl,C _ _ x9,xg,aN (by rw [dj];lk),λlz fz=>?_⟩;km_lay lz Hb fz sb xb;have U:=((r9.same C).app Ou).same sb;rw [<-fe] at U;refine ⟨pw (k+1),lz,jo (k+1),rfl,⟨_,.inl xb,U⟩,by lk, p8,uT,by lk, λv Hc sc D=>?_⟩;have l:=aB I (aB s9 (aB C (aB sb sc)));refine ⟨_,rfl,aN (by kl_no),λtd j=>?_⟩;have O:aG Hc (upd Hc td (HO.tup [v,V.ref t7])):=bM j _;have Y:=aB N (aB a (aB o l));have u:=aB l O;have g:=aB s7 u;have t:=aB s5 (aB s6 g);have e:=R.same (aB a (aB o u));rw [B] at x7;exact q td v (.ref t7) _ (Y.free j) (aB Y O) aO (D.kt (b_ O (bG _))) (.WX (u _ _ x7) (t _ _ x4) (g _ _ x6) e e)
def anm (n:Nat):qO P w K mg aF "folded" (n+7) ["wide"] (ug eA.fW n):=by
 obtain ⟨_,_,F⟩:=Z.Xw;induction n with
 |zero=>exact F.Lw aiZ (by k_dec)
 |succ n a=>exact F.Lw (ai0 Z F a) (by k_dec)
def Tv:Ge Z "folded" 11 ["wide"] (ug eA.fW 4):=(anm Z 4)
def ak1:dz P w K mg aF jj 1 f fd ["wide"] (uF 0):=⟨by rintro vs H Q E ⟨k,_,h,_,_⟩;exact absurd h (uq _),by rintro A outer s H a us vs Q E _ _ _ _ ⟨k,_,h,_,_⟩;exact absurd h (uq _)⟩
def ak2 {m:Nat} (F:lU K mg "block" Tt f fd) (U4:mC P w K mg aF "block" (m+1) ["wide"] (uF n)):dz P w K mg aF jj (m+2) f fd ["wide"] (uF (n+1)):=by
 have T:=Z.T;refine F.fn.ok acu (λvs H Q E h=>?_) (λB A outer s H vs Q E hr h=>?_)
 ·obtain ⟨k,rfl,_⟩:=h;rfl
 ·obtain ⟨k,rfl,kn,v,q⟩:=h;refine ⟨_,(aL (cu (bW cT (pv 0) aA)
  (aP (bf (cQ au)))
  cj)
  (aL (bB 1 acu.nd (aY oY (pv 0) aA))
  (aP (bf (aY j_ (aZ (adS Z) hr.m rfl (ak (pv 0) au)) (aZ (Pk Z) hr.m rfl (ak (aZ U4 hr.m rfl (ak (pv 1) au)) (ak (pv 1) au)))))))),?_⟩
  try dsimp only [bN]
  sr_in;cases k with
  |zero =>refine cA (by decide) ?_;refine ⟨aN (by kl_no),λl e=>?_⟩;exact q l _ e (bM e _) ⟨[],aO,.nil⟩
  |succ k =>
   have ps:=yq k;have pp:=wu k;have O:=yG v;have W:=Lx (k:=k) (by lk);refine bK (by rw [nQ];intro z;have:=V.int.inj z;lk) ?_;w_fin;have M:pw (k+1) / 2=pw k:=by lk
   dsimp only;rw [M];refine ⟨_,rfl,pw (k+1),rfl,by lk, O,λC H1 U u ⟨r,L,j⟩=>⟨_,rfl,k,rfl,by lk, by lk, λt H2 S I b=>⟨_,rfl,t,_,pw k,rfl,b,by lk, λJ i R x ⟨y,p,a⟩=>?_⟩⟩⟩;have c:=aB I x;have Y:=j.len;have D:=a.len;have N:(pY (pw (k+1))).length<=4:=by unfold pY;rw [bD,xW];lk
   rw [dj,bD] at D;refine ⟨C,J,_,_,rfl,rfl,c _ _ L,p,aN (by lk),λlo g=>?_⟩;have o:aG i (upd i lo (HO.lst (r++y))):=bM g _;have d:=aB u c;exact q lo _ (d.free g) (aB d o) ⟨_,aO,((j.same c).app a).same o⟩
def apl (n:Nat):mC P w K mg aF "block" (n+1) ["wide"] (uF n):=by
 obtain ⟨_,_,F⟩:=Z.Xx;induction n with
 |zero=>exact F.callee ak1 (by k_dec)
 |succ n a=>exact F.callee (ak2 Z F a) (by k_dec)
def U4:Gc Z "block" 6 ["wide"] (uF 4):=(apl Z 4).mono (by decide)
def apm:Ge Z "rounds" 7 ["wide"] (JQ eA.fW):=by
 o_head (tU Z.Xy,["wide","wickets","left"],0);refine ⟨_,(aL (pX (jV (aac Z) hr.m rfl (ak (pv 0) au)))
 (aL (bB 1 nd (cQ au))
 (aL (bB 2 nd (pv 0))
 (aL (JT SX  (bW tG (pv 2) aA)
 (aL (pX (jg ux SN SQ Qv (pv 1) (ak (aZ (U4 Z) hr.m rfl (ak (pv 0) au)) au)))
 (aP (Ul (i:=2) nd rfl (by k_in) aA adu))))
 (aP (bf (jV (Af Z) hr.m rfl (ak (pv 0) (ak (pv 1) au))))))))),?_⟩
 rcases h with ⟨k,rfl,c,q⟩|⟨x,rfl,hx,q⟩
 ·obtain ⟨Wx,d⟩:=GZ c;have D:=wu k;have p8:=yG c;have Y:=Lx c;have W:sZ (pw k):=by
   have:k=0\/k=1\/k=2\/k=3:=by lk
   rcases this with z|z|z|z<;>subst z
   ·exact .inl rfl
   ·exact .inr (.inl rfl)
   ·exact .inr (.inr (.inl rfl))
   ·exact .inr (.inr (.inr rfl))
  refine ⟨_,rfl,_,rfl,.inl ⟨_,rfl,W,aN (by kl_no),λl g=>?_⟩⟩;km_lay g H1 g O C;w_left;refine Te (λm σ a=>∃ ys,σ=[some (.int (pw k)),some (.ref l),some (.int (pw m))]/\m<=k/\aG H a/\a l=some (.lst ys)/\bZ a ys (replicate (k-m) (rC k)).flatten) k ⟨[],rfl,bJ _,O,C,by rw [R0];exact .nil⟩ ?_ ?_
  ·rintro m σ a ⟨ys,rfl,mk,t,n,o⟩;refine ⟨_,rfl,_,_,rfl,rfl,_,rfl,?_⟩;cases m with
   |zero =>refine bK (by decide) ?_;exact ⟨_,rfl,_,rfl,pw k,l,_,rfl,⟨ys,n,o⟩,D,p8,Wx,d,λv H' s' p=>q v H' (aB t s') p⟩
   |succ m =>
    have ps:=yq m;have pp:=wu m;have S:=o.len;rw [Qw] at S;have N:(k-(m+1))*(rC k).length<=36:=eU (Ld (show k-(m+1)<=3 by lk) Y) (by decide);refine cA (d7 (by lk)) ⟨_,rfl,.inl ⟨rfl,_,aQ n⟩,_,rfl,k,rfl,by lk, c,λM H2 fb j ⟨r,U,u⟩=>?_⟩;have lr:=u.len;have b:=j _ _ n;refine ⟨l,M,_,_,rfl,rfl,b,U,aN (by lk),_,rfl,_,_,rfl,rfl,⟨by decide,by decide⟩,m,Aj _,ys++r,?_,by lk, bO g (aB t j),aO,?_⟩
    ·have eh:pw (m+1) / 2=pw m:=by lk
     show [some (V.int (pw k)),some (V.ref l),some (V.int (pw (m+1) / 2))]=_;rw [eh]
    ·have B:KT H2 (upd H2 l (HO.lst (ys++r))):=iD b (bG _);have e:(replicate (k-m) (rC k)).flatten=(replicate (k-(m+1)) (rC k)).flatten++rC k:=by rw [show k-m=(k-(m+1))+1 by lk, CZ,List.flatten_append];simp
     rw [e];exact ((o.same j).kt B).app (u.kt B)
  ·rintro σ a Q' L R ⟨y,f0,a1,a2,a3,a4,I,J,h2⟩;exact ⟨y,f0,a1,a2,a3,a4,I,J,R _ _ h2⟩
 ·exact ⟨_,rfl,_,rfl,.inr ⟨hx,q⟩⟩
def aqC:Ge Z "brick" 7 ["wide"] (J0 eA.fW):=by
 refine tU Z.Xz λf fd F=>?_;have T:=Z.T;have Cm:=(Qo Z);refine F.fn.Ik Rt (λvs H Q E h=>?_) (λcdv A outer s H vs Q E hr h=>?_)
 ·rcases h with ⟨aj,rfl,_⟩|⟨x,rfl,_⟩<;>rfl
 ·refine ⟨_,(aL (cu (PW.pt (tD (kZ (kY (aZ Cm hr.m rfl (ak (pv 0) au)))) (vZ (kZ (Q6 tE tE aA (pv 0) (yh rfl Z.Fz))))))
  (aP (xP Z.uY.vP rfl Z.uY.uf (ak bA au)))
  cj)
  (aL (bB 1 Rt.nd (cQ au))
  (aL (jd SX rfl  (jU rfl T.iT (ak (pv 0) au)) (dI 2 Rt.nd)
  (aP (pX (jg ux SN SQ Qv (pv 1) (ak (gJ ["lane"] [] rfl (ajQ rfl T.iT (ak (aY jY (pv 2) aA) (ak (aY iI (pv 0) aA) (ak aA au)))) (by k_all) (by k_mem) (by row_wit1 (cU (ak (pv 0) (ak (aY gZ (pv 0) aA) au))))) au)))))
  (aP (bf (jV (Af Z) hr.m rfl (ak (pv 0) (ak (pv 1) au)))))))),?_⟩
  rcases h with ⟨aj,rfl,N,C,q⟩|⟨x,rfl,o|⟨i,rfl,hi⟩,q⟩
  rotate_left
  ·exact ⟨_,rfl,_,rfl,.inr ⟨o,_,rfl,cA (by decide) ⟨by show 1<=1000;decide,q⟩⟩⟩
  ·refine ⟨_,rfl,_,rfl,.inl ⟨i,rfl,?_⟩⟩;walk2;refine ⟨_,rfl,_,_,rfl,rfl,_,rfl,?_⟩;by_cases c:1<=i
   ·exact cA (d7 c) ⟨_,_,rfl,rfl,_,rfl,cA (by simp;lk) ⟨by show 1<=1000;decide,q⟩⟩
   ·exact bK (by simp;lk) ⟨_,rfl,cA (by decide) ⟨by show 1<=1000;decide,q⟩⟩
  obtain ⟨y,L⟩:=Gn N C;refine ⟨_,rfl,_,rfl,.inl ⟨aj,rfl,?_⟩⟩;walk2;refine ⟨_,rfl,_,_,rfl,rfl,_,rfl,cA (d7 N) ⟨_,_,rfl,rfl,_,rfl,bK (by simp;lk) ⟨aN (by kl_no),λl B=>?_⟩⟩⟩;km_lay B H1 B s1 x1;refine ⟨_,rfl,aj,rfl,by lk, by lk, ?_⟩;refine u_ (n:=aj.toNat) (λi σ b=>∃ R ys,σ=[some (.int aj),some (.ref l),R]/\aG H b/\b l=some (.lst ys)/\bZ b ys ((range i).flatMap (yN aj))) ⟨none,[],rfl,s1,x1,.nil⟩ ?_ ?_
  ·rintro i σ b hi ⟨R,ys,rfl,D,d,r⟩;have lys:=r.len;have fi:=acv aj C i;refine ⟨_,rfl,.inl ⟨rfl,_,aQ d⟩,_,rfl,_,_,rfl,rfl,(show (0:Int)<2 by decide),_,rfl,_,_,rfl,rfl,_,_,rfl,⟨by lk, by lk, by lk, by lk⟩,λt p=>?_⟩;rw [qK];have nl:n2 ((i:Int) % 2) (aj-1)<=5:=by unfold n2;lk
   refine amf (n:=n2 ((i:Int) % 2) (aj-1)) (λj zs a=>aG b a/\a t=some (.lst zs)/\zs.length<=j/\bZ a zs ((range j).map λk:Nat=>((i:Int) % 2+(k:Int)*2,(i:Int) % 2+(k:Int)*2+1))) ⟨bO p (cO b),aO,d_ _,.nil⟩ (aN (by lk)) (by rintro j zs a ⟨_,e,J,_⟩;exact ⟨e,J⟩) ?_ ?_
   ·rintro j zs a hj ⟨g,M,J,O⟩;isplit;refine ⟨_,rfl,_,rfl,_,_,rfl,rfl,aN (by kl_no),λu fu=>?_⟩;km_lay fu Y fu I x3;have e3:=I _ _ M;refine ⟨e3,bO p (aB g I),aO,by rw [dj];simp;lk, ?_⟩;rw [mW,dF];have W:KT Y (upd Y t (HO.lst (zs++[V.ref u]))):=iD e3 (bG _);exact ((O.same I).kt W).app (.cons ⟨u,rfl,W _ _ x3⟩ .nil)
   ·rintro zs a ⟨g,M,J,O⟩;have U:=g _ _ d;have ll:l≠t:=λz=>by rw [z] at d;rw [d] at p;cases p
    refine ⟨l,t,_,_,rfl,rfl,U,M,aN (by lk),_,_,rfl,bO B (aB D g),aO,?_⟩;rw [aa8];have k5:KT a (upd a l (HO.lst (ys++zs))):=iD U (bG _);exact ((r.same g).kt k5).app (O.kt k5)
  ·rintro σ b ⟨R,ys,rfl,D,d,r⟩;exact ⟨_,rfl,_,rfl,aj,l,_,rfl,⟨ys,d,r⟩,N,C,y,L,λv H' s' S=>q v H' (aB D s') S⟩
def adT:Ge Z "joined" 1 ["wide","wickets"] (al6 eA):=by
 o_head (tU Z.XD,["wide","wickets"],0);obtain ⟨aj,t,rs,ws,rfl,d,b,len,q⟩:=h;have i:=b.len;refine ⟨_,(aL (cu (bW tG (jH T (pv 1)) (yh rfl Z.Jz))
 (aP (xP Z.zx.Ga rfl Z.zx.xH (ak bA au)))
 cj)
 (aP (bf (cU (ak (pv 0) (ak (pv 1) au)))))),?_⟩
 try dsimp only [bN]
 refine ⟨_,rfl,t,_,rfl,.inr (aX d),_,_,rfl,rfl,_,rfl,?_⟩;rcases q with ⟨c,q⟩|⟨c,q⟩
 ·exact cA (d7 (by lk)) ⟨by show 1<=1000;decide,q⟩
 ·refine bK (by simp;lk) ⟨_,rfl,_,rfl,aN (by kl_no),λe g=>?_⟩;have a:aG H (upd H e (HO.tup [V.int aj,V.ref t])):=bM g _;exact q _ _ a ⟨e,t,rs,rfl,aO,a _ _ d,b.same a⟩
def ano:Gc Z "renamed" 1 ["wickets","order"] ajA:=by
 o_head (cL Z.XF,["wickets","order"]);obtain ⟨t,rs,aj,ws,o,m,rfl,r,p,ok,len,v,lo,q⟩:=h;have k:=p.len;refine ⟨_,(aP (bf (dM uc rfl T.o7 qF (ak (gJ ["first","second"] [("order",1)] rfl (oH (pv 0)) (by w_tab) (by k_mem) (by row_wit1 (cU (ak (qZ (Gi K rfl) (pv 2) (pv 0) (λ_ _=>rfl)) (ak (qZ (Gi K rfl) (pv 2) (pv 1) (λ_ _=>rfl)) au))))) au)))),?_⟩
 try dsimp only [bN]
 refine ⟨_,rfl,t,rfl,⟨_,aX r⟩,λl y=>?_⟩;refine rT (xs:=rs) (λi ys a=>aG H a/\a l=some (.lst ys)/\bZ a ys ((ws.take i).map (HS m))) ⟨bO y (cO H),aO,.nil⟩ (aN (by lk)) (by rintro i ys a hi ⟨b,c,e⟩;exact ⟨aX (b _ _ r),c,by have:=e.len;simp at this;lk⟩) ?_ ?_
 ·rintro i x ys a N ⟨b,c,e⟩;obtain ⟨B,O,g,rfl,n⟩:=p.get N;obtain ⟨L,U,I,R,S⟩:=bC.mem ok g;refine ⟨O,_,rfl,aX (b _ _ n),rfl,_,_,rfl,_,_,rfl,rfl,⟨.inl rfl,.inl rfl,.inr rfl,trivial⟩,mZ ⟨_,rfl,_,rfl,o,_,_,_,rfl,rfl,aQ (b _ _ v),nZ L (by lk),_,rfl,_,rfl,o,_,_,_,rfl,rfl,aQ (b _ _ v),nZ I (by lk),aN (by kl_no),λu j=>?_⟩⟩;have d:u≠l:=λz=>by rw [z,c] at j;cases j
  refine ⟨by rw [bh (bL d)];exact c,bO y (aB b (bM j _)),aO,?_⟩;rw [gF g,dF];have J:KT a (upd (upd a u (HO.tup [V.int (m.getD B.1.toNat 0),V.int (m.getD B.2.toNat 0)])) l (HO.lst (ys++[V.ref u]))):=iD ((bh (bL d)).trans c) (KT.new j (bG _));exact (e.kt J).app (.cons ⟨u,rfl,(bh d).trans aO⟩ .nil)
 ·rintro ys a ⟨b,c,e⟩;rw [k,gG] at e;refine ⟨l,_,rfl,.inl ⟨aQ c,λD M=>?_⟩⟩;have C:aG a (upd a D (HO.tup ys)):=bM M _;exact q D ys _ (aB b C) aO (e.same C)
def apn:Ge Z "behind" 2 ["one","other"] (Dv eA yj):=by
 o_head (tU Z.XH,["one","other"],0);obtain ⟨R,W,l,r,us,ws,rfl,⟨i,B,J,rfl,a,j,g⟩,⟨n2,C,I,rfl,b,x,e⟩,S,V,N,M,o,u,U,O,q⟩:=h;have p:=g.len;have v:=e.len;refine ⟨_,(aL (cu (bW pG (bQ (pv 0) aA) (bQ (pv 1) aA))
 (aP (xP Z.zx.vP rfl Z.zx.uf (ak bA au)))
 cj)
 (aP (bf (jV (adT Z) hr.m rfl (ak (bQ (pv 0) aA) (ak (aY Tj (bQ (pv 0) aA) (bQ (pv 1) aA)) au)))))),?_⟩
 try dsimp only [bN]
 refine ⟨_,rfl,i,_,_,_,rfl,rfl,aX a,rfl,_,rfl,n2,_,_,_,rfl,rfl,aX b,rfl,rfl,_,rfl,?_⟩;unfold yj at q;by_cases c:l=r
 ·rw [bw (λz=>z c)] at q;refine bK (by simp [c]) ⟨_,rfl,i,_,_,_,rfl,rfl,aX a,rfl,_,rfl,i,_,_,_,rfl,rfl,aX a,rfl,_,rfl,n2,_,_,_,rfl,rfl,aX b,rfl,B,C,_,_,rfl,rfl,j,x,aN (by lk),λD L k y=>⟨l,D,_,us++ws,rfl,y,(g.app e).same k,by rw [dj];lk, ?_⟩⟩;rw [dj];by_cases d:40<us.length+ws.length
  ·rw [bF d] at q;exact .inl ⟨d,q _ k⟩
  ·rw [bw d] at q;exact .inr ⟨by lk, λv' H' n t=>q v' H' (aB k n) t⟩
 ·rw [bF c] at q;exact cA (by simp [c]) ⟨by show 1<=1000;decide,q _ (cO _)⟩
def apo:Ge Z "beside" 2 ["one","other"] (Dv eA yp):=by
 o_head (tU Z.XJ,["one","other","wide"],0);obtain ⟨v1,v2,a,e,us,ws,rfl,⟨p,t1,Jf,rfl,b,t,l⟩,⟨n2,t2,C,rfl,g,Y,j⟩,a1,a8,b1,b8,I,i,l1,O,q⟩:=h;have J:=l.len;have W:=j.len;refine ⟨_,(aL (bB 2 nd (aY gZ (bQ (pv 0) aA) (bQ (pv 1) aA)))
 (aL (cu (bW tG (pv 2) (yh rfl Z.Fz))
 (aP (xP Z.zx.vP rfl Z.zx.uf (ak bA au)))
 cj)
 (aP (bf (jV (adT Z) hr.m rfl (ak (pv 2) (ak (aY Tj (bQ (pv 0) aA) (aZ (ano Z) hr.m rfl (ak (bQ (pv 1) aA) (ak (dM (aax rfl) rfl T.Ay Ce (ak (dM abq rfl T.iT JD (ak (bQ (pv 0) aA) (ak (pv 2) au))) au)) au)))) au))))))),?_⟩
 try dsimp only [bN]
 refine ⟨_,rfl,p,_,_,_,rfl,rfl,aX b,rfl,_,rfl,n2,_,_,_,rfl,rfl,aX g,rfl,_,_,rfl,rfl,_,rfl,_,_,rfl,rfl,_,rfl,?_⟩;unfold yp at q;by_cases c:8<a+e
 ·rw [bF c] at q;exact cA (by simpa using c) ⟨by show 1<=1000;decide,q _ (cO _)⟩
 ·rw [bw c] at q;refine bK (by simpa using c) ⟨_,rfl,_,rfl,p,_,_,_,rfl,rfl,aX b,rfl,_,rfl,n2,_,_,_,rfl,rfl,aX g,rfl,_,rfl,p,_,_,_,rfl,rfl,aX b,rfl,_,rfl,a,a+e,rfl,λr y=>?_⟩;km_lay y H2 y R S;refine ⟨r,a,a+e,rfl,S,by lk, by lk, by lk, by lk, by lk, λlo k=>?_⟩;km_lay k H3 k N x3;have n:=aB R N;refine ⟨t2,C,e,ws,lo,j7 a (a+e),rfl,n _ _ Y,j.same n,i,O,x3,?_,λU IV H4 D M x=>?_⟩
  ·simp only [j7,bD,xW];lk
  rw [lift_map i] at x;have o:=x.len;rw [bD] at o;have z:=aB n D;refine ⟨t1,U,_,_,rfl,rfl,z _ _ t,M,aN (by lk),λt5 H5 B L=>?_⟩;have v:=aB z B;refine ⟨a+e,t5,_,us++ws.map (iY a),rfl,L,(l.same v).app (x.same B),by rw [dj,bD];lk, ?_⟩;rw [dj,bD];by_cases d:40<us.length+ws.length
  ·rw [bF d] at q;exact .inl ⟨d,q _ v⟩
  ·rw [bw d] at q;exact .inr ⟨by lk, λv' H' V u=>q v' H' (aB v V) u⟩
def ak3:Gc Z "mirrored" 1 ["net"] Ql:=by
 o_head (cL Z.XM,["net","last"]);obtain ⟨v,aj,ws,rfl,⟨n,t,rs,rfl,m,y,r⟩,len,q⟩:=h;have j:=r.len;refine ⟨_,(aL (bB 1 nd (aY iI (bQ (pv 0) aA) aA))
 (aP (bf (cU (ak (bQ (pv 0) aA) (ak (dM uc rfl T.o7 qF (ak (gJ ["first","second"] [("last",1)] rfl (oH (bQ (pv 0) aA)) (by w_tab) (by k_mem) (by row_wit1 (cU (ak (aY iI (pv 2) (pv 1)) (ak (aY iI (pv 2) (pv 0)) au))))) au)) au)))))),?_⟩
 try dsimp only [bN]
 refine ⟨_,rfl,n,_,_,_,rfl,rfl,aX m,rfl,_,_,rfl,rfl,_,rfl,n,_,_,_,rfl,rfl,aX m,rfl,_,rfl,n,_,_,_,rfl,rfl,aX m,rfl,t,rfl,⟨_,aX y⟩,λl I=>?_⟩;refine rT (xs:=rs) (λi ys a=>aG H a/\a l=some (.lst ys)/\bZ a ys ((ws.take i).map (mO aj))) ⟨bO I (cO H),aO,.nil⟩ (aN (by lk)) (by rintro i ys a hi ⟨d,b,e⟩;exact ⟨aX (d _ _ y),b,by have:=e.len;simp at this;lk⟩) ?_ ?_
 ·rintro i x ys a S ⟨d,b,e⟩;obtain ⟨J,U,p,rfl,k⟩:=r.get S;refine ⟨U,_,rfl,aX (d _ _ k),rfl,_,_,rfl,_,_,rfl,rfl,⟨.inl rfl,.inl rfl,.inr rfl,trivial⟩,mZ ⟨_,rfl,_,rfl,_,_,rfl,rfl,_,rfl,_,rfl,_,_,rfl,rfl,aN (by kl_no),λu g=>?_⟩⟩;have c:u≠l:=λz=>by rw [z,b] at g;cases g
  refine ⟨by rw [bh (bL c)];exact b,bO I (aB d (bM g _)),aO,?_⟩;rw [gF p,dF];have O:KT a (upd (upd a u (HO.tup [V.int (aj-1-J.2),V.int (aj-1-J.1)])) l (HO.lst (ys++[V.ref u]))):=iD ((bh (bL c)).trans b) (KT.new g (bG _));exact (e.kt O).app (.cons ⟨u,rfl,(bh c).trans aO⟩ .nil)
 ·rintro ys a ⟨d,b,e⟩;rw [j,gG] at e;refine ⟨l,_,rfl,.inl ⟨aQ b,λM D=>?_⟩⟩;km_lay D C D L N;refine ⟨aN (by kl_no),λB R=>?_⟩;have o:aG C (upd C B (HO.tup [V.int aj,V.ref M])):=bM R _;exact q _ _ (aB d (aB L o)) ⟨B,M,ys,rfl,aO,o _ _ N,e.same (aB L o)⟩
def anp:Gc Z "slimmed" 1 ["net"] Ur:=by
 o_head (cL Z.XQ,["net","last_on","kept","wicket"]);obtain ⟨v,aj,ws,rfl,⟨n,t,rs,rfl,hn,ht,cg⟩,w1,w8,ok,len,q⟩:=h;have J:=cg.len;refine ⟨_,(aL (bB 1 nd (aY Ax (cQ (ak kW au)) (bQ (pv 0) aA)))
 (aL (bB 2 nd (cQ au))
 (aL (jd iR rfl  (oH (bQ (pv 0) aA)) (dI 3 nd)
 (aP (cu (PW.pt (tD (bW (Ms hr.units) (cD (pv 1) (bQ (pv 3) aA)) (pv 3)) (vZ (bW (Ms hr.units) (cD (pv 1) (bQ (pv 3) aA)) (pv 3)))))
 (aL (pX (jg ux zZ z6 xK (pv 2) (ak (pv 3) au)))
 (aL (mG (pv 3) (sW (pv 1) (bQ (pv 3) aA) rK))
 (aP (mG (pv 3) (sW (pv 1) (bQ (pv 3) aA) rK)))))
 cj)))
 (aP (bf (cU (ak (bQ (pv 0) aA) (ak (dM uc rfl T.o7 qF (ak (pv 2) au)) au)))))))),?_⟩
 try dsimp only [bN]
 refine ⟨aN (by kl_no),λl0 f0=>?_⟩;km_lay f0 H0 f0 s0 x0;refine ⟨_,rfl,n,_,_,_,rfl,rfl,aX (s0 _ _ hn),rfl,l0,aj,_,rfl,rfl,x0,by lk, by lk, aN (by show 1*aj.toNat<=100000;lk),λlo fo=>?_⟩;have er:(replicate aj.toNat [V.non]).flatten=replicate aj.toNat V.non:=by
  induction aj.toNat with
  |zero=>rfl
  |succ k ih=>rw [kI,sy,ih];rfl
 rw [er];have s1:aG H (upd H0 lo (HO.lst (replicate aj.toNat V.non))):=aB s0 (bM fo _);have U:(upd H0 lo (HO.lst (replicate aj.toNat V.non))) lo=some (.lst (replicate aj.toNat V.non)):=aO;have Jg:H lo=none:=s0.free fo;generalize upd H0 lo (HO.lst (replicate aj.toNat V.non))=H1 at s1 U;refine ⟨aN (by kl_no),λd C=>?_⟩;have L:lo≠d:=cH U C;have D:aG H (upd H1 d (HO.lst [])):=aB s1 (bM C _);have x2:(upd H1 d (HO.lst [])) lo=some (.lst (replicate aj.toNat V.non)):=(bM C _) _ _ U;have y2:(upd H1 d (HO.lst [])) d=some (.lst []):=aO;have fk':H d=none:=s1.free C;generalize upd H1 d (HO.lst [])=H2 at D x2 y2;refine ⟨_,rfl,n,_,_,_,rfl,rfl,aX (D _ _ hn),rfl,t,rfl,⟨rs,aX (D _ _ ht)⟩,?_⟩;refine Li (K:=K) (a:=t) (xs:=rs) (λi σ c=>∃ v3 xs ks,σ=[some (.ref n),some (.ref lo),some (.ref d),v3]/\aG H c/\c lo=some (.lst xs)/\c d=some (.lst ks)/\qH c aj xs (jt (ws.take i))/\bZ c ks (jt (ws.take i))) ⟨none,_,_,rfl,D,x2,y2,qH.start (by lk),.nil⟩ (by rintro i σ c _ ⟨_,_,_,_,m,_⟩;exact aX (m _ _ ht)) ?_ ?_
 ·rintro i x σ c hx ⟨v3,xs,ks,rfl,m,o,r,y,l⟩;obtain ⟨w0,b,z,rfl,ht0⟩:=cg.get hx;have Ov:=bC.mem ok z;obtain ⟨o1,o2,o3,o4,o5⟩:=id Ov;have e:=m _ _ ht0;have Ow:=QD (ws.take i);rw [eF] at Ow;have zA:=l.len;have lxs:=y.1;obtain ⟨z1,d1,a1,b1,c1,m1,e1⟩:=y.at o1 o2 w0;obtain ⟨z2,d2,a2,b2,c2,m2,e2⟩:=y.at o3 o4 w0;have I:jF c (.ref b) (pairD w0):=M9 e;rw [gF z,Cg];by_cases j:idle (jt (ws.take i)) w0
  ·obtain ⟨i1,i2⟩:=(JX _ _).mpr j;have g1:=e1.mpr i1;have g2:=e2.mpr i2;refine ⟨_,rfl,_,rfl,b,_,_,_,rfl,rfl,aX e,rfl,lo,_,_,_,rfl,rfl,aQ o,a1,_,rfl,_,_,b1,I,c1,vN _ _,m1,_,rfl,bK (by simp [g1]) ⟨_,rfl,_,rfl,b,_,_,_,rfl,rfl,aX e,rfl,lo,_,_,_,rfl,rfl,aQ o,a2,_,rfl,_,_,b2,I,c2,vN _ _,m2,_,rfl,bK (by simp [g2]) ⟨_,xs,ks,rfl,m,o,r,?_,?_⟩⟩⟩
   ·unfold mL;rw [bF j];exact y
   ·unfold mL;rw [bF j];exact l
  ·dsimp only [kj,yK];refine abW λR hR=>?_;have Ox:R c:=hR c (by
    refine ⟨_,rfl,.inl ⟨rfl,_,aQ r⟩,_,rfl,d,_,_,rfl,rfl,r,pH (by lk),?_⟩;have Y:(upd c d (HO.lst (ks++[V.ref b]))) lo=some (.lst xs):=(bh L).trans o;have k3:KT c (upd c d (HO.lst (ks++[V.ref b]))):=iD r (bG _);have y3:(upd c d (HO.lst (ks++[V.ref b]))) d=some (.lst (ks++[V.ref b])):=aO;have s3:aG H (upd c d (HO.lst (ks++[V.ref b]))):=bO fk' m;generalize upd c d (HO.lst (ks++[V.ref b]))=u at Y k3 y3 s3;have Jh:=k3 _ _ e;refine ⟨_,rfl,_,rfl,_,rfl,b,_,_,_,rfl,rfl,aX Jh,rfl,lo,_,w0.1,w0.1.toNat,rfl,rfl,Y,wg o1 (by lk),?_⟩;have W:KT u (upd u lo (HO.lst (xs.set w0.1.toNat (V.ref b)))):=iD Y (bG _);have N:(upd u lo (HO.lst (xs.set w0.1.toNat (V.ref b)))) lo=some (.lst (xs.set w0.1.toNat (V.ref b))):=aO;have y4:(upd u lo (HO.lst (xs.set w0.1.toNat (V.ref b)))) d=some (.lst (ks++[V.ref b])):=(bh (bL L)).trans y3;have s4:aG H (upd u lo (HO.lst (xs.set w0.1.toNat (V.ref b)))):=bO Jg s3;generalize upd u lo (HO.lst (xs.set w0.1.toNat (V.ref b)))=H4 at W N y4 s4;have M:=W _ _ Jh;refine ⟨_,rfl,_,rfl,_,rfl,b,_,_,_,rfl,rfl,aX M,rfl,lo,_,w0.2,w0.2.toNat,rfl,rfl,N,wg o3 (by rw [jW];lk),?_⟩;have k5:KT H4 (upd H4 lo (HO.lst ((xs.set w0.1.toNat (V.ref b)).set w0.2.toNat (V.ref b)))):=iD N (bG _);have B:=wF k3 (wF W k5);refine ⟨_,_,ks++[V.ref b],rfl,bO Jg s4,aO,(bh (bL L)).trans y4,?_,?_⟩
    ·unfold mL;rw [bw j];exact (y.kt B).more Ov (B _ _ e)
    ·unfold mL;rw [bw j];exact (l.kt B).app (.cons ⟨b,rfl,B _ _ e⟩ .nil))
   refine ⟨_,rfl,_,rfl,b,_,_,_,rfl,rfl,aX e,rfl,lo,_,_,_,rfl,rfl,aQ o,a1,_,rfl,_,_,b1,I,c1,vN _ _,m1,_,rfl,kE (λg=>Ox) (λg=>⟨_,rfl,_,rfl,b,_,_,_,rfl,rfl,aX e,rfl,lo,_,_,_,rfl,rfl,aQ o,a2,_,rfl,_,_,b2,I,c2,vN _ _,m2,_,rfl,kE (λg'=>Ox) (λg'=>?_)⟩)⟩;have g1:PySem.Spec.same d1 (pairD w0)=true:=by simpa using g
   have g2:PySem.Spec.same d2 (pairD w0)=true:=by simpa using g'
   exact absurd ((JX _ _).mp ⟨e1.mp g1,e2.mp g2⟩) j
 ·rintro σ c ⟨v3,xs,ks,rfl,m,o,r,y,l⟩;rw [J,gG] at l;refine ⟨_,rfl,n,_,_,_,rfl,rfl,aX (m _ _ hn),rfl,_,rfl,d,_,rfl,.inl ⟨aQ r,λp f5=>⟨aN (by kl_no),λn6 f6=>?_⟩⟩⟩;have S:aG c (upd c p (HO.tup ks)):=bM f5 _;have x5:(upd c p (HO.tup ks)) p=some (.tup ks):=aO;generalize upd c p (HO.tup ks)=H5 at S x5 f6;have O:aG H5 (upd H5 n6 (HO.tup [V.int aj,V.ref p])):=bM f6 _;exact q _ _ (aB m (aB S O)) ⟨n6,p,ks,rfl,aO,O _ _ x5,l.same (aB S O)⟩
def ahb:Gc Z "let_through" 1 ["net","counts"] apR:=by
 o_head (cL Z.XR,["net","counts","now","odd","number","wicket","both"]);obtain ⟨v,aj,ws,c,cs,rfl,⟨n,t,rs,rfl,hn,ht,S⟩,ok,len,hc,lc,q⟩:=h;have L:=S.len;refine ⟨_,(aL (bB 2 nd (dM JC rfl T.Ay Ce (ak (pv 1) au)))
 (aL (bB 3 nd (cQ au))
 (aL (jd iR rfl  (alA rfl T.Qe (ak (bQ (pv 0) aA) au)) (pB rfl (ig (dI 4 nd) (ig (dI 5 nd) oX)))
 (aL (bB 6 nd (aY gZ (cD (pv 2) (bQ (pv 5) aA)) (cD (pv 2) (bQ (pv 5) aA))))
 (aL (mG (aY oY (aY gZ (pv 6) aA) aA) (sW (pv 2) (bQ (pv 5) aA) rK))
 (aL (mG (aY oY (pv 6) aA) (sW (pv 2) (bQ (pv 5) aA) rK))
 (aP (cu (bW cT (aY jY (pv 6) aA) aA)
 (aP (pX (jg ux zZ z6 xK (pv 3) (ak (pv 4) au))))
 cj))))))
 (aP (bf (cU (ak (pv 2) (ak (pv 3) au)))))))),?_⟩
 try dsimp only [bN]
 refine ⟨_,rfl,c,_,rfl,.inl (aQ hc),λe r=>⟨aN (by kl_no),λlo W=>?_⟩⟩;have Jg:H lo=none:=(bM r _).free W;have D:e≠lo:=cH aO W;refine ⟨_,rfl,n,_,_,_,rfl,rfl,aX (by walk_at "hh"),by rfl,t,rfl,⟨rs,aX (by walk_at "hh")⟩,?_⟩;refine Q9 (xs:=rs) (λi σ d=>∃ C R N,σ=[some (.ref n),some (.ref c),some (.ref e),some (.ref lo),C,R,N]/\aG H d/\d e=some (.lst ((cR cs (ws.take i)).map V.int))/\d lo=some (.lst ((lA 0 cs (ws.take i)).map V.int))) ⟨none,none,none,rfl,by walk_at "sm",by walk_at "hh",aO⟩ (by rintro i σ d _ ⟨_,_,_,_,k,_⟩;exact aX (k _ _ ht)) ?_ ?_
 ·rintro i x T σ d hx y ⟨C,R,N,rfl,k,p,u⟩;obtain ⟨w0,b,j,rfl,J⟩:=S.get hx;obtain ⟨Y,o2,U,o4,o5⟩:=bC.mem ok j;have il:i<ws.length:=(gb.mp j).1;have lth:=rP (ws.take i) cs;have I:=ajn (ws.take i) 0 cs;rw [eF] at I;have a:(upd d T (HO.tup [V.int i,V.ref b])) b=some (.tup [.int w0.1,.int w0.2]):=(bM y _) _ _ (k _ _ J);have o:(upd d T (HO.tup [V.int i,V.ref b])) e=some (.lst ((cR cs (ws.take i)).map V.int)):=(bM y _) _ _ p;have m:(upd d T (HO.tup [V.int i,V.ref b])) lo=some (.lst ((lA 0 cs (ws.take i)).map V.int)):=(bM y _) _ _ u;have M:aG H (upd d T (HO.tup [V.int i,V.ref b])):=aB k (bM y _);refine ⟨T,_,rfl,aX aO,rfl,?_⟩;generalize upd d T (HO.tup [V.int i,V.ref b])=H1 at a o m M;refine ⟨_,_,rfl,_,_,rfl,rfl,_,rfl,_,rfl,b,_,_,_,rfl,rfl,aX a,rfl,e,_,_,_,rfl,rfl,aQ o,nZ Y (by lk),_,rfl,_,rfl,b,_,_,_,rfl,rfl,aX a,rfl,e,_,_,_,rfl,rfl,aQ o,nZ U (by lk),_,_,rfl,rfl,_,rfl,_,_,rfl,rfl,_,_,rfl,rfl,by walk_at "side",_,rfl,_,rfl,b,_,_,_,rfl,rfl,aX a,rfl,e,_,w0.1,w0.1.toNat,rfl,rfl,o,wg Y (by rw [bD];lk),_,rfl,_,_,rfl,rfl,by walk_at "side",?_⟩;have O:b≠e:=Mz a o;refine ⟨_,rfl,_,rfl,b,_,_,_,rfl,rfl,aX ((bh O).trans a),rfl,e,_,w0.2,w0.2.toNat,rfl,rfl,aO,wg U (by rw [jW,bD];lk),?_⟩;rw [Dh];have eL:((map V.int (cR cs (ws.take i))).set w0.1.toNat (V.int (((cR cs (ws.take i)).getD w0.1.toNat 0+(cR cs (ws.take i)).getD w0.2.toNat 0+1) / 2))).set w0.2.toNat (V.int (((cR cs (ws.take i)).getD w0.1.toNat 0+(cR cs (ws.take i)).getD w0.2.toNat 0) / 2))=(cR cs (ws.take (i+1))).map V.int:=by rw [gF j,ah9,GQ,GQ];rfl
  have l:=ah_ (ws.take i) w0 0 cs;rw [<-gF j,eF,vG (by lk),K_] at l;refine ⟨_,rfl,_,_,rfl,rfl,by walk_at "side",rfl,_,rfl,kE (λg=>?_) (λg=>?_)⟩
  ·have g':iJ (cR cs (ws.take i)) w0 % 2=1:=veq g;rw [bF g'] at l;refine ⟨_,rfl,.inl ⟨rfl,_,aQ (by walk_at "hh")⟩,_,rfl,lo,_,_,rfl,rfl,by walk_at "hh",pH (by rw [bD];lk),_,_,_,rfl,bO Jg (bO r M),?_,?_⟩
   ·rw [bh D,aO];exact gM (λz=>some (HO.lst z)) eL
   ·rw [aO,l,dF];rfl
  ·have g':¬ iJ (cR cs (ws.take i)) w0 % 2=1:=vne g;rw [bw g',kO] at l;refine ⟨_,_,_,rfl,bO r M,?_,?_⟩
   ·rw [aO];exact gM (λz=>some (HO.lst z)) eL
   ·rw [bh (bL D),l];exact m
 ·rintro σ d ⟨C,R,N,rfl,k,p,u⟩;rw [L,gG] at p u;exact ⟨_,rfl,_,rfl,aN (by kl_no),λt9 B=>q t9 e lo _ (k.free B) r Jg D (aB k (bM B _)) aO ((bM B _) _ _ p) ((bM B _) _ _ u)⟩
def qW:Gc Z "exits" 2 ["net","counts"] anS:=by
 o_head (cL Z.XS,["net","counts"]);obtain ⟨v,aj,ws,c,cs,rfl,d,ok,len,g,n,q⟩:=h;refine ⟨_,(aP (bf (bQ (aZ (ahb Z) hr.m rfl (ak (pv 0) (ak (pv 1) au))) aA))),?_⟩
 try dsimp only [bN]
 exact ⟨_,rfl,_,rfl,v,aj,ws,c,cs,rfl,d,ok,len,g,n,λt a b H' p l o e j k i r=>⟨t,_,_,_,rfl,rfl,aX k,rfl,q a H' l j i⟩⟩
def adU:Gc Z "layers" 1 ["net"] alw:=by
 o_head (cL Z.X3,["net","reached","found","first","second","layer"]);obtain ⟨v,aj,ws,rfl,⟨n,t,rs,rfl,hn,ht,S⟩,w1,w8,ok,len,q⟩:=h;have D:=S.len;refine ⟨_,(aL (bB 1 nd (aY Ax (cQ (ak aA au)) (bQ (pv 0) aA)))
 (aL (bB 2 nd (cQ au))
 (aL (jd iR rfl  (oH (bQ (pv 0) aA)) (pB rfl (ig (dI 3 nd) (ig (dI 4 nd) oX)))
 (aL (bB 5 nd (aY gZ aA (jC (FQ rfl) rfl T.yD zX (ak (cD (pv 1) (pv 3)) (ak (cD (pv 1) (pv 4)) au)))))
 (aL (mG (pv 5) (sW (pv 1) (pv 3) rK))
 (aL (mG (pv 5) (sW (pv 1) (pv 4) rK))
 (aP (pX (jg ux zZ z6 xK (pv 2) (ak (pv 5) au))))))))
 (aP (bf (pv 2)))))),?_⟩
 try dsimp only [bN]
 walk_at "rd";intro O f0;obtain ⟨H1,r,m,x1⟩:∃ H1,upd H O (HO.lst [V.int 0])=H1/\aG H H1/\H1 O=some (.lst [.int 0]):=⟨_,rfl,bM f0 _,aO⟩;rw [r];refine ⟨_,rfl,n,_,_,_,rfl,rfl,aX (m _ _ hn),rfl,O,aj,_,rfl,rfl,x1,by lk, by lk, aN (by show 1*aj.toNat<=100000;lk),λa W=>?_⟩;have er:(replicate aj.toNat [V.int 0]).flatten=(replicate aj.toNat (0:Int)).map V.int:=by
  generalize aj.toNat=k;induction k with
  |zero=>rfl
  |succ k ih=>rw [kI,sy,ih,kI,iC];rfl
 rw [er];obtain ⟨H2,B,s2,x2⟩:∃ H2,upd H1 a (HO.lst ((replicate aj.toNat (0:Int)).map V.int))=H2/\aG H1 H2/\H2 a=some (.lst ((replicate aj.toNat (0:Int)).map V.int)):=⟨_,rfl,bM W _,aO⟩;rw [B];have M:H a=none:=m.free W;walk_at "rd";intro c o;have N:a≠c:=cH x2 o;have J:H c=none:=(aB m s2).free o;have e:=aB m s2;refine ⟨_,rfl,n,_,_,_,rfl,rfl,aX ((bM o _) _ _ (e _ _ hn)),rfl,t,rfl,⟨rs,aX ((bM o _) _ _ (e _ _ ht))⟩,?_⟩;refine Li (xs:=rs) (λi σ d=>∃ L u R,σ=[some (.ref n),some (.ref a),some (.ref c),L,u,R]/\aG H d/\d a=some (.lst ((cM aj (ws.take i)).1.map V.int))/\d c=some (.lst ((cM aj (ws.take i)).2.map V.int))) ⟨none,none,none,rfl,bO J e,by rw [bh N];exact x2,aO⟩ (by rintro i σ d _ ⟨_,_,_,_,g,_⟩;exact aX (g _ _ ht)) ?_ ?_
 ·rintro i x σ d hx ⟨L,u,R,rfl,g,p,l⟩;obtain ⟨w0,t0,b,rfl,C⟩:=S.get hx;obtain ⟨Y,o2,U,o4,o5⟩:=ok w0 (fQ b);have et:ws.take (i+1)=ws.take i++[w0]:=by rw [Kz,b];rfl
  have il:i<ws.length:=(gb.mp b).1;obtain ⟨ll1,y⟩:=Q7 aj (ws.take i);rw [eF] at y;have I:=g _ _ C;refine ⟨t0,_,rfl,aX I,rfl,_,_,rfl,_,_,rfl,rfl,_,rfl,_,rfl,a,_,_,_,rfl,rfl,aQ p,nZ Y (by lk),_,rfl,_,rfl,a,_,_,_,rfl,rfl,aQ p,nZ U (by lk),_,_,rfl,_,_,rfl,rfl,_,rfl,_,rfl,_,rfl,a,_,w0.1,w0.1.toNat,rfl,rfl,p,wg Y (by rw [bD];lk),_,rfl,_,rfl,_,rfl,a,_,w0.2,w0.2.toNat,rfl,rfl,aO,wg U (by rw [jW,bD];lk),?_⟩;rw [Dh];have j:c≠a:=bL N;refine ⟨_,rfl,.inl ⟨rfl,_,aQ (by rw [bh j];exact l)⟩,_,rfl,c,_,_,rfl,rfl,by rw [bh j];exact l,pH (by rw [bD];lk),_,_,_,rfl,bO J (bO M g),?_,?_⟩
  ·rw [bh N,aO,et,Qy];exact gM (λz=>some (HO.lst z)) (anN _ _)
  ·rw [aO,et,Qy];exact gM (λz=>some (HO.lst z)) (anO _ _)
 ·rintro σ d ⟨L,u,R,rfl,g,p,l⟩;w_left;rw [D,gG] at l;exact q c d J g l
def DK:Gc Z "depth" 2 ["net"] anP:=by
 o_head (cL Z.X4,["net"]);obtain ⟨v,aj,ws,rfl,b,i,g,ok,len,q⟩:=h;refine ⟨_,(aP (bf (anH rfl rfl T.yD (aZ (adU Z) hr.m rfl (ak (pv 0) au)) aA))),?_⟩
 try dsimp only [bN]
 refine ⟨_,rfl,v,aj,ws,rfl,b,i,g,ok,len,λl H1 j c d=>⟨l,_,rfl,aQ d,λe=>q 0 H1 c (λ_=>rfl) (λz=>absurd e z),λm a=>q m H1 c (λz=>?_) λ_=>a⟩⟩;rw [z] at a;exact absurd a.1 (by simp)
def zF:Gc Z "depth_power" 3 ["net"] anY:=by
 o_head (cL Z.X5,["net","power","level"]);obtain ⟨v,aj,ws,rfl,c,o,g,ok,len,q⟩:=h;refine ⟨_,(aL (bB 1 nd aA)
 (aL (jd iR rfl  (jU rfl T.iT (ak (aZ (DK Z) hr.m rfl (ak (pv 0) au)) au)) (dI 2 nd)
 (aP (Ul (i:=1) nd rfl (by k_in) aA apS)))
 (aP (bf (pv 1))))),?_⟩
 try dsimp only [bN]
 refine ⟨_,rfl,v,aj,ws,rfl,c,o,g,ok,len,λm H1 j l d=>?_⟩;have k:=GR ok l d;have p:=vL ok;refine ⟨m,rfl,by lk, by lk, ?_⟩;refine u_ (n:=m.toNat) (λi σ a=>∃ b,σ=[some v,some (.int (2 ^ i)),b]/\a=H1) ⟨none,rfl,rfl⟩ ?_ ?_
 ·rintro i σ a hi ⟨b,rfl,rfl⟩;refine ⟨_,rfl,_,_,rfl,rfl,.inr ⟨by decide,by decide⟩,some (V.int (0+(i:Int))),?_,rfl⟩;rw [Int.pow_succ];rfl
 ·rintro σ a ⟨b,rfl,rfl⟩;w_left;have e:(2:Int) ^ m.toNat=whole aj ws:=by unfold whole;rw [Int.natCast_pow,k,o_];rfl
  rw [e];exact q _ j
def FJ:Gc Z "all_on_one" 1 ["wide","lane","number"] anZ:=by
 o_head (cL Z.X6,["wide","lane","number","counts"]);obtain ⟨aj,c,n,rfl,p,o,g,m,q⟩:=h;refine ⟨_,(aL (bB 3 nd (aY Ax (cQ (ak aA au)) (pv 0)))
 (aL (mG (pv 2) (sW (pv 3) (pv 1) rK))
 (aP (bf (pv 3))))),?_⟩
 try dsimp only [bN]
 refine ⟨aN (by kl_no),λe d=>⟨_,rfl,e,aj,_,rfl,rfl,aO,by lk, by lk, aN (by show 1*aj.toNat<=100000;lk),λb j=>?_⟩⟩;have l:(replicate aj.toNat [V.int 0]).flatten=(replicate aj.toNat (0:Int)).map V.int:=by
  generalize aj.toNat=k;induction k with
  |zero=>rfl
  |succ k i=>rw [kI,sy,i,kI,iC];rfl
 rw [l];have a:H b=none:=(bM d _).free j;refine ⟨_,rfl,_,rfl,_,rfl,b,_,c,c.toNat,rfl,rfl,aO,wg g (by rw [bD,uD];lk),?_⟩;rw [Dh];w_left;refine q b _ a (bO a (bO d (cO H))) ?_;rw [aO,GQ];rfl
def apq:Gc Z "shares" 4 ["net"] alK:=by
 o_head (cL Z.X7,["net","power"]);obtain ⟨v,aj,ws,rfl,d,B,z,ok,len,q⟩:=h;obtain ⟨n,t,rs,rfl,C,O,N⟩:=id d;refine ⟨_,(aL (bB 1 nd (aZ (zF Z) hr.m rfl (ak (pv 0) au)))
 (aP (bf (gJ ["lane"] [("net",0),("power",1)] rfl (jU rfl T.iT (ak (bQ (pv 0) aA) au)) (by k_all) (by k_mem) (by row_wit1 (aZ (qW Z) hr.m rfl (ak (pv 1) (ak (aZ (FJ Z) hr.m rfl (ak (qZ (Lr K rfl) (pv 1) aA (λ_ _=>rfl)) (ak (pv 0) (ak (pv 2) au)))) au)))))))),?_⟩
 try dsimp only [bN]
 refine ⟨_,rfl,.ref n,aj,ws,rfl,d,B,z,ok,len,λH1 o=>⟨_,rfl,n,_,_,_,rfl,rfl,aX (o _ _ C),rfl,aj,rfl,by lk, by lk, λl D=>?_⟩⟩;have x:H l=none:=o.free D;refine qG (n:=aj.toNat) (λj ys c=>aG H c/\c l=some (.lst ys)/\eG H c l ys ((range j).map (g8 aj.toNat (cW aj ws) ws))) ⟨bO x o,aO,.nil⟩ (aN (by lk)) (by rintro j ys c ⟨_,e,r⟩;exact ⟨e,by have:=r.len;simp at this;lk⟩) ?_ ?_
 ·rintro j ys c R ⟨i,k,u⟩;is_list;refine ⟨_,rfl,_,rfl,n,_,_,_,rfl,rfl,aX (i _ _ C),rfl,_,rfl,_,rfl,aj,0+(j:Int),whole aj ws,rfl,B,z,by lk, by lk, λa U S g J=>⟨.ref n,aj,ws,a,_,rfl,d.kt (λb xs e=>g _ _ (i _ _ e)),ok,by lk, J,rQ _ _ _,λb W y p I=>?_⟩⟩;have L:H b=none:=(aB i g).free y;have M:b≠l:=bL (cH (g _ _ k) y);refine ⟨p _ _ (g _ _ k),bO x (aB i (aB g p)),aO,?_⟩;rw [Qk];refine u.more (aB g p) ?_ M L;rw [I];show some (HO.lst ((cR (lB aj.toNat ((0:Int)+(j:Int)).toNat (whole aj ws)) ws).map V.int))=_;rw [show ((0:Int)+(j:Int)).toNat=j by lk];rfl
 ·rintro ys c ⟨i,k,u⟩;exact q l ys c x i k u
def arG:Gc Z "tilt" 3 ["net","number","power"] apT:=by
 o_head (cL Z.X8,["net","number","power","wicket","wickets_behind","from_first","from_second"]);obtain ⟨v,aj,ws,k,rfl,⟨n,t,rs,rfl,g,R,I⟩,w1,O,ok,len,hk,q⟩:=h;have lrs:=I.len;have J:ws[k]?=some ws[k]:=by simp [hk]
 obtain ⟨o1,o2,o3,o4,o5⟩:=bC.mem ok J;obtain ⟨t0,w0,u,_,a,b⟩:=ac' I (i:=(k:Int)) (by lk) (by lk);rw [o_,J] at a;cases a;refine ⟨_,(aL (bB 3 nd (bQ (bQ (pv 0) aA) (pv 1)))
 (aL (bB 4 nd (cU (ak (bQ (pv 0) aA) (ak (nG GP (bQ (pv 0) aA) (nY (aY gZ (pv 1) aA)) nW) au))))
 (aL (bB 5 nd (aZ (qW Z) hr.m rfl (ak (pv 4) (ak (aZ (FJ Z) hr.m rfl (ak (bQ (pv 0) aA) (ak (bQ (pv 3) aA) (ak (pv 2) au)))) au))))
 (aL (bB 6 nd (aZ (qW Z) hr.m rfl (ak (pv 4) (ak (aZ (FJ Z) hr.m rfl (ak (bQ (pv 0) aA) (ak (bQ (pv 3) aA) (ak (pv 2) au)))) au))))
 (aP (bf (gJ ["more","less"] [] rfl (adg rfl T.Hq (ak (pv 5) (ak (pv 6) au))) (by w_tab) (by k_mem) (by row_wit1 (aY iI (pv 0) (pv 1)))))))))),?_⟩
 try dsimp only [bN]
 refine ⟨_,rfl,n,_,_,_,rfl,rfl,aX g,rfl,_,rfl,t,_,_,_,rfl,rfl,aX R,u,_,rfl,n,_,_,_,rfl,rfl,aX g,rfl,_,rfl,n,_,_,_,rfl,rfl,aX g,rfl,_,rfl,_,_,rfl,rfl,_,rfl,t,rs,rfl,R,λo H1 s1 W=>?_⟩;have ec:fX rs (some ((k:Int)+1)) none=rs.drop (k+1):=abS (n:=k+1) (by lk);rw [ec] at W;refine ⟨aN (by kl_no),λn2 f2=>?_⟩;have d:aG H (upd H1 n2 (HO.tup [V.int aj,V.ref o])):=aB s1 (bM f2 _);have D:dD (upd H1 n2 (HO.tup [V.int aj,V.ref o])) (.ref n2) aj (ws.drop (k+1)):=⟨n2,o,rs.drop (k+1),rfl,aO,(bM f2 _) _ _ W,(I.drop (k+1)).same d⟩;generalize upd H1 n2 (HO.tup [V.int aj,V.ref o])=H2 at d D;have e:bC aj (ws.drop (k+1)):=ok.drop _;refine ⟨_,rfl,_,rfl,n,_,_,_,rfl,rfl,aX (d _ _ g),rfl,_,rfl,t0,_,_,_,rfl,rfl,aX (d _ _ b),rfl,_,rfl,aj,ws[k].1,whole aj ws,rfl,w1,O,o1,o2,λa3 H3 f3 B x3=>⟨.ref n2,aj,ws.drop (k+1),a3,_,rfl,D.kt (b_ B (bG _)),e,by rw [jO];lk, x3,rQ _ _ _,λa4 H4 f4 s4 x4=>?_⟩⟩;have C:aG H H4:=aB d (aB B s4);have V5:=D.kt (b_ s4 (b_ B (bG _)));refine ⟨_,rfl,_,rfl,n,_,_,_,rfl,rfl,aX (C _ _ g),rfl,_,rfl,t0,_,_,_,rfl,rfl,aX (C _ _ b),rfl,_,rfl,aj,ws[k].2,whole aj ws,rfl,w1,O,o3,o4,λa5 H5 f5 z x5=>⟨.ref n2,aj,ws.drop (k+1),a5,_,rfl,V5.kt (b_ z (bG _)),e,by rw [jO];lk, x5,rQ _ _ _,λa6 H6 f6 U x6=>?_⟩⟩;have c:=U _ _ (z _ _ x4);have Jd:aG H H6:=aB C (aB z U);have l4:(g8 aj.toNat (cW aj ws) (ws.drop (k+1)) ws[k].1.toNat).length=aj.toNat:=rM _ _ _ _;have l6:(g8 aj.toNat (cW aj ws) (ws.drop (k+1)) ws[k].2.toNat).length=aj.toNat:=rM _ _ _ _;refine ⟨_,rfl,_,rfl,a4,a6,rfl,⟨_,aQ c⟩,⟨_,aQ x6⟩,λlz p=>?_⟩;refine Q_ (xs:=(g8 aj.toNat (cW aj ws) (ws.drop (k+1)) ws[k].1.toNat).map V.int) (ys':=(g8 aj.toNat (cW aj ws) (ws.drop (k+1)) ws[k].2.toNat).map V.int) (by rw [bD,bD];lk) (λj ys l=>aG H6 l/\l lz=some (.lst ys)/\ys=((range j).map λY=>(g8 aj.toNat (cW aj ws) (ws.drop (k+1)) ws[k].1.toNat).getD Y 0-(g8 aj.toNat (cW aj ws) (ws.drop (k+1)) ws[k].2.toNat).getD Y 0).map V.int) ⟨bO p (cO _),aO,rfl⟩ (aN (by rw [bD];lk)) (by rintro j ys l hj ⟨sz,M,r⟩;exact ⟨aQ (sz _ _ c),aQ (sz _ _ x6),M,by rw [r];simp⟩) ?_ ?_
 ·rintro j x y T ys l hx hy S ⟨sz,M,rfl⟩;obtain ⟨z1,L,rfl⟩:=zP hx;obtain ⟨z2,N,rfl⟩:=zP hy;refine ⟨T,_,rfl,aX aO,rfl,_,_,rfl,_,_,rfl,rfl,⟨.inl rfl,.inl rfl,trivial⟩,mZ ⟨_,rfl,_,rfl,_,_,rfl,rfl,(bM S _) _ _ M,bO p (aB sz (bM S _)),aO,?_⟩⟩;rw [Qk,dF,yd L,yd N];rfl
 rintro ys H7 ⟨s7,e7,rfl⟩;have el:((g8 aj.toNat (cW aj ws) (ws.drop (k+1)) ws[k].1.toNat).map V.int).length=aj.toNat:=by rw [bD];lk
 rw [el,<-aaI J] at e7;exact q lz H7 (Jd.free p) (aB Jd s7) e7
def aqD:Gc Z "tilts" 4 ["net"] an1:=by
 o_head (cL Z.X_,["net","power"]);obtain ⟨v,aj,ws,rfl,c,y,x,ok,len,q⟩:=h;obtain ⟨n,t,rs,rfl,J,D,z⟩:=id c;have C:=z.len;refine ⟨_,(aL (bB 1 nd (aZ (zF Z) hr.m rfl (ak (pv 0) au)))
 (aP (bf (gJ ["number"] [("net",0),("power",1)] rfl (jU rfl T.iT (ak (jH T (bQ (pv 0) aA)) au)) (by k_all) (by k_mem) (by row_wit1 (aZ (arG Z) hr.m rfl (ak (pv 1) (ak (pv 0) (ak (pv 2) au))))))))),?_⟩
 try dsimp only [bN]
 refine ⟨_,rfl,.ref n,aj,ws,rfl,c,y,x,ok,len,λH1 i=>⟨_,rfl,n,_,_,_,rfl,rfl,aX (i _ _ J),rfl,t,_,rfl,.inr (aX (i _ _ D)),(rs.length:Int),rfl,by lk, by lk, λl B=>?_⟩⟩;have p:H l=none:=i.free B;refine qG (n:=(rs.length:Int).toNat) (λj ys a=>aG H a/\a l=some (.lst ys)/\eG H a l ys ((range j).map (tH aj.toNat (cW aj ws) ws))) ⟨bO p i,aO,.nil⟩ (aN (by lk)) (by rintro j ys a ⟨_,e,r⟩;exact ⟨e,by have:=r.len;simp at this;lk⟩) ?_ ?_
 ·rintro j ys a O ⟨d,g,k⟩;is_list;have N:(0:Int)+(j:Int)=(j:Int):=by lk
  rw [N];refine ⟨_,rfl,_,rfl,_,rfl,.ref n,aj,ws,j,rfl,c.kt (λb xs e=>d _ _ e),y,x,ok,len,by lk, λb R u o I=>?_⟩;have L:H b=none:=d.free u;have M:b≠l:=bL (cH g u);refine ⟨o _ _ g,bO p (aB d o),aO,?_⟩;rw [Qk];exact k.more o I M L
 ·rintro ys a ⟨d,g,k⟩;rw [show (rs.length:Int).toNat=ws.length by lk] at k;exact q l ys a p d g k
def Tw:Gc Z "uneven" 5 ["net"] alN:=by
 o_head (cL Z.Yb,["net","lane","row","place","share"]);obtain ⟨v,aj,ws,rfl,S,w1,w8,ok,len,q1,q2⟩:=h;refine ⟨_,(aL (jd iR rfl  (abR rfl T.Qe (ak (aZ (apq Z) hr.m rfl (ak (pv 0) au)) au)) (pB rfl (ig (dI 1 nd) (ig (dI 2 nd) oX)))
 (aP (jd iR rfl  (abR rfl T.Qe (ak (pv 2) au)) (pB rfl (ig (dI 3 nd) (ig (dI 4 nd) oX)))
 (aP (cu (bW pG (pv 4) (cD (pv 2) aA))
 (aP (bf (cU (ak (pv 1) (ak aA (ak (pv 3) au))))))
 cj)))))
 (aP (bf kW))),?_⟩
 try dsimp only [bN]
 refine ⟨_,rfl,v,aj,ws,rfl,S,w1,w8,ok,len,λl rs H1 fl M xl rows=>?_⟩;have lr:=rows.len;rw [aaG] at lr;have hl:=aaG aj ws;refine ⟨l,rfl,⟨_,aQ xl⟩,?_⟩;refine Q9 (xs:=rs) (λi σ n=>∃ U v2 b a,σ=[some v,U,v2,b,a]/\aG H1 n/\∀ j,j<i->Vj (pL (fD aj ws) j)) ⟨none,none,none,none,rfl,cO _,λj hj=>absurd hj (by lk)⟩ (by rintro i σ n _ ⟨_,_,_,_,_,y,_⟩;exact aQ (y _ _ xl)) ?_ ?_
 ·rintro i x T σ n p fT ⟨U,v2,b,a,rfl,y,B⟩;obtain ⟨r,q,d,rfl,ntl,ftr,e⟩:=rows.get p;have hi:i<aj.toNat:=(aaH d).1;have D:=an2 d;obtain ⟨_,rfl⟩:=aaH d;have lsh:=rM aj.toNat (cW aj ws) ws i;refine ⟨T,_,rfl,aX aO,rfl,?_⟩;have W:aG H1 (upd n T (HO.tup [V.int i,V.ref q])):=aB y (bM fT _);generalize upd n T (HO.tup [V.int i,V.ref q])=H2 at W;refine ⟨_,_,rfl,_,_,rfl,rfl,?_⟩;have O:=W _ _ e;refine ⟨_,rfl,q,rfl,⟨_,aQ O⟩,?_⟩;refine Q9 (xs:=(g8 aj.toNat (cW aj ws) ws i).map V.int) (λk σ o=>∃ b a,σ=[some v,some (.int i),some (.ref q),b,a]/\aG H1 o/\∀ x,x<k->(g8 aj.toNat (cW aj ws) ws i).getD x 0=(g8 aj.toNat (cW aj ws) ws i).getD 0 0) ⟨b,a,rfl,W,λx p=>absurd p (by lk)⟩ (by rintro k σ o _ ⟨_,_,_,t,_⟩;exact aQ (t _ _ e)) ?_ ?_
  ·rintro k x J σ o I N ⟨b,a,rfl,t,C⟩;obtain ⟨z,Y,rfl⟩:=zP I;have kl:k<aj.toNat:=by have:=(gb.mp Y).1;lk
   refine ⟨J,_,rfl,aX aO,rfl,?_⟩;have u:aG H1 (upd o J (HO.tup [V.int k,V.int z])):=aB t (bM N _);generalize upd o J (HO.tup [V.int k,V.int z])=H3 at u;refine ⟨_,_,rfl,_,_,rfl,rfl,_,rfl,_,rfl,q,_,_,_,rfl,rfl,aQ (u _ _ e),nZ (i:=0) (by decide) (by lk),rfl,_,rfl,kE (λg=>?_) (λg=>?_)⟩
   ·have R:z≠(g8 aj.toNat (cW aj ws) ws i).getD 0 0:=λc=>by rw [c] at g;simp at g
    refine ⟨_,rfl,_,rfl,aN (by kl_no),λT4 f4=>?_⟩;have L:H T4=none:=(aB M u).free f4;refine q2 T4 i k _ L (aB M (aB u (bM f4 _))) aO ⟨by lk, B,?_,?_,?_⟩
    ·rw [D];lk
    ·rw [D,yd Y];exact R
    ·rw [D];exact C
   ·have R:z=(g8 aj.toNat (cW aj ws) ws i).getD 0 0:=by
     by_cases c:z=(g8 aj.toNat (cW aj ws) ws i).getD 0 0
     ·exact c
     ·exact absurd (by simp;exact c) g
    refine ⟨_,_,rfl,u,λx p=>?_⟩;by_cases c:x<k
    ·exact C x c
    ·have:x=k:=by lk
     rw [this,yd Y];exact R
  ·rintro σ o ⟨b,a,rfl,t,C⟩;refine ⟨_,_,_,_,rfl,t,λj hj=>?_⟩;by_cases c:j<i
   ·exact B j c
   ·have:j=i:=by lk
    subst this;rw [D];intro x p;exact C x (by rw [bD];exact p)
 ·rintro σ n ⟨U,v2,b,a,rfl,y,B⟩;refine q1 n (aB M y) λi hi=>B i (by lk)
def ahc:Gc Z "longer_rows" 1 ["rows","numbers"] al2:=by
 o_head (cL Z.Yc,["rows","numbers","found","row","number"]);obtain ⟨a,b,rs,M,ns,rfl,ha,rows,U,C,hnl,D,q⟩:=h;have lr:=rows.len;refine ⟨_,(aL (bB 2 nd (cQ au))
 (aL (jd iR rfl  (lM (pv 0)) (dI 3 nd)
 (aP (jd iR rfl  (lM (pv 1)) (dI 4 nd)
 (aP (pX (jg ux zZ z6 xK (pv 2) (ak (aY j_ (pv 3) (cQ (ak (pv 4) au))) au)))))))
 (aP (bf (pv 2))))),?_⟩
 try dsimp only [bN]
 refine ⟨aN (by kl_no),λl R=>⟨_,rfl,a,rfl,⟨_,aQ (by walk_at "hh")⟩,?_⟩⟩;refine zM (xs:=rs) (λi σ k=>∃ J d ys,σ=[some (.ref a),some (.ref b),some (.ref l),J,d]/\aG H k/\k l=some (.lst ys)/\eG H k l ys (tK (M.take i) ns)) ⟨none,none,[],rfl,by walk_at "sm",aO,.nil⟩ (by rintro i σ k _ ⟨_,_,_,_,p,_⟩;exact aQ (p _ _ ha)) ?_ ?_
 ·rintro i x σ k hx ⟨J,d,ys,rfl,p,N,u⟩;obtain ⟨r,O,g,rfl,I⟩:=rows.get hx;have il:i<M.length:=(gb.mp g).1;have rl:=D r (fQ g);refine ⟨_,rfl,b,rfl,⟨_,aQ (p _ _ U)⟩,?_⟩;refine zM (xs:=ns.map V.int) (λj σ c=>∃ d ys,σ=[some (.ref a),some (.ref b),some (.ref l),some (.ref O),d]/\aG H c/\c l=some (.lst ys)/\eG H c l ys (tK (M.take i) ns++(ns.take j).map λn=>r++[n])) ⟨d,ys,rfl,p,N,by simpa using u⟩ (by rintro j σ c _ ⟨_,_,_,e,_⟩;exact aQ (e _ _ U)) ?_ ?_
  ·rintro j x σ c B ⟨d,ys,rfl,e,t,o⟩;obtain ⟨z,hz,rfl⟩:=zP B;have jl:j<ns.length:=(gb.mp hz).1;have ly:=o.len;rw [dj,QF,bD,eF,eF,vG (by lk),vG (by lk)] at ly;have hm:(i+1)*ns.length<=M.length*ns.length:=acP _ (by lk);rw [RZ] at hm;refine ⟨_,rfl,.inl ⟨rfl,_,aQ t⟩,_,rfl,_,rfl,aN (by kl_no),λy L=>⟨O,y,_,_,rfl,rfl,(bM L _) _ _ (e _ _ I),aO,aN (by rw [bD];show r.length+1<=100000;lk),λm S=>?_⟩⟩;have v:aG c (upd (upd c y (HO.lst [V.int z])) m (HO.lst (r.map V.int++[V.int z]))):=aB (bM L _) (bM S _);have Y:(upd (upd c y (HO.lst [V.int z])) m (HO.lst (r.map V.int++[V.int z]))) m=some (.lst ((r++[z]).map V.int)):=by rw [aO,dF];rfl
   have W:c m=none:=(bM L _).free S;generalize upd (upd c y (HO.lst [V.int z])) m (HO.lst (r.map V.int++[V.int z]))=H2 at v Y;refine ⟨l,_,_,rfl,rfl,v _ _ t,pH (by lk),_,ys++[.ref m],rfl,bO R (aB e v),aO,?_⟩;rw [gF hz,dF,<-zV];exact o.more v Y (bL (cH t W)) (e.free W)
  ·rintro σ c ⟨d,ys,rfl,e,t,o⟩;refine ⟨_,_,ys,rfl,e,t,?_⟩;rw [bD,gG] at o;rw [gF g];unfold tK at o ⊢;rw [SJ];simpa using o
 ·rintro σ k ⟨J,d,ys,rfl,p,N,u⟩;rw [lr,gG] at u;exact ⟨_,rfl,q l ys k R p N u⟩
def acy:Gc Z "rows_of" 2 ["choices"] al3:=by
 o_head (cL Z.Yd,["choices","rows","numbers"]);obtain ⟨a,cs,C,rfl,O,rows,V,e,k,q⟩:=h;have lr:=rows.len;refine ⟨_,(aL (bB 1 nd (cQ (ak (cQ au) au)))
 (aL (jd iR rfl  (lM (pv 0)) (dI 2 nd)
 (aP (bB 1 nd (aZ (ahc Z) hr.m rfl (ak (pv 1) (ak (pv 2) au))))))
 (aP (bf (pv 1))))),?_⟩
 try dsimp only [bN]
 refine ⟨aN (by kl_no),λo f0=>⟨aN (by kl_no),λy L=>?_⟩⟩;have g:o≠y:=cH aO L;have R:H y=none:=(bM f0 _).free L;refine ⟨_,rfl,a,rfl,⟨_,aQ (by walk_at "hh")⟩,?_⟩;refine zM (xs:=cs) (λi σ d=>∃ l z ys,σ=[some (.ref a),some (.ref l),z]/\aG H d/\H l=none/\d l=some (.lst ys)/\eG H d l ys (gA (C.take i))) ⟨y,none,[.ref o],rfl,by walk_at "sm",R,aO,.cons ⟨o,rfl,g,f0,(bh g).trans aO⟩ .nil⟩ (by rintro i σ d _ ⟨_,_,_,_,c,_⟩;exact aQ (c _ _ O)) ?_ ?_
 ·rintro i x σ d hx ⟨l,z,ys,rfl,c,I,v,j⟩;obtain ⟨r,N,b,rfl,n⟩:=rows.get hx;have il:i<C.length:=(gb.mp b).1;have J:=e (i+1) (by lk);rw [gF b,JG,QF] at J;refine ⟨_,rfl,_,rfl,l,N,ys,gA (C.take i),r,rfl,v,j.rows,c _ _ n,J,k r (fQ b),λu hu=>?_,λU D H' jL s' p B=>?_⟩
  ·have:=((vf (C.take i) u).mp hu).1;rw [eF] at this;lk
  refine ⟨U,_,D,rfl,aB c s',c.free jL,p,?_⟩;rw [gF b,JG];exact Paired.MP B (by rintro r x ⟨t,M,Y,W,S⟩;exact ⟨t,M,Y,c.free W,S⟩)
 ·rintro σ d ⟨l,z,ys,rfl,c,I,v,j⟩;rw [lr,gG] at j;exact ⟨_,rfl,q l ys d I c v j⟩
def aaC:Gc Z "first_layer" 2 ["net"] aoh:=by
 refine cL Z.Ye λf fd F=>?_;have T:=Z.T;refine F.fn.ok agt (λvs H Q E h=>?_) (λcdv A outer s H vs Q E hr h=>?_)
 ·obtain ⟨v,aj,ws,rfl,_⟩:=h;rfl
 ·obtain ⟨v,aj,ws,rfl,k,w1,W,ok,len,q⟩:=h;obtain ⟨n,t,rs,rfl,hn,O,J⟩:=id k;have z:=J.len;have ll:(cM aj ws).2.length=ws.length:=(Q7 aj ws).2;refine ⟨_,(aP (bf (gJ ["wicket","layer"] [] rfl (Rg rfl T.Hq (ak (bQ (pv 0) aA) (ak (aZ (adU Z) hr.m rfl (ak (pv 0) au)) au))) (by w_tab) (by row_wit1 (GK (bW cT (pv 1) aA))) (by row_wit1 (pv 0))))),?_⟩
  try dsimp only [bN]
  refine ⟨_,rfl,n,_,_,_,rfl,rfl,aX hn,rfl,_,rfl,.ref n,aj,ws,rfl,k,w1,W,ok,len,λY H1 fly j o=>⟨t,Y,rfl,⟨_,aX (j _ _ O)⟩,⟨_,aQ o⟩,λl D=>?_⟩⟩;have U:H l=none:=j.free D;refine Q_ (xs:=rs) (ys':=(cM aj ws).2.map V.int) (by rw [bD];lk) (λi ys b=>aG H1 b/\b l=some (.lst ys)/\ys.length<=i/\bZ b ys (gP (ws.take i) ((cM aj ws).2.take i))) ⟨bO D (cO H1),aO,d_ _,by simp [gP];exact .nil⟩ (aN (by lk)) (by rintro i ys b hi ⟨a,g,I,e⟩;exact ⟨aX (a _ _ (j _ _ O)),aQ (a _ _ o),g,I⟩) ?_ ?_
  ·rintro i x y TT ys b hx M S ⟨a,g,I,e⟩;obtain ⟨w0,N,r,rfl,u⟩:=J.get hx;rw [lN] at M;obtain ⟨d0,C,rfl⟩:=R9.mp M;km_lay S R S d x3;have p:=aiU r C;refine ⟨TT,_,rfl,aX x3,rfl,_,_,rfl,_,_,rfl,rfl,⟨.inl rfl,.inl rfl,trivial⟩,?_⟩;have B:=d _ _ g;sr_in;by_cases c:d0=1
   ·refine cA (by simp [c]) ?_;rw [bF c] at p;refine ⟨_,rfl,B,bO D (aB a d),aO,by rw [dj];simp;lk, ?_⟩;rw [p];have L:KT R (upd R l (HO.lst (ys++[V.ref N]))):=iD B (bG _);exact ((e.same d).kt L).app (.cons ⟨N,rfl,L _ _ (d _ _ (a _ _ (j _ _ u)))⟩ .nil)
   ·refine bK (by simp [c]) ?_;rw [bw c,kO] at p;refine ⟨aB a d,B,by lk, ?_⟩;rw [p];exact e.same d
  ·rintro ys b ⟨a,g,I,e⟩;rw [z,gG,<-ll,gG] at e;exact q l b U (aB j a) ⟨ys,g,e⟩
def aan:Ge Z "common_trials" 4 ["one","other"] (amc eA.many):=by
 refine tU Z.Yg λf fd F=>?_;have T:=Z.T;refine F.fn.Ik Jy (λvs H Q E h=>?_) (λcdv A outer s H vs Q E hr h=>?_)
 ·obtain ⟨J,M,a,b,us,ws,rfl,_⟩:=h;rfl
 ·obtain ⟨J,M,a,b,us,ws,rfl,gC,jT,W,a8,b1,b8,g,v,I,l2,qE,qQ⟩:=h;refine ⟨_,(aL (bB 2 Jy.nd (ud (bW tG (aZ (DK Z) hr.m rfl (ak (pv 0) au)) (aZ (DK Z) hr.m rfl (ak (pv 1) au))) (pv 0) (pv 1)))
  (aL (bB 3 Jy.nd (gJ ["wicket"] [("other",1)] rfl (lM (aZ (aaC Z) hr.m rfl (ak (pv 0) au))) (by k_all) (by row_wit1 (GK (Lk (ap0 hr.aoe) (pv 0) (aZ (aaC Z) hr.m rfl (ak (pv 1) au)) (by with_unfolding_all rfl)))) (by row_wit1 (qZ (Lr K rfl) (pv 0) aA (λ_ _=>rfl)))))
  (aL (cu (bW tG (aY qg (aZ (DK Z) hr.m rfl (ak (pv 2) au)) (aY iI (bQ (pv 0) aA) (jH T (pv 3)))) (yh rfl Z.Pj))
  (aP (xP Z.wW.Ga rfl Z.wW.xH (ak bA au)))
  cj)
  (aL (bB 4 Jy.nd (dM (aax rfl) rfl T.Ay Ce (ak (dM abr rfl T.iT JD (ak (aZ (zF Z) hr.m rfl (ak (pv 2) au)) au)) au)))
  (aP (bf (aZ (acy Z) hr.m rfl (ak (gJ ["lane"] [("numbers",4),("seconds",3)] rfl (jU rfl T.iT (ak (bQ (pv 0) aA) au)) (by k_all) (by k_mem) (by row_wit1 (ud (Lk (ah5 K rfl) (pv 0) (pv 2) (by with_unfolding_all rfl)) (cQ (ak aA au)) (pv 1)))) au)))))))),?_⟩
  try dsimp only [bN]
  refine vM (a:=yL _ _) λN hN=>?_;have go:∀ (L:V) (o:Int) (p:aK) (H2:Hp),aG H H2->dD H2 L o p->1<=o->o<=8->bC o p->p.length<=41->cW o p=jx a us b ws->N [some J,some M,some L,none,none] H2:=λL o p H2 fK afF d1 d8 y ld ed=>hN _ _ (by
   refine vM (a:=yL _ _) λN2 ZL=>?_;have goB:∀ (l:Addr) (D:Hp),H l=none->aG H2 D->D l=some (.lst ((gB a us b ws).map V.int))->N2 [some J,some M,some L,some (.ref l),none] D:=λls D fl uZ x3=>ZL _ _ (by
    have Y:=aB fK uZ;obtain ⟨n1,t1,Jf,Jj,U,ht1,hr1⟩:=gC.kt (b_ Y (bG _));refine ⟨_,rfl,L,o,p,rfl,afF.kt (b_ uZ (bG _)),d1,d8,y,ld,λm H4 C m0 m1=>?_⟩;have em:=GR y m0 m1;rw [ed] at em;have jN:=aB Y C;have pP:=adp (b:=b) (ws:=ws) g W;have md:jx a us b ws<=41:=by rw [<-ed];exact eU (vL y) ld
    refine ⟨_,rfl,n1,_,_,_,Jj,rfl,aX (C _ _ U),rfl,_,rfl,ls,_,rfl,.inl (aQ (C _ _ x3)),_,_,rfl,rfl,_,_,rfl,rfl,.inl ⟨by lk, by lk⟩,_,_,rfl,rfl,_,rfl,?_⟩;rw [bD,em];by_cases c:10<((jx a us b ws:Nat):Int)*(a-((gB a us b ws).length:Int))
    ·exact cA (d7 c) ⟨by show 1<=1000;decide,qE c _ jN⟩
    ·refine bK (by simpa using c) ?_;have c':((jx a us b ws:Nat):Int)*(a-((gB a us b ws).length:Int))<=10:=by lk
     obtain ⟨d10,rb⟩:=aio (b:=b) (ws:=ws) g c' W;have Iw:2 ^ jx a us b ws<=1024:=eU (uo (by decide) d10) (by decide);have wh:whole o p=((2 ^ jx a us b ws:Nat):Int):=by unfold whole;rw [ed]
     have wb:0<=whole o p/\whole o p<=1024:=by rw [wh];exact ⟨Int.natCast_nonneg _,by exact_mod_cast Iw⟩
     refine ⟨_,rfl,L,o,p,rfl,afF.kt (b_ (aB uZ C) (bG _)),d1,d8,y,ld,λH5 s5=>?_⟩;have oV:=aB jN s5;refine ⟨_,rfl,λr6 f6=>?_⟩;km_lay f6 H6 f6 s6 x6;refine ⟨r6,0,whole o p,rfl,x6,by lk, by lk, by lk, by lk, by lk, λl7 f7=>?_⟩;rw [wh,asF];km_lay f7 H7 f7 s7 x7;have s07:=aB oV (aB s6 s7);have s37:aG D H7:=aB C (aB s5 (aB s6 s7));refine ⟨_,rfl,n1,_,_,_,Jj,rfl,aX (s37 _ _ U),rfl,a,rfl,by lk, by lk, λlc fc=>?_⟩;refine qG (n:=a.toNat) (λi ys j=>aG H7 j/\j lc=some (.lst ys)/\ys.length<=i/\eG H6 j lc ys (jJ i (gB a us b ws) (jx a us b ws))) ⟨bO fc (cO H7),aO,d_ _,.nil⟩ (aN (by lk)) (by rintro i ys j ⟨_,e,l,_⟩;exact ⟨e,l⟩) ?_ ?_
     ·rintro i ys j hi ⟨d,q,ly,u⟩;is_list;refine ⟨_,rfl,_,rfl,ls,_,rfl,.inl (aQ (d _ _ (s37 _ _ x3))),rfl,?_,_,rfl,?_⟩
      ·simp [wB]
      show if wC (.int (0+(i:Int))) ((gB a us b ws).map V.int)=true then _ else _
      rw [apj,qK,ab0];by_cases ci:(i:Int)∈gB a us b ws
      ·refine cA (d7 ci) ?_;rw [bF ci];refine ⟨aN (by kl_no),λl8 O=>?_⟩;km_lay O H8 O s8 x8;have e8:=s8 _ _ q;have n8:l8≠lc:=λz=>by subst z;rw [q] at O;cases O
       exact ⟨e8,bO fc (aB d s8),aO,by rw [dj];simp;lk, (u.more s8 (w:=[0]) x8 n8 (aG.free (aB s7 d) O))⟩
      ·refine bK (by simpa using ci) ?_;rw [bw ci];have n7:l7≠lc:=λz=>by subst z;rw [x7] at fc;cases fc
       exact ⟨_,rfl,q,bO fc d,aO,by rw [dj];simp;lk, (u.more (cO _) (d _ _ x7) n7 f7)⟩
     ·rintro ys j ⟨d,q,ly,u⟩;refine ⟨lc,ys,_,rfl,q,u.rows,by simp [jJ];lk, λi hi=>?_,λr S=>?_,λl9 Ja H9 f9 s9 x9 rn9=>?_⟩
      ·have hi':i<=a.toNat:=by simpa [jJ] using hi
       rw [al' _ _ _ _ hi'];exact eU (rb i hi') (by decide)
      ·unfold jJ at S;obtain ⟨k,_,rfl⟩:=gW.mp S;by_cases ck:(k:Int)∈gB a us b ws
       ·rw [bF ck];simp
       ·rw [bw ck,bD,xW];lk
      ·have nD:=aB s07 d;exact qQ c' l9 Ja H9 (nD.free f9) (aB nD s9) x9 (aa9 (λt h=>nD.free h) rn9))
   refine ⟨_,rfl,J,a,us,rfl,gC.kt (b_ fK (bG _)),W,a8,g,I,λlf D ff s3 ⟨rf,xf,R⟩=>?_⟩;have Y:=aB fK s3;have Zr:=R.len;refine ⟨lf,rfl,⟨_,aQ xf⟩,λl hl=>?_⟩;have fl:H l=none:=Y.free hl;have lfl:=aiV us (cM a us).2;refine rO (xs:=rf) (λi ys j=>aG D j/\j l=some (.lst ys)/\ys.length<=i/\ys=((((gP us (cM a us).2).take i).filter λw=>decide (w∈gP ws (cM b ws).2)).map (·.2)).map V.int) ⟨bO hl (cO D),aO,d_ _,rfl⟩ (aN (by lk)) (by rintro i ys j hi ⟨d,q,I,_⟩;exact ⟨aQ (d _ _ xf),q,I⟩) ?_ ?_
   ·rintro i x ys j hx ⟨d,q,I,u⟩;obtain ⟨w0,t0,hw0,rfl,ht0⟩:=R.get hx;refine ⟨⟨.inl rfl,.inr rfl,trivial⟩,_,rfl,_,rfl,M,b,ws,rfl,jT.kt (b_ (aB Y d) (bG _)),b1,b8,v,l2,λlg H4 fg C ⟨rg,xg,Ou⟩=>?_⟩;have Oz:=aB d C;have e4:=C _ _ q;have tk:(gP us (cM a us).2).take (i+1)=(gP us (cM a us).2).take i++[w0]:=gF hw0;refine ⟨_,_,.tup (Oz _ _ ht0) (.cons (.int _) (.cons (.int _) .nil)),.lst xg (abm Ou),ain w0,agZ _,aof w0 _,_,rfl,?_⟩;by_cases c:w0∈gP ws (cM b ws).2
    ·refine cA (d7 ((Qf _ _).mpr c)) ⟨_,rfl,t0,_,_,_,rfl,rfl,aX (Oz _ _ ht0),rfl,e4,bO hl Oz,aO,by rw [dj];simp;lk, ?_⟩;rw [tk,vI,dF,dF,u];simp [c]
    ·refine bK (by rw [nQ];exact λz=>c ((Qf _ _).mp z)) ⟨Oz,e4,by lk, ?_⟩;rw [tk,vI,dF,dF,u];simp [c]
   ·rintro ys j ⟨d,q,I,u⟩;rw [Zr,gG] at u;subst u;exact goB l j fl (aB s3 d) q)
  refine ⟨_,rfl,J,a,us,rfl,gC,W,a8,g,I,λm1 H1 s1 m10 m11=>?_⟩;have em1:=GR g m10 m11;refine ⟨_,rfl,M,b,ws,rfl,jT.kt (b_ s1 (bG _)),b1,b8,v,l2,λm2 H2 s2 m20 m21=>?_⟩;have em2:=GR v m20 m21;have B:=aB s1 s2;refine ⟨_,_,rfl,rfl,_,rfl,?_⟩;by_cases c:cW b ws<cW a us
  ·refine cA (d7 (by lk)) ?_;w_left;exact go J a us H2 B (gC.kt (b_ B (bG _))) W a8 g I (by unfold jx;rw [bF c])
  ·refine bK (by simp;lk) ?_;w_left;exact go M b ws H2 B (jT.kt (b_ B (bG _))) b1 b8 v l2 (by unfold jx;rw [bw c])
def adV:Ge Z "trials" 5 ["net"] (amd eA.many):=by
 o_head (tU Z.Yh,["net"],0);obtain ⟨v,aj,ws,rfl,a,e,d,ok,len,g,i⟩:=h;refine ⟨_,(aP (bf (jV (aan Z) hr.m rfl (ak (pv 0) (ak (pv 0) au))))),?_⟩
 try dsimp only [bN]
 refine ⟨_,rfl,_,rfl,v,v,aj,aj,ws,ws,rfl,a,a,e,d,e,d,ok,ok,len,len,?_,?_⟩
 ·rw [QJ,QH];exact λc H' s'=>g c H' s'
 ·rw [al9,QJ,QH];exact λc l b H' j s' x r=>i (λz=>absurd c (by unfold lX at z;lk)) l b H' j s' x r
def agR:Gc Z "tilt_between" 1 ["rows","more","less"] an6:=by
 o_head (cL Z.Yi,["rows","more","less"]);obtain ⟨l,rs,M,a,b,n,rfl,p,rows,C,u,a0,an,y,B,q⟩:=h;have v:=rows.len;refine ⟨_,(aP (bf (jC (ajq rfl) rfl T.aqY PyProof.Rows.boot_sum (ak (gJ ["row"] [("more",1),("less",2)] rfl (lM (pv 0)) (by k_all) (by k_mem) (by row_wit1 (jC (ait K rfl rfl) rfl T.yD zX (ak (aY iI (qZ (Gi K rfl) (pv 0) (pv 1) (λ_ _=>rfl)) (qZ (Gi K rfl) (pv 0) (pv 2) (λ_ _=>rfl))) (ak aA au))))) au)))),?_⟩
 try dsimp only [bN]
 refine ⟨_,rfl,l,rfl,⟨_,aQ p⟩,λo m=>?_⟩;refine rO (xs:=rs) (λj ys e=>aG H e/\e o=some (.lst ys)/\ys=((M.take j).map λr=>eE (r.getD a.toNat 0-r.getD b.toNat 0) 0).map V.int) ⟨bO m (cO _),aO,rfl⟩ (aN (by lk)) (by rintro j ys e D ⟨c,d,t⟩;exact ⟨aQ (c _ _ p),d,by rw [t,bD,bD,eF];lk⟩) ?_ ?_
 ·rintro j x ys e z ⟨c,d,rfl⟩;obtain ⟨r,k,g,rfl,i⟩:=rows.get z;have I:=u r (fQ g);is_list;refine ⟨_,rfl,_,rfl,k,_,_,_,rfl,rfl,aQ (c _ _ i),nZ a0 (by lk),_,rfl,_,rfl,k,_,_,_,rfl,rfl,aQ (c _ _ i),nZ y (by lk),_,_,rfl,rfl,_,_,rfl,d,bO m c,aO,?_⟩;rw [gF g,dF,dF,FW];rfl
 rintro ys e ⟨c,d,rfl⟩;rw [v,gG] at d;exact ⟨o,_,rfl,aQ d,q e c⟩
def agu:Gc Z "greatest_tilt" 5 ["net"] an7:=by
 o_head (cL Z.Yj,["net","rows","greatest","more","less"]);obtain ⟨v,aj,ws,rfl,c,z,x,ok,len,q⟩:=h;obtain ⟨n,t,rs,rfl,p,I,C⟩:=id c;refine ⟨_,(aL (bB 1 nd (aZ (aqD Z) hr.m rfl (ak (pv 0) au)))
 (aL (bB 2 nd aA)
 (aL (jd iR rfl  (jU rfl T.iT (ak (bQ (pv 0) aA) au)) (dI 3 nd)
 (aP (jd iR rfl  (jU rfl T.iT (ak (bQ (pv 0) aA) au)) (dI 4 nd)
 (aP (bB 2 nd (jC (FQ rfl) rfl T.yD zX (ak (pv 2) (ak (aZ (agR Z) hr.m rfl (ak (pv 1) (ak (pv 3) (ak (pv 4) au)))) au))))))))
 (aP (bf (pv 2)))))),?_⟩
 try dsimp only [bN]
 refine ⟨_,rfl,.ref n,aj,ws,rfl,c,z,x,ok,len,λl r H1 D k B u=>?_⟩;have rows:=u.rows;have tl:=aaX aj ws;refine ⟨_,rfl,n,_,_,_,rfl,rfl,aX (k _ _ p),rfl,aj,rfl,by lk, by lk, ?_⟩;refine u_ (n:=aj.toNat) (λi σ d=>∃ o a,σ=[some (.ref n),some (.ref l),some (.int (zc aj.toNat (sY aj ws) i)),o,a]/\aG H1 d) ⟨none,none,rfl,cO _⟩ ?_ ?_
 ·rintro i σ d hi ⟨o,a,rfl,e⟩;refine ⟨_,rfl,n,_,_,_,rfl,rfl,aX (e _ _ (k _ _ p)),rfl,aj,rfl,by lk, by lk, ?_⟩;refine u_ (n:=aj.toNat) (λj σ g=>∃ a,σ=[some (.ref n),some (.ref l),some (.int (yM (sY aj ws) i (zc aj.toNat (sY aj ws) i) j)),some (.int (0+(i:Int))),a]/\aG H1 g) ⟨a,rfl,e⟩ ?_ ?_
  ·rintro j σ g J ⟨a,rfl,b⟩;refine ⟨_,rfl,_,rfl,_,rfl,_,rfl,l,r,sY aj ws,0+(i:Int),0+(j:Int),aj.toNat,rfl,b _ _ B,rows.same b,by lk, aib,by lk, by lk, by lk, by lk, λH2 y=>⟨_,_,rfl,some (.int (0+(j:Int))),?_,aB b y⟩⟩;rw [QC,<-FW,show ((0:Int)+(i:Int)).toNat=i by lk, show ((0:Int)+(j:Int)).toNat=j by lk];rfl
  ·rintro σ g ⟨a,rfl,b⟩;refine ⟨some (.int (0+(i:Int))),a,?_,b⟩;rw [Rb]
 ·rintro σ d ⟨o,a,rfl,e⟩;exact ⟨_,rfl,q d (aB k e)⟩
def agh:Gc Z "common_divisor" 1 ["one","other"] aq4:=by
 o_head (cL Z.Yk,["one","other","rest"]);obtain ⟨a,b,rfl,a0,t,q⟩:=h;refine ⟨_,(aL (JT iR  (bW pG (pv 1) aA)
 (aL (bB 2 nd (aY jY (pv 0) (pv 1)))
 (aL (bB 0 nd (pv 1))
 (aP (bB 1 nd (pv 2))))))
 (aP (bf (pv 0)))),?_⟩
 try dsimp only [bN]
 refine alf (λσ d=>∃ (x y:Int) (l:Option V),σ=[some (.int x),some (.int y),l]/\d=H/\0<=x/\0<=y/\j6 x y=j6 a b) (λσ _=>match σ[1]? with|some (some (V.int y))=>y.toNat|_=>0) ⟨a,b,none,rfl,rfl,a0,t,rfl⟩ ?_ ?_
 ·rintro σ d ⟨x,y,l,rfl,rfl,j,n,e⟩;sr_in;refine kE (λg=>?_) (λg=>?_)
  ·have c:y≠0:=λz=>by subst z;simp at g
   have i:0<y:=by lk
   refine ⟨_,rfl,_,rfl,_,_,rfl,rfl,i,_,rfl,_,rfl,⟨y,x % y,_,rfl,rfl,n,Dg _ c,by rw [ajx j i];exact e⟩,?_⟩;show (x % y).toNat<y.toNat;have:=GD x i;have:=Dg x c;lk
  ·have c:y=0:=by
    by_cases z:y=0
    ·exact z
    ·exact absurd (by simp [z]) g
   subst c;w_left;rw [ajy j] at e;rw [e];exact q
 ·rintro σ d u o p h;obtain ⟨x,m,h1,k,r,h2⟩:=h;exact ⟨x,m,h1,k,r,p _ _ h2⟩
def aeC:Gc Z "bound" 6 ["net"] an8:=by
 o_head (cL Z.Yl,["net","top","bottom","divisor"]);obtain ⟨v,aj,ws,rfl,b,e,d,ok,len,r,z⟩:=h;have C:=JW ok len;have I:=JM aj ws;have x:0<=jQ aj ws:=aaZ _ _ _;have p:0<jR aj ws:=by unfold jR;lk
 have l:=abX (a:=jQ aj ws) p;have M:=an5 (a:=jQ aj ws) p;have L:jR aj ws<=2 ^ 42:=by unfold jR;lk
 refine ⟨_,(aL (cu (bW Lj (aZ (Tw Z) hr.m rfl (ak (pv 0) au)) kW)
 (aP (bf kW))
 cj)
 (aL (bB 1 nd (aZ (agu Z) hr.m rfl (ak (pv 0) au)))
 (aL (bB 2 nd (aY qg aA (aZ (zF Z) hr.m rfl (ak (pv 0) au))))
 (aL (bB 3 nd (aZ (agh Z) hr.m rfl (ak (pv 1) (ak (pv 2) au))))
 (aP (bf (cU (ak (aY JV (pv 1) (pv 3)) (ak (aY JV (pv 2) (pv 3)) au))))))))),?_⟩
 try dsimp only [bN]
 refine ⟨_,rfl,v,aj,ws,rfl,b,e,d,ok,len,λH1 c q=>?_,λD i k H1 J c B un=>?_⟩
 ·refine ⟨rfl,_,rfl,bK (by decide) ?_⟩;have g:=b.kt (b_ c (bG _));refine ⟨_,rfl,v,aj,ws,rfl,g,e,d,ok,len,λH2 n=>⟨_,rfl,v,aj,ws,rfl,g.kt (b_ n (bG _)),e,d,ok,len,λt u=>⟨_,_,rfl,rfl,.inl ⟨by decide,by decide⟩,_,rfl,_,rfl,jQ aj ws,jR aj ws,rfl,x,by lk, ⟨_,rfl,_,rfl,_,_,rfl,rfl,⟨l,by lk⟩,_,rfl,_,rfl,_,_,rfl,rfl,⟨l,by lk⟩,aN (by kl_no),λy j=>?_⟩⟩⟩⟩;have o:aG H t:=aB c (aB n u);exact z y _ (o.free j) (aB o (bM j _)) aO q
 ·exact ⟨rfl,_,rfl,cA (by simp) (r i k H1 c un)⟩
def adW:Gc Z "gap_of" 3 ["net","counts"] ard:=by
 o_head (cL Z.Ym,["net","counts","row"]);obtain ⟨v,aj,ws,c,cs,rfl,d,r,ok,len,j,o,q⟩:=h;refine ⟨_,(aL (bB 2 nd (aZ (qW Z) hr.m rfl (ak (pv 0) (ak (pv 1) au))))
 (aP (bf (aY iI (jC (ajg rfl) rfl T.yD zX (ak (pv 2) au)) (jC (aj7 rfl) rfl T.aeL ac0 (ak (pv 2) au)))))),?_⟩
 try dsimp only [bN]
 refine ⟨_,rfl,_,rfl,v,aj,ws,c,cs,rfl,d,ok,len,j,o,λg H1 p l e=>?_⟩;have tl:=rP ws cs;have i:cR cs ws≠[]:=by intro z;rw [z] at tl;simp at tl;lk
 refine ⟨_,rfl,g,_,rfl,aQ e,i,λa k=>⟨_,rfl,g,_,rfl,aQ e,i,λb n=>⟨_,_,rfl,rfl,?_⟩⟩⟩;rw [(tO.of k n).eq];exact q _ l
def G4:Ge Z "spread" 7 ["net"] (abE eA.many Tb (qt 213 34)):=by
 obtain ⟨f,fd,F,LC⟩:=Z.pS;refine F.Lw ?_ (by k_dec);have T:=Z.T;refine F.fn.okC QV (λvs H Q E h=>?_) (λcdv A outer s H vs Q E J hr h=>?_)
 ·obtain ⟨v,aj,ws,rfl,_⟩:=h;rfl
 ·have L:=J.symm.trans LC;subst L;have U:(Value.ref cS)=.ref cS:=rfl;obtain ⟨v,aj,ws,rfl,b,o,C,ok,len,hT,qE,qU,qS⟩:=h;obtain ⟨n,t,rs,en,hn,ht,cg⟩:=id b;refine ⟨_,(aL (bB 1 QV.nd (aZ (Tw Z) hr.m rfl (ak (pv 0) au)))
  (aL (cu (bW Lj (pv 1) kW)
  (aP (bf (cU (ak bA (ak (bQ (pv 1) aA) (ak (bQ (pv 1) aA) (ak (bQ (pv 1) aA) au)))))))
  cj)
  (aL (bB 2 QV.nd (aj6 (j:=0) (x:="counts") (y:="net") Z.LT U rfl hr.depth rfl T.yD (jV (adV Z) hr.m rfl (ak (pv 0) au)) rfl (by exact ⟨rfl,rfl,rfl,by k_go,rfl,rfl,by k_go⟩) rfl rfl rfl rfl (λ_ _ _ _ _ _=>rfl) (λf cd s H=>by exact (aZ (adW Z) ((hr.in1.deeper _).mono (by k_ne)) rfl (ak (pv 1) (ak (pv 0) au))))))
  (aP (bf (cU (ak bA (ak (aZ (adW Z) hr.m rfl (ak (pv 0) (ak (pv 2) au))) (ak (pv 2) au))))))))),?_⟩
  try dsimp only [bN]
  refine ⟨_,rfl,v,aj,ws,rfl,b,o,C,ok,len,λH1 e ev=>?_,λN i k H1 fT e I un=>?_⟩
  ·have gC:=b.kt (b_ e (bG _));w_up;by_cases z:lX aj ws
   ·refine ⟨_,rfl,v,aj,ws,rfl,gC,o,C,ok,len,λ_ H2 S=>qE ev z H2 (aB e S),λcS=>absurd z cS⟩
   ·refine ⟨_,rfl,v,aj,ws,rfl,gC,o,C,ok,len,λcS=>absurd cS z,λ_ l O H2 fl S x2 Y=>?_⟩;have M:=aB e S;have ZM:=Y.len;have lr0:=aou (aj:=aj) (ws:=ws);have W:∀ {i:Nat} {r:aU},(gA (lK aj ws))[i]?=some r->(gA (lK aj ws)).getD i []=r:=λ{i r} h=>by simp [List.getD,h]
    refine ⟨l,O,v,λB=>aG H2 B,λi=>uL (cR ((gA (lK aj ws)).getD i []) ws),rfl,M _ _ hT,rfl,by lk, cO _,λcS J=>bM J _,λB d=>aQ (d _ _ x2),λi r B hi d=>?_,λi r B hi d g=>?_⟩
    ·obtain ⟨c,p,a,rfl,n0,g0,u⟩:=Y.get hi;have R:c.length=aj.toNat:=by rw [abH c (fQ a),Fw]
     refine ⟨_,rfl,_,rfl,v,aj,ws,p,c,rfl,b.kt (b_ (aB M d) (bG _)),o,ok,by lk, d _ _ u,R,λH3 q=>⟨?_,aB d q⟩⟩;rw [W a]
    ·obtain ⟨c,p,a,rfl,n0,g0,u⟩:=Y.get hi;have R:c.length=aj.toNat:=by rw [abH c (fQ a),Fw]
     have nD:=aB M d;refine ⟨_,rfl,_,rfl,v,aj,ws,p,c,rfl,b.kt (b_ nD (bG _)),o,ok,by lk, d _ _ u,R,λH3 q=>⟨_,rfl,aN (by kl_no),λT5 f5=>?_⟩⟩;have eX:=aB nD q;have s5:=bM f5 (.tup [V.str "spread",V.int (uL (cR c ws)),V.ref p]);refine qS ev z T5 p c _ _ (eX.free f5) (e.free g0) (aB eX s5) aO (s5 _ _ (q _ _ (d _ _ u))) ⟨fQ a,rfl,λr' D=>?_⟩;obtain ⟨k,hk⟩:=acU D;have hb:=(g k (by rw [ZM];exact (gb.mp hk).1)).1;rw [W a,W hk] at hb;exact hb
  ·have nn:=un.not;tm_up;exact ⟨_,rfl,N,_,_,_,rfl,rfl,aX I,rfl,_,rfl,N,_,_,_,rfl,rfl,aX I,rfl,_,rfl,N,_,_,_,rfl,rfl,aX I,rfl,aN (by kl_no),λT4 f4=>qU T4 i k _ (e.free f4) (aB e (bM f4 _)) aO un⟩
def anq:Gc Z "spread" 7 ["net"] (adO Tb (qt 213 34)):=(G4 Z).non akA
def Mu:Gc Z "falls" 1 ["values"] aob:=by
 o_head (cL Z.Yn,["values","ahead","value"]);obtain ⟨c,cs,rfl,o,L,q⟩:=h;refine ⟨_,(aL (jd iR rfl  (adg rfl T.Hq (ak (pv 0) (ak (nG yc (pv 0) (nY aA) nW) au))) (pB rfl (ig (dI 1 nd) (ig (dI 2 nd) oX)))
 (aP (cu (bW tG (pv 2) (pv 1))
 (aP (bf pF))
 cj)))
 (aP (bf pF))),?_⟩
 try dsimp only [bN]
 refine ⟨_,rfl,_,rfl,_,rfl,c,_,rfl,aQ o,λp fp=>?_⟩;rw [asq];km_lay fp H1 fp e t;have d:=e _ _ o;refine ⟨c,p,rfl,⟨_,aQ d⟩,⟨_,aQ t⟩,?_⟩;refine alO (xs:=cs.map V.int) (ys:=(cs.map V.int).drop 1) (n:=cs.length-1) (by rw [bD];lk) (by rw [jO,bD];lk) (.inr (by rw [jO,bD])) (λi σ a=>∃ l m,σ=[some (.ref c),l,m]/\aG H1 a/\∀ j,j<i->cs.getD (j+1) 0<=cs.getD j 0) ⟨none,none,rfl,cO _,λj v=>absurd v (by lk)⟩ (by rintro i σ a _ ⟨_,_,_,b,_⟩;exact ⟨aQ (b _ _ d),aQ (b _ _ t)⟩) ?_ ?_
 ·rintro i x y T σ a hi J r I ⟨l,m,rfl,b,k⟩;obtain ⟨z,C,rfl⟩:=zP J;rw [List.getElem?_drop,Rz] at r;obtain ⟨u,D,rfl⟩:=zP r;refine ⟨T,_,rfl,aX aO,rfl,_,_,rfl,_,_,rfl,rfl,?_⟩;have B:aG H1 (upd a T (HO.tup [V.int z,V.int u])):=aB b (bM I _);refine ⟨_,rfl,_,rfl,_,_,rfl,rfl,_,rfl,kE (λg=>?_) (λg=>?_)⟩
  ·have g':z<u:=iM g;refine q false _ (aB e B) ⟨(λh=>nomatch h),λh=>?_⟩;have:=h i (by lk);rw [yd C,yd D] at this;lk
  ·have g':¬ z<u:=Td g;refine ⟨_,_,rfl,B,λj v=>?_⟩;by_cases c:j<i
   ·exact k j c
   ·have:j=i:=by lk
    subst this;rw [yd C,yd D];lk
 ·rintro σ a ⟨l,m,rfl,b,k⟩;exact q true a (aB e b) ⟨λ_ i hi=>k i (by lk),λ_=>rfl⟩
def abJ:Gc Z "is_level" 2 ["counts"] aoc:=by
 o_head (cL Z.Yo,["counts"]);obtain ⟨c,cs,rfl,g,pos,k,q⟩:=h;refine ⟨_,(aP (bf (qe (aZ (Mu Z) hr.m rfl (ak (pv 0) au)) (qT (aeE (an3 (pv 0)) (qT (je tE (aY iI (cD (pv 0) aA) (cD (pv 0) (aeF ad6 aA))) aA))))))),?_⟩
 try dsimp only [bN]
 refine ⟨_,rfl,c,cs,rfl,g,k,λb H1 e j=>?_⟩;have a:=e _ _ g;refine ⟨b,rfl,?_⟩;cases b with
 |false =>refine bK (by decide) (q false H1 e ⟨(λh=>nomatch h),λh=>?_⟩);exact j.mpr ((aaJ pos).mp h).1
 |true =>
  have l:=j.mp rfl;refine cA rfl ⟨_,rfl,true,.inl ⟨_,aQ a,?_⟩,_,rfl,bK (by decide) ?_⟩
  ·cases cs with
   |nil=>simp at pos
   |cons _ _=>rfl
  have d:(cs.map V.int)[(cs.map V.int).length-1]?=some (.int (cs.getD (cs.length-1) 0)):=by rw [bD,lN,anT (show cs.length-1<cs.length by lk)];rfl
  refine ⟨_,rfl,c,_,_,_,rfl,rfl,aQ a,nZ (i:=0) (by decide) (by lk),_,rfl,_,rfl,c,_,_,_,rfl,rfl,aQ a,alM d,_,_,rfl,rfl,_,_,rfl,rfl,q _ H1 e ?_⟩;rw [CQ,aaJ pos];exact ⟨λh=>⟨l,h⟩,λh=>h.2⟩
def G5:Ge Z "levels" 6 ["net"] (abF eA.many):=by
 refine tU Z.Yp λf fd F=>?_;have T:=Z.T;refine F.fn.Ik QW (λvs H Q E h=>?_) (λcdv A outer s H vs Q E hr h=>?_)
 ·obtain ⟨v,aj,ws,rfl,_⟩:=h;rfl
 ·obtain ⟨v,aj,ws,rfl,a,u,o,ok,len,qE,qL,qN⟩:=h;obtain ⟨n,t,rs,en,hn,ht,cg⟩:=id a;refine ⟨_,(aL (bB 1 QW.nd (aZ (Tw Z) hr.m rfl (ak (pv 0) au)))
  (aL (cu (bW Lj (pv 1) kW)
  (aP (bf (cU (ak bA (ak (aZ (FJ Z) hr.m rfl (ak (bQ (pv 0) aA) (ak (bQ (pv 1) aA) (ak (aY qg aA (aZ (zF Z) hr.m rfl (ak (pv 0) au))) au)))) au)))))
  cj)
  (aL (jd SX rfl  (lM (jV (adV Z) hr.m rfl (ak (pv 0) au))) (dI 2 QW.nd)
  (aP (cu (kZ (kY (aZ (abJ Z) hr.m rfl (ak (aZ (qW Z) hr.m rfl (ak (pv 0) (ak (pv 2) au))) au))))
  (aP (bf (cU (ak bA (ak (pv 2) au)))))
  cj)))
  (aP (bf (cU (ak bA au))))))),?_⟩
  try dsimp only [bN]
  refine ⟨_,rfl,v,aj,ws,rfl,a,u,o,ok,len,λH1 e ev=>?_,λT1 i k H1 fT e x1 un=>?_⟩
  ·have W:=a.kt (b_ e (bG _));w_up;by_cases I:lX aj ws
   ·refine ⟨_,rfl,v,aj,ws,rfl,W,u,o,ok,len,λ_ H2 q=>qE ev I H2 (aB e q),λc=>absurd I c⟩
   ·have D:¬ (lC (fD aj ws)/\lX aj ws):=λz=>I z.2;refine ⟨_,rfl,v,aj,ws,rfl,W,u,o,ok,len,λc=>absurd c I,λ_ l O H2 fl q x2 rn=>?_⟩;have j:=aB e q;have ZM:=rn.len;refine ⟨l,rfl,⟨_,aQ x2⟩,?_⟩;refine zM (xs:=O) (λi σ J=>∃ U,σ=[some v,some .non,U]/\aG H2 J/\∀ r∈(gA (lK aj ws)).take i,Dj (cR r ws)) ⟨none,rfl,cO _,by simp⟩ (by rintro i σ J _ ⟨_,_,d,_⟩;exact aQ (d _ _ x2)) ?_ ?_
    ·rintro i x σ J hx ⟨U,rfl,d,g⟩;obtain ⟨r,S,b,rfl,n0,g0,h0⟩:=rn.get hx;have rl:r.length=aj.toNat:=by rw [ank r (fQ b),Fw]
     refine ⟨_,rfl,_,rfl,v,aj,ws,S,r,rfl,a.kt (b_ (aB j d) (bG _)),ok,by lk, d _ _ h0,rl,λL H3 fa C B=>⟨L,_,rfl,B,by rw [rP];lk, by rw [rP];lk, λbo H4 p N=>?_⟩⟩;w_left;cases bo with
     |true =>
      refine bK (by decide) ⟨_,rfl,aB d (aB C p),?_⟩;rw [gF b];intro r' M;rcases o9.mp M with z|z
      ·exact g r' z
      ·rw [iu.mp z];exact N.mp rfl
     |false =>refine cA (by decide) ?_;have iK:=aB d (aB C p);have Y:=aB j iK;refine ⟨_,rfl,aN (by kl_no),λR y=>?_⟩;have s5:=bM y (.tup [V.str "not",V.ref S]);exact qN D R S r _ (Y.free y) (e.free g0) (aB Y s5) aO (s5 _ _ (iK _ _ h0)) rl (UW (n:=aj.toNat) (secs:=zQ aj ws) (by have:=vL ok;lk) (fQ b)) (λz=>by have:=N.mpr z;cases this) λz=>by have:=N.mpr (z.2 r (fQ b));cases this
    ·rintro σ J ⟨U,rfl,d,g⟩;rw [ZM,gG] at g;refine ⟨aN (by kl_no),λR y=>?_⟩;have nD:=aB j d;exact qL D R _ (nD.free y) (aB nD (bM y _)) aO ⟨ev,g⟩
  ·obtain ⟨ui,uk,ur⟩:=anj un;have D:¬ (lC (fD aj ws)/\lX aj ws):=λz=>un.not z.1;tm_up;refine ⟨_,rfl,n,_,_,_,en,rfl,aX (e _ _ hn),rfl,_,rfl,T1,_,_,_,rfl,rfl,aX x1,rfl,_,rfl,v,aj,ws,rfl,a.kt (b_ e (bG _)),u,o,ok,len,λH2 q=>?_⟩;have j:=aB e q;refine ⟨_,_,rfl,rfl,.inl ⟨by decide,by decide⟩,aj,(i:Int),_,rfl,u,o,by lk, by lk, λL H3 fa C B=>⟨aN (by kl_no),λT4 f4=>?_⟩⟩;have eX:=aB j C;have p:=bM f4 (.tup [V.str "not",V.ref L]);rw [o_] at B;have ol:(lB aj.toNat i (2*whole aj ws)).length=aj.toNat:=rQ _ _ _;refine qN D T4 L _ _ (eX.free f4) (j.free fa) (aB eX p) aO (p _ _ B) ol ((U0 (by have:=JM aj ws;lk)).mono (kJ _) (by have:=JW ok len;lk)) (λg=>?_) λz=>un.not z.1;have tl:=rP ws (lB aj.toNat i (2*whole aj ws));have z:=g 0 k (d_ _) (by rw [tl,ol];exact uk);rw [abT ok ui,abT ok ui] at z;lk
def anr:Gc Z "levels" 6 ["net"] adN:=(G5 Z).non akz
def PN:Gc Z "put_in_order" 1 ["net","values"] aq5:=by
 o_head (cL Z.Yq,["net","values","now","first","second","greater","lesser"]);obtain ⟨v,aj,ws,c,cs,rfl,⟨n,t,rs,rfl,O,D,y⟩,ok,len,B,N,q⟩:=h;have o:=y.len;refine ⟨_,(aL (bB 2 nd (dM JC rfl T.Ay Ce (ak (pv 1) au)))
 (aL (jd iR rfl  (oH (bQ (pv 0) aA)) (pB rfl (ig (dI 3 nd) (ig (dI 4 nd) oX)))
 (aL (bB 5 nd (jC (FQ rfl) rfl T.yD zX (ak (cD (pv 2) (pv 3)) (ak (cD (pv 2) (pv 4)) au))))
 (aL (bB 6 nd (jC (ai6 rfl) rfl T.aeL ac0 (ak (cD (pv 2) (pv 3)) (ak (cD (pv 2) (pv 4)) au))))
 (aL (mG (pv 5) (sW (pv 2) (pv 3) rK))
 (aP (mG (pv 6) (sW (pv 2) (pv 4) rK)))))))
 (aP (bf (pv 2))))),?_⟩
 try dsimp only [bN]
 refine ⟨_,rfl,c,_,rfl,.inl (aQ B),λa z=>⟨_,rfl,n,_,_,_,rfl,rfl,aX (by walk_at "hh"),by rfl,t,rfl,⟨rs,aX (by walk_at "hh")⟩,?_⟩⟩;refine Li (xs:=rs) (λi σ d=>∃ p k u r,σ=[some (.ref n),some (.ref c),some (.ref a),p,k,u,r]/\aG H d/\d a=some (.lst ((tR cs (ws.take i)).map V.int))) ⟨none,none,none,none,rfl,by walk_at "sm",aO⟩ (by rintro i σ d _ ⟨_,_,_,_,_,e,_⟩;exact aX (e _ _ D)) ?_ ?_
 ·rintro i x σ d J ⟨p,k,u,r,rfl,e,b⟩;obtain ⟨w0,C,g,rfl,m⟩:=y.get J;obtain ⟨l,R,j,L,M⟩:=bC.mem ok g;have I:=JZ (ws.take i) cs;refine ⟨C,_,rfl,aX (e _ _ m),rfl,_,_,rfl,_,_,rfl,rfl,_,rfl,_,rfl,a,_,_,_,rfl,rfl,aQ b,nZ l (by lk),_,rfl,_,rfl,a,_,_,_,rfl,rfl,aQ b,nZ j (by lk),_,_,rfl,_,rfl,_,rfl,a,_,_,_,rfl,rfl,aQ b,nZ l (by lk),_,rfl,_,rfl,a,_,_,_,rfl,rfl,aQ b,nZ j (by lk),_,_,rfl,_,rfl,_,rfl,_,rfl,a,_,w0.1,w0.1.toNat,rfl,rfl,b,wg l (by rw [bD];lk),_,rfl,_,rfl,_,rfl,a,_,w0.2,w0.2.toNat,rfl,rfl,aO,wg j (by rw [jW,bD];lk),?_⟩;rw [Dh];refine ⟨_,_,_,_,rfl,bO z e,?_⟩;rw [aO,gF g,ajD,FW,GQ,GQ];rfl
 ·rintro σ d ⟨p,k,u,r,rfl,e,b⟩;rw [o,gG] at b;exact ⟨_,rfl,q a d z e b⟩
def apr:Gc Z "orders" 3 ["net"] al4:=by
 o_head (cL Z.Yr,["net","bits"]);obtain ⟨v,aj,ws,rfl,D,w1,w8,ok,len,q1,q2⟩:=h;obtain ⟨n,t,rs,rfl,hn,ht,cg⟩:=id D;refine ⟨_,(aL (jd iR rfl  (lM (aZ (acy Z) hr.m rfl (ak (aY Ax (cQ (ak (cQ (ak aA (ak aA au))) au)) (bQ (pv 0) aA)) au))) (dI 1 nd)
 (aP (cu (kZ (kY (aZ (Mu Z) hr.m rfl (ak (aZ (PN Z) hr.m rfl (ak (pv 0) (ak (pv 1) au))) au))))
 (aP (bf (cU (ak bA (ak (pv 1) au)))))
 cj)))
 (aP (bf (cU (ak bA au))))),?_⟩
 try dsimp only [bN]
 refine ⟨aN (by kl_no),λa f0=>⟨aN (by kl_no),λo f1=>⟨_,rfl,n,_,_,_,rfl,rfl,aX (by walk_at "hh"),by rfl,o,aj,_,rfl,rfl,aO,by lk, by lk, aN (by show 1*aj.toNat<=100000;lk),λg f2=>?_⟩⟩⟩;have er:(replicate aj.toNat [V.ref a]).flatten=replicate aj.toNat (V.ref a):=by
  generalize aj.toNat=k;induction k with
  |zero=>rfl
  |succ k U=>rw [kI,sy,U,kI];rfl
 rw [er];have x0:(upd (upd (upd H a (HO.lst [V.int 0,V.int 1])) o (HO.lst [V.ref a])) g (HO.lst (replicate aj.toNat (V.ref a)))) a=some (.lst (([0,1]:aU).map V.int)):=by show _=some (HO.lst [V.int 0,V.int 1]);walk_at "hh"
 have x2:(upd (upd (upd H a (HO.lst [V.int 0,V.int 1])) o (HO.lst [V.ref a])) g (HO.lst (replicate aj.toNat (V.ref a)))) g=some (.lst (replicate aj.toNat (V.ref a))):=aO;have S:aG H (upd (upd (upd H a (HO.lst [V.int 0,V.int 1])) o (HO.lst [V.ref a])) g (HO.lst (replicate aj.toNat (V.ref a)))):=by walk_at "sm"
 generalize upd (upd (upd H a (HO.lst [V.int 0,V.int 1])) o (HO.lst [V.ref a])) g (HO.lst (replicate aj.toNat (V.ref a)))=H2 at x0 x2 S;have R:Rows H2 (replicate aj.toNat (V.ref a)) (replicate aj.toNat [0,1]):=by
  generalize aj.toNat=k;induction k with
  |zero=>exact .nil
  |succ k U=>rw [kI,kI];exact .cons ⟨a,rfl,x0⟩ U
 refine ⟨g,_,_,rfl,x2,R,by rw [uD];lk, λi hi=>?_,λr hr=>?_,λl3 ZQ H3 f3 s3 x3 rn=>?_⟩
 ·rw [uD] at hi;rw [ajH hi,Pn];exact eU (uo (by decide) (show i<=8 by lk)) (by decide)
 ·rw [(List.mem_replicate.mp hr).2];decide
 have lr:=rn.len;rw [Pn] at lr;have uZ:=aB S s3;refine ⟨l3,rfl,⟨_,aQ x3⟩,?_⟩;refine zM (xs:=ZQ) (λi σ l=>∃ N,σ=[some (.ref n),N]/\aG H3 l/\∀ j r,j<i->(gA (replicate aj.toNat [0,1]))[j]?=some r->yg (tR r ws)) ⟨none,rfl,cO _,λj r y=>absurd y (by lk)⟩ (by rintro i σ l _ ⟨_,_,d,_⟩;exact aQ (d _ _ x3)) ?_ ?_
 ·rintro i x σ l hx ⟨N,rfl,d,W⟩;obtain ⟨r,tr,p,rfl,ntl,J,L⟩:=rn.get hx;have q:=(abp aj.toNat r).mp (fQ p);have B:=d _ _ L;have C:aG H l:=aB uZ d;refine ⟨_,rfl,_,rfl,.ref n,aj,ws,tr,r,rfl,D.kt (b_ C (bG _)),ok,by lk, B,q.1,λl4 H4 f4 O x4=>⟨l4,_,rfl,x4,by rw [JZ,q.1];lk, λb H5 M I=>⟨b,rfl,?_⟩⟩⟩;have BK:aG H H5:=aB C (aB O M);cases b with
  |true =>
   refine bK (by decide) ⟨_,rfl,aB d (aB O M),λj u y hu=>?_⟩;by_cases c:j<i
   ·exact W j u c hu
   ·have:j=i:=by lk
    subst this;rw [p] at hu;cases hu;exact I.mp rfl
  |false =>refine cA (by decide) ?_;refine ⟨_,rfl,aN (by kl_no),λY e=>?_⟩;refine q2 Y tr r _ (BK.free e) (S.free J) (aB BK (bM e _)) aO ((bM e _) _ _ (M _ _ (O _ _ B))) q λz=>?_;have:=I.mpr z;cases this
 ·rintro σ l ⟨N,rfl,d,W⟩;have C:aG H l:=aB uZ d;refine ⟨aN (by kl_no),λY e=>q1 Y _ (C.free e) (aB C (bM e _)) aO λr q=>?_⟩;obtain ⟨j,y,ej⟩:=Ky.mp ((abp aj.toNat r).mpr q);exact W j r (by rw [lr,<-Pn];exact y) (by simp [y,ej])
def agv:Gc Z "one_lane_each" 2 ["wide","power"] ap3:=by
 o_head (cL Z.Ys,["wide","power"]);obtain ⟨aj,n,rfl,v,t,q⟩:=h;refine ⟨_,(aP (bf (gJ ["lane"] [("wide",0),("power",1)] rfl (jU rfl T.iT (ak (pv 0) au)) (by k_all) (by k_mem) (by row_wit1 (aZ (FJ Z) hr.m rfl (ak (pv 1) (ak (pv 0) (ak (pv 2) au)))))))),?_⟩
 try dsimp only [bN]
 refine ⟨_,rfl,aj,rfl,by lk, by lk, λl g=>?_⟩;refine qG (n:=aj.toNat) (λi ys b=>aG H b/\b l=some (.lst ys)/\eG H b l ys ((range i).map λi:Nat=>lB aj.toNat i n)) ⟨bO g (cO H),aO,.nil⟩ (aN (by lk)) (by rintro i ys b ⟨_,e,r⟩;exact ⟨e,by have:=r.len;simp at this;lk⟩) ?_ ?_
 ·rintro i ys b hi ⟨d,c,o⟩;is_list;refine ⟨_,rfl,_,rfl,_,rfl,aj,0+(i:Int),n,rfl,v,t,by lk, by lk, λa x k j p=>?_⟩;rw [show (0+(i:Int)).toNat=i by lk] at p;have u:a≠l:=λz=>by subst z;rw [c] at k;cases k
  refine ⟨j _ _ c,bO g (aB d j),aO,?_⟩;rw [mW,dF];exact o.more j p u (d.free k)
 ·rintro ys b ⟨d,c,o⟩;exact q l ys b g d c o
def aad:Gc Z "first_that_parts" 3 ["one","other","rows"] ag0:=by
 o_head (cL Z.Yt,["one","other","rows","counts"]);obtain ⟨y,C,aj,us,ws,l,rs,M,rfl,J,R,w1,w8,g,n,l1,Y,v,rows,U,D,L⟩:=h;have lr:=rows.len;refine ⟨_,(aL (jd iR rfl  (lM (pv 2)) (dI 3 nd)
 (aP (cu (bW (aec hr.units) (aZ (qW Z) hr.m rfl (ak (pv 0) (ak (pv 3) au))) (aZ (qW Z) hr.m rfl (ak (pv 1) (ak (pv 3) au))))
 (aP (bf (pv 3)))
 cj)))
 (aP (bf kW))),?_⟩
 try dsimp only [bN]
 refine ⟨_,rfl,l,rfl,⟨_,aQ v⟩,?_⟩;refine zM (xs:=rs) (λi σ e=>∃ p,σ=[some y,some C,some (.ref l),p]/\aG H e/\∀ r∈M.take i,cR r us=cR r ws) ⟨none,rfl,cO _,by simp⟩ (by rintro i σ e _ ⟨_,_,b,_⟩;exact aQ (b _ _ v)) ?_ ?_
 ·rintro i x σ e B ⟨p,rfl,b,all⟩;obtain ⟨r,t,a,rfl,k⟩:=rows.get B;have d:=U r (fQ a);refine ⟨_,rfl,_,rfl,y,aj,us,t,r,rfl,J.kt (b_ b (bG _)),g,l1,b _ _ k,d,λV H3 fa S x3=>?_⟩;have j:=aB b S;refine ⟨_,rfl,_,rfl,C,aj,ws,t,r,rfl,R.kt (b_ j (bG _)),n,Y,j _ _ k,d,λO I fb u N=>?_⟩;have o:=aB j u;refine ⟨V,O,_,_,rfl,rfl,aQ (u _ _ x3),aQ N,_,rfl,?_⟩;by_cases c:cR r us=cR r ws
  ·refine bK (by rw [c];simp) ⟨_,rfl,o,?_⟩;rw [gF a];intro W q;rcases o9.mp q with z|z
   ·exact all W z
   ·rw [iu.mp z];exact c
  ·exact cA (by simpa using λz=>c z) ⟨_,rfl,L i t r I o B a (o _ _ k) c⟩
 ·rintro σ e ⟨p,rfl,b,all⟩;rw [lr,gG] at all;exact D e b all
def adX:Ge Z "parted" 5 ["one","other"] (akt eA.fW eA.many):=by
 o_head (tU Z.Yu,["one","other","power","by_shares"],0);obtain ⟨L,M,a,b,us,ws,rfl,v,B,p,q,b1,b8,g,j,C,J,q1,q2,q3,q4⟩:=h;obtain ⟨n1,t1,Jf,Jj,x,ht1,hr1⟩:=id v;obtain ⟨n2,t2,Zx,N,W,Bx,hr2⟩:=id B;refine ⟨_,(aL (cu (bW pG (bQ (pv 0) aA) (bQ (pv 1) aA))
 (aP (xP Z.uY.vP rfl Z.uY.uf (ak bA au)))
 cj)
 (aL (bB 2 nd (jC (FQ rfl) rfl T.yD zX (ak (aZ (zF Z) hr.m rfl (ak (pv 0) au)) (ak (aZ (zF Z) hr.m rfl (ak (pv 1) au)) au))))
 (aL (bB 3 nd (aZ (aad Z) hr.m rfl (ak (pv 0) (ak (pv 1) (ak (aZ (agv Z) hr.m rfl (ak (bQ (pv 0) aA) (ak (pv 2) au))) au)))))
 (aL (cu (bW Lj (pv 3) kW)
 (aP (bf (pv 3)))
 cj)
 (aP (bf (aZ (aad Z) hr.m rfl (ak (pv 0) (ak (pv 1) (ak (jV (aan Z) hr.m rfl (ak (pv 0) (ak (pv 1) au))) au)))))))))),?_⟩
 try dsimp only [bN]
 refine ⟨_,rfl,n1,_,_,_,Jj,rfl,aX x,rfl,_,rfl,n2,_,_,_,N,rfl,aX W,rfl,rfl,_,rfl,?_⟩;by_cases c:a=b
 ·subst c;refine bK (by simp) ⟨_,rfl,L,a,us,rfl,v,p,q,g,C,λH1 s1=>⟨_,rfl,M,a,ws,rfl,B.kt (b_ s1 (bG _)),p,q,j,J,λH2 s2=>?_⟩⟩;have Y:=aB s1 s2;have ep:(if whole a ws>whole a us then whole a ws else whole a us)=((2 ^ jx a us a ws:Nat):Int):=by
   unfold whole jx;by_cases d:cW a ws<cW a us
   ·have:(2:Nat) ^ cW a ws<2 ^ cW a us:=Nat.pow_lt_pow_right (by decide) d;rw [bF d,bw (by lk)]
   ·have:(2:Nat) ^ cW a us<=2 ^ cW a ws:=uo (by decide) (by lk);rw [bw d];by_cases e:(2:Nat) ^ cW a us=2 ^ cW a ws
    ·rw [e];simp
    ·rw [bF (by lk)]
  refine ⟨_,_,rfl,?_⟩;rw [ep];refine ⟨_,rfl,_,rfl,_,rfl,n1,_,_,_,Jj,rfl,aX (Y _ _ x),rfl,_,rfl,a,_,rfl,p,q,λl3 ZQ H3 f3 s3 x3 r3=>?_⟩;have I:=aB Y s3;refine ⟨L,M,a,us,ws,l3,ZQ,_,rfl,v.kt (b_ I (bG _)),B.kt (b_ I (bG _)),p,q,g,j,by lk, by lk, x3,r3.rows,λr o=>?_,λH4 s4 all=>?_,λi t r H4 s4 hi y hx u=>?_⟩
  ·obtain ⟨i,_,rfl⟩:=gW.mp o;exact rQ _ _ _
  ·have l:Dw a us ws:=λi hi=>all _ (gW.mpr ⟨i,sO.mpr hi,rfl⟩);have n:=aB I s4;w_up;refine ⟨_,rfl,_,rfl,_,rfl,_,rfl,L,M,a,a,us,ws,rfl,v.kt (b_ n (bG _)),B.kt (b_ n (bG _)),p,q,p,q,g,j,C,J,λmu H5 U=>q2 rfl l mu H5 (aB n U),λnm l5 Ol H5 f5 U x5 r5=>?_⟩;have OD:¬ yF a us ws:=λz=>absurd nm (by unfold yF at z;lk);have D:=aB n U;refine ⟨L,M,a,us,ws,l5,Ol,_,rfl,v.kt (b_ D (bG _)),B.kt (b_ D (bG _)),p,q,g,j,by lk, by lk, x5,r5.rows,λr o=>?_,λH6 S O=>q3 rfl OD ⟨l,O⟩ H6 (aB D S),λi t r H6 S hi y hx u=>?_⟩
   ·rw [((vf _ r).mp o).1];simp [jJ]
   ·obtain ⟨r',t',V,R,n0,g0,h0⟩:=r5.get hi;cases R;refine q4 rfl (λz=>OD z.2) t r H6 (n.free g0) (aB D S) hx ?_ (UW (acq g j C J) (fQ y)) u λz=>u (z.2 r (fQ y));rw [((vf _ r).mp (fQ y)).1];simp [jJ]
  ·obtain ⟨r',t',V,R,n0,g0,h0⟩:=r3.get hi;cases R;have n:=aB I s4;obtain ⟨k,hk,rfl⟩:=gW.mp (fQ y);tm_up;exact ⟨_,rfl,q4 rfl (λz=>u (z.1 k (sO.mp hk))) t _ H4 (Y.free g0) n hx (rQ _ _ _) ((U0 (Int.natCast_nonneg _)).mono (kJ _) (by have:2 ^ jx a us a ws<=2 ^ 41:=uo (by decide) (acq g j C J);lk)) u λz=>u (z.1 k (sO.mp hk))⟩
 ·exact cA (by simp [c]) ⟨by show 1<=1000;decide,q1 c _ (cO _)⟩
def Tz:Gc Z "spaced" 1 ["things"] akr:=by
 o_head (cL Z.Yv,["things"]);obtain ⟨a,xs,ys,rfl,k,pw,len,q⟩:=h;refine ⟨_,(aP (bf (jg nU Lg Lh LK bA (ak (gJ ["thing"] [] rfl (Hs (lM (pv 0)) (oH (pv 0))) (by k_all) (by k_mem) (by row_wit1 (dM akf rfl T.mJ nF (ak (pv 0) au)))) au)))),?_⟩
 try dsimp only [bN]
 have J:(ofString " ")=⟨#[32]⟩:=by k_go
 have u:xs.length=ys.length:=uE pw;have C:=Dp pw;refine ⟨rfl,?_⟩;have step:∀ (c:Addr) (i:Nat) (x:V) (zs:aD) (b:Hp),H c=none->xs[i]?=some x->(aG H b/\b c=some (.lst zs)/\zs=(ys.take i).map V.str)->∃ y:Str,(aaL [x] b λv p=>p c=some (.lst zs)/\aG H (upd p c (.lst (zs++[v])))/\(upd p c (.lst (zs++[v]))) c=some (.lst (zs++[v]))/\zs++[v]=(ys.take (i+1)).map V.str):=λc i x zs b j m ⟨e,d,o⟩=>by
  have D:i<ys.length:=by have:=(gb.mp m).1;lk
  have l:ys[i]?=some ys[i]:=by simp [D]
  obtain ⟨L,n,B⟩:=Paired.M8 pw l;rw [m] at n;cases n;subst o;have r:∀ z:Str,ys[i]=z->b c=some (.lst ((ys.take i).map V.str))/\aG H (upd b c (.lst ((ys.take i).map V.str++[V.str z])))/\(upd b c (.lst ((ys.take i).map V.str++[V.str z]))) c=some (.lst ((ys.take i).map V.str++[V.str z]))/\(ys.take i).map V.str++[V.str z]=(ys.take (i+1)).map V.str:=λz I =>
   ⟨d,bO j e,aO,by rw [gF l,dF,I];rfl⟩
  refine ⟨ys[i],?_⟩;generalize ys[i]=z at B r;cases B with
  |int h=>exact .int _ rfl (qI h) (r _ rfl)
  |str h=>exact .str _ rfl (r _ rfl)
 have g:∀ (c:Addr) (b:Hp),(aG H b/\b c=some (.lst (ys.map V.str)))->aeh K (.str (ofString " ")) [.ref c] b Q:=by rintro c b ⟨e,d⟩;rw [J];exact ⟨_,c,ys,rfl,rfl,aQ d,by rw [show (⟨#[32]⟩:Str).length=1 from rfl];lk, q b e⟩
 rcases k with k|k
 ·refine .inl ⟨_,rfl,a,rfl,⟨_,aQ k⟩,λc j=>?_⟩;refine rO (xs:=xs) (λi zs b=>aG H b/\b c=some (.lst zs)/\zs=(ys.take i).map V.str) ⟨bO j (cO H),aO,rfl⟩ (aN (by lk)) (by rintro i zs b hi ⟨e,d,o⟩;exact ⟨aQ (e _ _ k),d,by rw [o,bD,eF];lk⟩) ?_ ?_
  ·rintro i x zs b m t;obtain ⟨y,l⟩:=step c i x zs b j m t;exact ⟨⟨.inl rfl,trivial⟩,mZ ⟨_,rfl,l⟩⟩
  ·rintro zs b ⟨e,d,rfl⟩;rw [u,gG] at d;exact g c b ⟨e,d⟩
 ·refine .inr ⟨_,rfl,a,rfl,⟨_,aX k⟩,λc j=>?_⟩;refine rT (xs:=xs) (λi zs b=>aG H b/\b c=some (.lst zs)/\zs=(ys.take i).map V.str) ⟨bO j (cO H),aO,rfl⟩ (aN (by lk)) (by rintro i zs b hi ⟨e,d,o⟩;exact ⟨aX (e _ _ k),d,by rw [o,bD,eF];lk⟩) ?_ ?_
  ·rintro i x zs b m t;obtain ⟨y,l⟩:=step c i x zs b j m t;exact ⟨⟨.inl rfl,trivial⟩,mZ ⟨_,rfl,l⟩⟩
  ·rintro zs b ⟨e,d,rfl⟩;rw [u,gG] at d;exact g c b ⟨e,d⟩
def aqE:Gr Z "net" ["new net","text"] abC:=by
 o_head (yR 8 Z.Yw,["things"]);obtain ⟨l,d,aj,ws,rfl,a,c,b,ok,len,q⟩:=h;refine ⟨_,(aP (bf (aZ (akZ Z) hr.m rfl (ak (cD (pv 0) aA) au)))),?_⟩
 try dsimp only [bN]
 exact ⟨_,rfl,l,_,_,_,rfl,rfl,aQ a,rfl,aj,ws,rfl,c,b,ok,len,q⟩
def ak4:Gr Z "folded" ["new net","number"] (afn (ug eA.fW 4)):=by
 o_head (wN 12 Z.Yx,["things"],0);obtain ⟨l,y,x,rfl,b,h⟩:=h;refine ⟨_,(aP (bf (bQ (jV (Tv Z) hr.m rfl (ak (cD (pv 0) aA) au)) aA))),?_⟩
 try dsimp only [bN]
 refine ⟨_,rfl,l,_,_,_,rfl,rfl,aQ b,rfl,ahD h λu H' ⟨t,v,p,e,a,q⟩=>?_⟩;subst e;exact ⟨t,_,_,_,rfl,rfl,aX a,rfl,q⟩
def ak5:Gr Z "rounds" ["new net","number"] (yQ (JQ eA.fW)):=by
 o_head (wN 8 Z.Yy,["things"],0);obtain ⟨l,y,x,rfl,a,h⟩:=h;refine ⟨_,(aP (bf (jV (apm Z) hr.m rfl (ak (cD (pv 0) aA) au)))),?_⟩
 try dsimp only [bN]
 exact ⟨_,rfl,l,_,_,_,rfl,rfl,aQ a,rfl,h⟩
def ant:Gr Z "brick" ["new net","number"] (yQ (J0 eA.fW)):=by
 o_head (wN 8 Z.Yz,["things"],0);obtain ⟨l,y,x,rfl,a,h⟩:=h;refine ⟨_,(aP (bf (jV (aqC Z) hr.m rfl (ak (cD (pv 0) aA) au)))),?_⟩
 try dsimp only [bN]
 exact ⟨_,rfl,l,_,_,_,rfl,rfl,aQ a,rfl,h⟩
def ak6:Gr Z "behind" ["new net","net","net"] (Ng (Dv eA yj)):=by
 o_head (wN 3 Z.YB,["things"],0);obtain ⟨l,y,x,z,rfl,a,h⟩:=h;refine ⟨_,(aP (bf (jV (apn Z) hr.m rfl (ak (cD (pv 0) aA) (ak (cD (pv 0) aA) au))))),?_⟩
 try dsimp only [bN]
 exact ⟨_,rfl,l,_,_,_,rfl,rfl,aQ a,rfl,_,rfl,l,_,_,_,rfl,rfl,aQ a,rfl,h⟩
def ak7:Gr Z "beside" ["new net","net","net"] (Ng (Dv eA yp)):=by
 o_head (wN 3 Z.YC,["things"],0);obtain ⟨l,y,x,z,rfl,a,h⟩:=h;refine ⟨_,(aP (bf (jV (apo Z) hr.m rfl (ak (cD (pv 0) aA) (ak (cD (pv 0) aA) au))))),?_⟩
 try dsimp only [bN]
 exact ⟨_,rfl,l,_,_,_,rfl,rfl,aQ a,rfl,_,rfl,l,_,_,_,rfl,rfl,aQ a,rfl,h⟩
def ak8:Gr Z "mirror" ["new net","net"] (yQ Ql):=by
 o_head (yR 2 Z.YD,["things"]);obtain ⟨l,y,x,rfl,a,h⟩:=h;refine ⟨_,(aP (bf (aZ (ak3 Z) hr.m rfl (ak (cD (pv 0) aA) au)))),?_⟩
 try dsimp only [bN]
 exact ⟨_,rfl,l,_,_,_,rfl,rfl,aQ a,rfl,h⟩
def aps:Gr Z "slim" ["new net","net"] (yQ Ur):=by
 o_head (yR 2 Z.YF,["things"]);obtain ⟨l,y,x,rfl,a,h⟩:=h;refine ⟨_,(aP (bf (aZ (anp Z) hr.m rfl (ak (cD (pv 0) aA) au)))),?_⟩
 try dsimp only [bN]
 exact ⟨_,rfl,l,_,_,_,rfl,rfl,aQ a,rfl,h⟩
def adY:Gr Z "show" ["net"] (Bk eA.many Hu afq):=by
 o_head (yR 2 Z.YG,["things"]);obtain ⟨l,v,aj,ws,rfl,b,a,_,e,q⟩:=h;refine ⟨_,(aP (bf (aZ (ak0 Z) hr.m rfl (ak (cD (pv 0) aA) au)))),?_⟩
 try dsimp only [bN]
 exact ⟨_,rfl,l,_,_,_,rfl,rfl,aQ b,rfl,v,aj,ws,rfl,a.1,a.2.1,a.2.2.1,a.2.2.2.1,a.2.2.2.2,λH1 c=>q _ .mk H1 c⟩
def acz:Gr Z "depth" ["net"] (Bk eA.many Hu afr):=by
 o_head (yR 3 Z.YH,["things"]);obtain ⟨l,v,aj,ws,rfl,b,a,_,e,q⟩:=h;refine ⟨_,(aP (bf (dM qD rfl T.mJ nF (ak (aZ (DK Z) hr.m rfl (ak (cD (pv 0) aA) au)) au)))),?_⟩
 try dsimp only [bN]
 refine ⟨_,rfl,l,_,_,_,rfl,rfl,aQ b,rfl,v,aj,ws,rfl,a.1,a.2.1,a.2.2.1,a.2.2.2.1,a.2.2.2.2,λm H1 g d h1=>?_⟩;have c:=aeu a.2.2.2.1 d h1;have:=vL a.2.2.2.1;have:=a.2.2.2.2;rw [c];exact ⟨_,rfl,qI (Kw (show ((cW aj ws:Nat):Int).natAbs<=41 by lk) (by k_go)),q _ .mk H1 g⟩
def anu:Gr Z "exits" ["net","number"] Rq:=by
 o_head (yR 3 Z.YJ,["things","net","counts"]);obtain ⟨l,v,aj,ws,cs,rfl,g,b,i,y,q⟩:=h;obtain ⟨n,t,rs,rfl,x,C,z⟩:=id b.1;refine ⟨_,(aL (bB 1 nd (cD (pv 0) aA))
 (aL (bB 2 nd (nG yc (pv 0) (nY aA) nW))
 (aL (cu (bW pG (jH T (pv 2)) (bQ (pv 1) aA))
 (aP rR)
 cj)
 (aP (bf (aZ (Tz Z) hr.m rfl (ak (aZ (qW Z) hr.m rfl (ak (pv 1) (ak (pv 2) au))) au))))))),?_⟩
 try dsimp only [bN]
 refine ⟨_,rfl,l,_,_,_,rfl,rfl,aQ g,vK (j:=0) rfl,_,rfl,_,rfl,l,_,rfl,aQ g,λk e=>?_⟩;rw [ako];km_lay e H1 e c d;have I:=b.2.1;have B:=b.2.2.1;exact ⟨_,rfl,k,_,rfl,.inl (aQ d),_,rfl,n,_,_,_,rfl,rfl,aX (c _ _ x),rfl,rfl,_,rfl,bK (M6 (gM V.int (by rw [bD,i];lk))) ⟨_,rfl,_,rfl,.ref n,aj,ws,k,cs,rfl,b.1.kt (b_ c (bG _)),b.2.2.2.1,by have:=b.2.2.2.2;lk, d,i,λa H2 D r u=>⟨a,_,_,rfl,.inl u,xQ y,by rw [bD,rP];lk, λo p=>q o (aB c (aB r p))⟩⟩⟩
def ak9:Gc Z "words_of" 1 ["row"] (akk (vR fP)):=by
 o_head (cL Z.YK,["row","words"]);obtain ⟨x,w0,r,rfl,len,a,k,q⟩:=h;refine ⟨_,(aL (cu (kZ (kY (jC Fy rfl T.xu boot_isinstance (ak (pv 0) (ak (Aa (v:=V.ty "str") (u:=.type "str") rfl T.mJ (by k_go) rfl) au)))))
 (aP rR)
 cj)
 (aL (bB 1 nd (jg nU z7 z8 Cp (pv 0) (ak bA au)))
 (aL (cu (ad4 (aj' Z.RT.kd (cD (pv 1) aA) (xZ (v:=V.ref _) rfl Z.RT.at_ rfl)) (by with_unfolding_all rfl))
 (aP rR)
 cj)
 (aP (bf (ud (bW cT (cD (pv 1) aA) bA) (jg nU z7 z8 akb (pv 0) (ak bA (ak aA au))) (pv 1))))))),?_⟩
 try dsimp only [bN]
 have i:(ofString " ")=⟨#[32]⟩:=by k_go
 refine ⟨_,rfl,_,_,_,true,rfl,jh.str _,rfl,_,rfl,bK (by decide) ⟨_,rfl,rfl,x,ofString " ",rfl,rfl,rfl,by lk, λl d=>?_⟩⟩;rw [i,a];km_lay d H1 d e b;refine ⟨_,rfl,l,_,_,_,rfl,rfl,aQ b,uM,.inr w0,rfl,_,rfl,bK (by rw [k];decide) ⟨_,rfl,l,_,_,_,rfl,rfl,aQ b,uM,rfl,_,rfl,?_⟩⟩;by_cases c:w0="net"
 ·refine cA (by rw [c];simp) ⟨_,rfl,rfl,x,ofString " ",2,rfl,rfl,rfl,by lk, by lk, by lk, λj g=>?_⟩;rw [i];refine q j _ (e.free g) (aB e (bM g _)) ?_;rw [aO];unfold yw;rw [a,bF (by rw [c];rfl)]
 ·refine bK (λz=>c (V.str.inj (iM z))) ⟨_,rfl,q l H1 d e ?_⟩;rw [b];unfold yw;rw [a,bw (show ¬ (w0::r).head?=some (ofString "net") from λz=>c (gw z))]
def ak_:Gc Z "kinds_of" 1 ["words"] (aoR K (vR fP)):=by
 o_head (cL Z.YL,["words","kinds"]);obtain ⟨l,w0,r,k,f,rfl,e,⟨a,kt,x,g,b⟩,o,J,I,q⟩:=h;refine ⟨_,(aL (bB 1 nd (bQ (adD Z.RT.kd (xZ (v:=V.ref _) rfl Z.RT.at_ rfl) (cD (pv 0) aA) (λ_ _=>rfl)) aA))
 (aL (cu (bW cT (cD (pv 0) aA) bA)
 (aP (bf (aY aoM (pv 1) (aY aoL (cU (ak bA au)) (aY iI (aY iI (jH T (pv 0)) aA) (jH T (pv 1)))))))
 cj)
 (aP (bf (pv 1))))),?_⟩
 try dsimp only [bN]
 refine ⟨_,rfl,l,_,_,_,rfl,rfl,aQ e,uM,.inr w0,a,rfl,x,a,_,_,_,rfl,rfl,(g H).sq,rfl,_,rfl,l,_,_,_,rfl,rfl,aQ e,uM,rfl,_,rfl,?_⟩;by_cases c:w0="exits"
 ·refine cA (by rw [c];simp) ⟨_,rfl,aN (by kl_no),λD d=>?_⟩;km_lay d H1 d j n;have i:=j _ _ e;refine ⟨_,rfl,l,_,rfl,.inl (aQ i),_,_,rfl,rfl,_,rfl,kt,_,rfl,.inr (b H1).sq,_,_,rfl,rfl,D,_,_,rfl,rfl,n,by simp,by simp;lk, by simp;lk, λp2 H2 y m=>?_⟩;have u:((((map V.str (w0::r)).length:Nat):Int)-1-(((map V.str k).length:Nat):Int)).toNat=r.length-k.length:=by rw [bD,bD,gj];lk
  rw [u,Rp] at m;refine ⟨kt,p2,_,_,rfl,rfl,b H2,m,by simpa using o,aN (by rw [bD,uD];lk),λB p t C=>q B p (aB j (aB y t)) ?_⟩;unfold g_;rw [bF c,dF,List.map_replicate];exact C
 ·refine bK (λz=>c (V.str.inj (iM z))) ⟨_,rfl,q kt H (cO _) ?_⟩;unfold g_;rw [bw c];exact b H
def anv:Gc Z "is_name" 1 ["word"] amG:=by
 o_head (cL Z.YM,["word"]);obtain ⟨y,rfl,len,q⟩:=h;refine ⟨_,(aP (bf (qe (abL tE tE aA (jC aau rfl T.Vh Sy (ak (pv 0) au)) (yh rfl Z.PK)) (qT (jC (Qx rfl) rfl T.Vi boot_all (ak (gJ ["sign"] [] rfl (aei (pv 0)) (by k_all) (by k_mem) (by row_wit1 (S5 aa' (pv 0) (adC rfl Z.Pu) (by with_unfolding_all rfl)))) au)))))),?_⟩
 try dsimp only [bN]
 refine ⟨_,rfl,y,rfl,aN (by lk),_,_,rfl,rfl,?_⟩;by_cases j:(1:Int)<=(y.length:Int)
 rotate_left
 ·refine ⟨_,rfl,bK (by simpa using j) ⟨_,rfl,bK (by decide) (q false H (cO _) (uU λz=>j (by have:=z.1;rw [cY] at this;lk)))⟩⟩
 refine ⟨_,rfl,cA (d7 j) ⟨_,_,rfl,rfl,_,rfl,?_⟩⟩;by_cases k:(y.length:Int)<=8
 rotate_left
 ·exact bK (by simpa using k) (q false H (cO _) (uU λz=>k (by have:=z.2.1;rw [cY] at this;lk)))
 refine cA (d7 k) ⟨_,rfl,y,rfl,λn m=>?_⟩;refine Rn (x:=y) (λi ys d=>aG H d/\d n=some (.lst ys)/\ys=(((Ls y).take i).map λc=>decide (97<=c/\c<=122)).map V.bl) ⟨bO m (cO H),aO,rfl⟩ (aN (by show (Ls y).length<=_;rw [cY];lk)) (by rintro i ys d ⟨g,a,r⟩;exact ⟨a,by rw [r,bD,bD,eF];lk⟩) ?_ ?_
 ·rintro i c ys d e ⟨g,a,rfl⟩;isplit;refine ⟨_,rfl,_,_,rfl,rfl,?_⟩;rw [aoQ c];refine ⟨a,bO m g,aO,?_⟩;have l:(Ls y)[i]?=some c:=by unfold Ls;rw [SM];exact e
  rw [gF l,dF,dF];rfl
 ·rintro ys d ⟨g,a,rfl⟩;have o:((Ls y).take y.cps.size)=Ls y:=sI (by rw [cY];exact bJ _);rw [o] at a;refine ⟨n,_,rfl,aQ a,q _ d g ?_⟩;rw [xU];constructor
  ·intro h;refine ⟨by rw [cY];lk, by rw [cY];lk, λc e=>iM (h _ (gW.mpr ⟨c,e,rfl⟩))⟩
  ·intro h b p;obtain ⟨c,e,rfl⟩:=gW.mp p;exact d7 (h.2.2 c e)
def arI:Gc Z "fits" 2 ["kind","word"] aqn:=by
 o_head (cL Z.YQ,["kind","word"]);obtain ⟨k,x,rfl,len,q⟩:=h;have Qq:=(aaR Z);refine ⟨_,(aL (cu (bW cT (pv 0) bA)
 (aP (bf pF))
 cj)
 (aP (bf (ud (bW cT (pv 0) bA) (aZ Qq hr.m rfl (ak (pv 1) au)) (aZ (anv Z) hr.m rfl (ak (pv 1) au)))))),?_⟩
 try dsimp only [bN]
 sr_in;by_cases c:k="text"
 ·subst c;exact cA (by simp) (q true H (cO _) (Io .text))
 refine bK (λz=>c (V.str.inj (iM z))) ?_;sr_in;by_cases a:k="number"
 ·subst a;refine cA (by simp) ⟨_,rfl,x,rfl,len,λb H1 e d=>q b H1 e (d.trans ⟨λz=>.num z,λz=>?_⟩)⟩;cases z with
  |num h=>exact h
  |name g n2 h=>exact absurd rfl n2
 ·refine bK (λz=>a (V.str.inj (iM z))) ⟨_,rfl,x,rfl,len,λb H1 e d=>q b H1 e (d.trans ⟨λz=>.name c a z,λz=>?_⟩)⟩;cases z with
  |text=>exact absurd rfl c
  |num h=>exact absurd rfl a
  |name g n2 h=>exact h
def afU:Gc Z "refuse_unless_fitting" 3 ["kinds","words"] (akm K):=by
 o_head (cL Z.YS,["kinds","words","kind","word"]);obtain ⟨t,l,ks,xs,rfl,k,r,C,len,le,q⟩:=h;have B:ks.length=xs.length:=uE C;refine ⟨_,(aL (cu (bW pG (jH T (pv 1)) (jH T (pv 0)))
 (aP rR)
 cj)
 (aP (jd iR rfl  (Rg rfl T.Hq (ak (pv 0) (ak (pv 1) au))) (pB rfl (ig (dI 2 nd) (ig (dI 3 nd) oX)))
 (aP (cu (kZ (kY (aZ (arI Z) hr.m rfl (ak (pv 2) (ak (pv 3) au)))))
 (aP rR)
 cj))))),?_⟩
 try dsimp only [bN]
 refine ⟨_,rfl,l,_,rfl,.inl (aQ r),_,rfl,t,_,rfl,.inr k,rfl,_,rfl,bK (by simp [B]) ⟨_,rfl,_,rfl,t,l,rfl,⟨_,k⟩,⟨_,aQ r⟩,?_⟩⟩;refine anU (xs:=ks.map V.str) (ys:=xs.map V.str) (by rw [bD,bD];exact B) (λi σ a=>∃ v o,σ=[some (.ref t),some (.ref l),v,o]/\aG H a) ⟨none,none,rfl,cO _⟩ (by rintro i σ a _ ⟨_,_,_,c⟩;exact ⟨c.asA k,aQ (c _ _ r)⟩) ?_ ?_
 ·rintro i x y n σ a M D L ⟨v,o,rfl,c⟩;obtain ⟨p,j,rfl⟩:=Cr M;obtain ⟨g,d,rfl⟩:=Cr D;have z:aG a (upd a n (HO.tup [V.str p,V.str g])):=bM L _;refine ⟨n,_,rfl,aX aO,rfl,?_⟩;generalize upd a n (HO.tup [V.str p,V.str g])=H1 at z;refine ⟨_,_,rfl,_,_,rfl,rfl,_,rfl,_,rfl,p,g,rfl,le g (fQ d),λb H2 J I=>?_⟩;obtain ⟨N,e,u⟩:=Paired.M8 C d;rw [j] at e;cases e;rw [I.mpr u];walk2;exact ⟨_,_,rfl,aB c (aB z J)⟩
 ·rintro σ a ⟨v,o,rfl,c⟩;exact q a c
def aaS:Gc Z "taken_from" 1 ["shelf","name"] aoT:=by
 o_head (cL Z.YT,["shelf","name"]);obtain ⟨a,aV,x,v,rfl,b,c,q⟩:=h;refine ⟨_,(aL (cu (ad4 (aj4 (mH hr) (pv 1) (pv 0)) (by with_unfolding_all rfl))
 (aP rR)
 cj)
 (aP (bf (vQ (mH hr) (pv 0) (pv 1) (λ_ _=>rfl))))),?_⟩
 try dsimp only [bN]
 have g:jz H a (kV (.inr x)) (some v):=by rw [<-c];exact jz.k b
 exact ⟨_,rfl,_,rfl,a,_,rfl,g,_,rfl,bK (by simp) ⟨_,rfl,_,rfl,a,v,rfl,g,q⟩⟩
def ahd (F:yE K mg Cd "__init__" "Desk.__init__" aaP f fd):dz P w K mg aF jj 1 f fd ["self"] (adL Cd):=by
 o_head ["self"];obtain ⟨d,dx,rfl,k,q⟩:=h;refine ⟨_,(aL (ad_ (pv 0) Rm rfl)
 (aP (ad_ (pv 0) Rm rfl))),?_⟩
 try dsimp only [bN]
 intro n g;have c:d≠n:=cH k g;refine ⟨_,rfl,d,Cd,dx,[],rfl,(bh c).trans k,Z.TD.cl,Z.TD.nN,(by show 0<1000;decide),?_⟩;intro p fp;have j:p≠d:=λz=>by rw [z,aO] at fp;cases fp
 have i:p≠n:=λz=>by rw [z,bh (bL c),aO] at fp;cases fp
 have a:H p=none:=by rw [bh j,bh i] at fp;exact fp
 refine ⟨_,rfl,d,Cd,dx,_,rfl,(bh (bL j)).trans aO,Z.TD.cl,Z.TD.nP,(by have:=abV "nets" (V.ref n) [];simp at this;lk),q ⟨dx,n,p⟩ _ g a ⟨aO,?_,?_,bL i,by simp,by simp⟩ λb o e l=>?_⟩
 ·show (upd _ d _) n=_;rw [bh (bL c),bh (bL i),bh (bL c),aO]
 ·show (upd _ d _) p=_;rw [bh j,aO]
 ·rw [bh l,bh (cH e a),bh l,bh (cH e g)];exact e
def aqF:Maker P w K mg aF "Desk" Cd 1 ["self"] (adL Cd):=let ⟨_,_,F⟩:=Z.YW;⟨⟨_,_,ahd Z F,F.fn.binds (by k_dec),Z.akU,F.mt.1,F.mt.2,Z.akV⟩,Z.akW⟩
def agw:Eh P w K mg aF Cd "thing_of" 2 ["self","kind","word"] (aoU Cd):=by
 o_head (asG Z.YX,["self","kind","word"]);obtain ⟨d,D,kn,kp,k,x,v,rfl,a,th,q⟩:=h;refine ⟨_,(aL (cu (bW cT (pv 1) bA)
 (aP (bf (aZ (aaS Z) hr.m rfl (ak (Mp (pv 0) rfl) (ak (pv 2) au)))))
 cj)
 (aL (cu (bW cT (pv 1) bA)
 (aP (bf (aZ (aaS Z) hr.m rfl (ak (Mp (pv 0) rfl) (ak (pv 2) au)))))
 cj)
 (aP (bf (ud (bW cT (pv 1) bA) (dM QM rfl T.wD xM (ak (pv 2) au)) (pv 2)))))),?_⟩
 try dsimp only [bN]
 sr_in;cases th with
 |net h =>refine cA (by simp) ?_;exact ⟨_,rfl,d,Cd,_,_,_,rfl,a.ob,Z.TD.cl,Z.TD.nN,acn _,_,rfl,D.n,kn,x,v,rfl,a.ne,h,q⟩
 |play h =>refine bK (by k_go) ?_;tm_up;exact ⟨_,rfl,d,Cd,_,_,_,rfl,a.ob,Z.TD.cl,Z.TD.nP,abB _,_,rfl,D.q,kp,x,v,rfl,a.pl,h,q⟩
 |num h l =>refine bK (by k_go) ?_;k_upd;tm_up;exact ⟨_,rfl,x,_,rfl,h,l,q⟩
 |other b n2 c =>refine bK (λz=>b (V.str.inj (iM z))) ?_;refine ⟨_,rfl,rfl,_,rfl,bK (λz=>n2 (V.str.inj (iM z))) ?_⟩;refine ⟨_,rfl,rfl,_,rfl,bK (λz=>c (V.str.inj (iM z))) ?_⟩;exact ⟨_,rfl,q⟩
def abK:DW P w K mg aF Cd "say" 14 ["self","row"] (rA P w K mg aF (vR fP) 13 Cd):=by
 o_head (asH Z.YZ,["self","row","words","kinds","things","told"],0);obtain ⟨d,D,kn,kp,x,w0,B,M,p,kr,sp,ts,rfl,da,len,hh,hw,⟨f1,rk,cal⟩,cX,lx,fit,th,le,ln,lp,q⟩:=h;refine ⟨_,(aL (bB 2 nd (aZ (ak9 Z) hr.m rfl (ak (pv 1) au)))
 (aL (bB 3 nd (aZ (ak_ Z) hr.m rfl (ak (pv 2) au)))
 (aL (pX (aZ (afU Z) hr.m rfl (ak (pv 3) (ak (nG yc (pv 2) (nY aA) nW) au))))
 (aL (Qi (i:=4) nd rfl (by k_in) ["kind","word"] [("self",0)] rfl (Rg rfl T.Hq (ak (pv 3) (ak (nG yc (pv 2) (nY aA) nW) au))) (by w_tab) (by k_mem) (by row_wit1 (abU (pv 2) Z.TD.cl (agw Z) hr.m (ak (pv 0) (ak (pv 1) au)))))
 (aL (bB 5 nd (akg (k:=13) (bQ (adD Z.RT.kd (xZ (v:=V.ref _) rfl Z.RT.at_ rfl) (cD (pv 2) aA) (λ_ _=>rfl)) aA) hr.m (ak (pv 4) au)))
 (aL (cu (bW cT (bQ (pv 3) aA) bA)
 (aL (Dk (mH hr) (Mp (pv 0) rfl) (cD (pv 2) aA) (pv 5) rfl)
 (aP (bf bA)))
 cj)
 (aL (cu (bW cT (bQ (pv 3) aA) bA)
 (aL (Dk (mH hr) (Mp (pv 0) rfl) (cD (pv 2) aA) (pv 5) rfl)
 (aP (bf bA)))
 cj)
 (aP (bf (pv 5)))))))))),?_⟩
 try dsimp only [bN]
 obtain ⟨r,hsp⟩:∃ r,Txt.split x ⟨#[32]⟩=w0::r:=by
  cases e:Txt.split x ⟨#[32]⟩ with
  |nil=>rw [e] at hh;cases hh
  |cons a b=>rw [e] at hh;exact ⟨b,by rw [gw hh]⟩
 obtain ⟨ar,kt,hv,hr1,hr2⟩:=rk.ex;refine ⟨_,rfl,x,w0,r,rfl,len,hsp,by rw [hv];rfl,λl H1 fl s1 x1=>?_⟩;rw [hw] at x1;refine ⟨_,rfl,l,w0,B::p,M::kr,f1,rfl,x1,rk,by simp,by simp;lk, by rw [gj];lk, λt H2 s2 lE=>?_⟩;have x2:=s2 _ _ x1;have ct:fX (map V.str (w0::B::p)) (some 1) none=map V.str (B::p):=abA _ _;refine ⟨_,rfl,_,rfl,1,rfl,l,_,rfl,aQ x2,λl3 f3=>?_⟩;rw [ct];km_lay f3 H3 f3 s3 x3;refine ⟨t,l3,_,_,rfl,(lE.same s3).sq,x3,fit,by rw [gj];lk, le,λH4 s4=>?_⟩;have iK:=aB s3 s4;have x4:=iK _ _ x2;have S:=lE.same iK;refine ⟨_,rfl,_,rfl,1,rfl,l,_,rfl,aQ x4,λl5 f5=>?_⟩;rw [ct];km_lay f5 H5 f5 s5 x5;have W:aG H H5:=aB s1 (aB s2 (aB iK s5));have U:=S.same s5;obtain ⟨zA,pP⟩:=th.len;refine ⟨t,l5,rfl,⟨_,U.sq⟩,⟨_,aQ x5⟩,λY fc=>?_⟩;refine Q_ (xs:=(g_ w0 (M::kr) (p.length+1)).map V.str) (ys':=(B::p).map V.str) (by rw [bD,bD];exact zA) (λi ys o=>aG H5 o/\o Y=some (.lst ys)/\ys=ts.take i) ⟨bO fc (cO _),aO,rfl⟩ (aN (by rw [bD,zA,gj];lk)) (by rintro i ys o _ ⟨N,e1,e2⟩;exact ⟨(U.same N).sq,aQ (N _ _ x5),e1,by rw [e2,eF];lk⟩) ?_ ?_
 ·rintro i x' y' T1 ys o hx hy fT ⟨N,e1,rfl⟩;obtain ⟨k1,hk1,rfl⟩:=Cr hx;obtain ⟨y1,hy1,rfl⟩:=Cr hy;obtain ⟨v1,hv1,ti⟩:=th.get hk1 hy1;have g:aG o (upd o T1 (HO.tup [V.str k1,V.str y1])):=bM fT _;refine ⟨T1,_,rfl,aX aO,rfl,?_⟩;generalize upd o T1 (HO.tup [V.str k1,V.str y1])=u at g;refine ⟨_,_,rfl,_,_,rfl,rfl,⟨.inl rfl,.inl rfl,.inr rfl,trivial⟩,mZ ?_⟩;have J:=da.same (aB W (aB N g));refine ⟨_,rfl,d,D.dx,uW D,rfl,J.ob,UJ _ (by k_go) (by k_go),_,rfl,_,rfl,d,D,kn,kp,k1,y1,v1,rfl,J,ti,g _ _ e1,bO fc (aB N g),aO,?_⟩;rw [gF hv1]
 ·rintro ys u ⟨g,e6,rfl⟩;rw [bD,zA,<-pP,gG] at e6;have Jm:=aB s5 g;have sq6:=S.same Jm;have x6:=Jm _ _ x4;have fc0:H Y=none:=W.free fc;refine ⟨_,rfl,l,_,_,_,rfl,rfl,aQ x6,uM,.inr w0,ar,rfl,hv,ar,_,_,_,rfl,rfl,(hr1 u).sq,rfl,f1,_,sp,rfl,cal,_,rfl,_,q Y u fc0 (aB W g) e6,λv L en=>?_⟩;have hk0:gD ((g_ w0 (M::kr) (p.length+1)).map V.str) 0=some (V.str M):=by
   unfold g_;split
   ·rw [R7];exact uM
   ·exact uM
  have J:=da.same (aB W g);have O:∀ {R:Bool->Hp->Prop} {y:Str},KT u L->R (decide (V.str M=V.str y)) L->Mv (uO rEq (uO (M5 K) (HD 3) (tC (V.int 0))) (tC (V.str y))) [some (.ref d),some (.str x),some (.ref l),some (.ref t),some (.ref Y),some v] L R:=λc hR =>
   ⟨_,rfl,t,_,_,_,rfl,rfl,(sq6.kt c).sq,hk0,rfl,_,rfl,hR⟩
  cases en with
  |net e j C =>subst e;have c:KT u L:=b_ j (bG _);refine O c (cA (by simp) ?_);have I:=J.same j;refine ⟨_,rfl,_,rfl,d,Cd,_,_,_,rfl,I.ob,Z.TD.cl,Z.TD.nN,acn _,_,rfl,l,_,_,_,rfl,rfl,aQ (j _ _ x6),afm,D.n,_,rfl,uK.k (k:=.inr B) I.ne (pH (by lk)),?_⟩;exact C
  |play e j C =>subst e;have c:KT u L:=b_ j (bG _);refine O c (bK (by k_go) ?_);refine O c (cA (by simp) ?_);have I:=J.same j;refine ⟨_,rfl,_,rfl,d,Cd,_,_,_,rfl,I.ob,Z.TD.cl,Z.TD.nP,abB _,_,rfl,l,_,_,_,rfl,rfl,aQ (j _ _ x6),afm,D.q,_,rfl,uK.k (k:=.inr B) I.pl (pH (by lk)),?_⟩;exact C
  |other n1 n2 c C =>refine O c (bK (λz=>n1 (V.str.inj (iM z))) ?_);refine O c (bK (λz=>n2 (V.str.inj (iM z))) ?_);exact ⟨_,rfl,C⟩
def ak':Eh P w K mg aF Cd "say" 14 ["self","row"] (aqp P w K mg aF (vR fP) 13 Cd):=(abK Z).non
def zK:Gc Z "_law_text" 1 ["_law_net_here"] adF:=by
 refine cL Z.Y0 λf fd F=>?_;have T:=Z.T;refine F.fn.ok apk (λvs H Q E h=>?_) (λR A outer s H vs Q E hr h=>?_)
 ·obtain ⟨v,aj,ws,rfl,_⟩:=h;rfl
 ·obtain ⟨v,aj,ws,rfl,⟨n,t,rs,rfl,D,u,o⟩,w1,M,ok,len,q⟩:=h;have l:=o.len;have m:=Uy M ok;have y:=Dm (n:=aj) (by lk) (by lk);refine ⟨_,(aP (bf (jg nU Lg Lh LK bA (ak (aY j_ (cQ (ak (aY dZ (dM qD rfl T.mJ nF (ak (bQ (pv 0) aA) au)) bA) au)) (gJ ["_law_first","_law_second"] [] rfl (oH (bQ (pv 0) aA)) (by w_tab) (by k_mem) (by row_wit1 (aY dZ (aY dZ (dM (PB K rfl) rfl T.mJ nF (ak (pv 0) au)) bA) (dM (PB K rfl) rfl T.mJ nF (ak (pv 1) au)))))) au)))),?_⟩
  try dsimp only [bN]
  refine ⟨rfl,_,rfl,n,_,_,_,rfl,rfl,aX D,rfl,aj,rfl,Ck (by lk) (by lk),bT aj,":",rfl,rfl,aN (by rw [y];show 1+1<=100000;decide),aN (by kl_no),λY B=>?_⟩;km_lay B H1 B d J;refine ⟨_,rfl,n,_,_,_,rfl,rfl,aX (d _ _ D),rfl,t,rfl,⟨_,aX (d _ _ u)⟩,λC p=>?_⟩;refine rT (xs:=rs) (λi ys g=>aG H1 g/\g C=some (.lst ys)/\ys=((ws.take i).map Fg).map V.str) ⟨bO p (cO H1),aO,rfl⟩ (aN (by lk)) (by rintro i ys g hi ⟨a,b,W⟩;exact ⟨aX (a _ _ (d _ _ u)),b,by rw [W,bD,bD,eF];lk⟩) ?_ ?_
  ·rintro i x ys g hx ⟨a,b,rfl⟩;obtain ⟨w0,O,c,rfl,k⟩:=o.get hx;have f0:=m w0 (fQ c);have r:=Dm f0.1 f0.2.1;have n2:=Dm f0.2.2.1 f0.2.2.2;refine ⟨O,_,rfl,aX (a _ _ (d _ _ k)),rfl,_,_,rfl,_,_,rfl,rfl,⟨.inl rfl,.inl rfl,trivial⟩,mZ ⟨_,rfl,w0.1,rfl,Ck f0.1 f0.2.1,bT w0.1,"-",rfl,rfl,aN (by rw [r];show 1+1<=100000;decide),_,rfl,w0.2,rfl,Ck f0.2.2.1 f0.2.2.2,_,bT w0.2,rfl,rfl,aN (by rw [dO,r,n2];show 1+1+1<=100000;decide),b,bO p a,aO,?_⟩⟩;rw [gF c,dF,dF];rfl
  ·rintro ys g ⟨a,b,rfl⟩;rw [l,gG] at b;refine ⟨Y,C,_,_,rfl,rfl,a _ _ J,b,aN (by rw [bD,bD];show 1+_<=_;lk),λz L=>?_⟩;km_lay z H2 L S U;have I:(ofString " ")=⟨#[32]⟩:=by k_go
   have sl:=Tp Fg (n:=3) ws λw j=>by rw [aeB (m w j)];exact bJ _
   have N:=aa3 (x:=bT aj++(":":Str)) ws λw j=>aeB (m w j);refine ⟨ofString " ",z,(bT aj++(":":Str))::ws.map Fg,rfl,rfl,aQ U,?_,?_⟩
   ·rw [iC,Gz,gj,bD,dO,y,I];show 1+1+_+(ws.length+1)*1<=_;lk
   ·rw [I,xJ];have e:Str.join ⟨#[32]⟩ ((bT aj++(":":Str))::ws.map Fg)=jK aj ws:=by refine pD ?_;rw [N,dJ,Az (by lk) (by lk)];rfl
    rw [e];exact q _ (aB d (aB a S))
def aaT:Gc Z "_law_words" 1 ["_law_numbers_here"] akv:=by
 o_head (cL Z.Y4,["_law_numbers_here"]);obtain ⟨a,ns,rfl,j,k,len,q⟩:=h;refine ⟨_,(aP (bf (jg nU Lg Lh LK bA (ak (gJ ["_law_number"] [] rfl (lM (pv 0)) (by k_all) (by k_mem) (by row_wit1 (dM (PB K rfl) rfl T.mJ nF (ak (pv 0) au)))) au)))),?_⟩
 try dsimp only [bN]
 have p:(ofString " ")=⟨#[32]⟩:=by k_go
 have pw:=xQ k;have d:=Dp pw;rw [bD] at d;refine ⟨rfl,_,rfl,a,rfl,⟨_,aQ j⟩,λl g=>?_⟩;refine rO (xs:=ns.map V.int) (λi zs c=>aG H c/\c l=some (.lst zs)/\zs=((ns.take i).map bT).map V.str) ⟨bO g (cO H),aO,rfl⟩ (aN (by rw [bD];lk)) (by rintro i zs c hi ⟨e,b,n⟩;exact ⟨aQ (e _ _ j),b,by rw [n,bD,bD,eF];lk⟩) ?_ ?_
 ·rintro i x zs c o ⟨e,b,rfl⟩;obtain ⟨z,m,rfl⟩:=zP o;isplit;refine ⟨_,rfl,z,rfl,qI (k z (fQ m)),b,bO g e,aO,?_⟩;rw [gF m,dF,dF];rfl
 ·rintro zs c ⟨e,b,rfl⟩;rw [bD,gG] at b;rw [p];exact ⟨_,l,ns.map bT,rfl,rfl,aQ b,by rw [show (⟨#[32]⟩:Str).length=1 from rfl,bD];lk, (q c e)⟩
def agS:Gc Z "_law_slimmed" 1 ["_law_wickets_here"] amM:=by
 o_head (cL Z.Y5,["_law_wickets_here","_law_found","_law_last","_law_wicket","_law_ahead"]);obtain ⟨t,rs,aj,ws,rfl,ht,cg,ok,len,q⟩:=h;have lrs:=cg.len;refine ⟨_,(aL (bB 1 nd (cQ au))
 (aL (bB 2 nd Rm)
 (aL (jd iR rfl  (oH (pv 0)) (dI 3 nd)
 (aL (Qi (i:=4) nd rfl (by k_in) ["_law_lane"] [("_law_last",2)] rfl (oH (pv 3)) (by k_all) (by k_mem) (by row_wit1 (amm (mH hr) (pv 1) (pv 0) (by exact ⟨rfl,rfl,rfl,rfl⟩))))
 (aP (cu (PW.pt (tD (bW yr (cD (pv 4) aA) kW) (tD (bW pG (cD (pv 4) aA) (cD (pv 4) aA)) (vZ (bW (Ms hr.units) (cD (pv 1) (cD (pv 4) aA)) (pv 3))))))
 (aL (Dk (mH hr) (pv 2) (bQ (pv 3) aA) (jH T (pv 1)) rfl)
 (aL (Dk (mH hr) (pv 2) (bQ (pv 3) aA) (jH T (pv 1)) rfl)
 (aP (pX (jg ux zZ z6 xK (pv 1) (ak (pv 3) au))))))
 cj))))
 (aP (bf (dM uc rfl T.o7 qF (ak (pv 1) au))))))),?_⟩
 try dsimp only [bN]
 refine ⟨aN (by kl_no),λu fk=>?_⟩;km_lay fk H0 fk s0 y0;intro c fa;have s1:aG H0 (upd H0 c (HO.dK [])):=bM fa _;have x1:(upd H0 c (HO.dK [])) c=some (.dK []):=aO;have w5:c≠u:=λz=>by rw [z,y0] at fa;cases fa
 have fa':H c=none:=s0.free fa;generalize upd H0 c (HO.dK [])=H1 at s1 x1;have OJ:=aB s0 s1;refine ⟨_,rfl,t,rfl,⟨rs,aX (OJ _ _ ht)⟩,?_⟩;refine Li (K:=K) (a:=t) (xs:=rs) (λi σ C=>∃ v3 v4 kd ks,σ=[some (.ref t),some (.ref u),some (.ref c),v3,v4]/\aG H C/\C c=some (.dK kd)/\C u=some (.lst ks)/\tQ kd (jt (ws.take i))/\bZ C ks (jt (ws.take i))/\kd.length<=2*i) ⟨none,none,[],[],rfl,OJ,x1,s1 _ _ y0,tQ.nil,.nil,d_ _⟩ (by rintro i σ C _ ⟨_,_,_,_,_,S,_⟩;exact aX (S _ _ ht)) ?_ ?_
 ·rintro i x σ C hx ⟨v3,v4,kd,ks,rfl,S,xa,xk,W,y,lkd⟩;obtain ⟨w0,J,hw0,rfl,ht0⟩:=cg.get hx;have il:i<rs.length:=(gb.mp hx).1;have Ov:=bC.mem ok hw0;obtain ⟨o1,o2,o3,o4,o5⟩:=id Ov;have O:=S _ _ ht0;have Ow:=QD (ws.take i);rw [eF] at Ow;have zA:=y.len;refine ⟨_,rfl,J,rfl,⟨_,aX O⟩,λe fc=>?_⟩;obtain ⟨L,U⟩:∃ L,L=(cF kd (.inl w0.1)).getD .non:=⟨_,rfl⟩;obtain ⟨Y,N⟩:∃ Y,Y=(cF kd (.inl w0.2)).getD .non:=⟨_,rfl⟩;refine rT (xs:=[V.int w0.1,V.int w0.2]) (λm ys n=>aG C n/\n e=some (.lst ys)/\ys=[L,Y].take m) ⟨bO fc (cO _),aO,rfl⟩ (aN (by kl_no)) (by rintro m ys n hm ⟨B,d,z2⟩;exact ⟨aX (B _ _ O),d,by rw [z2,eF];simp at hm ⊢;lk⟩) ?_ ?_
  ·rintro m x ys n hx ⟨B,d,rfl⟩;got_up;have Fl:=B _ _ xa;have key:∃ l dm,x=.int l/\dm=(cF kd (.inl l)).getD .non/\[L,Y].take (m+1)=[L,Y].take m++[dm]:=by
    have ml:m<2:=(gb.mp hx).1;have:m=0\/m=1:=by lk
    rcases this with rfl|rfl
    ·exact ⟨w0.1,L,(gw hx).symm,U,rfl⟩
    ·exact ⟨w0.2,Y,(gw hx).symm,N,rfl⟩
   obtain ⟨l,dm,rfl,em,et⟩:=key;refine ⟨_,rfl,c,rfl,.inl ⟨kd,.inl Fl⟩,_,rfl,_,jz.k (k:=.inl l) Fl,?_⟩;rw [<-em,et];exact ⟨d,bO fc B,aO,rfl⟩
  ·rintro ys n ⟨B,d,rfl⟩;have d:n e=some (.lst [L,Y]):=d;have fc':H e=none:=S.free fc;have nca:c≠e:=cH xa fc;have nck:u≠e:=cH xk fc;have O1:=B _ _ O;have Fl:=B _ _ xa;have Jq:=B _ _ xk;have O2:=y.same B;have sdH:=aB S B;have as5:∀ v,(cI (cI kd (.inl w0.1) v) (.inl w0.2) v).length<=2*(i+1):=λv=>by have I:=BZ kd (.inl w0.1) v;have D:=BZ (cI kd (.inl w0.1) v) (.inl w0.2) v;lk
   rw [gF hw0,Cg];dsimp only [kj,yK];refine abW λR hR=>?_;have Ox:¬ idle (jt (ws.take i)) w0->R n:=λp=>hR n (by
    refine ⟨_,rfl,u,_,rfl,.inl (aQ Jq),_,rfl,_,rfl,J,_,_,_,rfl,rfl,aX O1,rfl,c,_,rfl,uK.k (k:=.inl w0.1) Fl (pH (by lk)),?_⟩;have k3:KT n (upd n c (HO.dK (cI kd (.inl w0.1) (.int ks.length)))):=aey Fl;have x3:(upd n c (HO.dK (cI kd (.inl w0.1) (.int ks.length)))) c=some (.dK (cI kd (.inl w0.1) (.int ks.length))):=aO;have y3:(upd n c (HO.dK (cI kd (.inl w0.1) (.int ks.length)))) u=some (.lst ks):=(bh (bL w5)).trans Jq;have s3:aG H (upd n c (HO.dK (cI kd (.inl w0.1) (.int ks.length)))):=bO fa' sdH;have l3:=BZ kd (.inl w0.1) (.int ks.length);generalize upd n c (HO.dK (cI kd (.inl w0.1) (.int ks.length)))=H3 at k3 x3 y3 s3;have Jh:=k3 _ _ O1;refine ⟨_,rfl,u,_,rfl,.inl (aQ y3),_,rfl,_,rfl,J,_,_,_,rfl,rfl,aX Jh,rfl,c,_,rfl,uK.k (k:=.inl w0.2) x3 (pH (by lk)),?_⟩;have k4:KT H3 (upd H3 c (HO.dK (cI (cI kd (.inl w0.1) (.int ks.length)) (.inl w0.2) (.int ks.length)))):=aey x3;have x4:(upd H3 c (HO.dK (cI (cI kd (.inl w0.1) (.int ks.length)) (.inl w0.2) (.int ks.length)))) c=some (.dK (cI (cI kd (.inl w0.1) (.int ks.length)) (.inl w0.2) (.int ks.length))):=aO;have y4:(upd H3 c (HO.dK (cI (cI kd (.inl w0.1) (.int ks.length)) (.inl w0.2) (.int ks.length)))) u=some (.lst ks):=(bh (bL w5)).trans y3;have s4:aG H (upd H3 c (HO.dK (cI (cI kd (.inl w0.1) (.int ks.length)) (.inl w0.2) (.int ks.length)))):=bO fa' s3;generalize upd H3 c (HO.dK (cI (cI kd (.inl w0.1) (.int ks.length)) (.inl w0.2) (.int ks.length)))=H4 at k4 x4 y4 s4;have ht4:=k4 _ _ Jh;refine ⟨_,rfl,.inl ⟨rfl,_,aQ y4⟩,_,rfl,u,_,_,rfl,rfl,y4,pH (by lk),?_⟩;have k5:KT H4 (upd H4 u (HO.lst (ks++[V.ref J]))):=iD y4 (bG _);have BJ:=wF k3 (wF k4 k5);refine ⟨_,_,_,ks++[V.ref J],rfl,bO fk s4,(bh w5).trans x4,aO,?_,?_,as5 _⟩
    ·unfold mL;rw [bw p,zA];exact W.more w0
    ·unfold mL;rw [bw p];exact (O2.kt BJ).app (.cons ⟨J,rfl,BJ _ _ O1⟩ .nil))
   have dw:jF n (.ref J) (pairD w0):=M9 O1;by_cases p:idle (jt (ws.take i)) w0
   ·obtain ⟨j,I,D,ej⟩:=W.aoY p;rw [I] at U;rw [D] at N;subst U N;have jl:j<ks.length:=by rw [zA];exact (gb.mp ej).1
    obtain ⟨w1,tj,hj,ZR,M⟩:=O2.get (i:=j) (r:=ks[j]) (by simp [jl]);rw [ej] at hj;cases hj;refine ⟨_,rfl,e,_,_,_,rfl,rfl,aQ d,rfl,rfl,_,rfl,bK (by simp) ⟨_,rfl,e,_,_,_,rfl,rfl,aQ d,rfl,_,rfl,e,_,_,_,rfl,rfl,aQ d,rfl,rfl,_,rfl,bK (M6 rfl) ⟨_,rfl,_,rfl,e,_,_,_,rfl,rfl,aQ d,rfl,u,_,_,_,rfl,rfl,aQ Jq,vK (j:=j) (by simp [jl];exact ZR),_,rfl,_,_,(M9 M:jF n (.ref tj) (pairD w0)),dw,vN _ _,vN _ _,Rc _ _,_,rfl,bK (show ¬ (!PySem.Spec.same (pairD w0) (pairD w0))=true by rw [JN];simp) ⟨_,_,kd,ks,rfl,sdH,Fl,Jq,?_,?_,by lk⟩⟩⟩⟩
    ·unfold mL;rw [bF p];exact W
    ·unfold mL;rw [bF p];exact O2
   ·have O4:=Ox p;rcases W w0.1 with ⟨I,_⟩|⟨j,o,I,ej,g,b⟩
    ·rw [I] at U;subst U;exact ⟨_,rfl,e,_,_,_,rfl,rfl,aQ d,rfl,rfl,_,rfl,cA (by simp) O4⟩
    rw [I] at U;subst U;refine ⟨_,rfl,e,_,_,_,rfl,rfl,aQ d,rfl,rfl,_,rfl,bK (by simp) ?_⟩;rcases W w0.2 with ⟨D,_⟩|⟨j2,o2',D,ej2,g2,b2⟩
    ·rw [D] at N;subst N;exact ⟨_,rfl,e,_,_,_,rfl,rfl,aQ d,rfl,_,rfl,e,_,_,_,rfl,rfl,aQ d,rfl,rfl,_,rfl,cA (by simp) O4⟩
    rw [D] at N;subst N;by_cases c2:j=j2
    ·subst c2;refine ⟨_,rfl,e,_,_,_,rfl,rfl,aQ d,rfl,_,rfl,e,_,_,_,rfl,rfl,aQ d,rfl,rfl,_,rfl,bK (M6 rfl) ?_⟩;have jl:j<ks.length:=by rw [zA];exact (gb.mp ej).1
     obtain ⟨w1,tj,hj,ZR,M⟩:=O2.get (i:=j) (r:=ks[j]) (by simp [jl]);have nw:¬ w1=w0:=λz=>p (W.idle I D (by rw [hj,z]));exact ⟨_,rfl,_,rfl,e,_,_,_,rfl,rfl,aQ d,rfl,u,_,_,_,rfl,rfl,aQ Jq,vK (j:=j) (by simp [jl];exact ZR),_,rfl,_,_,(M9 M:jF n (.ref tj) (pairD w1)),dw,vN _ _,vN _ _,Rc _ _,_,rfl,cA (show (!PySem.Spec.same (pairD w1) (pairD w0))=true by rw [JN,kh nw];rfl) O4⟩
    ·exact ⟨_,rfl,e,_,_,_,rfl,rfl,aQ d,rfl,_,rfl,e,_,_,_,rfl,rfl,aQ d,rfl,rfl,_,rfl,cA (by simp;lk) O4⟩
 ·rintro σ C ⟨v3,v4,kd,ks,rfl,S,xa,xk,W,y,lkd⟩;rw [lrs,gG] at y;refine ⟨_,rfl,u,_,rfl,.inl ⟨aQ xk,λt5 f5=>?_⟩⟩;have s5:aG C (upd C t5 (HO.tup ks)):=bM f5 _;exact q t5 ks _ (aB S s5) aO (y.same s5)
def aao:Gc Z "verdict_words" 2 ["told"] ao1:=by
 o_head (cL Z.Y6,["told"]);refine ⟨_,(aP (bf (ud (bW cT (jH T (pv 0)) aA) (bQ (pv 0) aA) (aZ (Tz Z) hr.m rfl (ak (aY j_ (cQ (ak (bQ (pv 0) aA) au)) (bQ (pv 0) aA)) au))))),?_⟩;rcases h with ⟨t,x,rfl,a,q⟩|⟨t,l,x,r,rfl,a,o,c,len,j,q⟩
 ·exact ⟨_,rfl,t,_,rfl,.inr (aX a),rfl,_,rfl,cA (by simp) ⟨_,rfl,t,_,_,_,rfl,rfl,aX a,rfl,q H (cO _)⟩⟩
 ·refine ⟨_,rfl,t,_,rfl,.inr (aX a),rfl,_,rfl,bK (by simp) ⟨_,rfl,t,_,_,_,rfl,rfl,aX a,rfl,aN (by kl_no),λu d=>?_⟩⟩;km_lay d H1 d b e;refine ⟨_,rfl,t,_,_,_,rfl,rfl,aX (b _ _ a),rfl,u,l,_,_,rfl,rfl,e,b _ _ o,aN (by rw [bD];show 1+r.length<=100000;lk),λn g=>?_⟩;have p:=bM g (HO.lst ([V.str x]++r.map V.int));refine ⟨n,_,x::r.map bT,rfl,.inl aO,.cons (.str j) (xQ c),by rw [dj,bD];show 1+r.length<=100;lk, λi k=>q i (aB b (aB p k))⟩
def ala:Gr Z "levels" ["net"] (Bk eA.many Hu H_):=by
 o_head (wN 7 Z.Y7,["things"],0);obtain ⟨l,v,aj,ws,rfl,x,a,_,e,q⟩:=h;refine ⟨_,(aP (bf (aZ (aao Z) hr.m rfl (ak (jV (G5 Z) hr.m rfl (ak (cD (pv 0) aA) au)) au)))),?_⟩
 try dsimp only [bN]
 refine ⟨_,rfl,l,_,_,_,rfl,rfl,aQ x,rfl,v,aj,ws,rfl,a.1,a.2.1,a.2.2.1,a.2.2.2.1,a.2.2.2.2,λo k H1 b=>e (.many o k) H1 b,λn g H1 u b c all=>?_,λn g y r H1 u B b c z p j d t=>?_⟩
 ·exact .one g _ rfl c λH2 i=>q _ (.Iu n all) H2 (aB b i)
 ·exact .two g y _ r rfl c z (j.small (by decide)) (by have:=a.2.2.1;lk) (by k_go) λH2 i=>q _ (.not n r p j d t) H2 (aB b i)
def alb:Gr Z "orders" ["net"] (Bk eA.many Hu Ni):=by
 o_head (yR 4 Z.Y8,["things"]);obtain ⟨l,v,aj,ws,rfl,n,a,_,e,q⟩:=h;refine ⟨_,(aP (bf (aZ (aao Z) hr.m rfl (ak (aZ (apr Z) hr.m rfl (ak (cD (pv 0) aA) au)) au)))),?_⟩
 try dsimp only [bN]
 refine ⟨_,rfl,l,_,_,_,rfl,rfl,aQ n,rfl,v,aj,ws,rfl,a.1,a.2.1,a.2.2.1,a.2.2.2.1,a.2.2.2.2,λi H1 k g b all=>?_,λi o r H1 k t g b p c d=>?_⟩
 ·exact .one i _ rfl b λH2 j=>q _ (.ord all) H2 (aB g j)
 ·exact .two i o _ r rfl b p (JH c) (by have:=a.2.2.1;have:=c.1;lk) (by k_go) λH2 j=>q _ (.not r c d) H2 (aB g j)
def acA:Gr Z "bound" ["net"] (Bk eA.many Hu El):=by
 o_head (yR 7 Z.Y9,["things","told"]);obtain ⟨l,v,aj,ws,rfl,p,a,_,e,q⟩:=h;refine ⟨_,(aL (bB 1 nd (aZ (aeC Z) hr.m rfl (ak (cD (pv 0) aA) au)))
 (aP (bf (ud (bW yr (pv 1) kW) bA (aY dZ (aY dZ (dM qD rfl T.mJ nF (ak (bQ (pv 1) aA) au)) bA) (dM qD rfl T.mJ nF (ak (bQ (pv 1) aA) au))))))),?_⟩
 try dsimp only [bN]
 refine ⟨_,rfl,l,_,_,_,rfl,rfl,aQ p,rfl,v,aj,ws,rfl,a.1,a.2.1,a.2.2.1,a.2.2.2.1,a.2.2.2.2,λi k H1 b un=>?_,λj H1 r b d o=>?_⟩
 ·exact ⟨_,rfl,rfl,_,rfl,cA (by simp) (q _ (.un i k un) H1 b)⟩
 ·obtain ⟨c,g⟩:=aer a.2.2.2.1 a.2.2.2.2;have n:=qI (xY c (by k_go));have n2:=qI (xY g (by k_go));mod_arm;exact ⟨_,rfl,j,_,_,_,rfl,rfl,aX d,rfl,_,rfl,n,_,_,rfl,rfl,aN (by have:=zT (i:=jQ aj ws / j6 (jQ aj ws) (jR aj ws)) (k:=60) (by decide) c;have e:(ofString "/").length=1:=(by k_go);rw [e];unfold bT at this;lk),_,rfl,j,_,_,_,rfl,rfl,aX d,rfl,_,rfl,n2,_,_,rfl,rfl,aN (by have:=zT (i:=jQ aj ws / j6 (jQ aj ws) (jR aj ws)) (k:=60) (by decide) c;have:=zT (i:=jR aj ws / j6 (jQ aj ws) (jR aj ws)) (k:=60) (by decide) g;have e:(ofString "/").length=1:=(by k_go);rw [dO,e];unfold bT at *;lk),q _ (.bnd o) H1 b⟩
def alc:Gr Z "spread" ["net"] (Bk eA.many (λH=>H Tb=some (.iy (qt 213 34))) Ia):=by
 o_head (wN 8 Z.Y_,["things","told"],0);obtain ⟨l,v,aj,ws,rfl,x,a,t,e,q⟩:=h;refine ⟨_,(aL (bB 1 nd (jV (G4 Z) hr.m rfl (ak (cD (pv 0) aA) au)))
 (aP (bf (ud (bW cT (bQ (pv 1) aA) bA) bA (dM qD rfl T.mJ nF (ak (bQ (pv 1) aA) au)))))),?_⟩
 try dsimp only [bN]
 refine ⟨_,rfl,l,_,_,_,rfl,rfl,aQ x,rfl,v,aj,ws,rfl,a.1,a.2.1,a.2.2.1,a.2.2.2.1,a.2.2.2.2,t,λn j H1 b=>e (.many n j) H1 b,λd i k H1 u b c un=>?_,λn j d z r g H1 u y b c B o=>?_⟩
 ·exact ⟨_,rfl,d,_,_,_,rfl,rfl,aX c,rfl,rfl,_,rfl,cA (by simp) (q _ (.un i k un) H1 b)⟩
 ·have p:=qI (xY (aes a.2.1 a.2.2.2.1 a.2.2.2.2 o) (by k_go));exact ⟨_,rfl,d,_,_,_,rfl,rfl,aX c,rfl,rfl,_,rfl,bK (by k_go) ⟨_,rfl,d,_,_,_,rfl,rfl,aX c,rfl,_,rfl,p,q _ (.Fd n j r g o) H1 b⟩⟩
def anw:Gr Z "alike" ["net","net"] (afo eA.fW eA.many):=by
 o_head (wN 6 Z.Za,["things","counts"],0);obtain ⟨l,v,v',a,b,us,ws,rfl,k,c,e,x,N,q⟩:=h;refine ⟨_,(aL (bB 1 nd (jV (adX Z) hr.m rfl (ak (cD (pv 0) aA) (ak (cD (pv 0) aA) au))))
 (aP (bf (ud (bW yr (pv 1) kW) bA (aZ (Tz Z) hr.m rfl (ak (aY j_ (cQ (ak bA au)) (pv 1)) au)))))),?_⟩
 try dsimp only [bN]
 refine ⟨_,rfl,l,_,_,_,rfl,rfl,aQ k,rfl,_,rfl,l,_,_,_,rfl,rfl,aQ k,rfl,v,v',a,b,us,ws,rfl,c.1,e.1,c.2.1,c.2.2.1,e.2.1,e.2.2.1,c.2.2.2.1,e.2.2.2.1,c.2.2.2.2,e.2.2.2.2,λz H1 d=>x (.none z) H1 d,λz ea i H1 d=>N (.many z ea i) H1 d,λz i all H1 d=>?_,λz B t r H1 R d p I j g J=>?_⟩
 ·exact ⟨_,rfl,rfl,_,rfl,cA rfl (q _ (.yes z i all) H1 d)⟩
 ·mod_arm;refine ⟨aN (by kl_no),λO o=>?_⟩;km_lay o H2 o n M;have S:r.length<=8:=by have:=c.2.2.1;lk
  refine ⟨_,rfl,O,t,_,_,rfl,rfl,M,n _ _ p,aN (by rw [bD];show 1+r.length<=100000;lk),λL y=>?_⟩;have D:=bM y (HO.lst ([V.str "no"]++r.map V.int));refine ⟨L,_,ofString "no":: r.map bT,rfl,.inl aO,.cons (.str (by k_go)) (xQ (j.small (by decide))),by rw [dj,bD];show 1+r.length<=100;lk, λC u=>q _ (.no z B r I j g J) C (aB d (aB n (aB D u)))⟩
def FP:Gc Z "_law_said" 15 ["_law_desk","_law_row"] (J4 P w K mg aF (vR fP) eA Cd):=by
 o_head (cL Z.Zb,["_law_desk","_law_row","_law_caught","_law_said_here","e"]);obtain ⟨d,D,kn,kp,x,rfl,J,h⟩:=h;refine ⟨_,(aL (bB 2 nd kW)
 (aL (bB 3 nd kW)
 (aL (alY (j:=4) rfl rfl nd rfl rfl (adh (i:=3) nd rfl (by k_in) (amK (pv 0) Z.TD.cl (abK Z) hr.m (ak (pv 1) au))) rfl Z.ER.ahu (λ_=>(aP (bB 2 nd (pv 4)))))
 (aL (cu (bW yr (pv 2) kW)
 (aP (bf (pv 3)))
 cj)
 (aP (bf (cD (cQ (ak (cD (cQ (ak bA (ak bA au))) (dM FT rfl T.wD xM (ak (jC abY rfl T.xu boot_isinstance (ak (pv 2) (ak (xZ (v:=V.ref _) rfl Z.ER.xH rfl) au))) au))) (ak bA au))) (dM FT rfl T.wD xM (ak (jC abY rfl T.xu boot_isinstance (ak (pv 2) (ak (xZ (v:=V.ref _) rfl Z.ER.uf rfl) au))) au))))))))),?_⟩
 try dsimp only [bN]
 refine ⟨_,rfl,d,D.dx,uW D,rfl,J.ob,UJ _ (by k_go) (by k_go),_,rfl,_,_,h,λv H1 ⟨⟨y,I⟩,q⟩=>?_,λc H1 q=>?_⟩
 ·subst I;tm_up;exact ⟨_,rfl,q⟩
 ·rcases q with ⟨e,q⟩|⟨e,q⟩
  ·subst e;refine ⟨Z.ER.aod,λea b=>?_⟩;km_lay b H2 b p n;refine ⟨_,rfl,_,rfl,rfl,_,rfl,bK (by simp) ⟨aN (by kl_no),λu g=>?_⟩⟩;km_lay g C g k t;have l:=k _ _ n;refine ⟨_,rfl,ea,eA.fW,_,_,_,rfl,l,Z.ER.ado,rfl,Z.ER.nm,.inr ⟨_,rfl,u,_,_,_,rfl,rfl,aQ t,rfl,?_⟩⟩;kn_lay r B z a o;exact ⟨_,rfl,ea,eA.fW,_,_,_,rfl,a _ _ l,Z.ER.ado,rfl,Z.ER.nn,.inr ⟨_,rfl,r,_,_,_,rfl,rfl,aQ o,rfl,q _ (aB p (aB k a))⟩⟩
  ·subst e;refine ⟨Z.ER.Gb,λea b=>?_⟩;km_lay b H2 b p n;refine ⟨_,rfl,_,rfl,rfl,_,rfl,bK (by simp) ⟨aN (by kl_no),λu g=>?_⟩⟩;km_lay g C g k t;have l:=k _ _ n;refine ⟨_,rfl,ea,eA.many,_,_,_,rfl,l,Z.ER.abt,rfl,Z.ER.mm,.inr ⟨_,rfl,u,_,_,_,rfl,rfl,aQ t,rfl,?_⟩⟩;kn_lay r B z a o;exact ⟨_,rfl,ea,eA.many,_,_,_,rfl,a _ _ l,Z.ER.abt,rfl,Z.ER.mn,.inr ⟨_,rfl,r,_,_,_,rfl,rfl,aQ o,rfl,q _ (aB p (aB k a))⟩⟩
def P0:Gc Z "_law_numbers" 1 ["_law_said_here"] amO:=by
 o_head (cL Z.Zc,["_law_said_here","_law_words_here"]);obtain ⟨x,r,rfl,hx,R,a,l8,J,M⟩:=h;refine ⟨_,(aL (bB 1 nd (nG yc (jg nU z7 z8 Cp (pv 0) (ak bA au)) (nY aA) nW))
 (aL (cu (bW (abP hr.ad') (pv 1) (cQ au))
 (aP (bf kW))
 cj)
 (aP (bf (gJ ["_law_word"] [] rfl (lM (pv 1)) (by k_all) (by k_mem) (by row_wit1 (dM QM rfl T.wD xM (ak (pv 0) au)))))))),?_⟩
 try dsimp only [bN]
 have e0:(ofString " ")=⟨#[32]⟩:=by k_go
 have vl:=J9 R (Bb a) l8;refine ⟨_,rfl,rfl,pJ x r,ofString " ",rfl,rfl,rfl,by lk, λl q=>?_⟩;rw [e0,Ci hx a];km_lay q H1 q O I;refine ⟨1,rfl,l,_,rfl,aQ I,λB u=>?_⟩;rw [abA];km_lay u H2 u S o;have N:=aB O S;refine ⟨_,rfl,aN (by kl_no),λL v=>?_⟩;km_lay v m v g W;have j:=aB N g;refine ⟨B,L,_,rfl,rfl,aQ (g _ _ o),aQ W,_,rfl,?_⟩;by_cases c:r=[]
 ·exact cA (by rw [c];rfl) (J c m j)
 ·refine bK (λz=>c (by simpa using iM z)) ⟨_,rfl,B,rfl,⟨_,aQ (g _ _ o)⟩,λC k=>?_⟩;refine rO (xs:=(r.map bT).map V.str) (λi zs d=>aG m d/\d C=some (.lst zs)/\zs=(r.take i).map V.int) ⟨bO k (cO m),aO,rfl⟩ (aN (by rw [bD,bD];lk)) (by rintro i zs d hi ⟨e,b,U⟩;exact ⟨aQ (e _ _ (g _ _ o)),b,by rw [U,bD,eF];lk⟩) ?_ ?_
  ·rintro i z zs d Y ⟨e,b,rfl⟩;obtain ⟨y,t,rfl⟩:=Cr Y;rw [lN] at t;obtain ⟨n,D,rfl⟩:=R9.mp t;have p:=a n (fQ D);isplit;refine ⟨_,rfl,bT n,n,rfl,(Ae p).2,by have:=JR (Ae p).1;lk, b,bO k e,aO,?_⟩;rw [gF D,dF];rfl
  ·rintro zs d ⟨e,b,rfl⟩;rw [bD,bD,gG] at b;exact M c C d (j.free k) (aB j e) b
def aat:Gc Z "_law_refused" 8 ["_law_word","_law_net_here"] (amP Tb (qt 213 34)):=by
 o_head (cL Z.Zd,["_law_word","_law_net_here","_law_found"]);obtain ⟨x,v,aj,ws,rfl,b,I,q⟩:=h;refine ⟨_,(aL (bB 2 nd pF)
 (aL (adi rfl rfl (ap4 (bW cT (pv 0) bA) (ab5 (Tf (G5 Z) hr.m rfl (ak (pv 1) au))) (ab5 (Tf (G4 Z) hr.m rfl (ak (pv 1) au)))) rfl Z.wW.xH (λ_=>(aP (bB 2 nd pF))))
 (aP (bf (pv 2))))),?_⟩
 try dsimp only [bN]
 refine vM (a:=yL _ _) λO n=>n _ _ ?_;clear n;have p:Em aj ws->∀ H1,aG H H1->∀ ea,H1 ea=none->aG H (upd H1 ea (Ei ea (.ref eA.many))):=λ_ H1 d ea o=>aB d (bM o _);sr_in;by_cases c:x="levels"
 ·refine cA (by rw [c];simp) ⟨_,rfl,v,aj,ws,rfl,b.1,b.2.1,b.2.2.1,b.2.2.2.1,b.2.2.2.2,λj e H1 d=>?_,λu y H1 B d t M=>?_,λu y l r H1 B D d t J N L C _=>?_⟩
  ·exact ⟨Z.wW.Gb,λea o=>⟨_,rfl,q true _ (p ⟨j,e⟩ H1 d ea o) ⟨λ_=>⟨j,e⟩,λ_=>rfl⟩⟩⟩
  ·exact ⟨_,rfl,q false H1 d ⟨λz=>(nomatch z),λz=>absurd z u⟩⟩
  ·exact ⟨_,rfl,q false H1 d ⟨λz=>(nomatch z),λz=>absurd z u⟩⟩
 ·refine bK (λz=>c (V.str.inj (iM z))) ⟨_,rfl,v,aj,ws,rfl,b.1,b.2.1,b.2.2.1,b.2.2.2.1,b.2.2.2.2,I,λj e H1 d=>?_,λy i k H1 B d t un=>?_,λj e y l r g H1 B D d t J R=>?_⟩
  ·exact ⟨Z.wW.Gb,λea o=>⟨_,rfl,q true _ (p ⟨j,e⟩ H1 d ea o) ⟨λ_=>⟨j,e⟩,λ_=>rfl⟩⟩⟩
  ·exact ⟨_,rfl,q false H1 d ⟨λz=>(nomatch z),λz=>absurd z.1 un.not⟩⟩
  ·exact ⟨_,rfl,q false H1 d ⟨λz=>(nomatch z),λz=>absurd z.2 e⟩⟩
def afW:Gc Z "_law_verdict_right" 9 ["_law_word","_law_net_here","_law_said_here"] (ao3 Tb (qt 213 34)):=by
 refine cL Z.VL λf fd F=>?_;have T:=Z.T;have G5:=(anr Z);o_head ["_law_word","_law_net_here","_law_said_here","_law_bits","_law_counts_here"];refine ⟨_,(aL (cu (bW cT (pv 0) bA)
 (aL (bB 3 nd (aZ (P0 Z) hr.m rfl (ak (pv 2) au)))
 (aL (cu (bW yr (pv 3) kW)
 (aP (bf (qe (je cT (pv 2) bA) (qT (aZ (Mu Z) hr.m rfl (ak (aZ (PN Z) hr.m rfl (ak (pv 1) (ak (gJ ["_law_k"] [] rfl (jU rfl T.iT (ak (bQ (pv 1) aA) au)) (by k_all) (by k_mem) (by row_wit1 (aY jY (pv 0) aA))) au))) au))))))
 cj)
 (aP (bf (qe (je cT (cD (jg nU z7 z8 Cp (pv 2) (ak bA au)) aA) bA) (qe (je cT (jH T (pv 3)) (bQ (pv 1) aA)) (qT (Uk (aZ (Mu Z) hr.m rfl (ak (aZ (PN Z) hr.m rfl (ak (pv 1) (ak (pv 3) au))) au))))))))))
 cj)
 (aL (cu (kY (aZ (aat Z) hr.m rfl (ak bA (ak (pv 1) au))))
 (aP (bf (je cT (pv 2) bA)))
 cj)
 (aL (cu (bW cT (pv 2) bA)
 (aP (bf (je (Uq hr.units) (aZ G5 hr.m rfl (ak (pv 1) au)) (cU (ak bA au)))))
 cj)
 (aL (bB 4 nd (aZ (P0 Z) hr.m rfl (ak (pv 2) au)))
 (aP (bf (qe (je cT (cD (jg nU z7 z8 Cp (pv 2) (ak bA au)) aA) bA) (qe (je cT (jH T (pv 4)) (bQ (pv 1) aA)) (qT (Uk (aZ (abJ Z) hr.m rfl (ak (aZ (qW Z) hr.m rfl (ak (pv 1) (ak (pv 4) au))) au)))))))))))),?_⟩
 have e0:(ofString " ")=⟨#[32]⟩:=by k_go
 have L:32∉Ls (ofString "not"):=by k_go
 have Y:32∉Ls (ofString "orders"):=by k_go
 have arK:32∉Ls (ofString "levels"):=by k_go
 have O:(ofString "not").length<=64:=by k_go
 rcases h with ⟨y,v,aj,ws,rfl,c,h,q⟩|⟨y,v,aj,ws,rfl,c,hT,h,q⟩
 ·obtain ⟨n,t,rs,rfl,W,ht,cg⟩:=id c.1;have w1:=c.2.1;have w8:=c.2.2.1;have ok:=c.2.2.2.1;have lw:=c.2.2.2.2;tm_up;cases h with
  |ord all =>
   refine ⟨_,rfl,ofString "orders",[],gM (λz=>[V.str z]) (acr _).symm,Y,by k_go,λ_ z=>(nomatch z),by decide,λ_ H1 o=>?_,λz=>absurd rfl z⟩;tm_up;tm_up;refine ⟨_,rfl,_,rfl,n,_,_,_,rfl,rfl,aX (o _ _ W),rfl,aj,rfl,by lk, by lk, λlc ZS=>?_⟩;refine qG (n:=aj.toNat) (λj ys S=>aG H1 S/\S lc=some (.lst ys)/\ys=((wM aj.toNat).take j).map V.int) ⟨bO ZS (cO _),aO,rfl⟩ (aN (by lk)) (by rintro j ys S ⟨_,e1,e2⟩;exact ⟨e1,by rw [e2,bD,eF];exact Nat.min_le_left _ _⟩) ?_ ?_
   ·rintro j ys S hj ⟨sc,xc,rfl⟩;isplit;refine ⟨_,rfl,_,_,rfl,rfl,by show (0:Int)<2;decide,xc,bO ZS sc,aO,?_⟩;rw [gF (ao6 hj),dF];rfl
   ·rintro ys H2 ⟨l,e,rfl⟩;rw [sI (by rw [J_];exact bJ _)] at e;have C:=aB o l;refine ⟨.ref n,aj,ws,lc,wM aj.toNat,rfl,c.1.kt (b_ C (bG _)),ok,by lk, e,J_ _,λa3 H3 B d J=>⟨a3,_,rfl,J,by rw [JZ,J_];lk, λb N M p=>?_⟩⟩;have:b=true:=p.mpr (all _ (akB _));subst this;exact q N (aB C (aB d M))
  |not r x u =>
   have i:=x.1;refine ⟨_,rfl,ofString "not",r,rfl,L,O,JH (k:=59) x,by lk, λz=>by rw [z] at i;simp at i;lk, λ_ I H1 f1 o x1=>?_⟩;mod_arm;refine ⟨_,rfl,rfl,pJ "not" r,ofString " ",rfl,rfl,rfl,by have:=J9 O (Bb (JH (k:=59) x)) (by lk);lk, λl2 R=>?_⟩;rw [e0,Ci L (JH (k:=59) x)];km_lay R H2 R l e;refine ⟨l2,_,_,_,rfl,rfl,aQ e,uM,rfl,_,rfl,cA (by simp) ?_⟩;have C:=aB o l;refine ⟨_,rfl,I,_,rfl,.inl (aQ (l _ _ x1)),_,rfl,n,_,_,_,rfl,rfl,aX (C _ _ W),rfl,rfl,_,rfl,cA (d7 (gM V.int (by rw [bD,i];lk))) ⟨_,rfl,_,rfl,.ref n,aj,ws,I,r,rfl,c.1.kt (b_ C (bG _)),ok,by lk, l _ _ x1,i,λa3 H3 B d J=>⟨a3,_,rfl,J,by rw [JZ];lk, λb N M p=>?_⟩⟩⟩;have:b=false:=by cases b with|true=>exact absurd (p.mp rfl) u|false=>rfl
   subst this;exact ⟨_,rfl,q N (aB C (aB d M))⟩
 ·obtain ⟨n,t,rs,rfl,W,ht,cg⟩:=id c.1;have w1:=c.2.1;have w8:=c.2.2.1;have ok:=c.2.2.2.1;have lw:=c.2.2.2.2;k_upd;refine ⟨_,rfl,_,_,aj,ws,rfl,c,hT,λb H1 o p=>?_⟩;w_left;cases b with
  |true =>
   refine cA rfl ?_;have U:=p.mp rfl;cases h with
   |many _ _=>exact ⟨_,rfl,pK.mk rfl (eqT (q H1 o))⟩
   |Iu D _=>exact absurd U D
   |not D _ _ _ _ _=>exact absurd U D
  |false =>
   refine bK (by decide) ?_;have U:¬ Em aj ws:=λz=>by have:=p.mpr z;cases this
   have gC:=c.kt (b_ o (bG _));cases h with
   |many a b=>exact absurd ⟨a,b⟩ U
   |Iu D all =>refine ⟨_,rfl,rfl,_,rfl,cA (by simp) ?_⟩;refine ⟨_,rfl,_,aj,ws,rfl,gC,D,all,λT1 H2 R l e=>?_⟩;refine ⟨aN (by kl_no),λT3 B=>?_⟩;have d:=bM B (HO.tup [V.str "levels"]);exact ⟨_,_,.tup (d _ _ e) (.cons (.str _) .nil),.tup aO (.cons (.str _) .nil),by k_go,by k_go,by k_go,q _ (aB o (aB l d))⟩
   |not D r i x u _ =>
    have g:=x.small (k:=60) (by decide);refine ⟨_,rfl,rfl,_,rfl,bK (λz=>ao2 L arK g (by k_go) (V.str.inj (iM z))) ⟨_,rfl,ofString "not",r,rfl,L,O,g,by lk, λz=>by rw [z] at i;simp at i;lk, λ_ I H2 R l e=>⟨_,rfl,rfl,pJ "not" r,ofString " ",rfl,rfl,rfl,by have:=J9 O (Bb g) (by lk);lk, λl3 B=>?_⟩⟩⟩;rw [e0,Ci L g];km_lay B H3 B d J;refine ⟨l3,_,_,_,rfl,rfl,aQ J,uM,rfl,_,rfl,cA (by simp) ?_⟩;have eX:=aB o (aB l d);refine ⟨_,rfl,I,_,rfl,.inl (aQ (d _ _ e)),_,rfl,n,_,_,_,rfl,rfl,aX (eX _ _ W),rfl,rfl,_,rfl,cA (d7 (gM V.int (by rw [bD,i];lk))) ⟨_,rfl,_,rfl,.ref n,aj,ws,I,r,rfl,c.1.kt (b_ eX (bG _)),ok,by lk, d _ _ e,i,λa4 N f4 M x4=>⟨a4,_,rfl,x4,by rw [rP];lk, by rw [rP];lk, λb H5 s5 p=>?_⟩⟩⟩;have:b=false:=by cases b with|true=>exact absurd (p.mp rfl) u|false=>rfl
    subst this;exact ⟨_,rfl,q H5 (aB eX (aB M s5))⟩
def aai:Gc Z "_law_far_right" 9 ["_law_word","_law_net_here","_law_said_here"] (ao4 Tb (qt 213 34)):=by
 refine cL Z.VN λf fd F=>?_;have T:=Z.T;have G4:=(anq Z);o_head ["_law_word","_law_net_here","_law_said_here","_law_told"];refine ⟨_,(aL (cu (bW cT (pv 0) bA)
 (aL (bB 3 nd (aZ (aeC Z) hr.m rfl (ak (pv 1) au)))
 (aL (cu (bW yr (pv 3) kW)
 (aP (bf (je cT (pv 2) bA)))
 cj)
 (aP (bf (je cT (pv 2) (aY dZ (aY dZ (dM qD rfl T.mJ nF (ak (bQ (pv 3) aA) au)) bA) (dM qD rfl T.mJ nF (ak (bQ (pv 3) aA) au))))))))
 cj)
 (aL (cu (kY (aZ (aat Z) hr.m rfl (ak bA (ak (pv 1) au))))
 (aP (bf (je cT (pv 2) bA)))
 cj)
 (aL (bB 3 nd (aZ G4 hr.m rfl (ak (pv 1) au)))
 (aP (bf (je cT (pv 2) (cD (cQ (ak (bQ (pv 3) aA) (ak (dM qD rfl T.mJ nF (ak (bQ (pv 3) aA) au)) au))) (dM FT rfl T.wD xM (ak (je cT (bQ (pv 3) aA) bA) au))))))))),?_⟩
 rcases h with ⟨y,v,aj,ws,rfl,c,h,q⟩|⟨y,v,aj,ws,rfl,c,M,h,q⟩
 ·tm_up;refine ⟨_,rfl,v,aj,ws,rfl,c.1,c.2.1,c.2.2.1,c.2.2.2.1,c.2.2.2.2,λi k H1 e un=>?_,λd H1 u e D j=>?_⟩
  ·tm_up;cases h with
   |un _ _ _=>exact ⟨_,rfl,pK.mk rfl (eqT (q H1 e))⟩
   |bnd j=>exact absurd j un.not
  ·obtain ⟨N,J⟩:=aer c.2.2.2.1 c.2.2.2.2;have p:=qI (xY N (by k_go));have n2:=qI (xY J (by k_go));have x:=zT (k:=60) (by decide) N;have S:=zT (k:=60) (by decide) J;have I:(ofString "/").length=1:=by k_go
   mod_arm;refine ⟨_,rfl,_,rfl,d,_,_,_,rfl,rfl,aX D,rfl,_,rfl,p,_,_,rfl,rfl,aN (by rw [I];unfold bT at *;lk),_,rfl,d,_,_,_,rfl,rfl,aX D,rfl,_,rfl,n2,_,_,rfl,rfl,aN (by rw [dO,I];unfold bT at *;lk),pK.mk rfl ?_⟩;cases h with
   |un _ _ un=>exact absurd j un.not
   |bnd _=>exact eqT (q H1 e)
 ·k_upd;refine ⟨_,rfl,_,v,aj,ws,rfl,c,M,λb H1 e L=>?_⟩;w_left;cases b with
  |true =>
   refine cA rfl ?_;have o:=L.mp rfl;cases h with
   |many _ _=>exact ⟨_,rfl,pK.mk rfl (eqT (q H1 e))⟩
   |un _ _ un=>exact absurd o.1 un.not
   |Fd _ R _ _ _=>exact absurd o.2 R
  |false =>
   refine bK (by decide) ?_;have o:¬ Em aj ws:=λz=>by have:=L.mpr z;cases this
   refine ⟨_,rfl,v,aj,ws,rfl,c.kt (b_ e (bG _)),e _ _ M,o,λd i k H2 C n un=>?_,λd l r g H2 C j n O=>?_⟩
   ·refine ⟨_,rfl,_,rfl,d,_,_,_,rfl,rfl,aX n,rfl,?_⟩;have p:(i:Int).natAbs.log2<1920:=qI (j9 (show (i:Int).natAbs<8 by have:=(aiF un).1;have:=c.2.2.1;lk) (by k_go));refine ⟨_,rfl,d,_,_,_,rfl,rfl,aX n,rfl,_,rfl,p,aN (by kl_no),λx u=>?_⟩;have t:=bM u (HO.lst [V.str "uneven",V.str (bT i)]);refine ⟨_,rfl,d,_,_,_,rfl,rfl,aX (t _ _ n),rfl,rfl,.inr ⟨_,rfl,x,_,_,_,rfl,rfl,aQ aO,rfl,pK.mk rfl ?_⟩⟩;cases h with
    |many a b=>exact absurd ⟨a,b⟩ o
    |un _ _ _=>exact eqT (q _ (aB e (aB C t)))
    |Fd j _ _ _ _=>exact absurd j un.not
   ·have p:=qI (xY (aes c.2.1 c.2.2.2.1 c.2.2.2.2 O) (by k_go));refine ⟨_,rfl,_,rfl,d,_,_,_,rfl,rfl,aX n,rfl,_,rfl,d,_,_,_,rfl,rfl,aX n,rfl,_,rfl,p,aN (by kl_no),λx u=>?_⟩;have t:=bM u (HO.lst [V.str "spread",V.str (bT g)]);refine ⟨_,rfl,d,_,_,_,rfl,rfl,aX (t _ _ n),rfl,rfl,.inr ⟨_,rfl,x,_,_,_,rfl,rfl,aQ aO,rfl,pK.mk rfl ?_⟩⟩;cases h with
    |many a b=>exact absurd ⟨a,b⟩ o
    |un _ _ un=>exact absurd j un.not
    |Fd _ _ U g' B=>exact afp (by rw [aks O B];rfl) (q _ (aB e (aB C t)))
def af0:Gc Z "_law_alike_right" 6 ["_law_one","_law_other","_law_said_here"] ao5:=by
 o_head (cL Z.VP,["_law_one","_law_other","_law_said_here","_law_found","_law_counts_here"]);obtain ⟨y,v,v',a,b,us,ws,rfl,d,j,h,q⟩:=h;refine ⟨_,(aL (cu (bW pG (bQ (pv 0) aA) (bQ (pv 1) aA))
 (aP (bf (je cT (pv 2) bA)))
 cj)
 (aL (bB 3 nd bA)
 (aL (adi rfl rfl (adh (i:=3) nd rfl (by k_in) (Tf (adX Z) hr.m rfl (ak (pv 0) (ak (pv 1) au)))) rfl Z.wW.xH (λ_=>(aP (bB 3 nd bA))))
 (aL (cu (PW.pt (tD (bW (Uq hr.units) (pv 3) bA) (vZ (bW yr (pv 3) kW))))
 (aP (bf (je cT (pv 2) (cD (cQ (ak bA (ak bA au))) (dM FT rfl T.wD xM (ak (je (Uq hr.units) (pv 3) bA) au))))))
 cj)
 (aL (bB 4 nd (aZ (P0 Z) hr.m rfl (ak (pv 2) au)))
 (aL (cu (PW.pt (tD (bW pG (cD (jg nU z7 z8 Cp (pv 2) (ak bA au)) aA) bA) (tD (bW yr (pv 4) kW) (vZ (bW pG (jH T (pv 4)) (bQ (pv 0) aA))))))
 (aP (bf pF))
 cj)
 (aP (bf (je (aec hr.units) (aZ (qW Z) hr.m rfl (ak (pv 0) (ak (pv 4) au))) (aZ (qW Z) hr.m rfl (ak (pv 1) (ak (pv 4) au)))))))))))),?_⟩
 try dsimp only [bN]
 have e0:(ofString " ")=⟨#[32]⟩:=by k_go
 obtain ⟨n,t,rs,rfl,hn,ht,cg⟩:=id d.1;obtain ⟨n',t',rs',rfl,hn',ht',auu⟩:=id j.1;refine ⟨_,rfl,n,_,_,_,rfl,rfl,aX hn,rfl,_,rfl,n',_,_,_,rfl,rfl,aX hn',rfl,rfl,_,rfl,?_⟩;by_cases c:a=b
 ·subst c;refine bK (by simp) ⟨_,rfl,_,rfl,_,_,a,a,us,ws,rfl,d.1,j.1,d.2.1,d.2.2.1,j.2.1,j.2.2.1,d.2.2.2.1,j.2.2.2.1,d.2.2.2.2,j.2.2.2.2,λz=>absurd rfl z,λ_ ea I H1 C=>?_,λ_ I all H1 C=>?_,λ_ S t1 r H1 f1 C x1 rl rb J W=>?_⟩
  ·refine ⟨Z.wW.Gb,λM qC=>?_⟩;km_lay M H2 qC Y z_;refine ⟨_,rfl,_,_,.str _,.str _,by k_go,by k_go,by k_go,_,rfl,cA (by k_go) (cA rfl ⟨_,rfl,aN (by kl_no),λx p=>?_⟩)⟩;have l:=bM p (HO.lst [V.str "yes",V.str "many"]);refine ⟨_,rfl,_,_,.str _,.str _,by k_go,by k_go,by k_go,.inr ⟨_,rfl,x,_,_,_,rfl,rfl,aQ aO,rfl,pK.mk rfl ?_⟩⟩;cases h with
   |none n=>exact absurd rfl n
   |many _ _ _=>exact eqT (q _ (aB C (aB Y l)))
   |yes _ OD _=>exact absurd I OD
   |no _ S _ _ _ _ _=>exact absurd ⟨ea,I⟩ S
  ·refine ⟨_,rfl,_,_,.non,.str _,by k_go,by k_go,by k_go,_,rfl,bK (by k_go) ?_⟩;tm_up;refine ⟨_,rfl,aN (by kl_no),λx p=>?_⟩;have l:=bM p (HO.lst [V.str "yes",V.str "many"]);refine ⟨_,rfl,_,_,.non,.str _,by k_go,by k_go,by k_go,.inr ⟨_,rfl,x,_,_,_,rfl,rfl,aQ aO,rfl,pK.mk rfl ?_⟩⟩;cases h with
   |none n=>exact absurd rfl n
   |many _ _ mu'=>exact absurd mu' I
   |yes _ _ _=>exact eqT (q _ (aB C l))
   |no _ _ r rl rb J W=>exact absurd all W
  ·refine ⟨_,rfl,_,_,jF.ints x1,.str _,agH r,by k_go,rfl,_,rfl,bK (by simp [PySem.Spec.same]) ?_⟩;mod_arm;cases h with
   |none n=>exact absurd rfl n
   |many _ e m=>exact absurd ⟨e,m⟩ S
   |yes _ m all=>exact absurd all W
   |no _ _ u g O U _ =>
    have B:32∉Ls (ofString "no"):=by k_go
    have D:(ofString "no").length<=64:=by k_go
    have o:=O.small (k:=60) (by decide);have w1:=d.2.1;have w8:=d.2.2.1;refine ⟨_,rfl,ofString "no",u,rfl,B,D,o,by lk, λz=>by rw [z] at g;simp at g;lk, λ_ R H2 f2 Y L=>⟨_,rfl,rfl,pJ "no" u,ofString " ",rfl,rfl,rfl,by have:=J9 D (Bb o) (by lk);lk, λx p=>?_⟩⟩;rw [e0,Ci B o];km_lay p H3 p l x3;have N:=aB C (aB Y l);refine ⟨x,_,_,_,rfl,rfl,aQ x3,uM,rfl,_,rfl,bK (by simp) ?_⟩;mod_arm;refine ⟨_,rfl,R,_,rfl,.inl (aQ (l _ _ L)),_,rfl,n,_,_,_,rfl,rfl,aX (N _ _ hn),rfl,rfl,_,rfl,bK (M6 (gM V.int (by rw [bD,g];lk))) ⟨_,rfl,_,rfl,.ref n,a,us,R,u,rfl,d.1.kt (b_ N (bG _)),d.2.2.2.1,by have:=d.2.2.2.2;lk, l _ _ L,g,λa4 H4 f4 s4 x4=>?_⟩⟩;have jN:=aB N s4;refine ⟨_,rfl,_,rfl,.ref n',a,ws,R,u,rfl,j.1.kt (b_ jN (bG _)),j.2.2.2.1,by have:=j.2.2.2.2;lk, s4 _ _ (l _ _ L),g,λa5 H5 f5 s5 x5=>⟨a4,a5,_,_,rfl,rfl,aQ (s5 _ _ x4),aQ x5,?_⟩⟩;have e9:(!decide (cR u us=cR u ws))=true:=by rw [kh U];rfl
    exact (by rw [bF rfl,e9];exact q H5 (aB jN s5))
 ·refine cA (by simp [c]) ?_;cases h with
  |none _=>exact ⟨_,rfl,pK.mk rfl (eqT (q H (cO _)))⟩
  |many e _ _=>exact absurd e c
  |yes e _ _=>exact absurd e c
  |no e _ _ _ _ _ _=>exact absurd e c
def ahU:Gc Z "_law_asked" 16 ["_law_pen_here","_law_desk","_law_name","_law_net_here"] (ao7 Cd Tb (qt 213 34)):=by
 o_head (cL Z.VR,["_law_pen_here","_law_desk","_law_name","_law_net_here","_law_word","_law_counts_here","_law_said_here"]);obtain ⟨B,d,D,kn,nm,u,v,aj,ws,rfl,⟨i0,j0,k0,g⟩,da,N,I,M,e,fB,hT,q⟩:=h;obtain ⟨n,t,rs,rfl,hh,ht,cg⟩:=id fB.1;refine ⟨_,(aL (bB 4 nd (cD (cQ (ak bA (ak bA (ak bA (ak bA (ak bA au)))))) (aZ (iH Z) hr.m rfl (ak (pv 0) (ak aA au)))))
 (aL (cu (bW cT (pv 4) bA)
 (aL (bB 5 nd (aZ (ag' Z) hr.m rfl (ak (pv 0) (ak (bQ (pv 3) aA) au))))
 (aP (bf (je cT (aZ (FP Z) hr.m rfl (ak (pv 1) (ak (aY dZ (aY dZ (aY dZ bA (pv 2)) bA) (aZ (aaT Z) hr.m rfl (ak (pv 5) au))) au))) (aZ (aaT Z) hr.m rfl (ak (aZ (qW Z) hr.m rfl (ak (pv 3) (ak (pv 5) au))) au))))))
 cj)
 (aL (bB 6 nd (aZ (FP Z) hr.m rfl (ak (pv 1) (ak (aY dZ (aY dZ (pv 4) bA) (pv 2)) au))))
 (aL (cu (bW pG (pv 6) (aZ (FP Z) hr.m rfl (ak (pv 1) (ak (aY dZ (aY dZ (pv 4) bA) (pv 2)) au))))
 (aP (bf pF))
 cj)
 (aL (cu (bW cT (pv 4) bA)
 (aP (bf (je cT (pv 6) (dM qD rfl T.mJ nF (ak (aZ (DK Z) hr.m rfl (ak (pv 3) au)) au)))))
 cj)
 (aL (cu (bW cT (pv 4) bA)
 (aP (bf (je cT (pv 6) (aZ (zK Z) hr.m rfl (ak (pv 3) au)))))
 cj)
 (aP (bf (aZ (aai Z) hr.m rfl (ak (pv 4) (ak (pv 3) (ak (pv 6) au)))))))))))),?_⟩
 try dsimp only [bN]
 have w1:=e.2.1;have w8:=e.2.2.1;have ok:=e.2.2.2.1;have lnm:=nM I;have o:(ofString " ").length=1:=by k_go
 refine ⟨aN (by kl_no),λl0 fl0=>?_⟩;w_call H1 g fl0 k1 hp1 x1 n1;refine ⟨_,rfl,B,_,_,_,5,rfl,hp1,by decide,by decide,λx i1 Y j x0 x5=>?_⟩;have R:Kp B H (upd H1 B (.lst [.int i1,.int Y,.int j])):=cV k1 rm;have r:(upd H1 B (.lst [.int i1,.int Y,.int j])) B=some (.lst [.int i1,.int Y,.int j]):=aO;have x2:(upd H1 B (.lst [.int i1,.int Y,.int j])) l0=some (.lst [V.str "depth",V.str "exits",V.str "exits",V.str "bound",V.str "show"]):=(bh n1).trans x1;generalize upd H1 B (HO.lst [V.int i1,V.int Y,V.int j])=H2 at R r x2;have O:=da.Bt g R;have pR:KT H H2:=KT.kp R g (bG _);have S:=e.kt pR;have Vq:=fB.kt pR;have hT2:H2 Tb=some (.iy ((qt 213 34))):=R _ _ hT (oJ hT g (by intro z;cases z));have hh2:=pR _ _ hh;have k:∀ H',aG H2 H'->Q (.bl true) H':=λH' s'=>q H' (cV R (q_ s')) ⟨_,_,_,s' _ _ r⟩;have wc:x=0\/x=1\/x=2\/x=3\/x=4:=by lk
 have isx:∀ w0:Str,w0="exits" \/ w0≠"exits":=λw0=>Classical.em _;obtain ⟨w0,ew,hw⟩:∃ w0:Str,gD [V.str "depth",V.str "exits",V.str "exits",V.str "bound",V.str "show"] x=some (.str w0)/\(w0="exits" \/ w0="depth" \/ w0="bound" \/ w0="show"):=by
  rcases wc with h|h|h|h|h<;>subst h
  ·exact ⟨_,rfl,.inr (.inl rfl)⟩
  ·exact ⟨_,rfl,.inl rfl⟩
  ·exact ⟨_,rfl,.inl rfl⟩
  ·exact ⟨_,rfl,.inr (.inr (.inl rfl))⟩
  ·exact ⟨_,rfl,.inr (.inr (.inr rfl))⟩
 refine ⟨l0,_,_,_,rfl,rfl,aQ x2,ew,?_⟩;rcases hw with rfl|hw
 ·tm_up;refine ⟨_,rfl,_,rfl,n,_,_,_,rfl,rfl,aX hh2,rfl,B,aj,rfl,⟨_,_,_,r⟩,w1,w8,λlc cs H3 ZS k3 pe3 x3 len wn=>?_⟩;obtain ⟨i3,j3,k3',hp3⟩:=pe3;have W:=cV R k3;have J:=O.Bt r k3;have kt3:KT H H3:=KT.kp W g (bG _);have as7:=e.kt kt3;have arL:=fB.kt kt3;have tY:∀ c∈cs,c.natAbs<10 ^ 60:=λc hc=>arv (wn c hc).1 (wn c hc).2;have t62:∀ c∈cR cs ws,c.natAbs<10 ^ 62:=(Wn.Nh (lo:=- 10 ^ 60) (hi:=10 ^ 60) (by decide) (by decide) ws (wn.mono (by decide) (by decide))).abs (by k_go);have l6:(ofString "exits ").length=6:=by k_go
  have qw:cs≠[]:=λz=>by rw [z] at len;simp at len;lk
  refine ⟨_,rfl,_,rfl,_,_,rfl,rfl,aN (by rw [l6];lk),_,_,rfl,rfl,aN (by rw [dO,l6,o];lk),_,rfl,lc,cs,rfl,x3,Bb tY,by lk, λH4 p=>?_⟩;have lj:(Txt.join ⟨#[32]⟩ (cs.map bT)).length<=1000:=by have a:=UG (cs.map bT);have b:=Dp (xQ (Bb tY));unfold Wt at a;rw [bD] at a b;lk
  refine ⟨_,_,rfl,rfl,aN (by rw [dO,dO,l6,o];lk),aqv (E:=E) (anu Z) (J.same p) N (by decide) M (as7.kt (b_ p (bG _))) I tY len t62 (amV qw) λU L=>?_⟩;have BK:=aB p L;exact ⟨_,rfl,_,rfl,.ref n,aj,ws,lc,cs,rfl,arL.1.kt (b_ BK (bG _)),ok,by have:=e.2.2.2.2;lk, BK _ _ x3,len,λa6 H6 f6 s6 x6=>⟨a6,cR cs ws,rfl,x6,t62,by rw [rP];lk, λH7 s7=>pK.mk rfl (eqT (q H7 (cV W (q_ (aB BK (aB s6 s7)))) ⟨_,_,_,(aB BK (aB s6 s7)) _ _ hp3⟩))⟩⟩
 ·refine ⟨_,rfl,rfl,_,rfl,bK (λz=>by have:=V.str.inj (iM z);subst this;revert hw;k_go) ?_⟩;have lw:w0.length<=10:=by rcases hw with rfl|rfl|rfl<;>k_go
  refine ⟨_,rfl,_,rfl,_,_,rfl,rfl,aN (by rw [o];lk),_,rfl,_,_,rfl,rfl,aN (by rw [dO,o];lk),?_⟩;rcases hw with rfl|rfl|rfl
  ·refine wz (E:=E) (acz Z) O N (by decide) M S (λ_ _=>trivial) vU (by k_go) (by k_go) (by k_go) (by k_go) I λy ty H3 i=>?_;have J:=O.same i;refine ⟨_,rfl,_,rfl,_,rfl,_,_,rfl,rfl,aN (by rw [o];lk),_,rfl,_,_,rfl,rfl,aN (by rw [dO,o];lk),wz (E:=E) (acz Z) J N (by decide) M (S.kt (b_ i (bG _))) (λ_ _=>trivial) vU (by k_go) (by k_go) (by k_go) (by k_go) I λy' l H4 p=>?_⟩;have C:=aB i p;cases ty;cases l;refine ⟨rfl,_,rfl,bK (by simp) ?_⟩;tm_up;refine ⟨_,rfl,_,rfl,.ref n,aj,ws,rfl,Vq.1.kt (b_ C (bG _)),w1,w8,ok,e.2.2.2.2,λm U L h0 h1=>?_⟩;have em:=aeu ok h0 h1;have:=vL ok;have:=e.2.2.2.2;rw [em];exact ⟨_,rfl,qI (Kw (show ((cW aj ws:Nat):Int).natAbs<=41 by lk) (by k_go)),pK.mk rfl (afp rfl (k U (aB C L)))⟩
  ·refine wz (E:=E) (acA Z) O N (by decide) M S (λ_ _=>trivial) vU (by k_go) (by k_go) (by k_go) (by k_go) I λy ty H3 i=>?_;have J:=O.same i;refine ⟨_,rfl,_,rfl,_,rfl,_,_,rfl,rfl,aN (by rw [o];lk),_,rfl,_,_,rfl,rfl,aN (by rw [dO,o];lk),wz (E:=E) (acA Z) J N (by decide) M (S.kt (b_ i (bG _))) (λ_ _=>trivial) vU (by k_go) (by k_go) (by k_go) (by k_go) I λy' l H4 p=>?_⟩;have C:=aB i p;have ey:=amY ty l;subst ey;refine ⟨rfl,_,rfl,bK (by simp) ?_⟩;k_upd;k_upd;exact ⟨_,rfl,_,rfl,_,rfl,.bnd y (.ref n) aj ws rfl (Vq.kt (b_ C (bG _))) ty λU L=>k U (aB C L)⟩
  ·refine wz (E:=E) (adY Z) O N (by decide) M S (λ_ _=>trivial) vU (by k_go) (by k_go) (by k_go) (by k_go) I λy ty H3 i=>?_;have J:=O.same i;refine ⟨_,rfl,_,rfl,_,rfl,_,_,rfl,rfl,aN (by rw [o];lk),_,rfl,_,_,rfl,rfl,aN (by rw [dO,o];lk),wz (E:=E) (adY Z) J N (by decide) M (S.kt (b_ i (bG _))) (λ_ _=>trivial) vU (by k_go) (by k_go) (by k_go) (by k_go) I λy' l H4 p=>?_⟩;have C:=aB i p;cases ty;cases l;refine ⟨rfl,_,rfl,bK (by simp) ?_⟩;k_upd;tm_up;exact ⟨_,rfl,_,rfl,.ref n,aj,ws,rfl,Vq.1.kt (b_ C (bG _)),w1,w8,ok,e.2.2.2.2,λU L=>pK.mk rfl (eqT (k U (aB C L)))⟩
def ahe:Gc Z "_law_judged" 16 ["_law_desk","_law_word","_law_name","_law_other","_law_kept"] (ao8 Cd Tb (qt 213 34)):=by
 o_head (cL Z.V0,["_law_desk","_law_word","_law_name","_law_other","_law_kept","_law_said_here"]);obtain ⟨d,ka,D,kn,kk,x,nm,nm',u,v,L,v',aj,jy,ws,ws',rfl,M,n,l,J,e,c,j,r,N,p,i,n2,U,O,t,q⟩:=h;refine ⟨_,(aL (cu (bW cT (pv 1) bA)
 (aP (bf (aZ (af0 Z) hr.m rfl (ak (vQ (mH hr) (pv 4) (pv 2) (λ_ _=>rfl)) (ak (vQ (mH hr) (pv 4) (pv 3) (λ_ _=>rfl)) (ak (aZ (FP Z) hr.m rfl (ak (pv 0) (ak (aY dZ (aY dZ (aY dZ bA (pv 2)) bA) (pv 3)) au))) au))))))
 cj)
 (aL (bB 5 nd (aZ (FP Z) hr.m rfl (ak (pv 0) (ak (aY dZ (aY dZ (pv 1) bA) (pv 2)) au))))
 (aL (cu (bW cT (pv 1) bA)
 (aP (bf (aZ (aai Z) hr.m rfl (ak (pv 1) (ak (vQ (mH hr) (pv 4) (pv 2) (λ_ _=>rfl)) (ak (pv 5) au))))))
 cj)
 (aP (bf (aZ (afW Z) hr.m rfl (ak (pv 1) (ak (vQ (mH hr) (pv 4) (pv 2) (λ_ _=>rfl)) (ak (pv 5) au))))))))),?_⟩
 try dsimp only [bN]
 have o:(ofString " ").length=1:=by k_go
 have B:(ofString "alike ").length=6:=by k_go
 have S:=nM e;have R:=nM c;have g:jz H ka (kV (.inr nm)) (some u):=by rw [<-N];exact jz.k J
 have g':jz H ka (kV (.inr nm')) (some L):=by rw [<-p];exact jz.k J
 have C:∀ H',aG H H'->jz H' ka (kV (.inr nm)) (some u):=λH' s'=>by rw [<-N];exact jz.k (s' _ _ J)
 by_cases I:x="alike"
 ·subst I;tm_up;exact ⟨_,rfl,_,rfl,ka,_,rfl,g,_,rfl,_,rfl,ka,_,rfl,g',_,rfl,_,rfl,_,_,rfl,rfl,aN (by rw [B];lk),_,_,rfl,rfl,aN (by rw [dO,B,o];lk),_,rfl,_,_,rfl,rfl,aN (by rw [dO,dO,B,o];lk),aqu (E:=E) (anw Z) n l (by decide) j r i U ao9 e c λy ty H1 a=>⟨y,u,L,aj,jy,ws,ws',rfl,n2.kt (b_ a (bG _)),O.kt (b_ a (bG _)),ty,λH2 b=>q H2 (aB a b)⟩⟩
 ·refine ⟨_,rfl,rfl,_,rfl,bK (λz=>I (V.str.inj (iM z))) ?_⟩;have lw:x.length<=10:=by rcases M with rfl|rfl|rfl|rfl<;>k_go
  refine ⟨_,rfl,_,rfl,_,_,rfl,rfl,aN (by rw [o];lk),_,rfl,_,_,rfl,rfl,aN (by rw [dO,o];lk),?_⟩;rcases M with rfl|rfl|rfl|rfl
  ·refine wz (E:=E) (ala Z) n l (by decide) j i (λ_ _=>trivial) vU (by k_go) (by k_go) (by k_go) (by k_go) e λy ty H1 a=>?_;k_upd;exact ⟨_,rfl,_,rfl,_,rfl,ka,_,rfl,C H1 a,_,rfl,.Iu y u aj ws rfl (n2.kt (b_ a (bG _))) (a _ _ t) ty λH2 b=>q H2 (aB a b)⟩
  ·refine wz (E:=E) (alb Z) n l (by decide) j i (λ_ _=>trivial) vU (by k_go) (by k_go) (by k_go) (by k_go) e λy ty H1 a=>?_;k_upd;exact ⟨_,rfl,_,rfl,_,rfl,ka,_,rfl,C H1 a,_,rfl,.ord y u aj ws rfl (n2.kt (b_ a (bG _))) ty λH2 b=>q H2 (aB a b)⟩
  ·refine wz (E:=E) (alc Z) n l (by decide) j i (λ_ s'=>s' _ _ t) vU (by k_go) (by k_go) (by k_go) (by k_go) e λy ty H1 a=>?_;tm_up;exact ⟨_,rfl,_,rfl,_,rfl,ka,_,rfl,C H1 a,_,rfl,.Fd y u aj ws rfl (n2.kt (b_ a (bG _))) (a _ _ t) ty λH2 b=>q H2 (aB a b)⟩
  ·exact absurd rfl I
def aaj:Gc Z "_law_small_net" 9 ["_law_pen_here"] akD:=by
 o_head (cL Z.V1,["_law_pen_here","_law_wide","_law_wickets_here"]);obtain ⟨p,rfl,N,q⟩:=h;refine ⟨_,(aL (mG (aZ (akY Z) hr.m rfl (ak (pv 0) au)) (pB rfl (ig (dI 1 nd) (ig (dI 2 nd) oX))))
 (aP (bf (cU (ak (pv 1) (ak (nG GP (pv 2) nW (nY aA)) au)))))),?_⟩
 try dsimp only [bN]
 refine ⟨_,rfl,p,rfl,N,λv aj ws H1 C d z L B ok len=>?_⟩;obtain ⟨n,t,rs,rfl,M,D,x⟩:=id z;refine ⟨n,_,rfl,aX M,rfl,_,_,rfl,_,_,rfl,rfl,_,rfl,_,rfl,7,rfl,t,rs,rfl,D,λr H2 J l=>?_⟩;rw [show (7:Int)=((7:Nat):Int) from rfl,acd] at l;refine ⟨aN (by kl_no),λu I=>?_⟩;have g:=bM I (HO.tup [V.int aj,V.ref r]);have a:=aB J g;obtain ⟨i,j,k,c⟩:=d;exact q (.ref u) aj (ws.take 7) _ (cV C λb o e _=>a b o e) ⟨i,j,k,a _ _ c⟩ ⟨⟨u,r,_,rfl,aO,g _ _ l,(x.take 7).same a⟩,L,B,ok.sub λw y=>KH y,by rw [eF];lk⟩ (by rw [eF];lk)
def ahf:Gc Z "_law_making" 9 ["_law_pen_here","_law_name","_law_net_here"] ao_:=by
 o_head (cL Z.V2,["_law_pen_here","_law_name","_law_net_here","_law_wide","_law_wickets_here","_law_way","_law_mirror","_law_cut","_law_parts","_law_rows","_law_number","_law_word","_law_built"]);obtain ⟨e,nm,u,aj,ws,rfl,⟨i0,j0,k0,hp0⟩,hn,D,len,q⟩:=h;obtain ⟨n,t,rs,rfl,hh,L,cg⟩:=id D.1;have v:=D.2.1;have r:=D.2.2.1;have ok:=D.2.2.2.1;have lnm:=nM hn;refine ⟨_,(aL (mG (pv 2) (pB rfl (ig (dI 3 nd) (ig (dI 4 nd) oX))))
 (aL (bB 5 nd (aZ (iH Z) hr.m rfl (ak (pv 0) (ak aA au))))
 (aL (cu (bW cT (pv 5) aA)
 (aL (bB 6 nd (dM uc rfl T.o7 qF (ak (gJ ["_law_first","_law_second"] [("_law_wide",3)] rfl (oH (pv 4)) (by w_tab) (by k_mem) (by row_wit1 (cU (ak (aY iI (aY iI (pv 2) aA) (pv 1)) (ak (aY iI (aY iI (pv 2) aA) (pv 0)) au))))) au)))
 (aP (bf (cU (ak (cQ (ak (aY dZ bA (aZ (zK Z) hr.m rfl (ak (cU (ak (pv 3) (ak (pv 6) au))) au))) (ak (aY dZ (aY dZ bA (pv 1)) bA) au))) (ak (pv 2) au))))))
 cj)
 (aL (cu (bW cT (pv 5) aA)
 (aL (bB 7 nd (aZ (iH Z) hr.m rfl (ak (pv 0) (ak (aY gZ (jH T (pv 4)) aA) au))))
 (aL (bB 8 nd (cQ (ak (aY dZ bA (aZ (zK Z) hr.m rfl (ak (cU (ak (pv 3) (ak (nG GP (pv 4) nW (nY (pv 7))) au))) au))) (ak (aY dZ bA (aZ (zK Z) hr.m rfl (ak (cU (ak (pv 3) (ak (nG GP (pv 4) (nY (pv 7)) nW) au))) au))) au))))
 (aP (bf (cU (ak (aY j_ (pv 8) (cQ (ak (aY dZ (aY dZ bA (pv 1)) bA) au))) (ak (pv 2) au)))))))
 cj)
 (aL (cu (bW cT (pv 5) aA)
 (aL (bB 9 nd (cQ (ak (aY dZ bA (aZ (zK Z) hr.m rfl (ak (cU (ak (pv 3) (ak (aY Tj (pv 4) (nG GP (pv 4) (nY (aeF ad6 aA)) nW)) au))) au))) (ak (aY dZ (aY dZ bA (pv 1)) bA) au))))
 (aP (bf (cU (ak (pv 9) (ak (cU (ak (pv 3) (ak (aZ (agS Z) hr.m rfl (ak (pv 4) au)) au))) au))))))
 cj)
 (aL (cu (PW.pt (ad5 (bW cT (pv 5) aA) (ac1 (bW Va (pv 3) aA))))
 (aL (bB 9 nd (cQ (ak (aY dZ bA (aZ (zK Z) hr.m rfl (ak (pv 2) au))) (ak bA (ak (aY dZ (aY dZ bA (pv 1)) bA) au)))))
 (aP (bf (cU (ak (pv 9) (ak (cU (ak (aY gZ (pv 3) aA) (ak (pv 4) au))) au))))))
 cj)
 (aL (cu (bW cT (pv 5) aA)
 (aL (bB 10 nd (cD (cQ (ak aA (ak aA (ak aA au)))) (aZ (iH Z) hr.m rfl (ak (pv 0) (ak aA au)))))
 (aL (bB 11 nd (cD (cQ (ak bA (ak bA (ak bA au)))) (aZ (iH Z) hr.m rfl (ak (pv 0) (ak aA au)))))
 (aL (bB 12 nd (ady (Gq bA (aZ (xG Z) hr.m rfl (ak (pv 10) au)) (Gq bA (aZ (BX Z) hr.m rfl (ak (pv 10) au)) (Gq bA (aZ (Ca Z) hr.m rfl (ak (pv 10) au)) adx))) rfl rfl (by intro z;cases z) (by decide)))
 (aP (bf (cU (ak (cQ (ak (aY dZ (aY dZ (aY dZ (aY dZ (pv 11) bA) (pv 1)) bA) (dM qD rfl T.mJ nF (ak (pv 10) au))) au)) (ak (cU (ak (pv 10) (ak (dM uc rfl T.o7 qF (ak (vQ (mH hr) (pv 12) (pv 11) (λ_ _=>rfl)) au)) au))) au))))))))
 cj)
 (aP (bf (cU (ak (cQ (ak (aY dZ (aY dZ (aY dZ bA (pv 1)) bA) (aZ (zK Z) hr.m rfl (ak (pv 2) au))) au)) (ak (pv 2) au)))))))))))),?_⟩
 try dsimp only [bN]
 refine ⟨_,rfl,n,_,rfl,aX hh,rfl,_,_,rfl,_,_,rfl,rfl,_,rfl,e,_,_,_,7,rfl,hp0,by decide,by decide,λx i1 j1 k1 x0 x7=>?_⟩;wrow_args e H1 Iv Bt j;have O5:KT H H1:=KT.kp Bt hp0 (bG _);have hh1:=O5 _ _ hh;have o:=O5 _ _ L;have Eo:=cg.kt O5;have lrs:=cg.len;have V7:∀ (l:Addr) (W:V) (rows:bR) (jy:Int) (ws':aK) (C:Hp) (tt:Addr),Kp e H C->jB C e->C l=some (.lst (rows.map V.str))->l≠e->Xc nm rows jy ws'->dG C W jy ws'->C tt=none->Q (.ref tt) (upd C tt (.tup [.ref l,W])):=by rintro l W rows jy ws' C tt kx ⟨a,b,c,px⟩ xl nl mk nx ft;have M:=bM ft (HO.tup [.ref l,W]);exact q tt l W rows jy ws' _ (cV kx (q_ M)) ⟨a,b,c,M _ _ px⟩ aO (M _ _ xl) nl mk (nx.kt (b_ M (bG _)))
 have out:∀ (l:Addr) (W:V) (rows:bR) (jy:Int) (ws':aK) (C:Hp) (tt:Addr),aG H1 C->C l=some (.lst (rows.map V.str))->l≠e->Xc nm rows jy ws'->dG C W jy ws'->C tt=none->Q (.ref tt) (upd C tt (.tup [.ref l,W])):=λl W rows jy ws' C tt sx xl nl mk nx ft=>V7 l W rows jy ws' C tt (cV Bt (q_ sx)) ⟨_,_,_,sx _ _ j⟩ xl nl mk nx ft;have nl0:=zR aj ws;have l8:(ofString "net tmp ").length=8:=by k_go
 have l9:(ofString "net rest ").length=9:=by k_go
 have l4:(ofString " tmp").length=4:=by k_go
 have et:Ls (ofString " tmp")=32::Ls (ofString "tmp"):=by k_go
 have gC:dG H1 (.ref n) aj ws:=D.kt O5
 try dsimp only [kj]
 refine vM (a:=yK _ _ _) λN1 hN1=>⟨_,rfl,rfl,_,rfl,kE (λg=>?_) (λg=>hN1 _ _ ?_)⟩
 ·refine ⟨_,rfl,t,rfl,⟨_,aX o⟩,λl hl=>?_⟩;refine rT (xs:=rs) (λi ys Hc=>aG H1 Hc/\Hc l=some (.lst ys)/\bZ Hc ys ((ws.take i).map (mO aj))) ⟨bO hl (cO H1),aO,.nil⟩ (aN (by lk)) (by rintro i ys Hc hi ⟨s1,R,r1⟩;exact ⟨aX (s1 _ _ o),R,by have:=r1.len;simp at this;lk⟩) ?_ ?_
  ·rintro i x ys Hc hx ⟨s1,R,r1⟩;obtain ⟨w0,t0,hw0,rfl,ht0⟩:=Eo.get hx;refine ⟨t0,_,rfl,aX (s1 _ _ ht0),rfl,_,_,rfl,_,_,rfl,rfl,⟨.inl rfl,.inl rfl,.inr rfl,trivial⟩,mZ ⟨_,rfl,_,_,rfl,rfl,_,rfl,_,_,rfl,rfl,_,rfl,_,_,rfl,rfl,_,rfl,_,_,rfl,rfl,aN (by kl_no),λu hu=>?_⟩⟩;have nul:u≠l:=λz=>by rw [z,R] at hu;cases hu
   refine ⟨by rw [bh (bL nul)];exact R,bO hl (aB s1 (bM hu _)),aO,?_⟩;rw [gF hw0,dF];have k2:KT Hc (upd (upd Hc u (HO.tup [V.int (aj-1-w0.2),V.int (aj-1-w0.1)])) l (HO.lst (ys++[V.ref u]))):=iD ((bh (bL nul)).trans R) (KT.new hu (bG _));exact (r1.kt k2).app (.cons ⟨u,rfl,(bh nul).trans aO⟩ .nil)
  rintro ys Hc ⟨s1,R,r1⟩;rw [lrs,gG] at r1;refine ⟨l,_,rfl,.inl ⟨aQ R,λt5 f5=>?_⟩⟩;km_lay f5 H5 f5 s5 x5;refine ⟨_,rfl,_,rfl,aN (by kl_no),λn6 f6=>?_⟩;km_lay f6 H6 f6 s6 x6;have Jm:=aB s5 s6;have okm:=an_ ok;refine ⟨.ref n6,aj,ws.map (mO aj),rfl,⟨n6,t5,ys,rfl,x6,s6 _ _ x5,r1.same Jm⟩,v,r,okm,by rw [bD];lk, λH7 s7=>?_⟩;have Ot:=zR aj (ws.map (mO aj));rw [bD] at Ot;have l7:(ofString "mirror ").length=7:=by k_go
  have em:Ls (ofString "mirror ")=Ls (ofString "mirror")++[32]:=by k_go
  refine ⟨_,_,rfl,rfl,aN (by rw [l8,Ot];lk),_,rfl,_,_,rfl,rfl,aN (by rw [l7];lk),_,_,rfl,rfl,aN (by rw [dO,l7,l4];lk),aN (by kl_no),λp I=>?_⟩;have BL:=aB s1 (aB Jm s7);have Y:=bM I (HO.lst [V.str (ofString "net tmp "++jK aj (ws.map (mO aj))),V.str ((ofString "mirror "++nm)++ofString " tmp")]);refine ⟨_,rfl,aN (by kl_no),λtt N=>out p _ [ofString "net tmp "++jK aj (ws.map (mO aj)),(ofString "mirror "++nm)++ofString " tmp"] aj ws _ tt (aB BL Y) aO (bL (cH (BL _ _ j) I)) ⟨⟨[(ofString "tmp",aj,ws.map (mO aj))],[_],ofString "mirror",ofString "tmp",_,rfl,.cons (by show Ls _=_;rw [dJ];rfl) .nil,Am 1,by rw [dJ,dJ,em,et];simp,λt L=>by rw [iu.mp L];exact ⟨v,r,okm,by show (ws.map _).length<=40;rw [bD];lk⟩,by have:=lV.Ez (ts:=[(ofString "tmp",aj,ws.map (mO aj))]) rfl;rwa [an'] at this⟩,v,r,ok,by lk⟩ (gC.kt (b_ (aB BL Y) (bG _))) N⟩
 try dsimp only [kj]
 refine vM (a:=yK _ _ _) λN2 ZL=>⟨_,rfl,rfl,_,rfl,kE (λg2=>?_) (λg2=>ZL _ _ ?_)⟩
 ·refine ⟨_,rfl,_,rfl,t,_,rfl,.inr (aX o),_,_,rfl,rfl,e,_,_,_,_,rfl,j,by lk, by lk, λy i2 j2 k2 y0 y7=>?_⟩;wrow_args e H2 Iv Bu hp2;have pR:KT H1 H2:=KT.kp Bu j (bG _);have Bx:=pR _ _ o;have afI:=Eo.kt pR;obtain ⟨m,rfl⟩:∃ m:Nat,y=(m:Int):=⟨y.toNat,by lk⟩;refine ⟨_,rfl,_,rfl,_,rfl,_,rfl,t,rs,rfl,Bx,λp3 H3 U x3=>?_⟩;rw [acd] at x3;kn_lay n4 f4 H4 O x4;have s34:=aB U O;refine ⟨.ref n4,aj,ws.take m,rfl,⟨n4,p3,_,rfl,x4,O _ _ x3,(afI.take m).same s34⟩,v,r,ok.take m,by rw [eF];lk, λH5 s5=>?_⟩;have nlt:=zR aj (ws.take m);have O6:=zR aj (ws.drop m);rw [eF] at nlt;rw [jO] at O6;refine ⟨_,_,rfl,rfl,aN (by rw [l8,nlt];lk),?_⟩;have zy:=aB s34 s5;refine ⟨_,rfl,_,rfl,_,rfl,_,rfl,t,rs,rfl,zy _ _ Bx,λp6 H6 s6 x6=>?_⟩;rw [aiI] at x6;kn_lay n7 f7 H7 s7 ZV;have Bw:=aB zy (aB s6 s7);refine ⟨.ref n7,aj,ws.drop m,rfl,⟨n7,p6,_,rfl,ZV,s7 _ _ x6,(afI.drop m).same Bw⟩,v,r,ok.drop m,by rw [jO];lk, λH8 Y=>⟨_,_,rfl,rfl,aN (by rw [l9,O6];lk),?_⟩⟩;kn_lay p I H9 sa xa;have s29:=aB Bw (aB Y sa);have l7:(ofString "behind ").length=7:=by k_go
  have ZW:(ofString " tmp rest").length=9:=by k_go
  have eb:Ls (ofString "behind ")=Ls (ofString "behind")++[32]:=by k_go
  have er:Ls (ofString " tmp rest")=32::Ls ((ofString "tmp"++ofString " ")++ofString "rest"):=by k_go
  refine ⟨_,rfl,_,rfl,_,_,rfl,rfl,aN (by rw [l7];lk),_,_,rfl,rfl,aN (by rw [dO,l7,ZW];lk),aN (by kl_no),λlb fb=>?_⟩;have sb:=bM fb (HO.lst [V.str ((ofString "behind "++nm)++ofString " tmp rest")]);refine ⟨p,lb,_,_,rfl,rfl,sb _ _ xa,aO,aN (by kl_no),λpq fq=>?_⟩;have s2b:=aB s29 sb;have sq:=bM fq (HO.lst ([V.str (ofString "net tmp "++jK aj (ws.take m)),V.str (ofString "net rest "++jK aj (ws.drop m))]++[V.str ((ofString "behind "++nm)++ofString " tmp rest")]));have ZX:=aB s2b sq;refine ⟨_,rfl,aN (by kl_no),λtt N=>?_⟩;exact V7 pq _ [ofString "net tmp "++jK aj (ws.take m),ofString "net rest "++jK aj (ws.drop m),(ofString "behind "++nm)++ofString " tmp rest"] aj ws _ tt (cV Bt (cV Bu (q_ ZX))) ⟨_,_,_,ZX _ _ hp2⟩ aO (bL (cH (s2b _ _ hp2) fq)) ⟨⟨[(ofString "tmp",aj,ws.take m),(ofString "rest",aj,ws.drop m)],[_,_],ofString "behind",(ofString "tmp"++ofString " ")++ofString "rest",_,rfl,.cons (by show Ls _=_;rw [dJ];rfl) (.cons (by show Ls _=_;rw [dJ];rfl) .nil),bJ 2,by rw [dJ,dJ,eb,er];simp,λt L=>by
   rcases gn.mp L with z|z
   ·rw [z];exact ⟨v,r,ok.take m,by show (ws.take m).length<=40;rw [eF];lk⟩
   ·rw [iu.mp z];exact ⟨v,r,ok.drop m,by show (ws.drop m).length<=40;rw [jO];lk⟩,by have:=lV.E_ (ts:=[(ofString "tmp",aj,ws.take m),(ofString "rest",aj,ws.drop m)]) rfl (by rw [eF,jO];lk);rwa [List.take_append_drop] at this⟩,v,r,ok,by lk⟩ ((gC.kt pR).kt (b_ ZX (bG _))) N
 try dsimp only [kj]
 refine vM (a:=yK _ _ _) λN3 hN3=>⟨_,rfl,rfl,_,rfl,kE (λg3=>?_) (λg3=>hN3 _ _ ?_)⟩
 ·refine ⟨_,rfl,_,rfl,_,rfl,_,rfl,_,rfl,t,rs,rfl,o,λp3 H3 U x3=>?_⟩;rw [show (-(1:Int))=-1 from rfl,aiJ] at x3;refine ⟨t,p3,rs,_,rfl,rfl,U _ _ o,x3,aN (by rw [jO];lk),λp4 H4 O x4=>?_⟩;kn_lay n5 f5 H5 s5 x5;have Fo:=aB U (aB O s5);have okd:bC aj (ws++ws.drop (ws.length-1)):=ok.app (ok.drop _);have lnd:(ws++ws.drop (ws.length-1)).length<=21:=by rw [dj,jO];lk
  refine ⟨.ref n5,aj,ws++ws.drop (ws.length-1),rfl,⟨n5,p4,_,rfl,x5,s5 _ _ x4,by rw [lrs];exact ((Eo.app (Eo.drop _)).same Fo)⟩,v,r,okd,by lk, λH6 s6=>?_⟩;have O6:=zR aj (ws++ws.drop (ws.length-1));refine ⟨_,_,rfl,rfl,aN (by rw [l8,O6];lk),?_⟩;have l5:(ofString "slim ").length=5:=by k_go
  have es:Ls (ofString "slim ")=Ls (ofString "slim")++[32]:=by k_go
  refine ⟨_,rfl,_,_,rfl,rfl,aN (by rw [l5];lk),_,_,rfl,rfl,aN (by rw [dO,l5,l4];lk),aN (by kl_no),λp I=>?_⟩;have wZ:=aB Fo s6;km_lay p H7 I s7 ZV;have BL:=aB wZ s7;refine ⟨_,rfl,_,rfl,_,rfl,t,rs,aj,ws,rfl,BL _ _ o,Eo.same BL,ok,by lk, λt9 Ja H8 Y x8 r8=>?_⟩;kn_lay n9 f9 H9 M x9;have s19:=aB BL (aB Y M);have okl:bC aj (jt ws):=λx hx=>ok x (ajz ws x hx);have Ow:=QD ws;exact ⟨aN (by kl_no),λtt N=>out p _ [ofString "net tmp "++jK aj (ws++ws.drop (ws.length-1)),(ofString "slim "++nm)++ofString " tmp"] aj (jt ws) _ tt s19 (M _ _ (Y _ _ ZV)) (bL (cH (wZ _ _ j) I)) ⟨⟨[(ofString "tmp",aj,ws++ws.drop (ws.length-1))],[_],ofString "slim",ofString "tmp",_,rfl,.cons (by show Ls _=_;rw [dJ];rfl) .nil,Am 1,by rw [dJ,dJ,es,et];simp,λt L=>by rw [iu.mp L];exact ⟨v,r,okd,by show (ws++ws.drop (ws.length-1)).length<=40;lk⟩,by have:=lV.EY (ts:=[(ofString "tmp",aj,ws++ws.drop (ws.length-1))]) rfl;rwa [akH] at this⟩,v,r,okl,by lk⟩ ⟨⟨n9,t9,Ja,rfl,x9,M _ _ x8,r8.same M⟩,v,r,okl,by have:=D.2.2.2.2;lk⟩ N⟩
 have e2:Ls (ofString "net tmp ")=Ls (ofString "net")++32::(Ls (ofString "tmp")++[32]):=by k_go
 try dsimp only [kj]
 refine vM (a:=yK _ _ _) λN4 hN4=>⟨_,rfl,rfl,_,rfl,arw (d:=decide (aj<8)) (λz=>⟨_,rfl,_,_,rfl,rfl,_,rfl,z⟩) (λg4 g5=>?_) (λg4=>hN4 _ _ ?_)⟩
 ·have lt8:aj<8:=iM g5;refine ⟨_,rfl,.ref n,aj,ws,rfl,gC.1,v,r,ok,by lk, λH3 U=>⟨_,_,rfl,rfl,aN (by rw [l8,nl0];lk),?_⟩⟩;have l7:(ofString "beside ").length=7:=by k_go
  have ZW:(ofString " tmp rest").length=9:=by k_go
  have eb:Ls (ofString "beside ")=Ls (ofString "beside")++[32]:=by k_go
  have er:Ls (ofString " tmp rest")=32::Ls ((ofString "tmp"++ofString " ")++ofString "rest"):=by k_go
  refine ⟨_,rfl,_,_,rfl,rfl,aN (by rw [l7];lk),_,_,rfl,rfl,aN (by rw [dO,l7,ZW];lk),aN (by kl_no),λp I=>?_⟩;km_lay p H4 I O x4;have O7:=aB U O;refine ⟨_,rfl,_,rfl,_,_,rfl,rfl,_,rfl,aN (by kl_no),λn5 f5=>?_⟩;km_lay n5 H5 f5 s5 x5;have Fo:=aB O7 s5;have okw:=akI ok;refine ⟨aN (by kl_no),λtt N=>?_⟩;exact out p _ [ofString "net tmp "++jK aj ws,ofString "net rest 1:",(ofString "beside "++nm)++ofString " tmp rest"] (aj+1) ws _ tt Fo (s5 _ _ x4) (bL (cH (U _ _ j) I)) ⟨⟨[(ofString "tmp",aj,ws),(ofString "rest",1,[])],[_,_],ofString "beside",(ofString "tmp"++ofString " ")++ofString "rest",_,rfl,.cons (by show Ls _=_;rw [dJ];rfl) (.cons (by show Ls _=_;k_go) .nil),bJ 2,by rw [dJ,dJ,eb,er];simp,λt L=>by
   rcases gn.mp L with z|z
   ·rw [z];exact ⟨v,r,ok,by show ws.length<=40;lk⟩
   ·rw [iu.mp z];exact ⟨by decide,by decide,bC.nil,by decide⟩,lV.Fb rfl lt8 (by lk)⟩,by lk, by lk, okw,by lk⟩ ⟨⟨n5,t,rs,rfl,x5,Fo _ _ o,Eo.same Fo⟩,by lk, by lk, okw,by have:=D.2.2.2.2;lk⟩ N
 try dsimp only [kj]
 refine vM (a:=yK _ _ _) λN5 hN5=>⟨_,rfl,rfl,_,rfl,kE (λg6=>?_) (λg6=>hN5 _ _ ?_)⟩
 ·kn_lay l3 f3 H2 s2 x2;have np3:l3≠e:=bL (cH j f3);refine ⟨_,rfl,e,_,_,_,3,rfl,s2 _ _ j,by decide,by decide,λy i3 j3 S y0 y3=>?_⟩;have kp3:Kp e H2 (upd H2 e (.lst [.int i3,.int j3,.int S])):=rm;have hp3:(upd H2 e (.lst [.int i3,.int j3,.int S])) e=some (.lst [.int i3,.int j3,.int S]):=aO;have x3:(upd H2 e (.lst [.int i3,.int j3,.int S])) l3=some (HO.lst [V.int 1,V.int 2,V.int 4]):=(bh np3).trans x2;generalize upd H2 e (HO.lst [V.int i3,V.int j3,V.int S])=H3 at kp3 hp3 x3;obtain ⟨k,k2,ek⟩:∃ k:Nat,k<=2/\gD [V.int 1,V.int 2,V.int 4] y=some (V.int (pw k)):=by
   have hy:y=0\/y=1\/y=2:=by lk
   rcases hy with rfl|rfl|rfl
   ·exact ⟨0,by decide,rfl⟩
   ·exact ⟨1,by decide,rfl⟩
   ·exact ⟨2,by decide,rfl⟩
  refine ⟨l3,_,y,_,rfl,rfl,aQ x3,ek,aN (by kl_no),λl5 f5=>?_⟩;km_lay l5 H4 f5 O x4;have np5:l5≠e:=bL (cH hp3 f5);refine ⟨_,rfl,e,_,_,_,3,rfl,O _ _ hp3,by decide,by decide,λz i5 j5 k5 z0 z3=>?_⟩;have kp5:Kp e H4 (upd H4 e (.lst [.int i5,.int j5,.int k5])):=rm;have oR:(upd H4 e (.lst [.int i5,.int j5,.int k5])) e=some (.lst [.int i5,.int j5,.int k5]):=aO;have x5:(upd H4 e (.lst [.int i5,.int j5,.int k5])) l5=some (HO.lst [V.str (ofString "folded"),V.str (ofString "rounds"),V.str (ofString "brick")]):=(bh np5).trans x4;generalize upd H4 e (HO.lst [V.int i5,V.int j5,V.int k5])=H5 at kp5 oR x5;have as8:Kp e H H5:=cV Bt (cV (q_ s2) (cV kp3 (cV (q_ O) kp5)));obtain ⟨J,hwd,ew⟩:∃ J:Str,(J=ofString "folded" \/ J=ofString "rounds" \/ J=ofString "brick")/\gD [V.str (ofString "folded"),V.str (ofString "rounds"),V.str (ofString "brick")] z=some (V.str J):=by
   have hz:z=0\/z=1\/z=2:=by lk
   rcases hz with rfl|rfl|rfl
   ·exact ⟨_,.inl rfl,rfl⟩
   ·exact ⟨_,.inr (.inl rfl),rfl⟩
   ·exact ⟨_,.inr (.inr rfl),rfl⟩
  refine ⟨l5,_,z,_,rfl,rfl,aQ x5,ew,λdp fdp=>?_⟩;km_lay dp H6 fdp s6 x6;have B:1<=pw k/\pw k<=8:=by
   have hk:k=0\/k=1\/k=2:=by lk
   rcases hk with rfl|rfl|rfl<;>exact ⟨by decide,by decide⟩
  refine ⟨_,rfl,k,rfl,by lk, by lk, λa7 H7 f7 s7 w7=>⟨_,rfl,k,rfl,by lk, λa8 H8 f8 Y w8'=>⟨_,rfl,_,rfl,B.1,B.2,λa9 H9 f9 M w9=>?_⟩⟩⟩;have O8:=aB s7 (aB Y M);refine ⟨O8 _ _ x6,[(.inr (ofString "folded"),.ref a7),(.inr (ofString "rounds"),.ref a8),(.inr (ofString "brick"),.ref a9)],rfl,by show 3<=15;decide,?_⟩;have s59:=aB s6 O8;have BP:KT H9 (upd H9 dp (HO.dK (qj [] [(Sum.inr (ofString "folded"),V.ref a7),(Sum.inr (ofString "rounds"),V.ref a8),(Sum.inr (ofString "brick"),V.ref a9)]))):=λb xs h=>by rw [bh (λz=>by rw [z,O8 _ _ x6] at h;cases h)];exact h
  have sd:aG H5 (upd H9 dp (HO.dK (qj [] [(Sum.inr (ofString "folded"),V.ref a7),(Sum.inr (ofString "rounds"),V.ref a8),(Sum.inr (ofString "brick"),V.ref a9)]))):=bO fdp s59;have xd:(upd H9 dp (HO.dK (qj [] [(Sum.inr (ofString "folded"),V.ref a7),(Sum.inr (ofString "rounds"),V.ref a8),(Sum.inr (ofString "brick"),V.ref a9)]))) dp=some (HO.dK [(Sum.inr (ofString "folded"),V.ref a7),(Sum.inr (ofString "rounds"),V.ref a8),(Sum.inr (ofString "brick"),V.ref a9)]):=aO;have V8:∀ {a:Addr} {us:aK},eN H9 a us->eN (upd H9 dp (HO.dK (qj [] [(Sum.inr (ofString "folded"),V.ref a7),(Sum.inr (ofString "rounds"),V.ref a8),(Sum.inr (ofString "brick"),V.ref a9)]))) a us:=λ{a us} ⟨qs,qa,qb⟩=>⟨qs,by rw [bh (λz=>by rw [z,O8 _ _ x6] at qa;cases qa)];exact qa,qb.kt BP⟩;have w7d:=V8 (w7.same (aB Y M));have w8d:=V8 (w8'.same M);have w9d:=V8 w9;generalize upd H9 dp (HO.dK (qj [] [(Sum.inr (ofString "folded"),V.ref a7),(Sum.inr (ofString "rounds"),V.ref a8),(Sum.inr (ofString "brick"),V.ref a9)]))=iG at sd xd w7d w8d w9d;have S:k<=3:=by lk
  obtain ⟨av,us,hv,wus,Jr,lwd,oku,lnu⟩:∃ (av:Addr) (us:aK),(∀ Hd,aG iG Hd->jz Hd dp (.str J) (some (.ref av)))/\eN iG av us/\wU J (pw k) (.net (pw k) us)/\J.length<=6/\bC (pw k) us/\us.length<=40:=by
   rcases hwd with z|z|z<;>subst z
   ·exact ⟨a7,_,λHd sz=>jz.k (k:=.inr (ofString "folded")) (sz _ _ xd),w7d,.fold S,by k_go,(fold_all S).1,by
     have hk:k=0\/k=1\/k=2:=by lk
     rcases hk with rfl|rfl|rfl<;>k_go⟩
   ·exact ⟨a8,_,λHd sz=>jz.k (k:=.inr (ofString "rounds")) (sz _ _ xd),w8d,.rnd S,by k_go,(GZ S).1,eU (GZ S).2 (by decide)⟩
   ·exact ⟨a9,_,λHd sz=>jz.k (k:=.inr (ofString "brick")) (sz _ _ xd),w9d,.brk B.1 B.2,by k_go,(Gn B.1 B.2).1,eU (Gn B.1 B.2).2 (by decide)⟩
  have BR:(ofString " ").length=1:=by k_go
  have R:Ls (ofString " ")=[32]:=by k_go
  have lnk:(bT (pw k)).length<=2:=zT (k:=1) (by decide) (by have:=B.1;have:=B.2;lk);refine ⟨_,rfl,_,_,rfl,rfl,aN (by rw [BR];lk),_,rfl,_,_,rfl,rfl,aN (by rw [dO,BR];lk),_,_,rfl,rfl,aN (by rw [dO,dO,BR];lk),_,rfl,pw k,rfl,qI (by have:=B.1;have:=B.2;lk),_,_,rfl,rfl,aN (by show _+(bT (pw k)).length<=_;rw [dO,dO,dO,BR];lk),aN (by kl_no),λp I=>?_⟩;have sa:=bM I (HO.lst [V.str ((((J++ofString " ")++nm)++ofString " ")++bT (pw k))]);have xa:(upd iG p (HO.lst [V.str ((((J++ofString " ")++nm)++ofString " ")++bT (pw k))])) p=some (HO.lst [V.str ((((J++ofString " ")++nm)++ofString " ")++bT (pw k))]):=aO;show yC _ _ _ (upd iG p (HO.lst [V.str ((((J++ofString " ")++nm)++ofString " ")++bT (pw k))])) _;generalize upd iG p (HO.lst [V.str ((((J++ofString " ")++nm)++ofString " ")++bT (pw k))])=yZ at sa xa;obtain ⟨qs,qa,qb⟩:=wus;refine ⟨_,rfl,_,rfl,_,rfl,dp,.ref av,rfl,hv _ sa,av,qs,rfl,.inl ⟨aQ (sa _ _ qa),λtq ftq=>?_⟩⟩;km_lay tq m_ ftq sb xb;kn_lay n6 f6 H13 sc xc;have sbc:=aB sb sc;have sac:=aB sa sbc;have s5c:=aB sd sac;exact ⟨aN (by kl_no),λtt N=>V7 p _ [(((J++ofString " ")++nm)++ofString " ")++bT (pw k)] (pw k) us _ tt (cV as8 (q_ s5c)) ⟨_,_,_,s5c _ _ oR⟩ (sbc _ _ xa) (bL (cH (sd _ _ oR) I)) ⟨⟨[],[],J,bT (pw k),_,rfl,.nil,d_ 2,by rw [dJ,dJ,dJ,dJ,R];simp,(λt L=>nomatch L),lV.blt rfl Jr (by lk) (by lk)⟩,B.1,B.2,oku,lnu⟩ ⟨⟨n6,tq,qs,rfl,xc,sc _ _ xb,qb.same sac⟩,B.1,B.2,oku,by lk⟩ N⟩
 have Z0:(ofString "net ").length=4:=by k_go
 have BR:(ofString " ").length=1:=by k_go
 have en:Ls (ofString "net ")=Ls (ofString "net")++[32]:=by k_go
 have R:Ls (ofString " ")=[32]:=by k_go
 refine ⟨_,rfl,_,_,rfl,rfl,aN (by rw [Z0];lk),_,_,rfl,rfl,aN (by rw [dO,Z0,BR];lk),_,rfl,.ref n,aj,ws,rfl,gC.1,v,r,ok,by lk, λH3 U=>⟨_,_,rfl,rfl,aN (by rw [dO,dO,Z0,BR,nl0];lk),aN (by kl_no),λp I=>⟨_,rfl,aN (by kl_no),λtt N=>?_⟩⟩⟩;have O:=bM I (HO.lst [V.str (((ofString "net "++nm)++ofString " ")++jK aj ws)]);have O7:=aB U O;exact out p _ [((ofString "net "++nm)++ofString " ")++jK aj ws] aj ws _ tt O7 aO (bL (cH (U _ _ j) I)) ⟨⟨[],[],ofString "net",jK aj ws,_,rfl,.nil,d_ 2,by rw [dJ,dJ,dJ,en,R];simp,(λt L=>nomatch L),lV.net rfl⟩,v,r,ok,by lk⟩ (gC.kt (b_ O7 (bG _))) N
def aqG (F:lU K mg "law" yI f fd):dz P w K mg aF jj 17 f fd ["_law_script"] (Mt K Tb ((qt 213 34))):=by
 have T:=Z.T;have R:MJ P w K mg aF (vR fP) 13 eA:=⟨(aqE Z),(ak4 Z),(ak5 Z),(ant Z),(ak6 Z),(ak7 Z),(ak8 Z),(aps Z)⟩;o_head ["_law_script","_law_pen_here","_law_desk","_law_words_here","_law_judged_here","_law_turn","_law_kept","_law_wide","_law_wickets_here","_law_name","_law_rows","_law_net_here","_law_k","_law_word","_law_one","_law_other","_law_both"];obtain ⟨sa,ns,rfl,hS,h63,hT,q⟩:=h;refine ⟨_,(aL (bB 1 nd (aZ (abI Z) hr.m rfl (ak (pv 0) (ak aA au))))
 (aL (bB 2 nd (aki (aqF Z) hr.m rfl))
 (aL (bB 3 nd (cQ (ak bA (ak bA (ak bA (ak bA au))))))
 (aL (Qi (i:=4) nd rfl (by k_in) ["_law_k"] [("_law_words_here",3),("_law_pen_here",1)] rfl (jU rfl T.iT (ak aA au)) (by k_all) (by k_mem) (by row_wit1 (cU (ak (qZ (Gi K rfl) (pv 1) (aZ (iH Z) hr.m rfl (ak (pv 2) (ak aA au))) (λ_ _=>rfl)) (ak (aZ (iH Z) hr.m rfl (ak (pv 2) (ak aA au))) (ak (aZ (iH Z) hr.m rfl (ak (pv 2) (ak aA au))) au))))))
 (aL (jd iR rfl  (jU rfl T.iT (ak aA au)) (dI 5 nd)
 (aL (bB 6 nd (ady (Gq bA (aZ (aaj Z) hr.m rfl (ak (pv 1) au)) (Gq bA (aZ (aaj Z) hr.m rfl (ak (pv 1) au)) adx)) rfl rfl (by intro z;cases z) (by decide)))
 (aL (cu (bW cT (aZ (iH Z) hr.m rfl (ak (pv 1) (ak aA au))) aA)
 (aL (mG (vQ (mH hr) (pv 6) bA (λ_ _=>rfl)) (pB rfl (ig (dI 7 nd) (ig (dI 8 nd) oX))))
 (aP (Dk (mH hr) (pv 6) bA (cU (ak (pv 7) (ak (dM uc rfl T.o7 qF (ak (aZ (Cj Z) hr.m rfl (ak (pv 1) (ak (pv 7) (ak (dM JC rfl T.Ay Ce (ak (pv 8) au)) au)))) au)) au))) rfl)))
 cj)
 (aL (jd iR rfl  (lM (cQ (ak bA (ak bA au)))) (dI 9 nd)
 (aL (mG (aZ (ahf Z) hr.m rfl (ak (pv 1) (ak (pv 9) (ak (vQ (mH hr) (pv 6) (pv 9) (λ_ _=>rfl)) au)))) (pB rfl (ig (dI 10 nd) (ig (dI 11 nd) oX))))
 (aL (cu (bW (Ms hr.units) (gJ ["_law_row"] [("_law_desk",2)] rfl (lM (pv 10)) (by k_all) (by k_mem) (by row_wit1 (abU (pv 1) Z.TD.cl (ak' Z) hr.m (ak (pv 0) au)))) (aY Ax (cQ (ak bA au)) (jH T (pv 10))))
 (aP (bf pF))
 cj)
 (aP (Dk (mH hr) (pv 6) (pv 9) (pv 11) rfl)))))
 (aL (bB 1 nd (aZ (abI Z) hr.m rfl (ak (pv 0) (ak (aY gZ aA (pv 5)) au))))
 (aP (jd iR rfl  (jU rfl T.iT (ak aA au)) (dI 12 nd)
 (aL (bB 9 nd (cD (cQ (ak bA (ak bA au))) (aZ (iH Z) hr.m rfl (ak (pv 1) (ak aA au)))))
 (aL (cu (kZ (kY (aZ (ahU Z) hr.m rfl (ak (pv 1) (ak (pv 2) (ak (pv 9) (ak (vQ (mH hr) (pv 6) (pv 9) (λ_ _=>rfl)) au)))))))
 (aP (bf pF))
 cj)
 (aL (mG (cD (pv 4) (aY jY (aY oY (pv 12) aA) aA)) (pB rfl (ig (dI 13 nd) (ig (dI 14 nd) (ig (dI 15 nd) oX)))))
 (aL (bB 16 nd (cQ (ak (cD (cQ (ak bA (ak bA au))) (pv 14)) (ak (cD (cQ (ak bA (ak bA au))) (pv 15)) au))))
 (aP (cu (PW.pt (ad5 (bW cT (aY jY (pv 12) aA) aA) (ac1 (kZ (kY (aZ (ahe Z) hr.m rfl (ak (pv 2) (ak (pv 13) (ak (cD (pv 16) aA) (ak (cD (pv 16) aA) (ak (pv 6) au)))))))))))
 (aP (bf pF))
 cj)))))))))))))
 (aP (bf pF))))))),?_⟩
 try dsimp only [bN]
 refine ⟨_,rfl,sa,ns,0,rfl,hS,h63,by lk, by lk, λp0 a0 b0 c0 f0=>?_⟩;km_lay f0 H0 f0 s0 x0
 -- the afu
 intro d dx fd fdx ndx;refine ⟨d,dx,rfl,aO,λD H1 fn fq da1 k1=>⟨rfl,?_⟩⟩;have out:∀ {b:Addr},(upd (upd H0 dx (.own d)) d (.ins Cd dx [])) b=none->H0 b=none:=λ{b} e=>by
  have a1:b≠d:=λz=>by rw [z,aO] at e;cases e
  have a2:b≠dx:=λz=>by rw [z,bh ndx,aO] at e;cases e
  rw [bh a1,bh a2] at e;exact e
 have fn1:H0 D.n=none:=out fn;have fq1:H0 D.q=none:=out fq;have s1:aG H0 H1:=λb o e=>k1 b o ((bh (cH e fd)).trans ((bh (cH e fdx)).trans e)) (cH e fd);clear k1 fn fq out;have OJ:=aB s0 s1;have fnH:H D.n=none:=s0.free fn1;have fqH:H D.q=none:=s0.free fq1
 -- what is aui
 kn_lay lw fw H2 s12 xw;have fK:=aB OJ s12;have x2:=s12 _ _ (s1 _ _ x0);have u5:=da1.same s12
 try dsimp only [kj]
 refine vM (a:=yL _ _) λN hN=>⟨2,rfl,by lk, by lk, λlj fj=>?_⟩;have sj:=bM fj (HO.lst []);have u6:=u5.same sj;refine qG (n:=(2:Int).toNat) (λj ys Hc=>∃ ts:jq,ys=ts.map V.ref/\ts.length=j/\wV Cd H Hc p0 d lw lj D ts) ⟨[],rfl,rfl,⟨aB fK sj,f0,fK.free fj,⟨_,_,_,sj _ _ x2⟩,u6,sj _ _ xw,aO,bL (cH x2 fj),bL (cH xw fj),λ_ z=>nomatch z⟩⟩ (aN (by kl_no)) (by rintro j ys Hc ⟨ts,l,L,J⟩;exact ⟨by rw [l];exact J.hl,by rw [l,bD];lk⟩) ?_ ?_
 ·rintro j ys Hc hj ⟨ts,rfl,pP,J⟩;is_list;obtain ⟨_,_,_,hp1⟩:=J.pe;refine ⟨_,rfl,_,rfl,p0,_,_,_,4,rfl,hp1,by decide,by decide,λv a1 b1 c1 v0 v4=>?_⟩;have J1:=J.Fe (a:=a1) (b:=b1) (c:=c1);generalize upd Hc p0 (HO.lst [V.int a1,V.int b1,V.int c1])=H4 at J1;obtain ⟨x,ex,hx⟩:∃ x:Str,gD [V.str "levels",V.str "orders",V.str "spread",V.str "alike"] v=some (.str x)/\(x="levels" \/ x="orders" \/ x="spread" \/ x="alike"):=by
   have hv:v=0\/v=1\/v=2\/v=3:=by lk
   rcases hv with rfl|rfl|rfl|rfl
   ·exact ⟨_,rfl,.inl rfl⟩
   ·exact ⟨_,rfl,.inr (.inl rfl)⟩
   ·exact ⟨_,rfl,.inr (.inr (.inl rfl))⟩
   ·exact ⟨_,rfl,.inr (.inr (.inr rfl))⟩
  obtain ⟨_,_,_,hp2⟩:=J1.pe;refine ⟨lw,_,v,_,rfl,rfl,aQ J1.hw,ex,_,rfl,p0,_,_,_,2,rfl,hp2,by decide,by decide,λi a2 b2 c2 i0 i2=>?_⟩;have J2:=J1.Fe (a:=a2) (b:=b2) (c:=c2);generalize upd H4 p0 (HO.lst [V.int a2,V.int b2,V.int c2])=H5 at J2;obtain ⟨_,_,_,hp3⟩:=J2.pe;refine ⟨_,rfl,p0,_,_,_,2,rfl,hp3,by decide,by decide,λi' a3 b3 c3 i0' i2'=>?_⟩;have J3:=J2.Fe (a:=a3) (b:=b3) (c:=c3);generalize upd H5 p0 (HO.lst [V.int a3,V.int b3,V.int c3])=H6 at J3;refine ⟨aN (by kl_no),λt ft=>?_⟩;obtain ⟨l,L⟩:=J3.add ft hx i0 i2 i0' i2';refine ⟨l,ts++[t],by rw [dF];rfl,by rw [dj,Km,pP],?_⟩;rw [dF] at L;exact L
 rintro ys H3 ⟨ts,rfl,pP,J⟩;refine hN _ _ ?_;clear hN N;have W:=J.two pP fnH;clear J pP u6 sj fj u5 x2 fK xw s12 fw;refine ⟨2,rfl,by decide,by decide,?_⟩;refine u_ (n:=(2:Int).toNat) (λi σ Hc=>∃ (p:Addr) (v5 v6 v7 v8 v9 v10 v11 Et Js Jt Ju Jv:Option V) (kn:dh),σ=[some (.ref sa),some (.ref p),some (.ref d),some (.ref lw),some (.ref lj),v5,v6,v7,v8,v9,v10,v11,Et,Js,Jt,Ju,Jv]/\jM Cd H Hc p d lj D kn/\kn.length<=6*i) ⟨p0,none,none,none,none,none,none,none,none,none,none,none,none,[],rfl,W,d_ _⟩ ?_ ?_
 ·rintro i σ Hc hi ⟨p,v5,v6,v7,v8,v9,v10,v11,Et,Js,Jt,Ju,Jv,kn,rfl,W,lkn⟩
  try dsimp only [kj]
  refine Ri λD1 nx1 _ _ _=>?_;have i2:i<2:=by lk
  -- the auw that are kept
  intro ka BW;have Z1:=bM BW (HO.dK []);have Z2:(upd Hc ka (HO.dK [])) ka=some (HO.dK []):=aO;have W1:=W.same Z1;obtain ⟨_,_,_,hp⟩:=W.pe;obtain ⟨t1,t2,hlj,_⟩:=W.ju;have a1:ka≠p:=bL (cH hp BW);have a2:ka≠lj:=bL (cH hlj BW);have a3:d≠ka:=cH W.da.ob BW;have a4:D.n≠ka:=cH W.da.ne BW;have a5:D.q≠ka:=cH W.da.pl BW;have Z4:H ka=none:=W.sm.free BW;generalize upd Hc ka (HO.dK [])=H4 at Z1 Z2 W1;refine ⟨_,rfl,p,rfl,W1.pe,λu1 w1 Z5 H5 k5 Z6 n1 l1=>?_⟩;have W2:=W1.kp k5 Z6;have afJ:=k5 _ _ Z2 a1;refine ⟨_,rfl,p,rfl,Z6,λu2 w2 Z7 H6 k6 pe6 n2 l2=>?_⟩;have W3:=W2.kp k6 pe6;have V9:=k6 _ _ afJ a1;obtain ⟨_,_,_,oR⟩:=Z6;have O9:=n1.kt (KT.kp k6 oR (bG _));refine ⟨V9,[(.inr (ofString "a"),u1),(.inr (ofString "other"),u2)],rfl,by show 2<=15;decide,?_⟩;have BP:KT H6 (upd H6 ka (HO.dK (qj [] [(Sum.inr (ofString "a"),u1),(Sum.inr (ofString "other"),u2)]))):=λb xs h=>by rw [bh (λz=>by rw [z,V9] at h;cases h)];exact h
  have W4:=W3.put Z4 BP a1 a2 a3 a4 a5;have K4:m9 (upd H6 ka (HO.dK (qj [] [(Sum.inr (ofString "a"),u1),(Sum.inr (ofString "other"),u2)]))) ka [(.inr (ofString "a"),u1),(.inr (ofString "other"),u2)] kn (λ_=>False) 7:=⟨aO,bJ 2,λnm C=>by
   rcases C with z|z<;>subst z
   ·exact ⟨u1,w1,Z5,rfl,O9.kt BP,λ_=>by lk, λz=>z.elim⟩
   ·exact ⟨u2,w2,Z7,rfl,n2.kt BP,λ_=>by lk, λz=>z.elim⟩⟩
  generalize upd H6 ka (HO.dK (qj [] [(Sum.inr (ofString "a"),u1),(Sum.inr (ofString "other"),u2)]))=H7 at BP W4 K4;generalize [((Sum.inr (ofString "a"):dR),u1),(Sum.inr (ofString "other"),u2)]=kk at K4;clear O9 n1 n2 l1 l2 V9 afJ Z2 W3 W2 W1 oR pe6 k6 k5 Z1
  try dsimp only [kj]
  refine aqd (λσ O=>∃ (w7 w8:Option V) (kk:dh),σ=[some (.ref sa),some (.ref p),some (.ref d),some (.ref lw),some (.ref lj),some (.int ((0:Int)+(i:Int))),some (.ref ka),w7,w8,v9,v10,v11,Et,Js,Jt,Ju,Jv]/\jM Cd H O p d lj D kn/\m9 O ka kk kn (λ_=>False) 9) (λN hN=>?_) ?_
  ·obtain ⟨_,_,_,mj⟩:=W4.pe;refine ⟨_,rfl,p,_,_,_,2,rfl,mj,by decide,by decide,λx b1 b2 b3 x0' x2'=>?_⟩;have W5:=W4.Fe (a:=b1) (b:=b2) (c:=b3);have K5:=K4.keep (H2:=upd H7 p (.lst [.int b1,.int b2,.int b3])) ((bh a1).trans K4.hk) (iD mj (bG _));generalize upd H7 p (HO.lst [V.int b1,V.int b2,V.int b3])=H8 at W5 K5;refine ⟨rfl,_,rfl,kE (λg=>?_) (λg=>hN _ _ ⟨v7,v8,kk,rfl,W5,K5.mono (by decide)⟩)⟩;obtain ⟨u,w0,ws,hu,nu,lu,_⟩:=K5.ex "a" (.inl rfl);have lu:=lu (λz=>z);obtain ⟨n,t,rs,rfl,hh,ht,cg⟩:=id nu.1;refine ⟨_,rfl,ka,_,rfl,K5.get hu,n,_,rfl,aX hh,rfl,_,_,rfl,_,_,rfl,rfl,_,rfl,_,rfl,_,rfl,_,rfl,t,rs,rfl,.inr (aX ht),λl9 f9=>?_⟩;have s9:=bM f9 (HO.lst rs);have x9:(upd H8 l9 (HO.lst rs)) l9=some (.lst rs):=aO;have n9:l9≠p:=by obtain ⟨_,_,_,e⟩:=W5.pe;exact bL (cH e f9)
   have W6:=W5.same s9;have K6:=K5.keep (s9 _ _ K5.hk) (b_ s9 (bG _));have afK:=cg.same s9;generalize upd H8 l9 (HO.lst rs)=H9 at s9 x9 W6 K6 afK;refine ⟨p,w0,l9,ws,rfl,W6.pe,nu.2.1,nu.2.2.1,n9,⟨rs,x9,afK⟩,nu.2.2.2.1,by lk, λl10 us iG n10 I V_ ⟨qs,hq,rq⟩ as9 aun=>?_⟩;obtain ⟨_,_,_,hp9⟩:=W6.pe;have W7:=W6.kp I V_;have K7:=K6.keep (I _ _ K6.hk a1) (KT.kp I hp9 (bG _));refine ⟨l10,qs,rfl,.inl ⟨aQ hq,λt11 f11=>?_⟩⟩;km_lay t11 yZ f11 Wu x11;kn_lay n12 f12 m_ afL x12;have mU:=aB Wu afL;have W8:=W7.same mU;have K8:=K7.keep (mU _ _ K7.hk) (b_ mU (bG _));refine ⟨_,rfl,ka,_,rfl,uK.k (k:=.inr (ofString "other")) K8.hk (pH (by have:=K8.cX;lk)),?_⟩;have arM:dG m_ (.ref n12) w0 us:=⟨⟨n12,t11,qs,rfl,x12,afL _ _ x11,rq.same mU⟩,nu.2.1,nu.2.2.1,as9,by have:=nu.2.2.2.2;lk⟩;have Z8:KT m_ (upd m_ ka (HO.dK (cI kk (.inr (ofString "other")) (.ref n12)))):=λb xs h=>by rw [bh (λz=>by rw [z,K8.hk] at h;cases h)];exact h
   exact hN _ _ ⟨_,_,_,rfl,W8.put Z4 Z8 a1 a2 a3 a4 a5,(K8.mono (by decide)).put (.inr rfl) arM (λ_=>by lk) (λz=>z.elim) (λ_ _=>Iff.rfl) (λ_ _ z=>z.elim)⟩
  clear W4 K4 BP;rintro σ H8 ⟨v7,v8,kk,rfl,W5,K5⟩
  -- the two names
  kn_lay ln fln H9 O_ Z9;have W6:=W5.same O_;have K6:=K5.keep (O_ _ _ K5.hk) (b_ O_ (bG _));refine ⟨ln,rfl,⟨_,aQ Z9⟩,zM (K:=K) (a:=ln) (xs:=[V.str "a",V.str "other"]) (λj σ O=>∃ (w9 w10 w11:Option V) (kk gV:dh),σ=[some (.ref sa),some (.ref p),some (.ref d),some (.ref lw),some (.ref lj),some (.int ((0:Int)+(i:Int))),some (.ref ka),v7,v8,w9,w10,w11,Et,Js,Jt,Ju,Jv]/\jM Cd H O p d lj D gV/\gV.length<=6*i+3*j/\O ln=some (.lst [V.str "a",V.str "other"])/\m9 O ka kk gV (λnm=>(nm="a"/\1<=j)\/(nm="other"/\2<=j)) 9) ?i0 ?i1 ?i2 ?i3⟩
  case i0=>exact ⟨v9,v10,v11,kk,kn,rfl,W6,by lk, Z9,⟨K6.hk,K6.cX,λnm C=>let ⟨u,aj,ws,a,b,c,_⟩:=K6.ex nm C;⟨u,aj,ws,a,b,λ_=>c (λz=>z),λz=>by rcases z with ⟨_,z⟩|⟨_,z⟩<;>lk⟩⟩⟩
  case i1=>exact (by rintro j σ O _ ⟨_,_,_,_,_,_,_,_,e,_⟩;exact aQ e)
  case i3 =>
   rintro σ O ⟨w9,w10,w11,zE,gV,rfl,W7,afM,_,K7⟩;have auy:gV.length<=6*i+6:=afM;refine ⟨_,rfl,_,rfl,_,_,rfl,rfl,sa,ns,_,rfl,W7.sm.seq hS,h63,by lk, by lk, λp2 b1 b2 b3 f2=>?_⟩;have W8:=W7.aqw (a:=b1) (b:=b2) (c:=b3) f2;have s2:=bM f2 (HO.lst [V.int b1,V.int b2,V.int b3]);have K8:=K7.keep (s2 _ _ K7.hk) (b_ s2 (bG _));have np2:ka≠p2:=cH K7.hk f2;generalize upd O p2 (HO.lst [V.int b1,V.int b2,V.int b3])=H9 at W8 s2 K8;clear W7 K7 s2 f2;refine ⟨10,rfl,by decide,by decide,?_⟩;refine u_ (n:=(10:Int).toNat) (λk σ O=>∃ (w9 w12 w13 w14 w15 w16:Option V),σ=[some (.ref sa),some (.ref p2),some (.ref d),some (.ref lw),some (.ref lj),some (.int ((0:Int)+(i:Int))),some (.ref ka),v7,v8,w9,w10,w11,w12,w13,w14,w15,w16]/\jM Cd H O p2 d lj D gV/\m9 O ka zE gV (λnm=>(nm="a"/\1<=2)\/(nm="other"/\2<=2)) 9) ⟨_,_,_,_,_,_,rfl,W8,K8⟩ ?_ ?_
   ·rintro k σ O hk ⟨w9,w12,w13,w14,w15,w16,rfl,W9,K9⟩
    try dsimp only [kj]
    refine Ri λD2 nx2 _ _ _=>?_;kn_lay l1 f1 iG s1' x1;have Fp:=W9.same s1';have Fq:=K9.keep (s1' _ _ K9.hk) (b_ s1' (bG _));obtain ⟨_,_,_,hp⟩:=Fp.pe;have n1:l1≠p2:=λz=>by rw [z,hp] at x1;cases x1
    refine ⟨_,rfl,p2,_,_,_,2,rfl,hp,by decide,by decide,λy b1 b2 b3 y0 y2=>?_⟩;have Ft:=Fp.Fe (a:=b1) (b:=b2) (c:=b3);have Jw:=Fq.keep (H2:=upd iG p2 (.lst [.int b1,.int b2,.int b3])) ((bh np2).trans Fq.hk) (iD hp (bG _));have x2:(upd iG p2 (.lst [.int b1,.int b2,.int b3])) l1=some (.lst [V.str "a",V.str "other"]):=(bh n1).trans x1;generalize upd iG p2 (HO.lst [V.int b1,V.int b2,V.int b3])=yZ at Ft Jw x2;have pick:∀ y:Int,0<=y->y<2->∃ nm:Str,gD [V.str "a",V.str "other"] y=some (.str nm)/\(nm="a" \/ nm="other")/\fJ (Ls nm)/\((nm="a"/\1<=2)\/(nm="other"/\2<=2)):=λy y0 y2=>by
     have hy:y=0\/y=1:=by lk
     rcases hy with rfl|rfl
     ·exact ⟨_,rfl,.inl rfl,aew,.inl ⟨rfl,by decide⟩⟩
     ·exact ⟨_,rfl,.inr rfl,aex,.inr ⟨rfl,by decide⟩⟩
    obtain ⟨nm,en,C,hn,hs⟩:=pick y y0 y2;refine ⟨l1,_,y,_,rfl,rfl,aQ x2,en,?_⟩;obtain ⟨u,aj,ws,hu,nu,_,tu⟩:=Jw.ex nm C;obtain ⟨v,hv,nv⟩:=tu hs;refine ⟨_,rfl,_,rfl,_,rfl,_,rfl,_,rfl,ka,u,rfl,Jw.get hu,p2,d,D,gV,nm,u,v,aj,ws,rfl,Ft.pe,Ft.da,by lk, hn,hv,nv,nu,Ft.sm _ _ hT,λm_ k12 as_=>⟨_,rfl,bK (by decide) ?_⟩⟩;obtain ⟨_,_,_,V3⟩:=Ft.pe;have W12:=Ft.kp k12 as_;have K12:=Jw.keep (k12 _ _ Jw.hk np2) (KT.kp k12 V3 (bG _));obtain ⟨t1,t2,hl2,j1,j2⟩:=W12.ju;obtain ⟨t,et,x,o1,o2,ht,hx,a0,a2,c0,c2⟩:∃ t,gD [V.ref t1,V.ref t2] (((0:Int)+(k:Int)) / 4 % 2)=some (.ref t)/\Bl m_ t:=by
     have hq:((0:Int)+(k:Int)) / 4 % 2=0\/((0:Int)+(k:Int)) / 4 % 2=1:=by lk
     rcases hq with e|e<;>rw [e]
     ·exact ⟨_,rfl,j1⟩
     ·exact ⟨_,rfl,j2⟩
    refine ⟨_,rfl,_,rfl,_,_,rfl,rfl,⟨by decide,by decide⟩,_,_,rfl,rfl,by decide,lj,_,_,_,rfl,rfl,aQ hl2,et,t,_,rfl,aX ht,rfl,_,_,rfl,_,_,rfl,_,_,rfl,rfl,?_⟩;obtain ⟨m1,l,q1,r1,g1⟩:=pick o1 a0 a2;obtain ⟨m2,L,q2,r2,g2⟩:=pick o2 c0 c2;kn_lay l3 f3 H13 s3 x3;refine ⟨_,rfl,l3,_,_,_,rfl,rfl,aQ x3,l,aN (by kl_no),λl4 f4=>?_⟩;km_lay l4 oU f4 s4 x4;refine ⟨_,rfl,l4,_,_,_,rfl,rfl,aQ x4,L,aN (by kl_no),λl5 f5=>?_⟩;km_lay l5 H15 f5 s5 x5;have s6:=aB (aB s3 s4) s5;have Pa:=W12.same s6;have Fv:=K12.keep (s6 _ _ K12.hk) (b_ s6 (bG _));refine ⟨_,rfl,_,_,rfl,rfl,by decide,rfl,_,rfl,kE (λg=>?_) (λg=>bK (by decide) (nx2 _ _ ⟨_,_,_,_,_,_,rfl,Pa,Fv⟩))⟩;obtain ⟨y1,d1,Z5,h1,O9,_,u1⟩:=Fv.ex m1 q1;obtain ⟨U,v1,k1'⟩:=u1 g1;obtain ⟨y2,d2,Z7,h2,n2',_,u2⟩:=Fv.ex m2 q2;obtain ⟨z2,v2,k2'⟩:=u2 g2;exact ⟨_,rfl,_,rfl,_,rfl,l5,_,_,_,rfl,rfl,aQ x5,rfl,_,rfl,l5,_,_,_,rfl,rfl,aQ x5,rfl,_,rfl,d,ka,D,gV,zE,x,m1,m2,y1,U,y2,z2,d1,d2,Z5,Z7,rfl,hx,Pa.da,by lk, Fv.hk,r1,r2,v1,v2,h1,h2,k1',O9,k2',n2',Pa.sm _ _ hT,λH16 wZ=>⟨_,rfl,bK (by decide) (nx2 _ _ ⟨_,_,_,_,_,_,rfl,Pa.same wZ,Fv.keep (wZ _ _ Fv.hk) (b_ wZ (bG _))⟩)⟩⟩
   rintro σ O ⟨w9,w12,w13,w14,w15,w16,rfl,W9,K9⟩;exact nx1 _ _ ⟨p2,_,_,_,_,_,_,_,_,_,_,_,_,gV,rfl,W9,by lk⟩
  case i2 =>
   clear W6 K6 Z9 O_ fln W5 K5;rintro j x σ O hx ⟨w9,w10,w11,zE,gV,rfl,W7,afM,Z_,K7⟩
   try dsimp only [kj]
   refine Ri λD3 nx3 _ _ _=>?_;obtain ⟨nm,C,rfl,hn,hj⟩:∃ nm:Str,(nm="a" \/ nm="other")/\x=.str nm/\fJ (Ls nm)/\((nm="a"/\j=0)\/(nm="other"/\j=1)):=by
    have jl:=(gb.mp hx).1;have hj:j=0\/j=1:=by simp at jl;lk
    rcases hj with rfl|rfl
    ·cases hx;exact ⟨_,.inl rfl,rfl,aew,.inl ⟨rfl,rfl⟩⟩
    ·cases hx;exact ⟨_,.inr rfl,rfl,aex,.inr ⟨rfl,rfl⟩⟩
   have ao:(ofString "a")≠ofString "other":=by k_go
   obtain ⟨u,aj,ws,hu,nu,lu,_⟩:=K7.ex nm C;have lu:=lu (λz=>by
    rcases hj with ⟨l,L⟩|⟨l,L⟩<;>rcases z with ⟨U,z2⟩|⟨U,z2⟩
    ·lk
    ·lk
    ·exact ao (U.symm.trans l)
    ·lk)
   refine ⟨_,rfl,_,rfl,_,rfl,_,rfl,ka,_,rfl,K7.get hu,p,nm,u,aj,ws,rfl,W7.pe,hn,nu,by lk, λtt lr u' rows jy ws' iG I V_ ht hl nl mk nu'=>?_⟩;obtain ⟨_,_,_,mj⟩:=W7.pe;have ata:KT O iG:=KT.kp I mj (bG _);have W8:=W7.kp I V_;have K8:=K7.keep (I _ _ K7.hk a1) ata;have nlp:ln≠p:=λz=>by rw [z,mj] at Z_;cases Z_
   have xl8:=I _ _ Z_ nlp;refine ⟨tt,_,rfl,aX ht,rfl,_,_,rfl,_,_,rfl,rfl,?_⟩;obtain ⟨⟨ts,pr,x0,rest,r,Vr,prs,pP,hr,bts,lst⟩,mok⟩:=mk;have Xb:=lst.pnm;have lpr:ts.length=pr.length:=uE prs;have auo:rows.length=ts.length+1:=by rw [Vr,dj,Km,lpr]
   refine ⟨_,rfl,lr,rfl,⟨_,aQ hl⟩,λlc fc=>?_⟩;have nlr:lr≠lc:=cH hl fc;have slc:=bM fc (HO.lst []);have M0:lG Cd iG iG d D ts gV 0 gV:=⟨fZ.refl _ _,bG _,W8.da,bJ _,λ_ _ z=>absurd z (by lk),λ_ _ _=>rfl⟩;refine rO (K:=K) (a:=lr) (xs:=rows.map V.str) (λm ys Y=>Y lc=some (.lst ys)/\ys=replicate m (V.str "ok")/\Y lr=some (.lst (rows.map V.str))/\((m<=ts.length/\∃ B,lG Cd iG Y d D ts gV m B)\/(m=ts.length+1/\∃ (B:dh) (v:V),fZ [D.n] iG Y/\KT iG Y/\fM Cd Y d D B []/\B.length<=gV.length+3/\cF B (.inr nm)=some v/\dG Y v jy ws'/\(∀ x:Str,x≠nm->x≠ofString "tmp"->x≠ofString "rest"->cF B (.inr x)=cF gV (.inr x))))) ⟨aO,rfl,slc _ _ hl,.inl ⟨d_ _,gV,M0.same slc⟩⟩ (aN (by rw [bD];lk)) (by rintro m ys Y _ ⟨l,L,e3,_⟩;exact ⟨aQ e3,l,by rw [L];simp⟩) ?_ ?_
   ·rintro m x ys Y hx ⟨x1,rfl,xr,st⟩;obtain ⟨z,hz,rfl⟩:=Cr hx;have ml:m<rows.length:=(gb.mp hz).1;got_up;rcases st with ⟨lm,B,M⟩|⟨em,_⟩
    ·have l0:B.length<900:=by have:=M.ln;lk
     refine ⟨_,rfl,d,D.dx,uW D,rfl,M.da.ob,UJ _ (by k_go) (by k_go),_,rfl,?_⟩;by_cases c:m<ts.length
     ·have hz':pr[m]?=some z:=by rw [Vr,ou (by lk)] at hz;exact hz
      obtain ⟨t0,ht0,hp0⟩:=Paired.M8 prs hz';exact akK R M Xb l0 ht0 (bts t0 (fQ ht0)) hp0 λkn3 H' M' kl=>⟨kl _ _ x1,aO,by rw [CZ],(bh nlr).trans (kl _ _ xr),.inl ⟨by lk, kn3,M'.lst fc (kl _ _ x1)⟩⟩
     ·have em:m=ts.length:=by lk
      subst em;have hz':r=z:=by rw [Vr,lpr,Aq (bJ _),R0] at hz;simpa using hz
      subst hz';refine aiK R M l0 pP hn lst bts mok hr λkn3 v H' c1 c2 c3 c4 c5 c6 c7 kl=>⟨kl _ _ x1,aO,by rw [CZ],(bh nlr).trans (kl _ _ xr),.inr ⟨rfl,kn3,v,?_,?_,?_,c4,c5,?_,c7⟩⟩
      all_goals have kt':KT H' (upd H' lc (HO.lst (replicate ts.length (V.str "ok")++[V.str "ok"]))):=iD (kl _ _ x1) (bG _)
      ·exact λb o e nb=>(bh (λz=>by rw [z,fc] at e;cases e)).trans (c1 b o e nb)
      ·exact wF c2 kt'
      ·obtain ⟨l,L,e3⟩:=Gu c3 (kl _ _ x1);exact c3.kps (S:=[lc]) (fZ.upd (by simp)) (by simpa using l) (by simpa using L) (by simpa using e3)
      ·exact c6.kt kt'
    ·lk
   rintro ys Y ⟨x1,rfl,xr,st⟩;rw [bD] at x1 st;obtain ⟨B,v,c1,c2,c3,c4,c5,c6,c7⟩:∃ (B:dh) (v:V),fZ [D.n] iG Y/\KT iG Y/\fM Cd Y d D B []/\B.length<=gV.length+3/\cF B (.inr nm)=some v/\dG Y v jy ws'/\(∀ x:Str,x≠nm->x≠ofString "tmp"->x≠ofString "rest"->cF B (.inr x)=cF gV (.inr x)):=by
    rcases st with ⟨z,_⟩|⟨_,z⟩
    ·lk
    ·exact z
   refine ⟨aN (by kl_no),λl2 f2=>?_⟩;km_lay f2 yZ f2 s2 x2;have xr2:=s2 _ _ xr;refine ⟨_,rfl,lr,_,rfl,.inl (aQ xr2),l2,_,_,rfl,rfl,x2,by lk, by rw [bD];lk, aN (by rw [bD];show 1*_<=_;simp;lk),λl3 f3=>?_⟩;rw [bD,o_,Rp];km_lay l3 m_ f3 s3' x3';have mU:=aB s2 s3';have y1:=mU _ _ x1;have W9:=(W8.afu c1 c2 c3).same mU;have Wa:KT Y m_:=b_ mU (bG _);have n6:=c6.kt Wa;have nu6:=(nu'.kt c2).kt Wa;have xl9:m_ ln=some (.lst [V.str "a",V.str "other"]):=mU _ _ (c1 _ _ xl8 (by rw [iu];exact oJ xl8 W8.da.ne (by intro z;cases z)));have K9:=(K8.keep (c1 _ _ K8.hk (by rw [iu];exact bL a4)) c2).keep (mU _ _ (c1 _ _ K8.hk (by rw [iu];exact bL a4))) Wa;have n13:rows.length=1\/rows.length=2\/rows.length=3:=by lk
   have Z8:KT m_ (upd m_ ka (HO.dK (cI zE (.inr nm) u'))):=λb xs h=>by rw [bh (λz=>by rw [z,K9.hk] at h;cases h)];exact h
   have w5:ln≠ka:=λz=>by rw [z,K9.hk] at xl9;cases xl9
   have Fq:m9 (upd m_ ka (HO.dK (cI zE (.inr nm) u'))) ka (cI zE (.inr nm) u') B (λnm=>(nm="a"/\1<=j+1)\/(nm="other"/\2<=j+1)) 9:=by
    have sn:(nm="a"/\1<=j+1)\/(nm="other"/\2<=j+1):=by
     rcases hj with ⟨l,L⟩|⟨l,L⟩
     ·exact .inl ⟨l,by lk⟩
     ·exact .inr ⟨l,by lk⟩
    refine K9.put C nu6 (λz=>absurd sn z) (λ_=>⟨v,c5,n6⟩) (λx hxx=>?_) (λx hxx z=>c7 x hxx ?_ ?_)
    ·rcases hj with ⟨l,L⟩|⟨l,L⟩<;>subst l<;>subst L
     ·exact ⟨λz=>by
       rcases z with ⟨U,_⟩|⟨_,z2⟩
       ·exact absurd U hxx
       ·lk, λz=>by
       rcases z with ⟨U,_⟩|⟨_,z2⟩
       ·exact absurd U hxx
       ·lk⟩
     ·exact ⟨λz=>by
       rcases z with ⟨U,_⟩|⟨U,_⟩
       ·exact .inl ⟨U,by decide⟩
       ·exact absurd U hxx,λz=>by
       rcases z with ⟨U,_⟩|⟨U,_⟩
       ·exact .inl ⟨U,by decide⟩
       ·exact absurd U hxx⟩
    ·rcases z with ⟨z,_⟩|⟨z,_⟩<;>rw [z]<;>k_go
    ·rcases z with ⟨z,_⟩|⟨z,_⟩<;>rw [z]<;>k_go
   have Fp:=W9.put (o:=HO.dK (cI zE (.inr nm) u')) Z4 Z8 a1 a2 a3 a4 a5;have Wb:(upd m_ ka (HO.dK (cI zE (.inr nm) u'))) ln=some (.lst [V.str "a",V.str "other"]):=(bh w5).trans xl9;have dp:=uK.k (k:=.inr nm) (v:=u') K9.hk (pH (by have:=K9.cX;lk));rcases n13 with e|e|e<;>rw [e] at y1 x3'
   ·exact ⟨.list [.str "ok"],.list [.str "ok"],.lst y1 (.cons (.str _) .nil),.lst x3' (.cons (.str _) .nil),by k_go,by k_go,by k_go,_,rfl,bK (by k_go) ⟨_,rfl,_,rfl,_,rfl,ka,_,rfl,dp,nx3 _ _ ⟨_,_,_,_,B,rfl,Fp,by lk, Wb,Fq⟩⟩⟩
   ·exact ⟨.list [.str "ok",.str "ok"],.list [.str "ok",.str "ok"],.lst y1 (.cons (.str _) (.cons (.str _) .nil)),.lst x3' (.cons (.str _) (.cons (.str _) .nil)),by k_go,by k_go,by k_go,_,rfl,bK (by k_go) ⟨_,rfl,_,rfl,_,rfl,ka,_,rfl,dp,nx3 _ _ ⟨_,_,_,_,B,rfl,Fp,by lk, Wb,Fq⟩⟩⟩
   ·exact ⟨.list [.str "ok",.str "ok",.str "ok"],.list [.str "ok",.str "ok",.str "ok"],.lst y1 (.cons (.str _) (.cons (.str _) (.cons (.str _) .nil))),.lst x3' (.cons (.str _) (.cons (.str _) (.cons (.str _) .nil))),by k_go,by k_go,by k_go,_,rfl,bK (by k_go) ⟨_,rfl,_,rfl,_,rfl,ka,_,rfl,dp,nx3 _ _ ⟨_,_,_,_,B,rfl,Fp,by lk, Wb,Fq⟩⟩⟩
 rintro σ Hc ⟨p,v5,v6,v7,v8,v9,v10,v11,Et,Js,Jt,Ju,Jv,kn,rfl,W,lkn⟩;exact q _
end
def zbn:bR:=["len","max","min","int","bool","list","tuple","str","dict","range","isinstance","all","any","enumerate","sum","abs","sorted","reversed","zip","ord","repr","set","divmod","ValueError","KeyError"]
theorem all_mk {l:PySem.W.OpenLaw} {fa:Addr} (X:K.In h) (G:h.Ns mainGlobals mg) (hfa:mg "law"=some (.ref fa)) {Cd:Addr} (aCd:nsIn K mainGlobals "Desk"=some (some (.ref Cd))) (pgd:plainGet K Cd empty=true) (hdd:hasDictIn K Cd=true) (pod:plainOver K Cd=true) (sad:findIn K (.ref Cd) "__setattr__"=some (some (.builtin "object.__setattr__"))) (Jr:makesIn K Cd=true) (kcd:keepIn K (.ref Cd)=true) (U5:findIn K (.ref Cd) "nets"=some none) (TF:findIn K (.ref Cd) "plays"=some none) {yx:Addr} (LR:nsIn K mainGlobals "TooMany"=some (some (.ref yx))) (TJ:excIn K yx wR "ValueError.__new__"=true) (TQ:exmOne K (.ref yx) (.ref yx)=some true) {Dq:Addr} (Ka:nsIn K mainGlobals "NoNet"=some (some (.ref Dq))) (Rw:excIn K Dq wR "ValueError.__new__"=true) {MN:Addr} (U6:nsIn K mainGlobals "NetError"=some (some (.ref MN))) {Kc:Addr} (QX:nsIn K mainGlobals "NoLane"=some (some (.ref Kc))) {JK:Addr} (Qh:nsIn K mainGlobals "NoWalker"=some (some (.ref JK))) {Kd:Addr} (QZ:nsIn K mainGlobals "NoText"=some (some (.ref Kd))) {L_:Addr} (Rx:nsIn K mainGlobals "NoRow"=some (some (.ref L_))) {Ke:Addr} (Q0:nsIn K mainGlobals "NoName"=some (some (.ref Ke))) (er:afj K ⟨MN,Dq,Kc,JK,yx,Kd,L_,Ke⟩) {aH:Addr} {odH:jf} {nH:Nat} {slH:qX} {tH1 tH2 tH3 tH4:Tok} (gH:nsIn K mainGlobals "HALVED_WIDES"=some (some (.ref aH))) (lH:K.lookup aH=some ⟨.type "tuple",odH,.seq #[.int 1 tH1,.int 2 tH2,.int 4 tH3,.int 8 tH4] nH,slH⟩) {agx:Tok} (Px:nsIn K mainGlobals "LONGEST_NAME"=some (some (.int 8 agx))) {ahg:Tok} (Qa:nsIn K mainGlobals "MOST_LANES"=some (some (.int 8 ahg))) {agy:Tok} (Py:nsIn K mainGlobals "MOST_WICKETS"=some (some (.int 40 agy))) {af5:Tok} (Pg:nsIn K mainGlobals "MOST_DOUBLINGS"=some (some (.int 10 af5))) {agz:Tok} (Pz:nsIn K mainGlobals "MOST_FIGURES"=some (some (.int 60 agz))) {arN:Tok} (Vs:nsIn K mainGlobals "SMALL_LETTERS"=some (some (.str "abcdefghijklmnopqrstuvwxyz" arN))) {arO:Tok} (Vt:nsIn K mainGlobals "FIGURES"=some (some (.str "0123456789" arO))) {RW:Addr} {fP:Array DictEntry} {epR:Nat} (aR:nsIn K mainGlobals "ROWS"=some (some (.ref RW))) (lR:K.lookup RW=some ⟨.type "dict",none,.dict fP epR,#[]⟩) (hR:Cq w fP.toList Gs) (nR:(RW == sysModules)=false) (E:Ev0 K mg Cd fP) {cS:Addr} {f58:Addr} {atb afN:jf} {atc:qX} {atd afO afP afQ afR:Value} (a58:nsIn K mainGlobals "spread"=some (some (.ref f58))) (Jx:K.lookup f58=some ⟨atd,atb,.func (fnOf "spread" "spread" (jX vm) (jk vm) (dX vm) .none afO afP afQ afN (.ref cS) afR),atc⟩) (c58:codeIn K (.ref cS) "spread"=true) (k58:keepIn K (.ref f58)=true) {Tb:Addr} {ocC:Value} {odC:jf} {vsC:fV} {slC:qX} (lcS:K.lookup cS=some ⟨ocC,odC,.fields vsC,slC⟩) (hvS:(vsC[11]?:pA)=some (.ref Tb)) (ktS:K.lookup Tb=none) {Wc:Addr} {arP aeY:jf} {arQ:qX} {arR aeZ ae0 ae1 Vu ae2:Value} (Nk:nsIn K mainGlobals "law"=some (some (.ref Wc))) (Wd:K.lookup Wc=some ⟨arR,arP,.func (fnOf "law" "law" (jX yI) (jk yI) (dX yI) .none aeZ ae0 ae1 aeY Vu ae2),arQ⟩) (Wf:codeIn K Vu "law"=true) (Wg:keepIn K (.ref Wc)=true) (zz:∀ x∈zbn,nsIn K mainGlobals x=some none) : ∃ (fd:FuncData) (c T:Addr),tabIn K "spread"=some (c,T)/\K.lookup T=none/\(∀ (s:Shared) (v:Value),BindsTo s fd ⟨[v],[]⟩ [("_law_script",v)])/\∀ aF:Heap,K.In aF->aF.Ns mainGlobals mg->yP mg aF c T->dz l.prog w K mg aF jj 17 fa fd ["_law_script"] (Mt K T (qt 213 34)):=by
 have e:=hfa.symm.trans (iQ X G Nk);cases e;have m:aeV K Cd:=⟨⟨pgd,hdd,pod,sad⟩,U5,TF⟩;have D:aeO K mg yx:=⟨TJ,iQ X G LR,TQ⟩;have r:aee K mg Dq:=⟨Rw,iQ X G Ka⟩;have g:Nf K mg ⟨MN,Dq,Kc,JK,yx,Kd,L_,Ke⟩:=⟨er,iQ X G U6,iQ X G Ka,iQ X G QX,iQ X G Qh,iQ X G LR,iQ X G QZ,iQ X G Rx,iQ X G Q0⟩;have I:VG K mg ⟨MN,Dq,Kc,JK,yx,Kd,L_,Ke⟩:=g.j;have C:aeP K mg:=⟨aH,iQ X G gH,λH=>.inr ⟨_,_,_,lH,rfl,rfl,aN (by show 4<=100000;decide),.cons ⟨tH1,rfl⟩ (.cons ⟨tH2,rfl⟩ (.cons ⟨tH3,rfl⟩ (.cons ⟨tH4,rfl⟩ .nil)))⟩⟩;have B:∃ t,mg "LONGEST_NAME"=some (.int 8 t):=⟨_,iQ X G Px⟩;have n:∃ t,mg "MOST_LANES"=some (.int 8 t):=⟨_,iQ X G Qa⟩;have k:∃ t,mg "MOST_WICKETS"=some (.int 40 t):=⟨_,iQ X G Py⟩;have i:∃ t,mg "MOST_DOUBLINGS"=some (.int 10 t):=⟨_,iQ X G Pg⟩;have y:∃ t,mg "MOST_FIGURES"=some (.int 60 t):=⟨_,iQ X G Pz⟩;have p:∃ t,mg "SMALL_LETTERS"=some (.str "abcdefghijklmnopqrstuvwxyz" t):=⟨_,iQ X G Vs⟩;have q:∃ t,mg "FIGURES"=some (.str "0123456789" t):=⟨_,iQ X G Vt⟩;have z:aeW l.prog w K mg RW (wK fP.toList Gs):=⟨amD lR hR aaN nR,iQ X G aR⟩;have a:tabIn K "spread"=some (cS,Tb):=by unfold tabIn;simp only [a58,Jx,lcS,hvS]
 have b:lU K mg "spread" vm _ _:=⟨Hh Jx c58 k58,iQ X G a58⟩;have u:(fnOf "spread" "spread" (jX vm) (jk vm) (dX vm) .none afO afP afQ afN (.ref cS) afR).code=.ref cS:=PySem.W.law_code X G a (iQ X G a58) (X _ _ Jx) rfl;have d:lU K mg "law" yI _ _:=⟨Hh Wd Wf Wg,iQ X G Nk⟩;have T:Bn mg:=by constructor<;>exact PySem.W.mg_none_of X G (zz _ (by k_go))
 exact ⟨fnOf "law" "law" (jX yI) (jk yI) (dX yI) .none aeZ ae0 ae1 aeY Vu ae2,cS,Tb,a,ktS,λs v=>.of_eq rfl,λaF _ _ o=>aqG ⟨E,m,D,r,g,I,C,B,n,k,i,y,p,q,z,T,o,⟨_,_,b,u⟩,Jr,kcd,(iQ X G aCd)⟩ d⟩
theorem walk {l:PySem.W.OpenLaw} {d:DefRec} {K:Params->bI} (hn:l.most=some 63) (hdf:d.params.defaults=[]) (hrec:((PyProof.Rows.recsOf q).find? (λe=>e.name == ("spread":Str))).isSome=true) (hY:∀ (w:World) (h:Heap),YP w h->(K w.params).In h) (F:∀ (w:World) (mg:dH) (fa:Addr) (h:Heap),(K w.params).In h->h.Ns mainGlobals mg->mg d.name=some (.ref fa) ->∃ (fd:FuncData) (c T:Addr),tabIn (K w.params) "spread"=some (c,T)/\(K w.params).lookup T=none/\(∀ (s:Shared) (u:Value),BindsTo s fd ⟨[u],[]⟩ [("_law_script",u)])/\∀ aF:Heap,(K w.params).In aF->aF.Ns mainGlobals mg->yP mg aF c T->dz l.prog w (K w.params) mg aF jj 17 fa fd ["_law_script"] (Mt (K w.params) T (qt 213 34))) : PySem.W.WalkO q loose XP YP l.row.toRowW d [] (λf vs=>PySem.call f vs):=L2.amt (n:=63) (k:=17) (x:="_law_script") (y:="spread") (CX:=λ_=>jj) (sp:=λw T=>Mt (K w.params) T (qt 213 34)) hn (by decide) hdf ⟨rfl,by decide,by decide,rfl⟩ hrec hY F (λ_ _ _ a ns b g i=>⟨a,ns,rfl,i,b,g,λ_=>rfl⟩) λ_ _ _ _ _ z=>z
end
end
end L2
end
local macro_rules|`(tactic| o_head $n:num)=>`(tactic| (refine' L2.arF $(Lean.mkIdent `KX) $(Lean.mkIdent `G) $n ?a ?l ?c ?k rfl (by decide) ?gx ?gy ?gz ?gs;(case a|l|c|k=>k_is);(case gx=>exact rfl);(case gy|gz=>k_is);(case gs=>repeat constructor)))
open PySem PySem.W PyProof.Rows
set_option maxRecDepth 100000 in
set_option maxHeartbeats 0 in
theorem PySem.Challenge.cw_evenpass_k85_what_a_desk_tells_of_nets_holds : PySem.Challenge.rw_evenpass_k85_what_a_desk_tells_of_nets.Holds := by
 refine h0 ?_
 k_fill
 refine L2.walk (l:=PySem.Challenge.rw_evenpass_k85_what_a_desk_tells_of_nets) rfl rfl ?hrec (λw h Y=>PySem.W.km_in_of Y) ?F
 case hrec=>kernel_rfl
 case F =>
  intro w mg fa h KX G hmg
  refine' L2.all_mk KX G hmg ?aCd ?pgd ?hdd ?pod ?sad ?Jr ?kcd ?U5 ?TF ?LR ?TJ ?TQ ?Ka ?Rw ?U6 ?QX ?Qh ?QZ ?Rx ?Q0 ?er ?gH ?lH ?Px ?Qa ?Py ?Pg ?Pz ?Vs ?Vt ?aR ?lR ?hR ?nR ?Q ?a58 ?Jx ?c58 ?k58 ?lcS ?hvS ?ktS ?Nk ?Wd ?Wf ?Wg ?zz
  (case aCd|pgd|hdd|pod|sad|Jr|kcd|U5|TF=>k_is)
  (case LR=>k_is);(case TJ=>k_exc);(case TQ=>kernel_rfl)
  (case Ka=>k_is);(case Rw=>k_exc)
  (case U6|QX|Qh|QZ|Rx|Q0=>k_is)
  (case er=>exact ⟨by k_exc,by k_exc,by kernel_rfl,by kernel_rfl,⟨by k_is,by k_is,by k_is,by k_is,by k_is,by k_is,by k_is,by kernel_rfl⟩,⟨by k_is,by k_is,by k_is,by k_is,by k_is,by k_is,by k_is,by kernel_rfl⟩,by kernel_rfl,by kernel_rfl,by kernel_rfl,by kernel_rfl,by kernel_rfl,by kernel_rfl,by kernel_rfl,by kernel_rfl⟩)
  (case gH|lH=>k_is)
  (case Px=>k_is)
  (case Qa=>k_is)
  (case Py=>k_is)
  (case Pg=>k_is)
  (case Pz=>k_is)
  (case Vs=>k_is)
  (case Vt=>k_is)
  (case aR|lR=>k_is);(case hR=>repeat (first|exact trivial|refine ⟨⟨_,rfl⟩,rfl,?_⟩));(case nR=>rfl)
  (case a58|Jx|c58|k58=>k_is)
  (case lcS=>k_is);(case hvS=>exact rfl);(case ktS=>kernel_rfl)
  (case Nk|Wd|Wf|Wg=>k_is)
  (case zz=>unfold L2.zbn;(repeat refine List.forall_mem_cons.2 ⟨by k_is,?_⟩);exact List.forall_mem_nil _)
  case Q=>as_aux_lemma=>
   refine' ⟨?p1,?p2,?p3,?p4,?p5,?p6,?p7,?p8,?p9,?Iw,?Xd,?Xe,?Xf,?Xg,?Xh,?Xi,?Xj,?Xk,?Xl,?Xm,?Xn,?Xo,?Xp,?Xq,?Xr,?Xu,?Xv,?Xw,?Xx,?Xy,?Xz,?XD,?XF,?XH,?XJ,?XM,?XQ,?XR,?XS,?X3,?X4,?X5,?X6,?X7,?X8,?X_,?Yb,?Yc,?Yd,?Ye,?Yg,?Yh,?Yi,?Yj,?Yk,?Yl,?Ym,?Yn,?Yo,?Yp,?Yq,?Yr,?Ys,?Yt,?Yu,?Yv,?Yw,?Yx,?Yy,?Yz,?YB,?YC,?YD,?YF,?YG,?YH,?YJ,?YK,?YL,?YM,?YQ,?YS,?YT,?YW,?YX,?YZ,?Y0,?Y4,?Y5,?Y6,?Y7,?Y8,?Y9,?Y_,?Za,?Zb,?Zc,?Zd,?VL,?VN,?VP,?VR,?V0,?V1,?V2⟩
   case p1|p2|p3|p4|p5|p6|p7|p8|p9|Iw|Xd|Xe|Xf|Xg|Xh|Xi|Xj|Xk|Xl|Xm|Xn|Xo|Xp|Xq|Xr|Xu|Xv|Xw|Xx|Xy|Xz|XD|XF|XH|XJ|XM|XQ|XR|XS|X3|X4|X5|X6|X7|X8|X_|Yb|Yc|Yd|Ye|Yg|Yh|Yi|Yj|Yk|Yl|Ym|Yn|Yo|Yp|Yq|Yr|Ys|Yt|Yu|Yv|YK|YL|YM|YQ|YS|YT|Y0|Y4|Y5|Y6|Zb|Zc|Zd|VL|VN|VP|VR|V0|V1|V2=>refine' L2.arD KX G ?a ?l ?c ?k;(case a|l|c|k=>k_is)
   case YW|YX|YZ=>refine' L2.arE mg ?a ?i ?l ?c ?k;(case a|i|l|c|k=>k_is)
   case Yw=>o_head 0
   case Yx=>o_head 1
   case Yy=>o_head 2
   case Yz=>o_head 3
   case YB=>o_head 4
   case YC=>o_head 5
   case YD=>o_head 6
   case YF=>o_head 7
   case YG=>o_head 10
   case YH=>o_head 11
   case YJ=>o_head 12
   case Y7=>o_head 13
   case Y8=>o_head 14
   case Y9=>o_head 15
   case Y_=>o_head 16
   case Za=>o_head 17
