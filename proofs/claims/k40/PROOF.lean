import PyProof.Rows.All
import Wide.All
import OpenK.AllK
import Wide.FinOn
import Lean
import PyProof.EqAt
import PyProof.EqKinds
import PyProof.TupleCall
import KE.KEqDict
import PyProof.ZipIter
import PyProof.ListMulAny
import KE.KTryMore
import PyProof.NsDelKeeps
import KE.KUnpack
import KE.KRevIter
import PyProof.DictUpdate
import PyProof.ListRange
import PyProof.Rows.CallKwBuiltin
import PyProof.WalkInts
import KE.KSortTup
import KE.KLam
import KE.KNestM
import PyProof.CollectIter
import OpenK.KMake
import KE.KDictList
import PyProof.Rows.SortRuns
import PyProof.SetScanFacts
import KE.KDictOf
import PyProof.AttrMissHeap
import PySem.Challenge.RW_nestturn_k40_whole_all_orders_of_few_ste
set_option bootstrap.genMatcherCode false
set_option compiler.extract_closed false
set_option genSizeOfSpec false
set_option genSizeOf false
def ZU:=@eq_of_beq
def fE{a:Prop}(h:false=true):a:=(Bool.false_ne_true h).elim
noncomputable section
set_option autoImplicit true
set_option relaxedAutoImplicit true
set_option Elab.async false
local macro_rules|`(%[$a,*|$k])=>`(⟨$a,*,$k⟩)
set_option linter.all false
set_option hygiene false
local macro_rules
| `(%[|0]) => `(by omega)
| `(%[|1]) => `(by decide)
| `(%[|2]) => `(Bi Ω.mg)
| `(%[|3]) => `(Inv X pins σ H s)
| `(%[|4]) => `(Store->Prop)
| `(%[|5]) => `(model X.prog X.w)
| `(%[|6]) => `(model prog w)
| `(%[|7]) => `(by kernel_rfl!)
local macro_rules
| `(%[|8]) => `(List Int)
| `(%[|9]) => `(by decide+kernel)
| `(%[|10]) => `(.type "tuple")
| `(%[|11]) => `(.ref s.heap.objs.size)
| `(%[|12]) => `((ao p).length)
| `(%[|13]) => `(StOk X.K O H S)
| `(%[|14]) => `(by simp;omega)
| `(%[|15]) => `(Int×%[|8])
local macro_rules
| `(%[|16]) => `(.type "list")
| `(%[|17]) => `(aq m ps f led mv pl)
| `(%[|18]) => `(List.range n)
| `(%[|19]) => `(some (.loc S.length))
| `(%[|20]) => `({s with heap:=h'})
| `(%[|21]) => `(λ _ _ _ _ _ _=>by2 λ _ _=>rfl)
| `(%[|22]) => `(.dlo S.length)
| `(%[|23]) => `(At Ω X r top N nm)
local macro_rules
| `(%[|24]) => `(%[%[|0]|%[|0]])
| `(%[|25]) => `(Value -> Shared -> Prop)
| `(%[|26]) => `((ak K xs).length)
| `(%[|27]) => `(s.heap.objs.size+1)
| `(%[|28]) => `(ds[i]? =some d)
| `(%[|29]) => `(Tab m (aF K xs) ps)
| `(%[|30]) => `(aU I q (by simp))
| `(%[|31]) => `(S++[.non::a.map encC])
local macro_rules
| `(%[|32]) => `(%[|37]->h'.get? b=some o)
| `(%[|33]) => `(starEach es X.env)
| `(%[|34]) => `(X.env.cells.lookup x=some c)
| `(%[|35]) => `(%[|55].1)
| `(%[|36]) => `(X.A.units+60<cLine)
| `(%[|37]) => `(s.heap.get? b=some o)
| `(%[|38]) => `(fJ (eN 0) (fJ (eN 1) gf))
| `(%[|39]) => `(λ kv=>decide (kv.1=c))
local macro_rules
| `(%[|40]) => `(s2.heap.objs.size::l.B)
| `(%[|41]) => `(λ a b=>ltC a b=true)
| `(%[|42]) => `((false,eval e X.env))
| `(%[|43]) => `(λ _ _ _ _ _ _=>by1 λ _=>rfl)
| `(%[|44]) => `({cls:=.type a,data:=.fields #[.ref c,.int 0 0]})
| `(%[|45]) => `(s.heap.push %[|57])
| `(%[|46]) => `(w.params.followText "set-order")
| `(%[|47]) => `(s.heap.push %[|56])
local macro_rules
| `(%[|48]) => `((x==("__debug__":Str))=false)
| `(%[|49]) => `(absurd (show false=true from c) y6)
| `(%[|50]) => `(λ _ _ _ _ _ _=>by3 λ _ _ _=>rfl)
| `(%[|51]) => `(some %[|59])
| `(%[|52]) => `(X.env.scope.names.lookup x=some .local)
| `(%[|53]) => `(some %[|58])
| `(%[|54]) => `(SetTable.below ps.toArray (aD m (K.h c) n))
| `(%[|55]) => `(leap m p.i p.perturb)
local macro_rules
| `(%[|56]) => `({cls:=.type "set",dict:=none,data:=.set #[] 0 (.fresh 0 0 led)})
| `(%[|57]) => `({cls:=%[|16],data:=.seq ([]:List Value).toArray})
| `(%[|58]) => `(.lst ((List.replicate i (0:Int)).map D.int))
| `(%[|59]) => `(bu (aq m ps f (aG w) mv true) (ak K xs) ep)
set_option hygiene true
def z0:=@List.getElem?_eq_some_iff
def y3:=@List.getElem?_eq_getElem
def y4:=@List.mem_of_getElem?
def y6:=@Bool.false_ne_true
def y7:=@List.length_map
def y8:=@List.getElem?_map
def y9:=@Nat.le_refl
def x4:=@List.mem_cons_of_mem
def x5:=@List.size_toArray
def x6:=@List.mem_cons_self
def x8:=@List.length_append
def x9:=@List.getElem?_append_left
def v3:=@Nat.lt_of_lt_of_le
def b0:=@PySem.wpAny_bind
def b9:=@PySem.wpAny_pure
def bE:=@PySem.Heap.get?_push_of_some
def bP:=@if_neg
def bS:=@List.mem_map
def bX:=@List.mem_singleton
def c8:=@PySem.Heap.lt_size
def c9:=@PySem.Heap.get?_push_size
def ca:=@if_pos
def cb:=@decide_eq_true
def cc:=@Option.some.inj
def cf:=@List.map_append
def ci:=@List.append_assoc
def ck:=@of_decide_eq_true
def cm:=@Nat.ne_of_lt
def cn:=@List.map_cons
def cq:=@List.mem_append
def cr:=@List.mem_cons
def cw:=@List.getElem?_of_mem
def cy:=@Bool.false_eq_true
def cE:=@decide_eq_false
def cK:=@Nat.le_trans
def cS:=@List.take_length
def d6:=@Bool.and_true
def da:=@List.getElem?_append_right
def db:=@List.take_of_length_le
def de:=@List.map_map
def df:=@List.mem_range
def dk:=@Int.toNat_natCast
def dr:=@Nat.zero_le
def dt:=@List.exists_cons_of_length_eq_add_one
def dA:=@PySem.wpAny_call_entry
def dE:=@PySem.AutoSeq1.wpAny_loadPart'
def dQ:=@PySem.wpAny_newObj_type
def dS:=@List.length_cons
def dV:=@PyProof.Rows.callWith_type1
def e7:=@PySem.W.mg_none_of
def e8:=@List.length_take
def ea:=@List.mem_flatMap
def ef:=@if_false
def ei:=@congrArg
def ej:=@PySem.Heap.SameBut.update
def en:=@List.getElem?_set_ne
def eu:=@PySem.wpAny_holding
def eC:=@List.getD_eq_getElem?_getD
def eD:=@List.mem_append_right
def eI:=@PySem.Calls.spliced_cons
def eJ:=@Nat.le_of_lt
def eL:=@Bool.and_eq_true
def eM:=@List.find?_cons
def eR:=@List.getElem?_take
def eT:=@List.eq_nil_of_length_eq_zero
def eW:=@Array.length_toList
def f7:=@beq_self_eq_true
def f8:=@PySem.Calls.spliced_nil
def fb:=@List.mem_append_left
def fe:=@of_decide_eq_false
def fg:=@Array.getD_eq_getD_getElem?
def fh:=@List.take_append_drop
def fi:=@PySem.wpAny_field
def fk:=@List.flatMap_append
def fm:=@List.pairwise_iff_getElem
def fo:=@List.getElem?_zip_eq_some
def fq:=@List.getElem?_set_self
def fw:=@PySem.wpAny_setField_rec
def fx:=@PySem.Heap.size_push
def fy:=@PySem.wpAny_seqItems
def fA:=@List.append_nil
def fF:=@Bool.not_true
def fI:=@Nat.le_add_right
def fN:=@PySem.F.called_set
def fR:=@List.replicate_succ
def fS:=@PySem.Heap.get?_update_self
def fT:=@PyProof.Rows.slot_tuple_getitem
def g7:=@Nat.ne_of_gt
def g9:=@PySem.wpAny_Call_Name_kw
def gc:=@List.drop_eq_getElem_cons
def gd:=@PySem.F.slot_dict_itemiterator_next
def ge:=@Array.getElem?_toList
def gg:=@Bool.eq_iff_iff
def gi:=@List.pairwise_cons
def gl:=@PySem.wpAny_mono
def gp:=@List.all_eq_true
def gt:=@PySem.wpAny_isInstance
def gu:=@PySem.wpAny_forIn_list
def gv:=@List.cons.inj
def gx:=@Array.getElem?_eq_none
def gy:=@PySem.wpAny_truthy_bool
def gz:=@Nat.lt_succ_of_lt
def gE:=@decide_eq_true_eq
def gI:=@PySem.wpAny_dictEntries
def gL:=@List.foldl_append
def gN:=@List.nodup_cons
def gS:=@PyProof.Rows.callWith_builtin1
def gT:=@PySem.wpAny_specialOf
def gX:=@if_true
def hE:=@List.length_singleton
def hH:=@PySem.wpAny_pyIter_tuple
def hV:=@PySem.wpAny_askSetting
def hY:=@Nat.lt_irrefl
def hZ:=@Nat.le_succ
def i0:=@PySem.Around.under_plainId
def i4:=@PySem.F.slot_dict_keyiterator_next
def i5:=@List.nodup_append
def i6:=@Bool.or_eq_true
def i7:=@PySem.codeAny_builtin
def i8:=@List.idxOf_lt_length_of_mem
def i9:=@List.filterMap_cons
def ia:=@PySem.mem_of_lookup
def ib:=@PySem.sizeLine_eq
def ic:=@Nat.succ.inj
def ii:=@List.any_cons
def ij:=@List.all_cons
def im:=@Bool.true_and
def io:=@List.not_mem_nil
def ip:=@List.any_eq_true
def iq:=@List.map_flatMap
def ix:=@List.getElem_map
def iA:=@List.nodup_nil
def iE:=@Array.forIn_toList
def iF:=@Array.getElem?_eq_getElem
def iL:=@List.getElem?_mapIdx
def iN:=@List.mem_of_mem_take
def iO:=@PySem.wpAny_typeNameOfWhole_itemiter
def iP:=@List.Nodup.length_le_of_subset
def iS:=@Nat.mul_le_mul_right
def iX:=@List.flatten_cons
def ja:=@List.length_range
def jp:=@PySem.wpAny_typeNameOfWhole_keyiter
def js:=@List.pairwise_singleton
def jv:=@List.lookup_cons
def jI:=@Nat.lt_succ_self
def jS:=@PySem.wpAny_setField
def k6:=@PySem.wpAny_rule
def k7:=@Option.map_eq_some_iff
def k8:=@List.pairwise_lt_range
def k9:=@PySem.wpAny_passesOwn
def ke:=@List.range_succ
def kf:=@List.getElem?_eq_none
def kg:=@PySem.wpAny_dictEpoch
def kk:=@List.set_append_right
def kn:=@PySem.F.slot_tuple_iterator_next
def ko:=@PySem.wpAny_attempt
def kq:=@PySem.wpAny_pyIter_list
def kr:=@PySem.F.slot_tuple_hash
def kw:=@List.ext_getElem?
def ky:=@PySem.call_meets
def kz:=@List.mem_of_find?_eq_some
def kA:=@Ne.symm
def kB:=@PySem.wpAny_typeOf
def kC:=@List.length_erase_of_mem
def kD:=@Int.toNat_of_nonneg
def kF:=@List.map_congr_left
def kG:=@List.eraseIdx_eq_take_drop_succ
def kH:=@List.mem_filterMap
def kK:=@Nat.lt_of_le_of_lt
def kL:=@Nat.div_le_self
def kM:=@List.find?_eq_none
def kN:=@PySem.Heap.get?_update_other
def kP:=@List.take_append_of_le_length
def kQ:=@PySem.W.kitx_dict
def kR:=@PySem.wpAny_pyIter_slot
def kS:=@Nat.le_of_lt_succ
def kT:=@PySem.Heap.get?_push_ne
def kU:=@List.flatMap_cons
def kX:=@PySem.codeAny_mono
def l0:=@List.map_nil
def l4:=@Nat.succ_mul
def l8:=@List.forIn_nil
def l9:=@PySem.wpAny_fieldsOf
def lh:=@Nat.mul_le_mul
def ll:=@Prod.ext
def lm:=@List.length_drop
def ln:=@PySem.F.slot_tuple_mul
def lp:=@PySem.F.slot_NoneType_hash
def lv:=@List.pairwise_append
def ly:=@PySem.Heap.size_update
def lI:=@List.ext_getElem
def lP:=@PySem.wpAny_standAt
def lS:=@List.map_take
def m4:=@Array.getElem?_eq_some_iff
def ma:=@beq_eq_false_iff_ne
def md:=@PySem.F.slot_dict_getitem
def me:=@PySem.PassesOwn.never
def mf:=@List.forIn_cons
def mh:=@PySem.SeqAt.EqAt.same
def mi:=@PySem.F.args_tuple_add_2
def ml:=@PySem.tupleKind_room_in1
def mn:=@PySem.Obj.data_mapFields
def mr:=@Nat.zero_add
def ms:=@Int.emod_lt_of_pos
def mw:=@Array.size_setIfInBounds
def mx:=@List.map_singleton
def mA:=@List.set_cons_succ
def mB:=@List.set_cons_zero
def mE:=@List.getElem_idxOf
def mI:=@PySem.F.entry_tuple_add
def mM:=@PySem.F.plainAttrs_list
def mN:=@List.take_sublist
def mP:=@PySem.F.plain_list_iadd
def mS:=@List.pairwise_map
def mT:=@PySem.F.slot_tuple_add
def n3:=@PySem.wpAny_Assign_Subscript
def n4:=@List.drop_eq_nil_of_le
def ng:=@PySem.wpAny_isOneOf_itemiter
def nh:=@PySem.plainId_quiet
def nk:=@PySem.wpAny_eqBool_int
def nn:=@or_false
def np:=@List.nodup_range
def nr:=@List.length_replicate
def nv:=@List.getElem?_zipWith
def nw:=@PySem.isSubtype_tuple_tuple
def ny:=@PySem.wpAny_notOrdered_dict
def nB:=@List.getElem?_toArray
def nE:=@PySem.wpAny_binaryOp_repeat_ref
def nI:=@List.mem_filter
def nK:=@PySem.wpAny_Name
def nL:=@PySem.wpAny_loadName_local
def nN:=@PySem.concat_meets
def nS:=@List.foldl_cons
def nV:=@Nat.le_of_eq
def nX:=@Nat.sub_self
def oe:=@PySem.wpAny_updateSeq_pair
def og:=@PySem.F.slot_zip_next
def oi:=@Nat.mul_comm
def oj:=@PySem.F.slot_int_rmul
def om:=@Int.natCast_mul
def oq:=@Nat.mod_lt
def ot:=@Int.emod_nonneg
def ox:=@Nat.not_lt_zero
def oy:=@List.getElem?_range
def oz:=@Int.natAbs_mul
def oB:=@Option.isSome_some
def oC:=@List.zip_cons_cons
def oP:=@List.mem_replicate
def oQ:=@List.map_drop
def oS:=@Option.isSome_map
def oT:=@List.find?_append
def pb:=@Int.natAbs_add_le
def pd:=@beq_iff_eq
abbrev ae0:=%[|8]
abbrev ae1:=PySem.W.Frag
abbrev ae2:=PySem.Value->PySem.Shared->Prop
abbrev ae3:=List Nat
abbrev ae4:=PySem.Shared
abbrev ae5:=List PySem.Value
abbrev ae6:=List (PySem.Addr×PySem.Obj)
abbrev ae7:=List PySem.Str
abbrev ae8:=PySem.Str->Option PySem.Value
abbrev ae9:=List (Option Nat)
abbrev af0:=Array PySem.Value
abbrev af1:=List PySem.Expr
abbrev af2:=Array (Option PySem.Value)
abbrev af3:=List %[|15]
abbrev af4:=PySem.Program
abbrev af5:=Option Int
abbrev af6:=List (PySem.Str×PySem.NameKind)
abbrev af7:=Option PySem.Addr
abbrev af8:=%[|15]
abbrev af9:=List (PySem.Str×PySem.Addr)
abbrev ag0:=List (List Nat)
abbrev ag1:=PySem.Around
abbrev ag2:=Bool->PySem.Shared->Prop
abbrev ag3:=List PySem.Addr
abbrev ag4:=List %[|8]
abbrev ag5:=Array (Option Nat)
abbrev ag6:=Nat->Nat->Bool
set_option bootstrap.genMatcherCode false
set_option maxRecDepth 100000
theorem hideG {G : Prop} (h : ∀ G2 : Prop, (G → G2) → G2) : G := h G id
local macro_rules | `(tactic| obtain ⟨$a:rcasesPatLo,$b:rcasesPatLo,$c:rcasesPatLo,$d:rcasesPatLo,$es:rcasesPatLo,*⟩ := $v) => `(tactic| (refine hideG fun G_ k_ => ?_; rcases $v:term with ⟨$a,$b,$c,$d,$es,*⟩ <;> (refine k_ ?_; clear k_ G_)))
local macro_rules | `(tactic| rintro $p:rintroPat $q:rintroPat $ps*) => `(tactic| (rintro $p; rintro $q $ps*))
local macro_rules | `(tactic| rintro ⟨$a:rcasesPatLo,$b:rcasesPatLo,$c:rcasesPatLo,$d:rcasesPatLo,$es:rcasesPatLo,*⟩) => `(tactic| (intro z_; obtain ⟨$a,$b,$c,$d,$es,*⟩ := z_))
local macro_rules | `(tactic| omega) => `(tactic| first | with_reducible assumption | with_reducible exact Int.natCast_nonneg _ | with_reducible exact Nat.le_trans (by assumption) (by decide) | with_reducible exact Int.le_trans (by decide) (Int.natCast_nonneg _) | with_reducible exact Int.lt_of_le_of_lt (Int.ofNat_le.mpr (by assumption)) (by decide) | (fail_if_success fail_if_success omega +splitNatSub); first | lia -zetaDelta | lia)
local macro_rules|`(def $i:declId $s:optDeclSig $v:declVal)=>`(noncomputable def $i:declId $s:optDeclSig $v:declVal)
local macro_rules|`(abbrev $i:declId $s:optDeclSig $v:declVal)=>`(noncomputable abbrev $i:declId $s:optDeclSig $v:declVal)
namespace L2
open PySem PySem.Spec PyProof.Rows
abbrev Key:=Sum Int Str
def su:Key->Value->Bool
 | .inl k,v=>Value.isInt k v
 | .inr x,v=>Value.isStrOf x v
def ac1(w:World):Key->Int
 | .inl k=>hashInt k
 | .inr x=>hashStr w x
theorem cN:∀{k:Key}{v:Value},su k v=true->(∃i t,k=Sum.inl i/\v=Value.int i t)\/(∃x t,k=Sum.inr x/\v=Value.str x t)
 | .inl i,v,h=>by obtain⟨t,e⟩:=Value.isInt_shape (k:=i) (v:=v) h;exact .inl %[i,t,rfl|e]
 | .inr x,v,h=>by obtain⟨t,e⟩:=Value.isStrOf_shape (x:=x) (v:=v) h;exact .inr %[x,t,rfl|e]
def Ru(i:Int)(t:Tok):su (.inl i) (.int i t)=true:=by simp[su,Value.isInt]
def Rg(x:Str)(t:Tok):su (.inr x) (.str x t)=true:=by simp[su,Value.isStrOf]
def Zz(a b:Int):decide ((Sum.inl a:Key)=Sum.inl b)=(a==b):=by by_cases e:a=b;{subst e;simp};{have h:¬(Sum.inl a:Key)=Sum.inl b:=λ q=>e (Sum.inl.inj q);rw[cE h];exact(ma.mpr e).symm}
def abB(a b:Str):decide ((Sum.inr a:Key)=Sum.inr b)=decide (a=b):=by by_cases e:a=b;{subst e;simp};{have h:¬(Sum.inr a:Key)=Sum.inr b:=λ q=>e (Sum.inr.inj q);rw[cE h,cE e]}
def aaO(a:Int)(b:Str):decide ((Sum.inl a:Key)=Sum.inr b)=false:=cE (λ q=>nomatch q)
def Z0(a:Str)(b:Int):decide ((Sum.inr a:Key)=Sum.inl b)=false:=cE (λ q=>nomatch q)
def cP(prog:af4)(w:World):PySem.KeyKind prog w Key where
 is:=su
 hash:=ac1 w
 inj:=λ v a b f d=>by rcases cN f with⟨i,t,rfl,rfl⟩ | ⟨x,t,rfl,rfl⟩;{rcases cN d with⟨j,u,rfl,e⟩ | ⟨y,u,rfl,e⟩;{injection e with e1 _;rw[e1]};{exact nomatch e}};{rcases cN d with⟨j,u,rfl,e⟩ | ⟨y,u,rfl,e⟩;{exact nomatch e};{injection e with e1 _;rw[e1]}}
 byValue:=λ k v h=>by rcases cN h with⟨i,t,rfl,rfl⟩ | ⟨x,t,rfl,rfl⟩<;>rfl
 pyHash:=λ c h=>by rcases cN c with⟨i,t,rfl,rfl⟩ | ⟨x,t,rfl,rfl⟩;{exact wpAny_pyHash_int h};{exact wpAny_pyHash_str h}
 eqBool:=λ g c h=>by rcases cN g with⟨i,t,rfl,rfl⟩ | ⟨x,t,rfl,rfl⟩;{rcases cN c with⟨j,u,rfl,rfl⟩ | ⟨y,u,rfl,rfl⟩;{rw[Zz]at h;exact nk h};{rw[aaO]at h;exact SeqAt.EqAt.int_str i t y u _ _ _ _ h}};{rcases cN c with⟨j,u,rfl,rfl⟩ | ⟨y,u,rfl,rfl⟩;{rw[Z0]at h;exact SeqAt.EqAt.str_int x t j u _ _ _ _ h};{rw[abB]at h;exact wpAny_eqBool_str h}}
 «strs»:=λ k x t v h=>by rcases cN h with⟨i,u,rfl,e⟩ | ⟨y,u,rfl,e⟩;{exact nomatch e};{injection e with e1 _;subst e1;cases v<;>rfl}
def Jq(prog:af4)(w:World)(i:Int)(t:Tok):(cP prog w).is (.inl i) (.int i t)=true:=Ru i t
def JV(prog:af4)(w:World)(x:Str)(t:Tok):(cP prog w).is (.inr x) (.str x t)=true:=Rg x t
variable{b:Addr}
inductive V where
 | non | bl(b:Bool) | int(i:Int) | str(x:Str) | byt(b:Array UInt8) | flt(b:UInt64) | ref(a:Addr) | ty(n:String)
 deriving DecidableEq
def RelV:V->Value->Prop
 | .non,u=>u=Value.none
 | .bl b,u=>u=Value.bool b
 | .int i,u=>∃t,u=Value.int i t
 | .str x,u=>∃t,u=Value.str x t
 | .byt b,u=>∃t,u=Value.bytes b t
 | .flt b,u=>∃t,u=Value.float b t
 | .ref a,u=>u=Value.ref a
 | .ty n,u=>u=Value.type n
abbrev Vals:List V->List Value->Prop:=Paired RelV
def Vals.length(r:Vals xs a):xs.length=a.length:=Paired.length r
theorem Vals.get:∀{xs:List V}{a:ae5}{i:Nat}{x:V},Vals xs a->xs[i]? =some x->∃u,a[i]? =some u/\RelV x u
 | _,_,_,_,.nil,e=>by simp at e
 | _,_,0,_,.cons r _,e=>by simp at e;subst e;exact%[_,rfl|r]
 | _,_,i+1,x,.cons _ t,e=>by obtain⟨u,b,c⟩:=Vals.get (i:=i) (x:=x) t (by simpa using e);exact%[u,by simpa using b|c]
theorem Vals.set(r:RelV x u):∀{xs:List V}{a:ae5}(i:Nat),Vals xs a->Vals (xs.set i x) (a.set i u)
 | _,_,_,.nil=>.nil
 | _,_,0,.cons _ t=>.cons r t
 | _,_,i+1,.cons q t=>.cons q (Vals.set r i t)
theorem Vals.append:∀{xs ys:List V}{a ws:ae5},Vals xs a->Vals ys ws->Vals (xs++ys) (a++ws)
 | _,_,_,_,.nil,s=>s
 | _,_,_,_,.cons r t,s=>.cons r (Vals.append t s)
theorem Vals.take:∀{xs:List V}{a:ae5}(n:Nat),Vals xs a->Vals (xs.take n) (a.take n)
 | _,_,0,_=>.nil
 | _,_,_+1,.nil=>.nil
 | _,_,n+1,.cons r t=>.cons r (Vals.take n t)
theorem Vals.drop:∀{xs:List V}{a:ae5}(n:Nat),Vals xs a->Vals (xs.drop n) (a.drop n)
 | _,_,0,r=>r
 | _,_,_+1,.nil=>.nil
 | _,_,n+1,.cons _ t=>Vals.drop n t
def lQ:Option V->Option Value->Prop
 | some v,some u=>RelV v u
 | none,none=>True
 | _,_=>False
def KV{κ:Type}:List (κ×V)->List (κ×Value)->Prop:=Paired λ(p:κ×V) (q:κ×Value)=>p.1=q.1/\RelV p.2 q.2
def kV:Key->V
 | .inl i=>.int i
 | .inr x=>.str x
inductive HO where
 /-- a list -/
 | lst(xs:List V)
 /-- a tuple (never changes) -/
 | tup(xs:List V)
 /-- a dict whose keys are ints and texts; one whose keys are tuples of ints and texts (the empty one is both) -/
 | dK(kvs:List (Key×V)) | dT(kvs:List (List Key×V))
 /-- a set of ints: its members, its size -/
 | set(S:Int->Bool)(n:Nat)
 /-- an instance of the class at C, its dict at dx, its attributes -/
 | ins(C dx:Addr)(fs:List (Str×V))
 /-- the dict of the instance at x -/
 | own(x:Addr)
 /-- the dict of an exception -/
 | xd(fs:List (Str×V))
 /-- a bound method, f of x -/
 | met(f x:Addr)
 /-- a range object lo, lo + 1, .. below hi -/
 | rng(lo hi:Int)
 /-- a thing that is known to the object (the script; a dict while a loop walks it): read, never written while it is so -/
 | frz(o:Obj)(u:HO)
 /-- a code object's table -/
 | tbl(ps:af0)
 /-- any other thing, by what is true of its one object (a def of one's own: SetO a S n := HO.ext λ h => ..) -/
 | ext(φ:Heap->Prop)
abbrev Hp:=Addr->Option HO
def upd(H:Hp)(a:Addr)(o:HO):Hp:=λ b=>if b=a then some o else H b
def aQ:upd H a o a=some o:=by unfold upd;rw[ca rfl]
def az(h:b≠a):upd H a o b=H b:=by unfold upd;rw[bP h]
def Ww{H:Hp}(h:H a=some o)(h':H b=some u)(d:o≠u):a≠b:=by intro e;subst e;rw[h]at h';exact d (cc h')
def aL{H:Hp}(h:H a=some o)(h':H b=none):a≠b:=by intro e;subst e;rw[h]at h';cases h'
section
variable(P:Program)(w:World)
def aW(H:Hp)(h:Heap)(a:Addr):HO->Prop
 | .lst c=>c.length<=sizeLine/\∃(b:ae5) (n:Nat),Vals c b/\h.get? a=some {cls:=%[|16],data:=.seq b.toArray n}
 | .tup c=>c.length<=sizeLine/\∃b:List Value,Vals c b/\IsTup h a b.toArray
 | .dK kvs=>kvs.length<=sizeLine/\(a==sysModules)=false/\∃j,KV kvs j/\h.DictOf (cP P w) a j
 | .dT kvs=>kvs.length<=sizeLine/\(a==sysModules)=false/\∃c:List (List Key×Addr×Value),
  Paired (λ(p:List Key×V) (q:List Key×Addr×Value)=>p.1=q.1/\H q.2.1=some (.tup (p.1.map kV))/\RelV p.2 q.2.2) kvs c/\
  ∃o e k,h.get? a=some o/\o.ExactDict/\o.data=.dict e k/\e.toList=c.map (entryOfKey (tupleKind (cP P w)))/\(c.map (·.1)).Nodup
 | .set S n=>h.SetOf (intKind P w) a S n
 | .ins C dx fs=>H dx=some (.own a)/\fs.length<=1000/\dx≠a/\h.get? a=some (PySem.W.instObj C dx)/\
  ∃d,h.Ns1 dx d/\(∀f,lQ (fs.lookup f) (d f))/\PySem.Within d (fs.map (·.1))
 | .own _=>∃o,h.get? a=some o
 | .xd fs=>∃d,h.Ns1 a d/\∀f,lQ (fs.lookup f) (d f)
 | .rng lo hi=>∃t u v,h.get? a=some {cls:=.type "range",data:=.fields #[.int lo t,.int hi u,.int 1 v]}
 | .frz o u=>h.get? a=some o/\aW H h a u
 | .tbl ps=>h.get? a=some {cls:=.none,data:=.fields ps}
 | .met f x=>h.get? a=some (PySem.W.methodObj (.ref f) (.ref x))
 | .ext φ=>φ h/\(∃o,h.get? a=some o)/\∀g i:Heap,φ g->(∀o,g.get? a=some o->i.get? a=some o)->φ i
def HOk(H:Hp)(h:Heap):Prop:=∀a o,H a=some o->aW P w H h a o
end
section
variable{P:Program}{w:World}{H H':Hp}{h h':Heap}{a:Addr}{o:HO}
def aW.lt(x:aW P w H h a o):a<h.objs.size:=by
 cases o with
 | lst d=>obtain⟨_,_,_,_,e⟩:=x;exact c8 e
 | tup d=>obtain⟨_,_,_,p⟩:=x;exact p.lt
 | dK b=>obtain⟨_,_,_,_,o,_,_,e,_⟩:=x;exact c8 e
 | dT b=>obtain⟨_,_,_,_,o,_,_,e,_⟩:=x;exact c8 e
 | set S n=>obtain⟨o,_,_,_,e,_⟩:=x;exact c8 e
 | ins C g c=>obtain⟨_,_,_,e,_⟩:=x;exact c8 e
 | own y=>obtain⟨_,e⟩:=x;exact c8 e
 | xd c=>obtain⟨_,⟨_,_,_,e,_⟩,_⟩:=x;exact c8 e
 | rng j i=>obtain⟨_,_,_,e⟩:=x;exact c8 e
 | frz k u=>obtain⟨e,_⟩:=x;exact c8 e
 | tbl l=>exact c8 (show h.get? a=some _ from x)
 | met f y=>exact c8 (show h.get? a=some _ from x)
 | ext m=>obtain⟨_,⟨_,e⟩,_⟩:=x;exact c8 e
def adI:∀{l₁:List c}{l₂:List d},Paired F l₁ l₂->(∀a b,F a b->G a b)->Paired G l₁ l₂:=by
 intro _ _ h f
 induction h with
 | nil=>exact .nil
 | cons r t e=>exact .cons (f _ _ r) e
def aW.stay(x:aW P w H h a o)(k:∀b u,(b=a\/H b=some (.own a))->h.get? b=some u->h'.get? b=some u)
 (G:∀b,H b=some (.own a)->H' b=some (.own a))(I:∀b xs,H b=some (.tup xs)->H' b=some (.tup xs)):aW P w H' h' a o:=by
 induction o with
 | lst xs=>obtain⟨z,l,n,r,e⟩:=x;exact%[z,l,n,r|k _ _ (.inl rfl) e]
 | tup xs=>obtain⟨z,l,r,g,e,c⟩:=x;exact%[z,l,r,g,k _ _ (.inl rfl) e|c]
 | dK m=>obtain⟨z,y,L,r,g,j,i,e,c⟩:=x;exact%[z,y,L,r,g,j,i,k _ _ (.inl rfl) e|c]
 | dT m=>obtain⟨z,y,xs,r,g,j,i,e,c⟩:=x;exact%[z,y,xs,adI r λ p q z=>%[z.1,I _ _ z.2.1|z.2.2],g,j,i,k _ _ (.inl rfl) e|c]
 | set S n=>obtain⟨g,j,i,t,e,c⟩:=x;exact%[g,j,i,t,k _ _ (.inl rfl) e|c]
 | ins C M F=>obtain⟨d,z,K,e,s,⟨A,j,i,E,c⟩,r⟩:=x;exact%[G _ d,z,K,k _ _ (.inl rfl) e,s,%[A,j,i,k _ _ (.inr d) E|c]|r]
 | own y=>obtain⟨g,e⟩:=x;exact%[g|k _ _ (.inl rfl) e]
 | xd F=>obtain⟨s,⟨A,j,i,e,c⟩,r⟩:=x;exact%[s,%[A,j,i,k _ _ (.inl rfl) e|c]|r]
 | rng O N=>obtain⟨t,u,v,e⟩:=x;exact%[t,u,v|k _ _ (.inl rfl) e]
 | frz g u J=>obtain⟨e,q⟩:=x;exact%[k _ _ (.inl rfl) e|J q]
 | tbl B=>have e:h.get? a=some {cls:=.none,data:=.fields B}:=x;show h'.get? a=some {cls:=.none,data:=.fields B};exact k a _ (.inl rfl) e
 | met f y=>have e:h.get? a=some (PySem.W.methodObj (.ref f) (.ref y)):=x;show h'.get? a=some (PySem.W.methodObj (.ref f) (.ref y));exact k a _ (.inl rfl) e
 | ext Q=>obtain⟨p,⟨o,e⟩,D⟩:=x;exact%[D _ _ p λ o q=>k _ _ (.inl rfl) q,%[o|k _ _ (.inl rfl) e]|D]
def HOk.lt(x:HOk P w H h)(e:H a=some o):a<h.objs.size:=(x a o e).lt
def HOk.fresh(x:HOk P w H h)(e:h.objs.size<=a):H a=none:=by
 cases q:H a with
 | none=>rfl
 | some u=>exact absurd (v3 (x.lt q) e) (hY _)
def HOk.kept(x:HOk P w H h)(k:∀b u,h.get? b=some u->h'.get? b=some u):HOk P w H h':=λ a o e=>
 (x a o e).stay (λ b u _ q=>k b u q) (λ _ q=>q) λ _ _ q=>q
def HOk.laid(x:HOk P w H h)(k:∀b u,h.get? b=some u->h'.get? b=some u)(i:h.objs.size<=a)(d:aW P w (upd H a o) h' a o):HOk P w (upd H a o) h':=λ b u e=>by have g:=x.fresh i;by_cases f:b=a;{subst f;rw[aQ]at e;cases e;exact d};{rw[az f]at e;exact(x b u e).stay (λ c v _ q=>k c v q) (λ c q=>by rw[az (aL q g)];exact q) λ c j q=>by rw[az (aL q g)];exact q}
end
def Rd(H:Hp)(a:Addr)(u:HO):Prop:=H a=some u\/∃o,H a=some (.frz o u)
def Rd.ok(r:Rd H a u)(x:HOk P w H h):aW P w H h a u:=by rcases r with r | ⟨o,r⟩;{exact x a u r};{obtain⟨_,q⟩:=x a _ r;exact q}
def Mut:Option HO->Prop
 | some (.lst _)=>True
 | some (.dK _)=>True
 | some (.dT _)=>True
 | some (.set _ _)=>True
 | some (.ins _ _ _)=>True
 | some (.ext _)=>True
 | _=>False
section
variable{P:Program}{w:World}{H:Hp}{h h':Heap}{x e:Addr}{o':HO}
def HOk.write(ok:HOk P w H h)(j:Mut (H x))(o:e=x\/H e=some (.own x))(k:∀b u,b≠e->h.get? b=some u->h'.get? b=some u)(m:∃u,h'.get? e=some u)
 (n:aW P w (upd H x o') h' x o'):HOk P w (upd H x o') h':=λ b u q=>by
 have d:∀c y,H c=some (.own y)->c≠x:=λ c y r z=>by subst z;rw[r]at j;exact j
 have f:∀c l,H c=some (.tup l)->c≠x:=λ c l r z=>by subst z;rw[r]at j;exact j
 by_cases g:b=x;{subst g;rw[aQ]at q;cases q;exact n}
 . rw [az g]at q;by_cases a:b=e
   . have p:H b=some (.own x):=by rcases o with z | z;{exact absurd (a.trans z) g};{rw[a];exact z}
     rw[q]at p;cases p;obtain⟨v,s⟩:=m;exact%[v|by rw[a];exact s]
   . refine(ok b u q).stay (λ c v i r=>k c v ?_ r) (λ c r=>by rw[az (d c b r)];exact r) λ c l r=>by rw[az (f c l r)];exact r
     rcases i with rfl | i;{exact a};{rintro rfl;rcases o with z | z;{exact d c b i z};{rw[i]at z;cases z;exact g rfl}}
end
structure Un(fs ex:ag3)(H H':Hp)(h h':Heap):Prop where
 keep:∀b o,h.get? b=some o->H b=none->b∉fs->b∉ex->h'.get? b=some o
 slot:∀b o,h.get? b=some o->H b=none->b∈fs->b∉ex->∃sl,h'.get? b=some {o with slots:=sl}
 free:∀b o,h.get? b=some o->H b=none->b∉ex->H' b=none
 there:∀b o,h.get? b=some o->b∉ex->∃o',h'.get? b=some o'
 tups:∀b xs,H b=some (.tup xs)->H' b=some (.tup xs)
 frzs:∀b o u,H b=some (.frz o u)->H' b=some (.frz o u)
 tbls:∀b ps,H b=some (.tbl ps)->∃more,H' b=some (.tbl (ps++more))
section
variable{fs fs' ex ex':List Addr}{H H1 H2:Hp}{h h1 h2 h':Heap}{a x e:Addr}{o:HO}
def Un.any(u:Un fs ex H H1 h h1){a}(q:h.get? b=some a)(n:H b=none)(d:b∉ex):∃sl,h1.get? b=some {a with slots:=sl}:=by by_cases c:b∈fs;{exact u.slot b a q n c d};{exact%[a.slots|u.keep b a q n c d]}
def Un.kept(k:∀b u,h.get? b=some u->h'.get? b=some u):Un fs ex H H h h':=
 %[λ b a q _ _ _=>k b a q,λ b a q _ _ _=>%[a.slots|k b a q],λ _ _ _ n _=>n,λ b a q _=>%[a|k b a q],λ _ _ q=>q,λ _ _ _ q=>q|λ _ c q=>%[#[]|by rw[q];simp]]
def Un.refl:Un fs ex H H h h:=Un.kept λ _ _ q=>q
theorem Un.laid(k:∀b u,h.get? b=some u->h'.get? b=some u)(d:h.objs.size<=a)(c:H a=none):Un fs ex H (upd H a o) h h' where
 keep:=λ b u q _ _ _=>k b u q
 slot:=λ b u q _ _ _=>%[u.slots|k b u q]
 free:=λ b u q n _=>by rw[az (cm (v3 (c8 q) d))];exact n
 there:=λ b u q _=>%[u|k b u q]
 tups:=λ b e q=>by rw[az (aL q c)];exact q
 frzs:=λ b u e q=>by rw[az (aL q c)];exact q
 tbls:=λ b f q=>%[#[]|by rw[az (aL q c),q];simp]
def Un.write(c:Mut (H x))(j:e=x\/H e=some (.own x))(k:∀b u,b≠e->h.get? b=some u->h'.get? b=some u)(d:∃u,h'.get? e=some u):Un fs ex H (upd H x o) h h':=by
 have i:∀b,H b=none->b≠x:=λ b n z=>by subst z;rw[n]at c;exact c
 have g:∀b,H b=none->b≠e:=λ b n z=>by subst z;rcases j with r | r;{exact i b n r};{rw[n]at r;cases r}
 have f:∀b u,H b=some u->¬Mut (some u)->b≠x:=λ b u q l z=>by subst z;rw[q]at c;exact l c
 refine%[λ b u q n _ _=>k b u (g b n) q,λ b u q n _ _=>%[u.slots|k b u (g b n) q],λ b u q n _=>by rw[az (i b n)];exact n,λ b u q _=>?_,
  λ b m q=>by rw[az (f b _ q λ z=>z)];exact q,λ b u m q=>by rw[az (f b _ q λ z=>z)];exact q|λ b p q=>%[#[]|by rw[az (f b _ q λ z=>z),q];simp]];by_cases a:b=e;{subst a;exact d};{exact%[u|k b u a q]}
end
def trk(h:Heap)(H:Hp):List Addr:=(List.range h.objs.size).filter λ a=>(H a).isSome
def ou(h:Heap)(H:Hp):Heap:=PySem.W.hideAll h (trk h H)
def Ra(h:Heap)(H:Hp):(ou h H).objs.size=h.objs.size:=PySem.W.hideAll_size _ _
def V3(e:h.get? b=some o)(n:H b=none):(ou h H).get? b=some o:=
 PySem.W.hideAll_get _ e λ a=>by have q:(H b).isSome=true:=(nI.mp a).2;rw[n]at q;simp at q
def Zi(e:(ou h H).get? b=some o):h.get? b=some o/\H b=none:=by
 have a:h.get? b=some o:=PySem.W.of_hideAll (trk h H) e;refine%[a|?_]
 cases q:H b with
 | none=>rfl
 | some x=>have c:b∈trk h H:=nI.mpr %[df.mpr (c8 a)|by simp[q]];have z:(ou h H).get? b=none:=PySem.W.hideAll_none (trk h H) c;rw[z]at e;cases e
end L2
namespace L2
open PySem PySem.Spec PyProof.Rows
variable{t':Nat}
structure Mod(K:ae1)(mg:ae8)(base:Heap):Prop where
 kin:K.In base
 glob:base.Ns mainGlobals mg
 blt:∃mb,base.Ns builtinsNs mb/\∀x:Str,x≠"__name__"->mb x=bootBuiltins x
 nolimit:base.NoLimit
set_option genInjectivity false in
structure Cx where
 prog:Program
 w:World
 K:PySem.W.Frag
 mg:Str->Option Value
 base:Heap
 A:Around
 N:List Str
 s₀:Shared
 H₀:Hp
 env:Env
 outer:List Env
 stack:List Env
 ex:List Addr
 fn:Str->Bool
 calm:Bool
 pn:List (Addr×Obj)
 xe:Value->Shared->Prop
def frs(l:List Env):List Addr:=l.filterMap (·.frame)
abbrev Cx.fs(X:Cx):List Addr:=frs X.outer
def Vis(sc:Scope)(x:Str):Prop:=sc.names.lookup x=some .local\/sc.names.lookup x=some .cell\/sc.names.lookup x=some .free
def Loc(sc:Scope)(x:Str):Prop:=sc.names.lookup x=some .local\/sc.names.lookup x=some .cell
def Look(env:Env)(h:Heap)(m:ae8)(x:Str)(u:Value):Prop:=
 (env.kindOf x=some .local/\m x=some u)\/((env.kindOf x=some .cell\/env.kindOf x=some .free)/\∃c,env.cells.lookup x=some c/\h.IsCell c (some u))
structure Cx.Ok(X:Cx):Prop where
 mod:Mod X.K X.mg X.base
 kind:X.env.scope.kind=.function
 glob:X.env.globals=mainGlobals
 blt:X.env.builtins=builtinsNs
 above:X.s₀.heap.objs.size<=X.env.locals
 inj:∀x y c,%[|34]->X.env.cells.lookup y=some c->x=y
 has:∀x,(X.env.kindOf x=some .cell\/X.env.kindOf x=some .free)->∃c,%[|34]
 cab:∀x c,X.fn x=true->%[|34]->X.s₀.heap.objs.size<=c
 hd:X.calm=true->X.A.handled=none
 frames:X.A.frames=some X.stack
 stk:X.stack=X.outer\/(X.stack=X.env::X.outer/\X.env.frame=some X.env.locals)
 exf:∀b∈X.ex,b≠X.env.locals/\∀x c,%[|34]->c≠b
 bs:∀b o,X.base.get? b=some o->X.s₀.heap.get? b=some o/\X.H₀ b=none
 bsz:X.base.objs.size<=X.s₀.heap.objs.size
 noex:∀b o,X.base.get? b=some o->b∉X.ex
 exfs:∀b∈X.ex,b∉X.fs
 funs:X.s₀.heap.FunFrames X.base X.outer
 frf:∀b∈X.fs,X.H₀ b=none
structure Inv(X:Cx)(pins:ae6)(σ:List (Option V))(H:Hp)(s:ae4):Prop where
 ok:X.Ok
 os:s.os=X.s₀.os
 bare:AllBare s.gens
 base:Un X.fs X.ex X.H₀ H X.s₀.heap s.heap
 loc:∃m,s.heap.Ns X.env.locals m/\∀(i:Nat)(x:Str)(v:V),X.N[i]? =some x->σ[i]? =some (some v)->Vis X.env.scope x->∃u,RelV v u/\Look X.env s.heap m x u
 cell:∀x c,%[|34]->∃v,s.heap.IsCell c v
 free:H X.env.locals=none
 freeC:∀x c,%[|34]->H c=none
 pin:∀p∈X.pn++pins,s.heap.get? p.1=some p.2/\H p.1=none/\p.1≠X.env.locals/\p.1∉X.fs/\∀v,p.2.data≠.cell v
 hok:HOk X.prog X.w H s.heap
 len:σ.length=X.N.length
section
variable{X:Cx}{pins:List (Addr × Obj)}{σ:List (Option V)}{H H':Hp}{s:Shared}{h':Heap}
def Cx.Ok.nofr(ok:X.Ok)(e:X.base.get? b=some o):b∉X.fs:=λ a=>by have:=(ok.funs.mem a).1;rw[e]at this;cases this
def Inv.bs(I:%[|3]):∀b o,X.base.get? b=some o->%[|37]/\H b=none:=λ b o e=>
 %[I.base.keep b o (I.ok.bs b o e).1 (I.ok.bs b o e).2 (I.ok.nofr e) (I.ok.noex b o e)|I.base.free b o (I.ok.bs b o e).1 (I.ok.bs b o e).2 (I.ok.noex b o e)]
def Inv.bk(I:%[|3]):∀b o,X.base.get? b=some o->%[|37]:=λ b o e=>(I.bs b o e).1
def Inv.mod(I:%[|3]):Mod X.K X.mg X.base:=I.ok.mod
def Inv.kIn(I:%[|3]):X.K.In s.heap:=I.ok.mod.kin.keeps I.bk
def Inv.lt(I:%[|3]):X.env.locals<s.heap.objs.size:=let ⟨_,hn,_⟩:=I.loc;hn.lt
def Inv.sz(I:%[|3]):X.s₀.heap.objs.size<=s.heap.objs.size:=cK I.ok.above (eJ I.lt)
def Inv.nofs(I:%[|3]){a:Addr}(h:s.heap.objs.size<=a):a∉X.fs:=λ b=>by obtain⟨_,o,c,_⟩:=I.ok.funs.mem b;exact absurd (v3 (c8 c) (cK I.sz h)) (hY _)
def Inv.cne(I:%[|3]):∀x c,%[|34]->c≠X.env.locals:=λ x c e z=>by obtain⟨v,o,f,d⟩:=I.cell x c e;obtain⟨m,⟨i,h,g,b,a,_⟩,_⟩:=I.loc;rw[z,b]at f;cases f;rw[a]at d;cases d
def Inv.funs(I:%[|3]):s.heap.FunFrames X.base X.outer:=by
 have a:∀(l:List Env),(∀b∈frs l,b∈X.fs)->X.s₀.heap.FunFrames X.base l->s.heap.FunFrames X.base l:=by
  intro l
  induction l with
  | nil=>intro _ _;trivial
  | cons h r q=>intro g k;obtain⟨j,⟨L,o,f,m,n,i⟩,p⟩:=k;have c:L∈X.fs:=g L (by unfold frs;rw[i9,f];exact x6);obtain⟨t,e⟩:=I.base.slot L o n (I.ok.frf L c) c λ z=>I.ok.exfs L z c;exact%[j,%[L,_,f,m,e|i]|q (λ b d=>g b (by unfold frs;rw[i9,f];exact x4 _ d)) p]
 exact a X.outer (λ _ d=>d) I.ok.funs
def Inv.stack(I:%[|3]):s.heap.FunFrames X.base X.stack:=by rcases I.ok.stk with e | ⟨e,a⟩;{rw[e];exact I.funs};{rw[e];obtain⟨m,b,_⟩:=I.loc;refine .cons (by rw[I.ok.kind];decide) a b ?_ I.funs;exact Heap.get?_none_of_le (cK I.ok.bsz I.ok.above)}
def Inv.stkSub(I:%[|3]):∀b∈frs X.stack,b∈X.env.locals::X.fs:=λ b a=>by rcases I.ok.stk with e | ⟨e,c⟩;{rw[e]at a;exact x4 _ a};{rw[e]at a;unfold frs at a;rw[i9,c]at a;exact a}
def Inv.stkFree(I:%[|3]):∀b∈frs X.stack,H b=none:=λ b a=>by rcases cr.mp (I.stkSub b a)with e | a;{rw[e];exact I.free};{obtain⟨_,o,c,_⟩:=I.ok.funs.mem a;exact I.base.free b o c (I.ok.frf b a) λ z=>I.ok.exfs b z a}
def Inv.step{ch:ag3}(I:%[|3])
 (g:∀b∈ch,(b∈X.ex\/X.s₀.heap.objs.size<=b)/\b≠X.env.locals/\(∀x c,%[|34]->c≠b)/\∀p∈X.pn++pins,p.1≠b)
 (keep:∀b o,b≠X.env.locals->b∉X.fs->b∉ch->%[|37]->H b=none->h'.get? b=some o)
 (slot:∀b o,b≠X.env.locals->b∈X.fs->b∉ch->%[|37]->H b=none->∃sl,h'.get? b=some {o with slots:=sl})(free:∀b o,b∉ch->%[|37]->H b=none->H' b=none)
 (there:∀b o,b∉ch->%[|37]->∃o',h'.get? b=some o')
 (tups:∀b xs,H b=some (.tup xs)->H' b=some (.tup xs))(frzs:∀b o u,H b=some (.frz o u)->H' b=some (.frz o u))(tbls:∀b ps,H b=some (.tbl ps)->∃more,H' b=some (.tbl (ps++more)))
 (ns:∀m,s.heap.Ns X.env.locals m->h'.Ns X.env.locals m)(D:HOk X.prog X.w H' h')(M:AllBare g'):
 Inv X pins σ H' {s with heap:=h',gens:=g',drawn:=d',toks:=t'}:=by
 have B:∀b o,X.s₀.heap.get? b=some o->b≠X.env.locals:=λ b o e=>cm (v3 (c8 e) I.ok.above);have t:∀b o,X.s₀.heap.get? b=some o->b∉X.ex->b∉ch:=λ b o e a w=>by rcases(g b w).1 with z | z;{exact a z};{exact absurd (v3 (c8 e) z) (hY _)}
 have f:∀x c,%[|34]->∀v,s.heap.IsCell c v->h'.IsCell c v:=λ x c e v ⟨o,y,C⟩=>by have h:c∉ch:=λ z=>(g c z).2.2.1 x c e rfl;by_cases F:c∈X.fs;{obtain⟨sl,q⟩:=slot c o (I.cne x c e) F h y (I.freeC x c e);exact%[_,q|C]};{exact%[o,keep c o (I.cne x c e) F h y (I.freeC x c e)|C]}
 refine%[I.ok,I.os,M,%[λ b o e n w a=>?_,λ b o e n w a=>?_,λ b o e n a=>?_,λ b o e a=>?_,λ b xs e=>tups b xs (I.base.tups b xs e),λ b o xs e=>frzs b o xs (I.base.frzs b o xs e)|λ b ps e=>?_],?_,λ x c e=>?_,?_,λ x c e=>?_,λ p G=>?_,D|I.len];{exact keep b o (B b o e) w (t b o e a) (I.base.keep b o e n w a) (I.base.free b o e n a)};{obtain⟨sl,j⟩:=I.base.slot b o e n w a;obtain⟨E,A⟩:=slot b _ (B b o e) w (t b o e a) j (I.base.free b o e n a);exact%[E|A]};{obtain⟨o',j⟩:=I.base.there b o e a;exact free b o' (t b o e a) j (I.base.free b o e n a)};{obtain⟨o',j⟩:=I.base.there b o e a;exact there b o' (t b o e a) j};{obtain⟨P,j⟩:=I.base.tbls b ps e;obtain⟨Q,A⟩:=tbls b _ j;exact%[P++Q|by rw[A,Array.append_assoc]]};{obtain⟨m,O,N⟩:=I.loc;refine%[m,ns m O|λ i x v j A L=>?_];obtain⟨u,r,l⟩:=N i x v j A L;refine%[u,r|?_];rcases l with l | ⟨k,c,e,z⟩;{exact .inl l};{exact .inr %[k,c,e|f x c e _ z]}};{obtain⟨v,z⟩:=I.cell x c e;exact%[v|f x c e v z]};{obtain⟨m,⟨o,_,_,y,_⟩,_⟩:=I.loc;exact free _ o (λ z=>(g _ z).2.1 rfl) y I.free};{obtain⟨v,o,y,C⟩:=I.cell x c e;exact free c o (λ z=>(g c z).2.2.1 x c e rfl) y (I.freeC x c e)};{obtain⟨e,n,J,K,d⟩:=I.pin p G;have h:p.1∉ch:=λ z=>(g p.1 z).2.2.2 p G rfl;exact%[keep p.1 p.2 J K h e n,free p.1 p.2 h e n,J,K|d]}
def Inv.un(I:%[|3])(u:Un X.fs [] H H' s.heap h')(g:HOk X.prog X.w H' h'):Inv X pins σ H' {s with heap:=h',toks:=t'}:=by obtain⟨m,⟨o,p,l,h,r⟩,_⟩:=id I.loc;obtain⟨v,i⟩:=u.any h I.free (by simp);exact I.step (g':=s.gens) (d':=s.drawn) (ch:=[]) (λ _ z=>nomatch z) (λ b o _ f _ e n=>u.keep b o e n f (by simp)) (λ b o _ f _ e n=>u.slot b o e n f (by simp)) (λ b o _ e n=>u.free b o e n (by simp)) (λ b o _ e=>u.there b o e (by simp)) u.tups u.frzs u.tbls (λ q j=>by obtain⟨t,d,c,a,k⟩:=j;rw[h]at a;cases a;exact%[_,d,c,i|k]) g I.bare
def Inv.call(I:%[|3])(u:Un (frs X.stack) ch H H' s.heap h')(j:HOk X.prog X.w H' h')(q:AllBare g')
 (d:∀b∈ch,(b∈X.ex\/X.s₀.heap.objs.size<=b)/\b≠X.env.locals/\(∀x c,%[|34]->c≠b)/\∀p∈X.pn++pins,p.1≠b):
 Inv X pins σ H' {s with heap:=h',gens:=g',drawn:=d',toks:=t'}:=by obtain⟨m,⟨o,y,w,k,r⟩,_⟩:=id I.loc;obtain⟨C,i⟩:=u.any k I.free λ z=>(d _ z).2.1 rfl;exact I.step (ch:=ch) d (λ b o i l a e n=>u.keep b o e n (λ z=>(cr.mp (I.stkSub b z)).elim i l) a) (λ b o _ _ a e n=>u.any e n a) (λ b o a e n=>u.free b o e n a) (λ b o a e=>u.there b o e a) u.tups u.frzs u.tbls (λ A t=>by obtain⟨B,h,g,f,v⟩:=t;rw[k]at f;cases f;exact%[_,h,g,i|v]) j q
def Inv.turned(I:%[|3])(k:∀b o,b≠a->%[|32])(w:H a=none)(g:a≠X.env.locals)
 (h1:a∈X.ex\/X.s₀.heap.objs.size<=a)(h2:∀x c,%[|34]->c≠a)(j:∀p∈X.pn++pins,p.1≠a):Inv X pins σ H {s with heap:=h',toks:=t'}:=by
 have f:∀b u,H b=some u->b≠a:=λ b u e z=>by rw[z,w]at e;cases e
 refine I.step (g':=s.gens) (d':=s.drawn) (ch:=[a]) (λ b l=>?_) (λ b o _ _ d e _=>k b o (λ z=>d (by simp[z])) e) (λ b o _ _ d e _=>%[o.slots|k b o (λ z=>d (by simp[z])) e]) (λ _ _ _ _ n=>n)
  (λ b o d e=>%[o|k b o (λ z=>d (by simp[z])) e]) (λ _ _ e=>e) (λ _ _ _ e=>e) (λ b A e=>%[#[]|by rw[e];simp]) (λ m t=>?_) (λ b u e=>?_) I.bare
 . have e:b=a:=by simpa using l
   subst e;exact%[h1,g,h2|j]
 {obtain⟨o,i,h,y,r⟩:=t;exact%[o,i,h,k _ o (kA g) y|r]};{refine(I.hok b u e).stay (λ c v d q=>k c v ?_ q) (λ _ q=>q) λ _ _ q=>q;rcases d with z | z;{rw[z];exact f b u e};{exact f c _ z}}
def Inv.tok(I:%[|3])(t:Nat):Inv X pins σ H {s with toks:=t}:=I.un (h':=s.heap) (t':=t) Un.refl I.hok
def Inv.kept(I:%[|3])(k:∀b u,s.heap.get? b=some u->h'.get? b=some u):Inv X pins σ H {s with heap:=h',toks:=t'}:=I.un (Un.kept k) (I.hok.kept k)
def Inv.laid{a:Addr}(I:%[|3])(k:∀b u,s.heap.get? b=some u->h'.get? b=some u)(c:s.heap.objs.size<=a)(d:aW X.prog X.w (upd H a o) h' a o):
 Inv X pins σ (upd H a o) {s with heap:=h',toks:=t'}:=I.un (Un.laid k c (I.hok.fresh c)) (I.hok.laid k c d)
def Inv.write(I:%[|3])(f:Mut (H x))(d:e=x\/H e=some (.own x))(k:∀b u,b≠e->s.heap.get? b=some u->h'.get? b=some u)(a:∃u,h'.get? e=some u)
 (c:aW X.prog X.w (upd H x o) h' x o):Inv X pins σ (upd H x o) {s with heap:=h',toks:=t'}:=I.un (Un.write f d k a) (I.hok.write f d k a c)
def Inv.pins_of(I:%[|3])(h:∀p∈a,s.heap.get? p.1=some p.2/\H p.1=none/\p.1≠X.env.locals/\p.1∉X.fs/\∀v,p.2.data≠.cell v):Inv X a σ H s:=
 %[I.ok,I.os,I.bare,I.base,I.loc,I.cell,I.free,I.freeC,λ p b=>(cq.mp b).elim (λ z=>I.pin p (fb _ z)) (h p),I.hok|I.len]
def DR{N:ae7}(e:N.Nodup){i j:Nat}(a:N[i]? =some x)(b:N[j]? =some x):i=j:=by obtain⟨f,c⟩:=z0.mp a;obtain⟨g,d⟩:=z0.mp b;exact(List.getElem_inj e).mp (c.trans d.symm)
def z8(I:%[|3])(hN:X.N.Nodup)(hi:X.N[i]? =some x)(t:Loc X.env.scope x)(r:RelV v u)
 (h:∀s',Inv X pins (σ.set i (some v)) H s'->(∃a,Heap.SameBut a s.heap s'.heap/\(a=X.env.locals\/X.env.cells.lookup x=some a))->Q () s')(hf:X.fn x=true\/%[|52]:=by first | exact .inl rfl | exact .inr rfl | assumption):wpAny M A (storeName X.env x u) Q E s:=by
 obtain⟨m,Z,hl⟩:=id I.loc;have P:(X.env.scope.kind==.class||(X.env.scope.kind==.module&&X.env.locals !=X.env.globals))=false:=by rw[I.ok.kind];rfl
 have C:i<σ.length:=by rw[I.len];exact(z0.mp hi).1
 have F:=I.cne;have g:∀{a:Addr}{L:Heap},(∃o,s.heap.get? a=some o/\H a=none)->Heap.SameBut a s.heap L->HOk X.prog X.w H L:=λ{a L} ha hs b ob e=>by obtain⟨_,_,w⟩:=ha;refine(I.hok b ob e).stay (λ c W l q=>(hs.2 c ?_).trans q) (λ _ q=>q) λ _ _ q=>q;rintro rfl;rcases l with rfl | l;{rw[w]at e;cases e};{rw[w]at l;cases l}
 rcases t with D | D;{refine wpAny_storeName_local D Z (λ L aa hs=>?_) P;obtain⟨oL,_,_,ab,_⟩:=id Z;refine h _ %[I.ok,I.os,I.bare,%[λ b o e n G t=>?_,λ b o e n G t=>?_,I.base.free,λ b o e t=>?_,I.base.tups,I.base.frzs|I.base.tbls],%[_,aa|λ j y v' f B Y=>?_],λ y c e=>?_,I.free,I.freeC,λ p hp=>?_,g %[oL,ab|I.free] hs|by simpa using I.len] %[_,hs|.inl rfl];{exact(hs.2 b (cm (v3 (c8 e) I.ok.above))).trans (I.base.keep b o e n G t)};{obtain⟨sl,f⟩:=I.base.slot b o e n G t;exact%[sl|(hs.2 b (cm (v3 (c8 e) I.ok.above))).trans f]};{obtain⟨o',f⟩:=I.base.there b o e t;exact%[o'|(hs.2 b (cm (v3 (c8 e) I.ok.above))).trans f]};{by_cases K:j=i;{subst K;rw[hi]at f;cases f;rw[fq C]at B;cases B;exact%[u,r|.inl %[D|by simp]]};{rw[en (kA K)]at B;obtain⟨u',r',q⟩:=hl j y v' f B Y;refine%[u',r'|?_];rcases q with⟨k,e⟩ | ⟨k,c,e,z⟩;{refine .inl %[k|?_];have:y≠x:=λ e=>K (DR hN f (e▸hi));simp[this,e]};{exact .inr %[k,c,e|z.sameBut hs (F y c e)]}}};{obtain⟨W,z⟩:=I.cell y c e;exact%[W|z.sameBut hs (F y c e)]};{obtain⟨e,n,U,nf,d⟩:=I.pin p hp;exact%[(hs.2 p.1 U).trans e,n,U,nf|d]}}
 . have J:X.fn x=true:=by rcases hf with z | z;{exact z};{rw[z]at D;cases D}
   obtain⟨c,l⟩:=I.ok.has x (.inl D);obtain⟨W,z⟩:=I.cell x c l;refine wpAny_storeName_cell I.ok.kind D l z (λ L N hs=>?_);obtain⟨oc,R,S⟩:=id z;refine h {s with heap:=L} %[I.ok,I.os,I.bare,%[λ b o e n G t=>?_,λ b o e n G t=>?_,I.base.free,λ b o e t=>?_,I.base.tups,I.base.frzs|I.base.tbls],%[m,Z.sameBut hs (kA (F x c l))|λ j y v' f B Y=>?_],λ y T e=>?_,I.free,I.freeC,λ p hp=>?_,g %[oc,R|I.freeC x c l] hs|by simpa using I.len] %[c,hs|.inr l];{exact(hs.2 b (cm (v3 (c8 e) (I.ok.cab x c J l)))).trans (I.base.keep b o e n G t)};{obtain⟨sl,f⟩:=I.base.slot b o e n G t;exact%[sl|(hs.2 b (cm (v3 (c8 e) (I.ok.cab x c J l)))).trans f]};{obtain⟨o',f⟩:=I.base.there b o e t;exact%[o'|(hs.2 b (cm (v3 (c8 e) (I.ok.cab x c J l)))).trans f]};{by_cases K:j=i;{subst K;rw[hi]at f;cases f;rw[fq C]at B;cases B;exact%[u,r|.inr %[.inl D,c,l|N]]};{rw[en (kA K)]at B;obtain⟨u',r',q⟩:=hl j y v' f B Y;refine%[u',r'|?_];rcases q with q | ⟨k,T,e,z'⟩;{exact .inl q};{refine .inr %[k,T,e|z'.sameBut hs ?_];rintro rfl;exact K (DR hN f (I.ok.inj _ _ _ e l▸hi))}}};{by_cases O:T=c;{subst O;exact%[_|N]};{obtain⟨w2,z2⟩:=I.cell y T e;exact%[w2|z2.sameBut hs O]}};{obtain⟨e,n,U,nf,d⟩:=I.pin p hp;refine%[(hs.2 p.1 ?_).trans e,n,U,nf|d];intro q;rw[q,R]at e;have q':oc=p.2:=cc e;exact d W (by rw[<-q'];exact S)}
def j4(I:%[|3])(b:X.N.Nodup)(hi:X.N[i]? =some x)(d:Loc X.env.scope x)(r:RelV v u)
 (h:∀s',Inv X pins (σ.set i (some v)) H s'->Q () s')(c:X.fn x=true\/%[|52]:=by first | exact .inl rfl | exact .inr rfl | assumption):wpAny M A (storeName X.env x u) Q E s:=
 z8 I b hi d r (λ s' a _=>h s' a) c
def Inv.call'(I:%[|3])(g:s'.os=s.os)(u:Un (frs X.stack) ch H H' s.heap s'.heap)(d:HOk X.prog X.w H' s'.heap)(f:AllBare s'.gens)
 (a:∀b∈ch,(b∈X.ex\/X.s₀.heap.objs.size<=b)/\b≠X.env.locals/\(∀x c,%[|34]->c≠b)/\∀p∈X.pn++pins,p.1≠b):Inv X pins σ H' s':=by obtain⟨i,g',d',t',h⟩:=s';have e:h=s.os:=g;subst e;exact I.call (g':=g') (t':=t') (d':=d') u d f a
end
abbrev XK:=Value->Option Addr->Hp->Prop
abbrev St:=List (Option V)
abbrev VK:=V->Hp->Prop
abbrev TE:=St->Hp->VK->Prop
abbrev TT:=St->Hp->(Bool->Hp->Prop)->Prop
abbrev TA:=St->Hp->(List V->Hp->Prop)->Prop
structure Ends where
 nx:St->Hp->Prop
 rt:VK
 bk:St->Hp->Prop:=λ _ _=>False
 ct:St->Hp->Prop:=λ _ _=>False
abbrev TS:=Ends->St->Hp->Prop
inductive EP(X:Cx)(pins:ae6)(σ:St)(Q:VK)(u:Value)(s':ae4):Prop
 | mk(v:V)(H':Hp)(i:Inv X pins σ H' s')(r:RelV v u)(q:Q v H'):EP X pins σ Q u s'
inductive TP(X:Cx)(pins:ae6)(σ:St)(Q:Bool->Hp->Prop)(b:Bool)(s':ae4):Prop
 | mk(H':Hp)(i:Inv X pins σ H' s')(q:Q b H'):TP X pins σ Q b s'
inductive AP(X:Cx)(pins:ae6)(σ:St)(Q:List V->Hp->Prop)(us:ae5)(s':ae4):Prop
 | mk(vs:List V)(H':Hp)(i:Inv X pins σ H' s')(r:Vals vs us)(q:Q vs H'):AP X pins σ Q us s'
inductive NP(X:Cx)(pins:ae6)(Q:St->Hp->Prop)(s':ae4):Prop
 | mk(σ':St)(H':Hp)(i:Inv X pins σ' H' s')(q:Q σ' H'):NP X pins Q s'
inductive RP(X:Cx)(pins:ae6)(Q:VK)(u:Value)(s':ae4):Prop
 | mk(v:V)(σ':St)(H':Hp)(i:Inv X pins σ' H' s')(r:RelV v u)(q:Q v H'):RP X pins Q u s'
def SP(X:Cx)(pins:ae6)(D:Ends)(f:Flow)(s':ae4):Prop:=
 match f with
 | .next=>NP X pins D.nx s'
 | .brk=>NP X pins D.bk s'
 | .cont=>NP X pins D.ct s'
 | .ret u=>RP X pins D.rt u s'
def PE(X:Cx)(e:Expr)(t:TE):Prop:=
 ∀(a:ae6)(s:ae4)(b:St)(H:Hp)(Q:VK),Inv X a b H s->t b H Q->wpAny %[|5] X.A (eval e X.env) (EP X a b Q) X.xe s
def PA(X:Cx)(es:af1)(t:TA):Prop:=
 ∀(b:Pos)(a:ae6)(s:ae4)(c:St)(H:Hp)(Q:List V->Hp->Prop),Inv X a c H s->t c H Q->wpAny %[|5] X.A (spliced (backTo b %[|33])) (AP X a c Q) X.xe s
def PS(X:Cx)(st:Stmt)(t:TS):Prop:=
 ∀(a:ae6)(s:ae4)(b:St)(H:Hp)(D:Ends),Inv X a b H s->t D b H->wpAny %[|5] X.A (exec st X.env) (SP X a D) X.xe s
def PSs(X:Cx)(st:List Stmt)(t:TS):Prop:=
 ∀(a:ae6)(s:ae4)(b:St)(H:Hp)(D:Ends),Inv X a b H s->t D b H->wpAny %[|5] X.A (execs st X.env) (SP X a D) X.xe s
def thn{Q b:c->Shared->Prop}(h:wpAny M A t Q E s)(d:∀a s,Q a s->b a s):wpAny M A t b E s:=gl h d λ _ _ x=>x
end L2
namespace L2
open PySem PySem.Spec PyProof.Rows
variable{x:Str}{u:Value}
section
variable{X:Cx}
def acT(i:Nat):TE:=λ a H Q=>∃v,a[i]? =some (some v)/\Q v H
def tC(v:V):TE:=λ _ H Q=>Q v H
def aar{k}(o:X.N[i]? =some x)(w:Vis X.env.scope x)(j:%[|48]:=by decide)(g:(x==("__classdict__":Str))=false:=by decide):PE X (.Name x k) (acT i):=by intro f s y H Q I h;obtain⟨v,e,h⟩:=h;obtain⟨m,t,p⟩:=I.loc;obtain⟨u,r,l⟩:=p i x v o e w;have b:EP X f y Q u s:=%[v,H,I,r|h];rcases l with⟨d,q⟩ | ⟨d,c,n,a⟩;{exact nK (nL I.ok.kind d t q b) j};{rcases d with d | d;{exact nK (wpAny_loadName_cell I.ok.kind d n a b) j};{exact nK (wpAny_loadName_free I.ok.kind d n a b g) j}}
def abj{i j a}:PE X (.Constant (.int i) j a) (tC (.int i)):=λ _ _ _ H _ I h=>wpAny_Constant_int %[.int i,H,I.tok _,%[_|rfl]|h]
def acg{b j a}:PE X (.Constant (.bool b) j a) (tC (.bl b)):=λ _ _ _ H _ I h=>Constant_bool %[.bl b,H,I,rfl|h]
def Z1{j a}:PE X (.Constant .none j a) (tC .non):=λ _ _ _ H _ I h=>Constant_none %[.non,H,I,rfl|h]
def Z3{x j a}:PE X (.Constant (.str x) j a) (tC (.str x)):=λ _ _ _ H _ I h=>Calls.Constant_str %[.str x,H,I.tok _,%[_|rfl]|h]
def Gl(X:Cx)(x:Str):Prop:=X.env.kindOf x=some .globalImplicit
def Ku{σ:St}(I:%[|3])(c:Gl X x)(d:X.mg x=some u)(h:Q u s)
 (b:%[|48]:=by decide):wpAny %[|5] X.A (eval (.Name x a) X.env) Q E s:=
 Calls.Name_function_global I.ok.kind c (Calls.loadGlobal_global (by rw[I.ok.glob];exact I.mod.glob.keeps I.bk) d h) b
def cj{E}{σ:St}{a}(I:%[|3])(e:Gl X x)(f:X.mg x=none)(i:bootBuiltins x=some u)(h:Q u s)
 (g:x≠"__name__":=by decide)(d:%[|48]:=by decide):wpAny %[|5] X.A (eval (.Name x a) X.env) Q E s:=by obtain⟨j,b,c⟩:=I.mod.blt;exact Calls.Name_function_global I.ok.kind e (Calls.loadGlobal_builtin (by rw[I.ok.glob];exact I.mod.glob.keeps I.bk) f (by rw[I.ok.blt];exact b.keeps I.bk) ((c x g).trans i) h) d
def Ze(c:Gl X x)(d:X.mg x=some u)(r:RelV v u)(b:%[|48]:=by decide):PE X (.Name x a) (tC v):=
 λ _ _ _ H _ I h=>Ku I c d %[v,H,I,r|h] b
def YS{a}(c:Gl X x)(d:X.mg x=none)(f:bootBuiltins x=some u)(r:RelV v u)(e:x≠"__name__":=by decide)(b:%[|48]:=by decide):PE X (.Name x a) (tC v):=
 λ _ _ _ H _ I h=>cj I c d f %[v,H,I,r|h] e b
variable{a b:Expr}{ta tb:TE}{pos:Pos}
variable{tA tB':TT}{rest:List Expr}
end
end L2
namespace L2
open PySem PySem.Spec PyProof.Rows
variable{K:PySem.W.Frag}{tg:Expr}
def SqL(K:ae1)(H:Hp)(a:Addr)(xs:List V):Prop:=
 Rd H a (.lst xs)\/
  ∃(o:Obj) (b:af0) (n:Nat),K.lookup a=some o/\o.cls=%[|16]/\o.dict=none/\o.data=.seq b n/\b.size<=sizeLine/\Vals xs b.toList
def SqT(K:ae1)(H:Hp)(a:Addr)(xs:List V):Prop:=
 Rd H a (.tup xs)\/
  ∃(o:Obj) (b:af0) (n:Nat),K.lookup a=some o/\o.cls=%[|10]/\o.data=.seq b n/\b.size<=sizeLine/\Vals xs b.toList
def acI:Value->Option V
 | .none=>some .non
 | .bool b=>some (.bl b)
 | .int i _=>some (.int i)
 | .str x _=>some (.str x)
 | .bytes b _=>some (.byt b)
 | .float b _=>some (.flt b)
 | .ref a=>some (.ref a)
 | .type n=>some (.ty n)
 | _=>none
def RelV.abs(r:RelV x u):acI u=some x:=by
 cases x with
 | non=>cases r;rfl
 | bl _=>cases r;rfl
 | int _=>obtain⟨t,rfl⟩:=r;rfl
 | str _=>obtain⟨t,rfl⟩:=r;rfl
 | byt _=>obtain⟨t,rfl⟩:=r;rfl
 | flt _=>obtain⟨t,rfl⟩:=r;rfl
 | ref _=>cases r;rfl
 | ty _=>cases r;rfl
def RelV.inj(r:RelV x u)(q:RelV y u):x=y:=cc (r.abs.symm.trans q.abs)
def Vals.inj:∀{xs ys:List V}{a:ae5},Vals xs a->Vals ys a->xs=ys:=by
 intro xs ys a h
 induction h generalizing ys with
 | nil=>intro q;cases q;rfl
 | cons r t b=>intro q;cases q with| cons c d=>rw[r.inj c,b d]
section
variable{X:Cx}{pins:List (Addr × Obj)}{σ:St}{H:Hp}{s:Shared}{a:Addr}{xs ys:List V}
def SqL.of(h:H a=some (.lst xs)):SqL K H a xs:=.inl (.inl h)
def Inv.list(I:%[|3])(h:SqL X.K H a xs):∃its:List Value,Vals xs its/\PlainL s.heap a its.toArray/\xs.length<=sizeLine:=by rcases h with h | ⟨o,its,n,d,b,c,f,g,r⟩;{obtain⟨z,its,n,r,e⟩:=h.ok I.hok;exact%[its,r,%[_,n,e,rfl,rfl|rfl]|z]};{refine%[its.toList,r,%[o,n,I.kIn a o d,b,c|by simpa using f]|?_];have e:=r.length;simp only[eW]at e;omega}
def Inv.tuple(I:%[|3])(h:SqT X.K H a xs):∃its:List Value,Vals xs its/\IsTup s.heap a its.toArray/\xs.length<=sizeLine:=by rcases h with h | ⟨o,its,n,c,b,d,f,r⟩;{obtain⟨z,its,r,p⟩:=h.ok I.hok;exact%[its,r,p|z]};{refine%[its.toList,r,%[o,I.kIn a o c,b,n|by simpa using d]|?_];have e:=r.length;simp only[eW]at e;omega}
def Inv.list_inj(I:%[|3])(h:SqL X.K H a xs)(h':SqL X.K H a ys):xs=ys:=by
 obtain⟨c,r,⟨o,n,e,_,_,d⟩,_⟩:=I.list h;obtain⟨b,i,⟨k,j,g,_,_,f⟩,_⟩:=I.list h';rw[e]at g;cases g;rw[d]at f;injection f with d1 _;have:c=b:=by simpa using congrArg Array.toList d1
 subst this;exact r.inj i
def Inv.tuple_inj(I:%[|3])(h:SqT X.K H a xs)(h':SqT X.K H a ys):xs=ys:=by
 obtain⟨c,r,⟨o,e,_,n,d⟩,_⟩:=I.tuple h;obtain⟨b,i,⟨k,g,_,j,f⟩,_⟩:=I.tuple h';rw[e]at g;cases g;rw[d]at f;injection f with d1 _;have:c=b:=by simpa using congrArg Array.toList d1
 subst this;exact r.inj i
end
abbrev Cx.wish(X:Cx)(E:ae2):Cx:={X with xe:=E}
abbrev Cx.nox(X:Cx):Cx:=X.wish λ _ _=>False
def Cx.Ok.wish{X:Cx}(ok:X.Ok)(E:ae2):(X.wish E).Ok:=
 %[ok.mod,ok.kind,ok.glob,ok.blt,ok.above,ok.inj,ok.has,ok.cab,ok.hd,ok.frames,ok.stk,ok.exf,ok.bs,ok.bsz,ok.noex,ok.exfs,ok.funs|ok.frf]
def Cx.Ok.unwish{X:Cx}(ok:(X.wish E).Ok):X.Ok:=
 %[ok.mod,ok.kind,ok.glob,ok.blt,ok.above,ok.inj,ok.has,ok.cab,ok.hd,ok.frames,ok.stk,ok.exf,ok.bs,ok.bsz,ok.noex,ok.exfs,ok.funs|ok.frf]
section
variable{X:Cx}{pins:List (Addr × Obj)}{σ:St}{H:Hp}{s:Shared}{E:%[|25]}
def Inv.wish(I:%[|3])(E:ae2):Inv (X.wish E) pins σ H s:=%[I.ok.wish E,I.os,I.bare,I.base,I.loc,I.cell,I.free,I.freeC,I.pin,I.hok|I.len]
def Inv.unwish(I:Inv (X.wish E) pins σ H s):%[|3]:=%[I.ok.unwish,I.os,I.bare,I.base,I.loc,I.cell,I.free,I.freeC,I.pin,I.hok|I.len]
def SP.unwish(h:SP (X.wish E) pins D f s'):SP X pins D f s':=by
 cases f with
 | next=>obtain⟨a,b,I,q⟩:=h;exact%[a,b,I.unwish|q]
 | brk=>obtain⟨a,b,I,q⟩:=h;exact%[a,b,I.unwish|q]
 | cont=>obtain⟨a,b,I,q⟩:=h;exact%[a,b,I.unwish|q]
 | ret u=>obtain⟨v,a,b,I,r,q⟩:=h;exact%[v,a,b,I.unwish,r|q]
def PSs.nox{st}(h:PSs X.nox st t):PSs X st t:=λ a s c H D I b=>
 gl (h a s c H D (I.wish _) b) (λ _ _ q=>q.unwish) λ _ _ z=>False.elim z
end
section
variable{X:Cx}{st:Stmt}{rest:List Stmt}{t u:TS}{e:Expr}{te:TE}{pos:Pos}
def Inv.quiet{σ:St}(I:%[|3]):interactive X.env=false:=by simp[interactive,I.ok.kind]
end
abbrev TG:=V->St->Hp->(St->Hp->Prop)->Prop
def PG(X:Cx)(target:Expr)(t:TG):Prop:=
 ∀ (a:ae6)(s:ae4)(b:St)(H:Hp)(v:V)(u:Value)(Q:St->Hp->Prop),Inv X a b H s->RelV v u->t v b H Q->
   wpAny %[|5] X.A (assign target X.env u) (λ _ c=>NP X a Q c) X.xe s
abbrev adc:=V->V->V->Hp->(Hp->Prop)->Prop
def acQ(X:Cx)(t:adc):Prop:=
 ∀ (a:ae6)(s:ae4)(e:St)(H:Hp)(o i v:V)(d c u:Value)(Q:Hp->Prop),Inv X a e H s->RelV o d->RelV i c->RelV v u->t o i v H Q->
   wpAny %[|5] X.A (setItem d c u) (λ _ f=>∃b,Inv X a e b f/\Q b) X.xe s
abbrev TIp:=V->V->Hp->VK->Prop
def PIp(X:Cx)(op:Operator)(t:TIp):Prop:=
 ∀ (a:ae6)(s:ae4)(b:St)(H:Hp)(x y:V)(v u:Value)(Q:VK),Inv X a b H s->RelV x v->RelV y u->t x y H Q->
   wpAny %[|5] X.A (inplaceOp op v u) (EP X a b Q) X.xe s
section
variable{X:Cx}{pos:Pos}
def ac4(i j:Nat)(ta:TA):TS:=λ D a H=>ta a H λ c b=>∃v w,c=[v,w]/\D.nx ((a.set i (some v)).set j (some w)) b
def aaW{n m d}(P:X.calm=true)(C:X.N.Nodup)(hi:X.N[i]? =some x)(Q:X.N[j]? =some y)(k:i≠j)
 (E:%[|52])(F:X.env.scope.names.lookup y=some .local)(O:PA X [a,b] G)
 (hw:swappedStores [.Tuple [.Name x t,.Name y u] n r] (.Tuple [a,b] m d) X.env=pure (some [x,y]))
 (hs:swapsWithSole [.Tuple [.Name x t,.Name y u] n r] (.Tuple [a,b] m d) pos.line X.env=pure false:=by rfl):
 PS X (.Assign [.Tuple [.Name x t,.Name y u] n r] (.Tuple [a,b] m d) pos) (ac4 i j G):=by
 intro c s J H D I h;rw[exec_Assign_arm];refine b0 (lP ?_);rw[hs];refine b0 (b9 ?_);rw[bP %[|1]];refine b0 (Tuple_ (thn (O _ c s J H _ I h) λ U s1 ⟨vs,H1,I1,r1,z⟩=>?_));obtain⟨v,w,N,z⟩:=z;subst N;obtain⟨f,g,rfl,T,A⟩:∃f g,U=[f,g]/\RelV v f/\RelV w g:=by cases r1 with| cons p q=>cases q with| cons R S=>cases S;exact%[_,_,rfl,p|R]
 refine dQ ?_ (by show 2<=sizeLine;decide);have K:Inv X c J H1 {s1 with heap:=s1.heap.push {cls:=%[|10],data:=.seq [f,g].toArray}}:=I1.kept (t':=s1.toks) λ b o e=>bE _ e;rw[hw];refine b0 (b9 ?_);show wpAny %[|5] X.A (do rule "assign.swapped-stores";let items <-unpackItems (.ref s1.heap.objs.size) 2 none;assignInOrder [λ v=>bindName X.env y v,λ v=>bindName X.env x v] items.reverse;pure Flow.next) _ _ _;refine b0 (k6 (b0 (unpackItems_tuple (items:=#[f,g]) (I.ok.hd P) (IsTup.new s1.heap _) λ h' l=>?_)));have L:=K.kept (h':=h') (t':=s1.toks) λ b o e=>l b o (cm (c8 e)) e;show wpAny _ _ (assignInOrder [λ v=>bindName X.env y v,λ v=>bindName X.env x v] [g,f]>>=λ _=>pure Flow.next) _ _ _;refine b0 (assignInOrder_cons (wpAny_bindName (j4 L C Q (.inl F) A (λ V M=>?_) (.inr F))));refine assignInOrder_cons (wpAny_bindName (j4 M C hi (.inl E) T (λ W B=>assignInOrder_nil (b9 ?_)) (.inr E)));rw[List.set_comm _ _ (kA k)]at B;exact%[_,H1,B|z]
def acL(i:Nat)(te:TE)(ti:TIp):TS:=λ D a H=>∃x,a[i]? =some (some x)/\te a H λ y b=>ti x y b λ z c=>D.nx (a.set i (some z)) c
def Hm(E:X.N.Nodup)(hi:X.N[i]? =some x)(n:Loc X.env.scope x)(G:PE X e q)(N:PIp X op t)(J:X.fn x=true\/%[|52]:=by first | exact .inl rfl | exact .inr rfl | assumption):
 PS X (.AugAssign (.Name x f) op e pos) (acL i q t):=by
 intro a s A H D I h;obtain⟨v,C,h⟩:=h;obtain⟨m,M,K⟩:=I.loc;have o:Vis X.env.scope x:=by rcases n with k | k;exact .inl k;exact .inr (.inl k)
 obtain⟨u,r,l⟩:=K i x v hi C o;refine wpAny_AugAssign_Name ?_;have p:wpAny %[|5] X.A (eval e X.env) (λ w g=>wpAny %[|5] X.A (inplaceOp op u w) (λ r j=>wpAny %[|5] X.A (storeName X.env x r) (λ _=>SP X a D .next) X.xe j) X.xe g) X.xe s:=by refine thn (G a s A H _ I h) λ w O ⟨y,H1,I1,r1,q1⟩=>?_;refine thn (N a O A H1 v y u w _ I1 r r1 q1) λ z P ⟨zv,H2,I2,r2,q2⟩=>?_;exact j4 I2 E hi n r2 (λ Q B=>%[_,H2,B|q2]) J
 rcases l with⟨b,L⟩ | ⟨b,c,F,d⟩;{exact nL I.ok.kind b M L p};{rcases b with b | b;{exact wpAny_loadName_cell I.ok.kind b F d p};{rcases n with k | k;{have:X.env.scope.names.lookup x=some .free:=b;rw[k]at this;cases this};{have:X.env.scope.names.lookup x=some .free:=b;rw[k]at this;cases this}}}
end
structure It where
 go:Nat->Hp->Prop
 yld:Nat->Hp->V->Hp->Prop
 stop:Nat->Hp->Prop
def iz(X:Cx)(pins:ae6)(H:Hp)(b:Addr):Prop:=
 H b=none/\b≠X.env.locals/\b∉X.fs/\(b∈X.ex\/X.s₀.heap.objs.size<=b)/\(∀x c,%[|34]->c≠b)/\∀p∈X.pn++pins,p.1≠b
def Inv.fpOk{σ:St}{b:Addr}(I:%[|3])(a:s.heap.objs.size<=b)(f:d b=none):iz X pins d b:=by refine%[f,g7 (v3 I.lt a),I.nofs a,.inr (cK I.sz a),λ x c e z=>?_|λ p g z=>?_];{obtain⟨v,q⟩:=I.cell x c e;exact absurd (v3 q.lt (by rw[z];exact a)) (hY _)};{exact absurd (v3 (c8 (I.pin p g).1) (by rw[z];exact a)) (hY _)}
structure Turn(P:af4)(w:World)(K:ae1)(tg:Expr)(J:It)(fp:ag3)(it:Addr)(tn:Nat->Heap->Prop):Prop where
 mem:it∈fp
 obj:∀i h,tn i h->∀b∈fp,∃o,h.get? b=some o/\∀v,o.data≠.cell v
 keep:∀i h h',tn i h->(∀b∈fp,∀o,h.get? b=some o->h'.get? b=some o)->tn i h'
 item:∀(X:Cx),X.prog=P->X.w=w->X.K=K->X.calm=true->∀(i:Nat)(pins:ae6)(s:ae4)(σ:St)(H:Hp)(E:ae2),%[|3]->(∀b∈fp,iz X pins H b)->tn i s.heap->J.go i H->
  wpAny (model P w) X.A (pyNext (.ref it)) (λ r s1=>∃u,r=some u/\
   wpAny (model P w) X.A (letOwnedTupleGo tg (.ref it) u) (λ _ s2=>∃x H',Inv X pins σ H' s2/\RelV x u/\J.yld i H x H'/\tn (i+1) s2.heap/\∀b∈fp,H' b=none) E s1) E s
 done:∀(X:Cx),X.prog=P->X.w=w->X.K=K->X.calm=true->∀(i:Nat)(pins:ae6)(s:ae4)(σ:St)(H:Hp)(E:ae2),%[|3]->(∀b∈fp,iz X pins H b)->tn i s.heap->J.stop i H->
  wpAny (model P w) X.A (pyNext (.ref it)) (λ r s1=>r=none/\Inv X pins σ H s1) E s
 self:∀(A:ag1)(i:Nat)(s:ae4)(Q:ae2)(E:ae2),tn i s.heap->Q (.ref it) s->wpAny (model P w) A (pyIter (.ref it)) Q E s
abbrev TI:=St->Hp->(It->Hp->Prop)->Prop
def PIE(X:Cx)(pins:ae6)(σ:St)(tg:Expr)(R:It->Hp->Prop)(itv:Value)(s2:ae4):Prop:=
 ∃(d:Addr) (c:ag3) (e:Nat->Heap->Prop) (J:It) (a:Hp),itv=.ref d/\Inv X pins σ a s2/\Turn X.prog X.w X.K tg J c d e/\e 0 s2.heap/\(∀b∈c,iz X pins a b)/\R J a
def PI(X:Cx)(tg iter:Expr)(wi:TI):Prop:=
 ∀ (a:ae6)(s:ae4)(b:St)(H:Hp)(R:It->Hp->Prop),Inv X a b H s->wi b H R->
   wpAny %[|5] X.A (eval iter X.env) (λ v c=>wpAny %[|5] X.A (pyIter v) (PIE X a b tg R) X.xe c) X.xe s
def Nk(f:%[|37])(c:o.cls=.type n)(d:o.data=.fields vs)
 (e:["enumerate","zip","dict_itemiterator","dict_reverseitemiterator","odict_iterator","itertools.zip_longest","itertools.pairwise"].contains n=false)(a:Q () s):wpAny M A (letOwnedTupleGo tg (.ref b) u) Q E s:=by
 unfold letOwnedTupleGo;cases tg<;>first
  | exact b9 a
  | (cases u<;>first
   | exact b9 a
   | (refine b0 (wpAny_load f ?_);rw[c,d];show wpAny M A (if(["enumerate","zip","dict_itemiterator","dict_reverseitemiterator","odict_iterator","itertools.zip_longest","itertools.pairwise"].contains n&&vs[0]? ==some (rawInt _))=true then _ else _) Q E s;rw[bP (by intro h;rw[e,Bool.false_and]at h;cases h)];exact b9 a))
def Itl(K:ae1)(a:Addr):It:=
 %[λ i H=>∃b x,SqL K H a b/\b[i]? =some x,λ i H x c=>c=H/\∀b,SqL K H a b->b[i]? =some x|λ i H=>∃b,SqL K H a b/\b.length<=i]
def Itt(K:ae1)(a:Addr):It:=
 %[λ i H=>∃b x,SqT K H a b/\b[i]? =some x,λ i H x c=>c=H/\∀b,SqT K H a b->b[i]? =some x|λ i H=>∃b,SqT K H a b/\b.length<=i]
def Itr(lo:Int)(n:Nat):It:=%[λ i _=>i<n,λ i H x a=>a=H/\x=.int (lo+i)|λ i _=>n<=i]
theorem qY(a l:Addr):Turn P w K tg (Itl K a) [l] l (λ i h=>h.IsListIter l a i) where
 mem:=by simp
 obj:=λ i h f b j=>by
  have e:b=l:=by simpa using j
  subst e;obtain⟨o,e,c,d⟩:=f;exact%[o,e|λ v z=>by rw[d]at z;cases z]
 keep:=λ i h n f k=>f.at λ o e=>k l (by simp) o e
 item:=by intro X F J D O i g s Q H E I q f G;subst F J D;obtain⟨Z,x,r,L⟩:=G;obtain⟨M,N,p,W⟩:=I.list r;obtain⟨u,U,Y⟩:=N.get L;obtain⟨t,y,T,A,B,C⟩:=q l (by simp);refine wpAny_pyNext_list_item f p.isList (x:=u) (by simpa using U) λ n m sb=>?_;have R:Inv X g Q H {s with heap:=n}:=I.turned (t':=s.toks) (λ b o j e=>(sb.2 b j).trans e) t y A B C;obtain⟨o,e,c,d⟩:=id m;exact%[u,rfl|Nk (s:={s with heap:=n}) e c d %[|1] %[x,H,R,Y,%[rfl|λ ys V=>by rw[I.list_inj V r];exact L],m|λ b j=>(q b j).1]]
 done:=by intro X F J D O i g s Q H E I q f G;subst F J D;obtain⟨Z,r,L⟩:=G;obtain⟨M,N,p,W⟩:=I.list r;obtain⟨t,y,T,A,B,C⟩:=q l (by simp);have hl:=N.length;exact wpAny_pyNext_list_end (I.ok.hd O) f p.isList %[|14] λ n S=>%[rfl|I.turned (t':=s.toks) (λ b o j e=>S b o j e) t y A B C]
 self:=λ _ _ _ _ _ f h=>wpAny_pyIter_listiter f h
theorem wg(a l:Addr):Turn P w K tg (Itt K a) [l] l (λ i h=>h.IsTupleIter l a i) where
 mem:=by simp
 obj:=λ i h f b j=>by
  have e:b=l:=by simpa using j
  subst e;obtain⟨o,e,c,d⟩:=f;exact%[o,e|λ v z=>by rw[d]at z;cases z]
 keep:=λ i h q f k=>f.at λ o e=>k l (by simp) o e
 item:=by intro X G L F O i g s Q H E I r f J;subst G L F;obtain⟨Z,x,t,M⟩:=J;obtain⟨m,N,p,W⟩:=I.tuple t;obtain⟨u,U,Y⟩:=N.get M;obtain⟨y,A,T,B,C,D⟩:=r l (by simp);refine wpAny_pyNext_tuple_item f (show s.heap.IsTuple a m.toArray from p) (x:=u) (by simpa using U) λ q n sb=>?_;have R:Inv X g Q H {s with heap:=q}:=I.turned (t':=s.toks) (λ b o j e=>(sb.2 b j).trans e) y A B C D;obtain⟨o,e,c,d⟩:=id n;exact%[u,rfl|Nk (s:={s with heap:=q}) e c d %[|1] %[x,H,R,Y,%[rfl|λ ys V=>by rw[I.tuple_inj V t];exact M],n|λ b j=>(r b j).1]]
 done:=by intro X G L F O i g s Q H E I r f J;subst G L F;obtain⟨Z,t,M⟩:=J;obtain⟨m,N,p,W⟩:=I.tuple t;obtain⟨y,A,T,B,C,D⟩:=r l (by simp);have hl:=N.length;exact wpAny_pyNext_tuple_end (I.ok.hd O) f (show s.heap.IsTuple a m.toArray from p) %[|14] λ q S=>%[rfl|I.turned (t':=s.toks) (λ b o j e=>S b o j e) y A B C D]
 self:=λ _ _ _ _ _ f h=>wpAny_pyIter_tupleiter f h
theorem NK(c:Addr)(lo:Int)(n:Nat):Turn P w K tg (Itr lo n) [c] c (λ i h=>IsRangeIter h c (lo+(i:Nat)*1) ((n:Int)-(i:Nat)) 1) where
 mem:=by simp
 obj:=λ i h a b f=>by
  have e:b=c:=by simpa using f
  subst e;exact%[_,a|λ v z=>by have O:Data.fields _=Data.cell v:=z;cases O]
 keep:=λ i h j a k=>k c (by simp) _ a
 item:=by intro X y C x A i d s F H E I l a B;subst y C x;obtain⟨m,p,L,q,r,u⟩:=l c (by simp);have W:=Walks.range (prog:=X.prog) (w:=X.w) (I.ok.hd A) c lo 1 n;refine W.item i s _ _ B a λ v j D M g N=>?_;obtain⟨t,rfl⟩:=M;have G:Inv X d F H {s with heap:=j,toks:=D}:=I.turned (λ b o f e=>N b o (by simpa using f) e) m p q r u;refine%[_,rfl|Nk (s:={s with heap:=j,toks:=D}) (n:="range_iterator") g rfl rfl %[|1] %[.int (lo+i),H,G,%[t|?_],%[rfl|rfl],g|λ b f=>(l b f).1]];rw[Int.mul_one]
 done:=by intro X y C x A i d s F H E I l a B;subst y C x;obtain⟨m,p,L,q,r,u⟩:=l c (by simp);exact wpAny_pyNext_range_end (I.ok.hd A) a (by have:n<=i:=B;omega) λ j J=>%[rfl|I.turned (t':=s.toks) (λ b o f e=>J b o f e) m p q r u]
 self:=λ _ _ _ _ _ a h=>wpAny_pyIter_rangeiter a h
end L2
namespace L2
open PySem PySem.Spec PyProof.Rows
section
variable{X:Cx}{tg:Expr}
def FW{σ:St}{lo hi}(I:%[|3])(h1: -(2 ^ 62)<=lo)(h2:lo<2 ^ 62)(f: -(2 ^ 62)<=hi)(g:hi<2 ^ 62)
 (q:R (Itr lo (hi-lo).toNat) H):wpAny %[|5] X.A (pyIter %[|11]) (PIE X pins σ tg R) E {s with heap:=s.heap.push {cls:=.type "range",data:=.fields #[.int lo t,.int hi u,.int 1 v]},toks:=tk}:=by
 refine wpAny_pyIter_range (IsRange.new ..) (small_one h1 h2 f g) ?_;have a:Inv X pins σ H {s with heap:=s.heap.push {cls:=.type "range",data:=.fields #[.int lo t,.int hi u,.int 1 v]},toks:=tk}:=I.kept λ b o e=>bE _ e;refine%[(s.heap.push {cls:=.type "range",data:=.fields #[.int lo t,.int hi u,.int 1 v]}).objs.size,[(s.heap.push {cls:=.type "range",data:=.fields #[.int lo t,.int hi u,.int 1 v]}).objs.size],_,_,H,rfl,
  a.kept (t':=tk) λ b o e=>bE _ e,NK _ lo (hi-lo).toNat,?_,λ b h=>?_|q]
 . have c:lo+((0:Nat):Int)*1=lo:=by simp
   have d:(((hi-lo).toNat:Nat):Int)-((0:Nat):Int)=Builtin.Range.rangeSize lo hi 1:=by rw[rangeSize_one];split<;>omega
   show IsRangeIter _ _ (lo+((0:Nat):Int)*1) ((((hi-lo).toNat:Nat):Int)-((0:Nat):Int)) 1;rw[c,d];exact c9 _ rfl
 . have e:b=(s.heap.push {cls:=.type "range",data:=.fields #[.int lo t,.int hi u,.int 1 v]}).objs.size:=by simpa using h
   subst e;exact a.fpOk (y9 _) (a.hok.fresh (y9 _))
def ab3(ta:TA):TI:=λ c H R=>ta c H λ b a=>∃j:Int,b=[.int j]/\ -(2 ^ 62)<=j/\j<2 ^ 62/\R (Itr 0 j.toNat) a
def aci(ta:TA):TI:=λ c H R=>ta c H λ b a=>∃i j:Int,b=[.int i,.int j]/\(-(2 ^ 62)<=i/\i<2 ^ 62/\ -(2 ^ 62)<=j/\j<2 ^ 62)/\R (Itr i (j-i).toNat) a
def RZ(i:Gl X "range")(k:X.mg "range"=none)(g:PA X [a] f)(hs:starEach [a] X.env=[(false,eval a X.env)]:=by rfl):PI X tg (.Call (.Name "range" p) [a] [] c) (ab3 f):=by intro b s n H R I h;refine Call_ (cj I i k boot_range (dV (thn (g c b s n H _ I h) λ u o ⟨vs,H1,I1,r1,d⟩=>?_) hs rfl));obtain⟨j,e,d,l,q⟩:=d;subst e;cases r1 with| cons r m=>cases m;obtain⟨t,rfl⟩:=r;exact call_range_1 (FW I1 %[|0] %[|0] d l (by simpa using q))
def Pu{p f}(n:Gl X "range")(o:X.mg "range"=none)(m:PA X [a,b] l)(hs:starEach [a,b] X.env=[(false,eval a X.env),(false,eval b X.env)]:=by rfl)(c:starEach [b] X.env=[(false,eval b X.env)]:=by rfl):
 PI X tg (.Call (.Name "range" p) [a,b] [] f) (aci l):=by intro d s y H R I h;refine Call_ (cj I n o boot_range (dV (thn (m f d s y H _ I h) λ B z ⟨vs,H1,I1,r1,g⟩=>?_) (by rw[hs,c]) (by rw[c];rfl)));obtain⟨i,j,e,⟨g,u,v,w⟩,q⟩:=g;subst e;cases r1 with| cons r k=>cases k with| cons x k=>cases k;obtain⟨t,rfl⟩:=r;obtain⟨A,rfl⟩:=x;exact call_range_2 (FW I1 g u v w q)
def acS(wi:TI)(g:TG)(tb:TS):TS:=λ D a H=>wi a H λ J f=>∃W:Nat->Nat->St->Hp->Prop,(∃m,W 0 m a f)/\∀i m a H,W i m a H->
 (J.stop i H/\D.nx a H)\/(J.go i H/\∃N:St->Hp->Prop,(∀c b,N c b->∃e,e<m/\W (i+1) e c b)/\∀x b,J.yld i H x b->g x a b λ d h=>tb {D with nx:=N,ct:=N,bk:=D.nx} d h)
def qL(fp:ag3)(h:Heap):List (Addr×Obj):=fp.filterMap λ b=>(h.get? b).map λ o=>(b,o)
def ju(c:b∈a)(e:h.get? b=some o):(b,o)∈qL a h:=kH.mpr %[b,c|by rw[e];rfl]
def Rf(f:p∈qL a h):p.1∈a/\h.get? p.1=some p.2:=by
 obtain⟨b,d,e⟩:=kH.mp f
 cases q:h.get? b with
 | none=>rw[q]at e;cases e
 | some o=>rw[q]at e;have c:(b,o)=p:=cc e;subst c;exact%[d|q]
def Inv.pinned{σ:St}(I:%[|3])(j:∀b∈a,iz X pins H b)(k:∀b∈a,∃o,%[|37]/\∀v,o.data≠.cell v):Inv X (pins++qL a s.heap) σ H s:=
 I.pins_of λ p l=>(cq.mp l).elim (λ z=>I.pin p (eD _ z)) λ z=>by obtain⟨f,e⟩:=Rf z;obtain⟨g,h,i,_⟩:=j p.1 f;obtain⟨o,c,d⟩:=k p.1 f;rw[e]at c;cases c;exact%[e,g,h,i|d]
def Inv.unpinned{σ:St}(I:Inv X (pins++pl) σ H s):%[|3]:=I.pins_of λ p a=>I.pin p (eD _ (fb _ a))
def RD(E:PassesOwn %[|5] X.A X.env X.xe)(Y:X.calm=true)(hi:PI X tg iter wi)(hg:PG X tg g)(p:PSs X z tb)
 (hs:∀x,foldedSetIterable iter X.env x=pure x:=by intro _;rfl):PS X (.For tg iter z [] Q) (acS wi g tb):=by
 intro a s σ H D I h;refine wpAny_For (thn (hi a s σ H _ I h) λ v s1 h1=>thn h1 λ aa s2 h2=>?_) hs;obtain⟨it,B,tn,J,H2,e,I2,T,S,V,W,⟨m0,w0⟩,M⟩:=h2;subst e;have q:∀{y:Hp},(∀b∈B,y b=none)->∀b∈B,iz X a y b:=λ hn b p=>%[hn b p|(V b p).2];refine codeAny_forLoop_any (λ n Z=>∃i t y,Inv X a t y Z/\tn i Z.heap/\(∀b∈B,y b=none)/\W i n t y) ?_ m0 %[0,σ,H2,I2,S,λ b p=>(V b p).1|w0];rintro n s3 ⟨i,w,O,U,G,C,w3⟩;rcases M i n w O w3 with⟨L,qn⟩ | ⟨go,N,hN,K⟩;{refine k9 E (thn (T.done X rfl rfl rfl Y i a s3 w O X.xe U (q C) G L) λ r s4 ⟨hr,I4⟩=>?_);subst hr;exact wpAny_execs_nil %[w,O,I4|qn]}
 . refine k9 E (thn (T.item X rfl rfl rfl Y i a s3 w O X.xe U (q C) G go) λ r s4 ⟨u,hr,h4⟩=>?_);subst hr;refine k9 E (thn h4 λ _ s5 ⟨x,H5,I5,r5,y5,st5,fr5⟩=>?_);have P:=I5.pinned (q fr5) (T.obj _ _ st5);refine k9 E (thn (hg _ s5 w H5 x u _ P r5 (K x H5 y5)) λ _ s6 ⟨σ6,H6,I6,q6⟩=>?_);refine k9 E (thn (p _ s6 σ6 H6 _ I6 q6) λ f R A=>?_);have l:∀{c:St}{j:Hp},Inv X (a++qL B s5.heap) c j R->N c j->∃m,m<n/\∃i t y,Inv X a t y R/\tn i R.heap/\(∀b∈B,y b=none)/\W i m t y:=λ{c j} k F=>by obtain⟨m',hm,w7⟩:=hN c j F;refine%[m',hm,i+1,c,j,k.unpinned,T.keep _ _ _ st5 λ b p o e=>(k.pin (b,o) (eD _ (eD _ (ju p e)))).1,λ b p=>?_|w7];obtain⟨o,e,d⟩:=T.obj _ _ st5 b p;exact(k.pin (b,o) (eD _ (eD _ (ju p e)))).2.1
   cases f with
   | next=>obtain⟨c,j,k,F⟩:=A;exact l k F
   | cont=>obtain⟨c,j,k,F⟩:=A;exact l k F
   | brk=>obtain⟨c,j,k,A⟩:=A;exact%[c,j,k.unpinned|A]
   | ret v=>obtain⟨x7,c,j,k,r7,A⟩:=A;exact%[x7,c,j,k.unpinned,r7|A]
end
abbrev R2:=V->V->Hp->VK->Prop
def OpR(X:Cx)(f:Value->Value->Sem Value)(r:R2):Prop:=
 ∀ (a:ae6)(s:ae4)(b:St)(H:Hp)(x y:V)(v u:Value)(Q:VK),Inv X a b H s->RelV x v->RelV y u->r x y H Q->
   wpAny %[|5] X.A (f v u) (EP X a b Q) X.xe s
def UnR(X:Cx)(f:Value->Sem Value)(r:V->Hp->VK->Prop):Prop:=
 ∀ (a:ae6)(s:ae4)(b:St)(H:Hp)(x:V)(v:Value)(Q:VK),Inv X a b H s->RelV x v->r x H Q->
   wpAny %[|5] X.A (f v) (EP X a b Q) X.xe s
def jy(X:Cx)(f:Value)(r:List V->Hp->VK->Prop):Prop:=
 ∀ (a:ae6)(s:ae4)(d:St)(H:Hp)(c:List V)(b:ae5)(Q:VK),Inv X a d H s->Vals c b->r c H Q->
   wpAny %[|5] X.A (call f b) (EP X a d Q) X.xe s
def rI(C:Int->Int->Prop)(g:Int->Int->V):R2:=λ x y H Q=>∃i j,x=.int i/\y=.int j/\C i j/\Q (g i j) H
def rI0(g:Int->Int->V):R2:=λ x y H Q=>∃i j,x=.int i/\y=.int j/\Q (g i j) H
def rU(g:Int->V):V->Hp->VK->Prop:=λ x H Q=>∃i,x=.int i/\Q (g i) H
section
variable{X:Cx}{a b c:Expr}{ta tb tc:TE}{pos:Pos}
def opI{g:Int->Int->Int}
 (a:∀(i j:Int)(t u:Tok)(s:ae4)(Q:ae2)(E:ae2),C i j->Q (.int (g i j) s.toks) {s with toks:=s.toks+1}->wpAny %[|5] X.A (f (.int i t) (.int j u)) Q E s):
 OpR X f (rI C λ i j=>.int (g i j)):=by intro b s l H x y v u Q I d e h;obtain⟨i,j,rfl,rfl,c,q⟩:=h;obtain⟨t,rfl⟩:=d;obtain⟨k,rfl⟩:=e;exact a i j t k s _ _ c %[.int (g i j),H,I.tok _,%[_|rfl]|q]
def NT{g:Int->Int->Int}
 (a:∀(i j:Int)(t u:Tok)(s:ae4)(Q:ae2)(E:ae2),Q (.int (g i j) s.toks) {s with toks:=s.toks+1}->wpAny %[|5] X.A (f (.int i t) (.int j u)) Q E s):
 OpR X f (rI0 λ i j=>.int (g i j)):=by intro b s k H x y v u Q I c d h;obtain⟨i,j,rfl,rfl,q⟩:=h;obtain⟨t,rfl⟩:=c;obtain⟨e,rfl⟩:=d;exact a i j t e s _ _ %[.int (g i j),H,I.tok _,%[_|rfl]|q]
def Np{g:Int->Int->Bool}
 (a:∀(i j:Int)(t u:Tok)(s:ae4)(Q:ae2)(E:ae2),Q (.bool (g i j)) s->wpAny %[|5] X.A (f (.int i t) (.int j u)) Q E s):
 OpR X f (rI0 λ i j=>.bl (g i j)):=by intro b s k H x y v u Q I c d h;obtain⟨i,j,rfl,rfl,q⟩:=h;obtain⟨t,rfl⟩:=c;obtain⟨e,rfl⟩:=d;exact a i j t e s _ _ %[.bl (g i j),H,I,rfl|q]
def acN(i j:Int):Prop:=0<j/\j<1073741824
def CPow(i j:Int):Prop:=0<=j/\j<=1000000/\i.natAbs<2 ^ 64
def CMul(i j:Int):Prop:=(-(2 ^ 64)<i/\i<2 ^ 64)\/(-(2 ^ 64)<j/\j<2 ^ 64)
def CMul.ok(h:CMul i j):IntMulOk i j:=by rcases h with⟨a,b⟩ | ⟨a,b⟩;{exact .of_left (intBits_le_64 a b)};{exact .of_right (intBits_le_64 a b)}
def aak:OpR X (binaryOp .Add) (rI0 λ i j=>.int (i+j)):=NT λ _ _ _ _ _ _ _ q=>add_int q
def ZQ:OpR X (binaryOp .Sub) (rI0 λ i j=>.int (i-j)):=NT λ _ _ _ _ _ _ _ q=>sub_int q
def abp:OpR X (binaryOp .Mult) (rI CMul λ i j=>.int (i*j)):=opI λ _ _ _ _ _ _ _ a q=>mul_int q a.ok
def Xu:OpR X (binaryOp .FloorDiv) (rI acN λ i j=>.int (i/j)):=opI λ i j _ _ _ _ _ hc q=>by have a:(0:Int)<j:=hc.1;have b:j<1073741824:=hc.2;exact floordiv_int %[|0] (by rw[Int.fdiv_eq_ediv_of_nonneg i %[|0]];exact q) (.inl (PyProof.noPylong_small %[|0]))
def aaT:OpR X (binaryOp .Mod) (rI (λ _ j=>0<j) λ i j=>.int (i % j)):=opI λ i j _ _ _ _ _ a q=>by have b:(0:Int)<j:=a;exact mod_int' %[|0] (by rw[Int.fmod_eq_emod_of_nonneg i %[|0]];exact q)
def aaM:OpR X (binaryOp .Pow) (rI CPow λ i j=>.int (i ^ j.toNat)):=opI λ _ _ _ _ _ _ _ hc q=>pow_int_small hc.1 hc.2.1 hc.2.2 q
def Yt:OpR X (inplaceOp .Add) (rI0 λ i j=>.int (i+j)):=NT λ _ _ _ _ _ _ _ q=>iadd_int q
def Y5:OpR X (inplaceOp .Sub) (rI0 λ i j=>.int (i-j)):=NT λ _ _ _ _ _ _ _ q=>isub_int q
def Yd:OpR X (inplaceOp .Mult) (rI CMul λ i j=>.int (i*j)):=opI λ _ _ _ _ _ _ _ a q=>imul_int q a.ok
def unI{g:Int->Int}
 (a:∀(i:Int)(t:Tok)(s:ae4)(Q:ae2)(E:ae2),Q (.int (g i) s.toks) {s with toks:=s.toks+1}->wpAny %[|5] X.A (f (.int i t)) Q E s):
 UnR X f (rU λ i=>.int (g i)):=by intro b s d H x v Q I c h;obtain⟨i,rfl,q⟩:=h;obtain⟨t,rfl⟩:=c;exact a i t s _ _ %[.int (g i),H,I.tok _,%[_|rfl]|q]
def Zw:UnR X (unaryOp .USub) (rU λ i=>.int (-i)):=unI λ _ _ _ _ _ q=>neg_int q
end
def aav:V->V->Bool
 | .non,.non=>true | .non,.int _=>true | .int _,.non=>true | .non,.bl _=>true | .bl _,.non=>true | .non,.str _=>true | .str _,.non=>true
 | .int _,.int _=>true | .bl _,.bl _=>true | .str _,.str _=>true | .byt _,.byt _=>true
 | .int _,.str _=>true | .str _,.int _=>true | .bl _,.str _=>true | .str _,.bl _=>true
 | _,_=>false
def rEq:R2:=λ x y H Q=>aav x y=true/\Q (.bl (decide (x=y))) H
def rNe:R2:=λ x y H Q=>aav x y=true/\Q (.bl (!decide (x=y))) H
def sO:decide (V.int i=V.int j)=(i==j):=by rw[gg];simp
def wY:decide (V.bl i=V.bl j)=(i==j):=by rw[gg];simp
def Lk:decide (V.str i=V.str j)=(i==j):=by rw[gg];simp
def Lh:decide (V.byt i=V.byt j)=(i.toList==j.toList):=by rw[gg];cases i;cases j;simp
section
variable{X:Cx}{a b c:Expr}{ta tb tc:TE}{pos:Pos}
def aU{σ:St}{k a}(I:%[|3])(q:Q (.bl k) H)(e:k=a):EP X pins σ Q (.bool a) s:=by subst e;exact%[.bl k,H,I,rfl|q]
def WQ:OpR X (compareOp .Eq) rEq:=by
 intro e s f H x y v u Q I d a h;obtain⟨c,q⟩:=h
 cases x with
 | non=>
   cases d
   cases y with
   | non=>cases a;exact PySem.EqNone.eq_none_none %[|30]
   | bl j=>cases a;exact PySem.EqNone.eq_none_bool %[|30]
   | int j=>obtain⟨b,rfl⟩:=a;exact PySem.EqNone.eq_none_int %[|30]
   | str j=>obtain⟨b,rfl⟩:=a;exact PySem.EqNone.eq_none_str %[|30]
   | _=>exact %[|49]
 | bl i=>
   cases d
   cases y with
   | non=>cases a;exact PySem.EqNone.eq_bool_none %[|30]
   | bl j=>cases a;exact eq_bool (aU I q wY)
   | str j=>obtain⟨b,rfl⟩:=a;exact PySem.EqMixed.eq_bool_str %[|30]
   | _=>exact %[|49]
 | int i=>
   obtain⟨t,rfl⟩:=d
   cases y with
   | non=>cases a;exact PySem.EqNone.eq_int_none %[|30]
   | int j=>obtain⟨b,rfl⟩:=a;exact eq_int (aU I q sO)
   | str j=>obtain⟨b,rfl⟩:=a;exact PySem.EqMixed.eq_int_str %[|30]
   | _=>exact %[|49]
 | str i=>
   obtain⟨t,rfl⟩:=d
   cases y with
   | non=>cases a;exact PySem.EqNone.eq_str_none %[|30]
   | bl j=>cases a;exact PySem.EqMixed.eq_str_bool %[|30]
   | int j=>obtain⟨b,rfl⟩:=a;exact PySem.EqMixed.eq_str_int %[|30]
   | str j=>obtain⟨b,rfl⟩:=a;exact eq_str (aU I q Lk)
   | _=>exact %[|49]
 | byt i=>
   obtain⟨t,rfl⟩:=d
   cases y with
   | byt j=>obtain⟨b,rfl⟩:=a;exact PySem.W.eq_bytes (aU I q Lh)
   | _=>exact %[|49]
 | _=>cases y<;>exact %[|49]
def WL:OpR X (compareOp .NotEq) rNe:=by
 intro e s f H x y v u Q I d a h;obtain⟨c,q⟩:=h
 cases x with
 | non=>
   cases d
   cases y with
   | non=>cases a;exact PySem.EqNone.ne_none_none %[|30]
   | bl j=>cases a;exact PySem.EqNone.ne_none_bool %[|30]
   | int j=>obtain⟨b,rfl⟩:=a;exact PySem.EqNone.ne_none_int %[|30]
   | str j=>obtain⟨b,rfl⟩:=a;exact PySem.EqNone.ne_none_str %[|30]
   | _=>exact %[|49]
 | bl i=>
   cases d
   cases y with
   | non=>cases a;exact PySem.EqNone.ne_bool_none %[|30]
   | bl j=>cases a;exact ne_bool (aU I q (ei not wY))
   | str j=>obtain⟨b,rfl⟩:=a;exact PySem.EqMixed.ne_bool_str %[|30]
   | _=>exact %[|49]
 | int i=>
   obtain⟨t,rfl⟩:=d
   cases y with
   | non=>cases a;exact PySem.EqNone.ne_int_none %[|30]
   | int j=>obtain⟨b,rfl⟩:=a;exact ne_int (aU I q (ei not sO))
   | str j=>obtain⟨b,rfl⟩:=a;exact PySem.EqMixed.ne_int_str %[|30]
   | _=>exact %[|49]
 | str i=>
   obtain⟨t,rfl⟩:=d
   cases y with
   | non=>cases a;exact PySem.EqNone.ne_str_none %[|30]
   | bl j=>cases a;exact PySem.EqMixed.ne_str_bool %[|30]
   | int j=>obtain⟨b,rfl⟩:=a;exact PySem.EqMixed.ne_str_int %[|30]
   | str j=>obtain⟨b,rfl⟩:=a;exact ne_str (aU I q (ei not Lk))
   | _=>exact %[|49]
 | byt i=>
   obtain⟨t,rfl⟩:=d
   cases y with
   | byt j=>obtain⟨b,rfl⟩:=a;exact PySem.W.ne_bytes (aU I q (ei not Lh))
   | _=>exact %[|49]
 | _=>cases y<;>exact %[|49]
def acf:OpR X (compareOp .Lt) (rI0 λ i j=>.bl (decide (i<j))):=Np λ _ _ _ _ _ _ _ q=>lt_int q
def acF:OpR X (compareOp .LtE) (rI0 λ i j=>.bl (decide (i<=j))):=Np λ _ _ _ _ _ _ _ q=>le_int q
def acs:OpR X (compareOp .Gt) (rI0 λ i j=>.bl (decide (j<i))):=Np λ _ _ _ _ _ _ _ q=>gt_int q
def acz:OpR X (compareOp .GtE) (rI0 λ i j=>.bl (decide (j<=i))):=Np λ _ _ _ _ _ _ _ q=>ge_int q
def aaS:OpR X (compareOp .Is) (λ x y H Q=>y=.non/\Q (.bl (decide (x=.non))) H):=by
 intro a s d H x y v u Q I b c h;obtain⟨rfl,q⟩:=h;cases c;refine is_none_gen (aU I q ?_);cases x<;>first
  | (cases b;rfl)
  | (obtain⟨t,rfl⟩:=b;rfl)
def YT:OpR X (compareOp .IsNot) (λ x y H Q=>y=.non/\Q (.bl (!decide (x=.non))) H):=by
 intro a s d H x y v u Q I b c h;obtain⟨rfl,q⟩:=h;cases c;refine isnot_none_gen (aU I q ?_);cases x<;>first
  | (cases b;rfl)
  | (obtain⟨t,rfl⟩:=b;rfl)
def wM:(sizeLine:Nat)<2 ^ 63:=by rw[ib];decide
def vals1{a}(r:Vals [x] a):∃u,a=[u]/\RelV x u:=by cases r with| cons b c=>cases c;exact%[_,rfl|b]
def vals2{a}(r:Vals [x,y] a):∃u w',a=[u,w']/\RelV x u/\RelV y w':=by cases r with| cons b c=>cases c with| cons d e=>cases e;exact%[_,_,rfl,b|d]
def Tc:jy X (.builtin "abs") (λ xs H Q=>∃i,xs=[.int i]/\Q (.int (if i<0 then-i else i)) H):=by intro a s d H xs c Q I r h;obtain⟨i,rfl,q⟩:=h;obtain⟨u,rfl,t,rfl⟩:=vals1 r;exact call_abs_int λ u b=>%[.int (if i<0 then-i else i),H,I.tok _,%[_|rfl]|q]
def Pq(c:X.calm=true):jy X (.builtin "max") (λ xs H Q=>∃i j,xs=[.int i,.int j]/\Q (.int (if j>i then j else i)) H):=by intro b s m H xs g Q I r h;obtain⟨i,j,rfl,q⟩:=h;obtain⟨u,l,rfl,⟨t,rfl⟩,⟨e,rfl⟩⟩:=vals2 r;refine max_two_ints (I.ok.hd c) λ d f k=>%[_,H,I.kept k,?_|q];by_cases a:j>i;{rw[ca a,ca a];exact%[_|rfl]};{rw[bP a,bP a];exact%[_|rfl]}
def QQ(c:X.calm=true):jy X (.builtin "min") (λ xs H Q=>∃i j,xs=[.int i,.int j]/\Q (.int (if j<i then j else i)) H):=by intro b s m H xs g Q I r h;obtain⟨i,j,rfl,q⟩:=h;obtain⟨u,l,rfl,⟨t,rfl⟩,⟨e,rfl⟩⟩:=vals2 r;refine min_two_ints (I.ok.hd c) λ d f k=>%[_,H,I.kept k,?_|q];by_cases a:j<i;{rw[ca a,ca a];exact%[_|rfl]};{rw[bP a,bP a];exact%[_|rfl]}
def zR:jy X (.type "int") (λ xs H Q=>(∃i,xs=[.int i]/\Q (.int i) H)\/∃k,xs=[.bl k]/\Q (.int (if k then 1 else 0)) H):=by intro a s d H xs c Q I r h;rcases h with⟨i,rfl,q⟩ | ⟨k,rfl,q⟩;{obtain⟨u,rfl,t,rfl⟩:=vals1 r;exact call_int_int %[.int i,H,I,%[_|rfl]|q]};{obtain⟨u,rfl,b⟩:=vals1 r;cases b;exact call_int_bool %[.int (if k then 1 else 0),H,I.tok _,%[_|rfl]|q]}
end
def adL(r:lQ (some v) o):∃u,o=some u/\RelV v u:=by
 cases o with
 | none=>exact(show False from r).elim
 | some u=>exact%[u,rfl|r]
structure Room(k:Nat)(A:ag1):Prop where
 hd:A.handled=none
 dp:A.depth+3*k+5<recursionLimit
 un:A.units+16*k+200<cLine
def Room.mono(r:Room k A)(h:j<=k):Room j A:=%[r.hd,by have:=r.dp;omega|by have:=r.un;omega]
def Room.deeper(r:Room (k+1) A)(env:Env):Room k (A.deeper env):=
 %[r.hd,by have:=r.dp;show A.depth+1+3*k+5<_;omega|by have:=r.un;show A.units+3+16*k+200<_;omega]
def Room.depth(r:Room k A):A.depth<recursionLimit:=by have:=r.dp;omega
def acP:TA:=λ _ H Q=>Q [] H
def abQ(ta:TE)(tr:TA):TA:=λ a H Q=>ta a H λ x b=>tr a b λ d c=>Q (x::d) c
section
variable{X:Cx}{e:Expr}{es:List Expr}{te:TE}{t:TA}{pos:Pos}
def Ek:PA X [] acP:=λ _ _ _ _ H Q I h=>f8 %[[],H,I,.nil|h]
def rW(d:PE X e te)(f:PA X es t)(hs:starEach (e::es) X.env=%[|42]::%[|33]:=by rfl):PA X (e::es) (abQ te t):=by intro b a s c H Q I h;rw[hs];show wpAny _ _ (spliced (%[|42]::backTo b %[|33])) _ _ s;refine eI (thn (d a s c H _ I h) λ u g ⟨x,H1,I1,r1,q1⟩=>?_);exact thn (f b a g c H1 _ I1 q1) λ j i ⟨xs,H2,I2,r2,q2⟩=>%[x::xs,H2,I2,.cons r1 r2|q2]
end
abbrev Sp:=List V->Hp->VK->XK->Prop
abbrev CXT:=List Env->Hp->Shared->XK->Value->Shared->Prop
structure Env0(P:af4)(w:World)(K:ae1)(mg:ae8)(base:Heap)(A:ag1)(outer:List Env)(s:ae4)(H:Hp):Prop where
 frames:A.frames=some outer
 mod:Mod K mg base
 bs:∀b o,base.get? b=some o->%[|37]/\H b=none
 bsz:base.objs.size<=s.heap.objs.size
 funs:s.heap.FunFrames base outer
 frf:∀b∈frs outer,H b=none
 hok:HOk P w H s.heap
 bare:AllBare s.gens
def CE(outer:List Env)(P:af4)(w:World)(H:Hp)(s:ae4)(Q:VK)(u:Value)(s':ae4):Prop:=
 ∃v a,s'.os=s.os/\AllBare s'.gens/\Un (frs outer) [] H a s.heap s'.heap/\HOk P w a s'.heap/\RelV v u/\Q v a
def CR(CX:CXT)(outer:List Env)(P:af4)(w:World)(H:Hp)(s:ae4)(Q:VK)(E:XK)(r:Result)(s':ae4):Prop:=
 match r with
 | .ok (.ret u)=>CE outer P w H s Q u s'
 | .ok _=>False
 | .error e=>CX outer H s E e s'
structure FnOk(P:af4)(w:World)(K:ae1)(mg:ae8)(base:Heap)(CX:CXT)(k:Nat)(f:Addr)(fd:FuncData)(ps:ae7)(sp:Sp):Prop where
 len:∀vs H Q E,sp vs H Q E->vs.length=ps.length
 run:∀(A:ag1)(outer:List Env)(s:ae4)(H:Hp)(args:Args)(us:ae5)(vs:List V)(Q:VK)(E:XK),Room k A->Env0 P w K mg base A outer s H->BindsTo s fd args (ps.zip us)->Vals vs us->sp vs H Q E->
  codeAny (model P w) A (.call (.ref f) args) (CR CX outer P w H s Q E) s
section
variable{X:Cx}{pins:List (Addr × Obj)}{σ:St}{H:Hp}{s s':Shared}
def Inv.env0(I:%[|3]):Env0 X.prog X.w X.K X.mg X.base X.A X.stack s H:=
 %[I.ok.frames,I.ok.mod,I.bs,cK I.ok.bsz I.sz,I.stack,I.stkFree,I.hok|I.bare]
def Inv.after(I:%[|3])(h:CE X.stack X.prog X.w H s Q u s'):EP X pins σ Q u s':=by obtain⟨v,f,i,a,j,c,r,q⟩:=h;obtain⟨hh,g,d,t,e⟩:=s';obtain rfl:e=s.os:=i;exact%[v,f,I.call (h':=hh) (g':=g) (d':=d) (t':=t) (ch:=[]) j c a (λ b z=>absurd z (by simp)),r|q]
end
def Binds(K:ae1)(fd:FuncData)(ps:ae7)(ds:ae5):Prop:=
 ∀(s:ae4)(a:ae5),K.In s.heap->(a++ds).length=ps.length->BindsTo s fd %[a|[]] (ps.zip (a++ds))
def Binds.all{K}(h:∀us:List Value,us.length=ps.length->bindArgs a %[us|[]]=pure (ps.zip us)):Binds K a ps []:=λ s us _ b=>by rw[fA]at b ⊢;exact .of_eq (h us b)
def Q3(CX:CXT)(X:Cx)(E:XK):Prop:=∀(a:ae6)(c:St)(H:Hp)(s:ae4)(e:Value)(b:ae4),Inv X a c H s->CX X.stack H s E e b->X.xe e b
section
variable{X:Cx}{CX:CXT}{k:Nat}{f C:Addr}{fd:FuncData}{ps:List Str}{sp:Sp}{dvs:List V}{ds:List Value}{E:XK}{x m:Str}{p pos apos:Pos}{e o:Expr}{es:List Expr}{ta:TE}{t:TA}
def aai{σ:St}(F:FnOk X.prog X.w X.K X.mg X.base CX k f fd ps sp)(l:Room k X.A)(g:Binds X.K fd ps ds)(i:Vals dvs ds)(m:Q3 CX X E)
 (I:%[|3])(r:Vals vs a)(h:sp (vs++dvs) H Q E):wpAny %[|5] X.A (call (.ref f) a) (EP X pins σ Q) X.xe s:=by
 have c:Vals (vs++dvs) (a++ds):=r.append i;have j:(a++ds).length=ps.length:=by rw[<-c.length];exact F.len _ _ _ _ h
 refine wpAny_call (kX (F.run X.A X.stack s H %[a|[]] (a++ds) (vs++dvs) Q E l I.env0 (g s a I.kIn j) c h) λ r n b=>?_)
 cases r with
 | error e=>exact m pins σ H s e n I b
 | ok d=>
   cases d with
   | ret u=>exact I.after b
   | next=>exact False.elim b
   | brk=>exact False.elim b
   | cont=>exact False.elim b
end
structure FnScope(N P:ae7)(sc:Scope):Prop where
 kind:sc.kind=.function
 co:sc.isCoroutine=false
 gen:sc.isGenerator=false
 nd:N.Nodup
 pre:N.take P.length=P
 par:∀x∈P,sc.names.lookup x=some .local\/sc.names.lookup x=some .cell
 nofree:∀y∈sc.names,y.2≠.free
theorem Ah:∀{a:List (Str×Value)}{m:ae8},(∀v,(x,v)∉a)->bindL b a m x=m x
 | [],_,_=>rfl
 | (n,v)::r,m,h=>by
   unfold bindL;rw[Ah λ w c=>h w (x4 _ c)];split
   . have:x≠n:=by rintro rfl;exact h v x6
     simp[this]
   {rfl}
theorem Aa:∀{a:List (Str×Value)}{m:ae8},(∀v,(x,v)∉a)->bindC b a m x=m x
 | [],_,_=>rfl
 | (n,v)::r,m,h=>by
   unfold bindC;rw[Aa λ w c=>h w (x4 _ c)];split;{rfl}
   . have:x≠n:=by rintro rfl;exact h v x6
     simp[this]
theorem zy:∀{P:ae7}{vs:ae5}{i:Nat}{m:ae8},P.Nodup->P[i]? =some x->vs[i]? =some v->a x=some .local->
 bindL a (P.zip vs) m x=some v
 | [],_,_,_,_,h,_,_=>by simp at h
 | _::_,[],_,_,_,_,h,_=>by simp at h
 | p::P,w::vs,0,m,nd,h1,h2,hk=>by simp at h1 h2;subst h1;subst h2;show bindL a ((p,w)::P.zip vs) m p=_;unfold bindL;rw[Ah λ v b=>(gN.mp nd).1 (List.of_mem_zip b).1,ca hk];simp
 | p::P,w::vs,i+1,m,nd,h1,h2,hk=>by show bindL a ((p,w)::P.zip vs) m x=_;unfold bindL;exact zy (i:=i) (gN.mp nd).2 (by simpa using h1) (by simpa using h2) hk
theorem zZ:∀{P:ae7}{vs:ae5}{i:Nat}{m:ae8},P.Nodup->P[i]? =some x->vs[i]? =some v->a x≠some .local->
 bindC a (P.zip vs) m x=some v
 | [],_,_,_,_,h,_,_=>by simp at h
 | _::_,[],_,_,_,_,h,_=>by simp at h
 | p::P,w::vs,0,m,nd,h1,h2,hk=>by simp at h1 h2;subst h1;subst h2;show bindC a ((p,w)::P.zip vs) m p=_;unfold bindC;rw[Aa λ v b=>(gN.mp nd).1 (List.of_mem_zip b).1,bP hk];simp
 | p::P,w::vs,i+1,m,nd,h1,h2,hk=>by show bindC a ((p,w)::P.zip vs) m x=_;unfold bindC;exact zZ (i:=i) (gN.mp nd).2 (by simpa using h1) (by simpa using h2) hk
def start(N:ae7)(vs:List V):St:=vs.map some++List.replicate (N.length-vs.length) none
def rF(CX:CXT)(P:af4)(w:World)(K:ae1)(mg:ae8)(base:Heap)(N:ae7)(qual:Str)(scope:Scope)(f:Addr)(cd:Value)(A:ag1)(outer:List Env)(s:ae4)(H:Hp)(E:XK):Cx where
 prog:=P
 w:=w
 K:=K
 mg:=mg
 base:=base
 A:=A.deeper (envOfC qual scope s.heap.objs.size f cd)
 N:=N
 s₀:=s
 H₀:=H
 env:=envOfC qual scope s.heap.objs.size f cd
 outer:=outer
 stack:=envOfC qual scope s.heap.objs.size f cd::outer
 ex:=[]
 calm:=true
 fn:=λ _=>true
 pn:=[]
 xe:=λ e c=>wpAny (model P w) (A.deeper (envOfC qual scope s.heap.objs.size f cd)) (leaving (envOfC qual scope s.heap.objs.size f cd) e) (λ _ a=>CX outer H s E e a) (λ b a=>CX outer H s E b a) c
def HB{a:Scope}(h:a.names.lookup x=some .cell):∃c,(cellsFrom n a.names []).lookup x=some c:=by have q:=PySem.W.cellsFrom_some a.names n [] (.inl h);exact Option.isSome_iff_exists.mp q
def PP{K}
 (S:FnScope N ps scope)(J:A.handled=none)(j:Env0 P w K mg base A outer s H)(Q:vs.length=ps.length)(r:Vals vs D)
 (x:InCallC s s.heap.objs.size (bindL (envOfC d scope s.heap.objs.size f cd).kindOf (ps.zip D) λ _=>none) (cellsFrom %[|27] scope.names []) (bindC (envOfC d scope s.heap.objs.size f cd).kindOf (ps.zip D) λ _=>none) s1):
 Inv (rF CX P w K mg base N d scope f cd A outer s H E) [] (start N vs) H s1:=by
 have L:ps.length<=N.length:=by have:=ei List.length S.pre;rw[e8]at this;omega
 obtain⟨B,R,rfl,F⟩:=x.done;have m:∀b:Addr,b∉(rF CX P w K mg base N d scope f cd A outer s H E).ex:=λ b z=>absurd (show b∈([]:List Addr)from z) (by simp);refine%[%[j.mod,S.kind,rfl,rfl,y9 _,λ y z c B g=>?_,λ y l=>?_,λ y c _ h=>?_,λ _=>J,Around.frames_deeper j.frames,.inr %[rfl|rfl],λ b z=>absurd z (m b),j.bs,j.bsz,λ b _ _=>m b,λ b z=>absurd z (m b),j.funs|j.frf],
  rfl,j.bare,Un.kept F,%[_,x.toInCall.ns|λ i y v B g O=>?_],λ y c h=>%[_|x.cell y c h],j.hok.fresh (y9 _),λ y c h=>?_,λ p o=>absurd (show p∈([]:List (Addr×Obj))from o) (by simp),j.hok.kept F|?_];{exact name_of_addr x.apart (ia B) (ia g)};{have l:scope.names.lookup y=some .cell\/scope.names.lookup y=some .free:=l;rcases l with l | l;{exact HB l};{exact absurd rfl (S.nofree _ (ia l))}};{exact eJ (x.above y c (ia h))}
 . have C:i<vs.length:=by unfold start at g;by_cases C:i<vs.length;{exact C};{rw[da (by simpa using C)]at g;rw[List.getElem?_replicate]at g;split at g<;>cases g}
   have I:vs[i]? =some v:=by
    unfold start at g;rw[x9 (by simpa using C),y8]at g
    cases e:vs[i]? with
    | none=>rw[e]at g;cases g
    | some a=>rw[e]at g;cases g;rfl
   obtain⟨u,G,M⟩:=r.get I;have o:ps[i]? =some y:=by rw[<-S.pre,List.getElem?_take_of_lt %[|0]];exact B
   have t:ps.Nodup:=by rw[<-S.pre];exact S.nd.sublist (mN _ _)
   refine%[u,M|?_];rcases S.par y (y4 o)with k | k;{exact .inl %[k|zy t o G k]};{obtain⟨c,e⟩:=HB (n:=%[|27]) k;refine .inr %[.inl k,c,e|?_];have q:=x.cell y c e;rw[zZ t o G (by show scope.names.lookup y≠_;rw[k];decide)]at q;exact q}
 {exact j.hok.fresh (eJ (x.above y c (ia h)))};{unfold start;show _=N.length;rw[x8,y7,nr];omega}
def ab9{K}
 (lk:K.lookup f=some %[oc,od,.func (PySem.W.fnOf name a d g scope W X m Y T c ct)|L])(D:PySem.W.codeIn K c a=true)(S:FnScope N ps scope)
 (C:∀vs H Q E,sp vs H Q E->vs.length=ps.length)
 (i:∀(A:ag1)(outer:List Env)(s:ae4)(H:Hp)(vs:List V)(Q:VK)(E:XK),Room k (A.deeper (envOfC a scope s.heap.objs.size f c))->sp vs H Q E->
  ∃t,PSs (rF CX P w K mg base N a scope f c A outer s H E) g t/\t {nx:=λ _ H'=>Q .non H',rt:=Q} (start N vs) H):
 FnOk P w K mg base CX (k+1) f (PySem.W.fnOf name a d g scope W X m Y T c ct) ps sp:=by
 refine%[C|λ A outer s H U us vs Q E F p hb r B=>?_];have hl:=C _ _ _ _ B;have R:K.In s.heap:=p.mod.kin.keeps λ b o e=>(p.bs b o e).1;have G:s.heap.NoLimit:=p.mod.nolimit.keeps λ b o e=>(p.bs b o e).1;have j:∀y∈ps.zip us,scope.names.lookup y.1=some .local\/(scope.names.lookup y.1=some .cell/\((cellsFrom %[|27] scope.names []).lookup y.1).isSome=true):=λ⟨n,v⟩ hy=>by rcases S.par n (List.of_mem_zip hy).1 with q | q;{exact .inl q};{exact .inr %[q|PySem.W.cellsFrom_some _ _ _ (.inl q)]}
 refine codeAny_call_function F.depth (R _ _ lk) rfl S.co S.gen rfl (PySem.W.codeRec_of R D) (hb _ _ _ _ ?_);refine wpAny_newFunctionEnv_cells S.kind j λ aa he Z x=>?_;subst he;refine%[G.keeps x.toInCall.keep|codeAny_func ?_];obtain⟨t,ht,hq⟩:=i A outer s H vs Q E (F.deeper _) B;have I:Inv (rF CX P w K mg base N a scope f c A outer s H E) [] (start N vs) H Z:=PP S F.hd p hl r x;refine gl (ht [] Z (start N vs) H _ I hq) (λ fl O l=>?_) λ e O l=>l;have z:∀{h:St}{H':Hp}{v:V}{u:Value},Inv (rF CX P w K mg base N a scope f c A outer s H E) [] h H' O->RelV v u->Q v H'->CE outer P w H s Q u O:=
  λ{h H' v u} J M q=>%[v,H',J.os,J.bare,J.base,J.hok,M|q]
 cases fl with
 | ret u=>obtain⟨v,h,H',J,M,q⟩:=l;exact z J M q
 | next=>obtain⟨h,H',J,q⟩:=l;exact z (v:=V.non) (u:=Value.none) J rfl q
 | brk=>obtain⟨_,_,_,q⟩:=l;exact False.elim q
 | cont=>obtain⟨_,_,_,q⟩:=l;exact False.elim q
section
variable{X:Cx}{x:Str}{p pos:Pos}{e:Expr}{es:List Expr}{t:TA}{id T:String}{r:List V -> Hp -> VK -> Prop}
def tCB(r:List V->Hp->VK->Prop)(t:TA):TE:=λ c H Q=>t c H λ b a=>r b a Q
def Tf(g:jy X (.builtin id) r)(j:Gl X x)(k:X.mg x=none)(m:bootBuiltins x=some (.builtin id))(f:PA X (e::es) t)(l:x≠"__name__":=by decide)(b:%[|48]:=by decide)
 (i:starEach (e::es) X.env=%[|42]::%[|33]:=by rfl)(c:(backTo pos %[|33]).any (·.1)=false:=by rfl):PE X (.Call (.Name x p) (e::es) [] pos) (tCB r t):=by intro a s d H Q I h;refine g9 (cj I j k m ?_ l b);exact gS (thn (f pos a s d H _ I h) λ o n ⟨vs,H1,I1,r1,q1⟩=>g a n d H1 vs o Q I1 r1 q1) i c
end
end L2
namespace HT
open PySem PyProof.Rows
section
variable{prog:Program}{w:World}{A:Around}{E:%[|25]}{s:Shared}
def cat_tup(v:IsTup s.heap t vs.toArray)(u:IsTup s.heap b ws.toArray)(p:vs≠[])
 (h1:ws=[]->Q (.ref t) s)(h2:ws≠[]->Q %[|11] {s with heap:=s.heap.push {cls:=%[|10],data:=.seq (vs++ws).toArray}})
 (hsz:vs.length+ws.length<=sizeLine):wpAny %[|6] A (binaryOp .Add (.ref t) (.ref b)) Q E s:=by
 obtain⟨⟨cls,l,data,r⟩,h,m,n,o⟩:=id v;obtain⟨⟨k,c,j,g⟩,a,d,q,f⟩:=id u;simp only at m o d f;subst m o d f;have e:vs.toArray++ws.toArray=(vs++ws).toArray:=by simp
 by_cases i:ws=[]
 . exact nN %[_,h|rfl] %[_,a|rfl] noFill_tuple_add seq_tuple_add mT mI (mi _ _)
    (tuple_addW1 t b vs.toArray ws.toArray n q l c r g (by simpa using p) (by simp[i])) %[h,a|h1 i]
 . refine nN %[_,h|rfl] %[_,a|rfl] noFill_tuple_add seq_tuple_add mT mI (mi _ _)
    (tuple_addW2 t b vs.toArray ws.toArray n q l c r g (by simpa using p) (by simpa using i) (by rw[x5,x5];exact hsz)) %[h,a|?_];rw[e];exact h2 i
def sIx(n d:Nat):Option Int->Nat
 | none=>d
 | some v=>if v<0 then(v+(n:Int)).toNat else min v.toNat n
def sIx_none(n d:Nat):sIx n d none=d:=rfl
def sIx_nat(n d k:Nat):sIx n d (some (k:Int))=min k n:=by show(if(k:Int)<0 then((k:Int)+(n:Int)).toNat else min (k:Int).toNat n)=min k n;rw[bP %[|0],dk]
def Zy(n d:Nat)(b:d<=n)(o:af5):sIx n d o<=n:=by
 cases o with
 | none=>exact b
 | some v=>show(if v<0 then(v+(n:Int)).toNat else min v.toNat n)<=n;by_cases a:v<0;{rw[ca a];omega};{rw[bP a];exact Nat.min_le_right _ _}
def KC(v:Int)(n d:Nat):(if v<0 then max (v+(n:Int)) 0 else min v (n:Int))=((sIx n d (some v):Nat):Int):=by show(if v<0 then max (v+(n:Int)) 0 else min v (n:Int))=(((if v<0 then(v+(n:Int)).toNat else min v.toNat n):Nat):Int);by_cases a:v<0;{simp only[ca a];omega};{simp only[bP a];omega}
def Ma(lo hi:af5)(n:Nat):Builtin.Slice.sliceAdjust lo hi 1 (n:Int)=(((sIx n 0 lo:Nat):Int),((sIx n n hi:Nat):Int)):=by
 have a:¬((1:Int)<0):=%[|0]
 unfold Builtin.Slice.sliceAdjust;simp only[a,ef];refine ll ?_ ?_
 . cases lo with
   | none=>rfl
   | some v=>exact KC v n 0
 . cases hi with
   | none=>rfl
   | some v=>exact KC v n n
def N8(i j:Nat):Builtin.Slice.slicePlaces (i:Int) (j:Int) 1=j-i:=by
 unfold Builtin.Slice.slicePlaces;have a:(1:Int)>0:=%[|0]
 simp only[a,gX,Int.ediv_one];split<;>omega
def v5(p:IsPart v o)(h:Q o s):wpAny %[|6] A (Builtin.Slice.slicePartIndex v) Q E s:=by
 cases p with
 | none=>exact slicePart_none h
 | int i t=>exact slicePart_int h
def sliceApplied_gen{lo hi}{Q:Int×Int×Nat->Shared->Prop}(hs:s.heap.IsSliceOf c vl vu .none)(pl:IsPart vl lo)(e:IsPart vu hi)
 (h:Q (((sIx n 0 lo:Nat):Int),1,sIx n n hi-sIx n 0 lo) s):wpAny %[|6] A (Builtin.Slice.sliceApplied (.ref c) (pure (n:Int))) Q E s:=by obtain⟨f,b,d,a⟩:=id hs;unfold Builtin.Slice.sliceApplied Builtin.Slice.sliceFields;refine b0 (b0 (fi b a (x:=vl) rfl (b0 (fi b a (x:=vu) rfl (b0 (fi b a (x:=.none) rfl (b9 ?_)))))));refine b0 (slicePart_none ?_);show wpAny _ _ (if((1:Int)==0)=true then _ else _) _ _ s;rw[bP %[|1]];refine b0 (v5 pl (b0 (v5 e (b0 (b9 ?_)))));show wpAny _ _ (match Builtin.Slice.sliceAdjust lo hi 1 (n:Int)with | (lo,hi)=>pure (lo,(1:Int),Builtin.Slice.slicePlaces lo hi 1)) _ _ s;rw[Ma lo hi n];show wpAny _ _ (pure (((sIx n 0 lo:Nat):Int),(1:Int),Builtin.Slice.slicePlaces ((sIx n 0 lo:Nat):Int) ((sIx n n hi:Nat):Int) 1)) _ _ s;rw[N8];exact b9 h
def Tv(xs:af0)(i k:Nat):((List.range k).filterMap λ(m:Nat)=>xs[((i:Int)+(m:Int)*1).toNat]?).toArray=((xs.toList.drop i).take k).toArray:=by
 have e:(λ(m:Nat)=>xs[((i:Int)+(m:Int)*1).toNat]?)=λ m=>xs[i+m]?:=by
  funext m;have:((i:Int)+(m:Int)*1).toNat=i+m:=%[|0]
  rw[this]
 rw[e];have:=pick_run xs i k;rw[List.filterMap_map]at this;have a:((λ x=>xs[x]?) ∘ λ x=>i+x)=λ m=>xs[i+m]?:=rfl;rw[a]at this;rw[this]
def getItem_tuple_cut{lo hi}(b:IsTup s.heap t items)(hs:s.heap.IsSliceOf g vl vu .none)(pl:IsPart vl lo)(k:IsPart vu hi)
 (hw:¬(sIx items.size 0 lo=0/\sIx items.size items.size hi=items.size))
 (h:Q %[|11] {s with heap:=s.heap.push {cls:=%[|10],data:=.seq ((items.toList.drop (sIx items.size 0 lo)).take (sIx items.size items.size hi-sIx items.size 0 lo)).toArray}})
 (hsz:items.size<=sizeLine):wpAny %[|6] A (getItem (.ref t) (.ref g)) Q E s:=by
 have a:sizeOk (.seq ((items.toList.drop (sIx items.size 0 lo)).take (sIx items.size items.size hi-sIx items.size 0 lo)).toArray):=by show((items.toList.drop (sIx items.size 0 lo)).take (sIx items.size items.size hi-sIx items.size 0 lo)).toArray.size<=sizeLine;rw[x5,e8,lm,eW];omega
 have l:sIx items.size items.size hi<=items.size:=Zy _ _ (y9 _) hi;obtain⟨j,f,d,i⟩:=id hs;have c:s.TypeIs (.ref g) "slice":=%[j,f|d];unfold getItem;try with_reducible refine eu ?_
 first | refine b0 (b9 ?_) | skip
 refine b0 (wpAny_sequenceKey b.typeIs %[|1] ?_);refine b0 (wpAny_callSpecial?_slot (name:=Str.ofString "__getitem__") b.typeIs fT
  (dA fT b.typeIs entry_tuple_getitem ?_ (args_tuple_getitem _ _)));show wpAny _ _ (Builtin.Tuple.tupleItemsOf (.ref t)>>=_) _ _ s;refine b0 (tupleItemsOf_ b ?_);refine b0 (kB c ?_);rw[ca %[|1]];refine b0 (sliceApplied_gen hs pl k ?_);have e:¬((((sIx items.size 0 lo:Nat):Int)==0&&(1:Int)==1&&(sIx items.size items.size hi-sIx items.size 0 lo)==items.size)=true):=by intro q;rw[eL,eL]at q;have n:((sIx items.size 0 lo:Nat):Int)=0:=ZU q.1.1;have o:sIx items.size items.size hi-sIx items.size 0 lo=items.size:=ZU q.2;exact hw %[|24]
 show wpAny _ _ (if(((sIx items.size 0 lo:Nat):Int)==0&&(1:Int)==1&&(sIx items.size items.size hi-sIx items.size 0 lo)==items.size)=true then _ else _) _ _ s;rw[bP e,Tv];first
  | exact b0 (m:=Builtin.Tuple.tupleExact _) (dQ (b9 %[_,rfl|b9 h]) a)
  | exact b0 (m:=Builtin.Tuple.tupleExact _) (dQ (b0 (b9 (b9 %[_,rfl|b9 h]))) a)
  | exact b0 (b0 (m:=Builtin.Tuple.tupleExact _) (dQ (b9 (b9 %[_,rfl|b9 h])) a))
  | exact b0 (b0 (m:=Builtin.Tuple.tupleExact _) (dQ (b9 %[_,rfl|b9 h]) a))
end
end HT
namespace L2
open PySem PySem.Spec PyProof.Rows
abbrev TO:=St->Hp->(Option Int->Hp->Prop)->Prop
def intsAre_of:∀{a:ae5},Vals (ns.map V.int) a->IntsAre a ns:=by
 induction ns with
 | nil=>intro a r;rw[l0]at r;cases r;exact .nil
 | cons n ns b=>intro a r;rw[cn]at r;cases r with| cons c d=>obtain⟨t,e⟩:=c;subst e;exact .cons n t (b d)
section
variable{X:Cx}{e:Expr}{te:TE}{lo hi:Option Expr}{tl th:TO}{pos p2:Pos}
def SlR(X:Cx)(r:V->Option Int->Option Int->Hp->VK->Prop):Prop:=
 ∀ (a:ae6)(s:ae4)(g:St)(H:Hp)(x:V)(v e f:Value)(c b:af5)(d:Addr)(Q:VK),Inv X a g H s->RelV x v->s.heap.IsSliceOf d e f .none->IsPart e c->IsPart f b->r x c b H Q->
   ∃T h,typeLookup (.type T) "__getitem__"=pure (some (.builtin h))/\s.TypeIs v T/\wpAny %[|5] X.A (getItem v (.ref d)) (EP X a g Q) X.xe s
def rm(xs:List V)(lo hi:af5):List V:=(xs.drop (HT.sIx xs.length 0 lo)).take (HT.sIx xs.length xs.length hi-HT.sIx xs.length 0 lo)
def ud(xs:List V)(lo hi:af5):(rm xs lo hi).length<=xs.length:=by unfold rm;rw[e8,lm];omega
def ac7(K:ae1):V->Option Int->Option Int->Hp->VK->Prop:=λ x d c H Q=>∃a b,x=.ref a/\SqT K H a b/\
 ¬(HT.sIx b.length 0 d=0/\HT.sIx b.length b.length c=b.length)/\∀p,H p=none->Q (.ref p) (upd H p (.tup (rm b d c)))
def ZC:SlR X (ac7 X.K):=by
 intro k s B H x v z A e f y Q I u l p t h;obtain⟨a,d,rfl,n,m,q⟩:=h;cases u;obtain⟨g,r,i,j⟩:=I.tuple n;have c:g.toArray.size=d.length:=by rw[x5];exact r.length.symm
 refine%["tuple",_,fT.lookup,i.typeIs|?_];refine HT.getItem_tuple_cut i l p t (by rw[c];exact m) ?_ (by rw[c];exact j);rw[c];refine%[%[|11],_,I.laid (t':=s.toks) (o:=.tup (rm d e f)) (λ b w q=>bE _ q) (y9 _) ?_,rfl|q _ (I.hok.fresh (y9 _))];exact%[cK (ud d e f) j,_,(r.drop (HT.sIx d.length 0 e)).take (HT.sIx d.length d.length f-HT.sIx d.length 0 e)|IsTup.new _ _]
def abM(K:ae1):R2:=λ x y H Q=>∃a b d c,x=.ref a/\y=.ref b/\SqT K H a d/\SqT K H b c/\d≠[]/\d.length+c.length<=sizeLine/\
 (c=[]->Q (.ref a) H)/\(c≠[]->∀p,H p=none->Q (.ref p) (upd H p (.tup (d++c))))
def Vals.nil_iff(r:Vals xs a):a=[]↔xs=[]:=by
 cases r with
 | nil=>simp
 | cons _ _=>simp
def Xx:OpR X (binaryOp .Add) (abM X.K):=by intro g s E H x y v u Q I t A h;obtain⟨a,b,B,C,rfl,rfl,i,j,k,e,p,r⟩:=h;cases t;cases A;obtain⟨l,d,m,_⟩:=I.tuple i;obtain⟨f,c,n,_⟩:=I.tuple j;refine HT.cat_tup m n (λ z=>k (d.nil_iff.mp z)) (λ z=>%[.ref a,H,I,rfl|p (c.nil_iff.mp z)]) (λ z=>?_) (by rw[<-d.length,<-c.length];exact e);refine%[%[|11],_,I.laid (t':=s.toks) (o:=.tup (B++C)) (λ b D q=>bE _ q) (y9 _) ?_,rfl|r (λ w=>z (c.nil_iff.mpr w)) _ (I.hok.fresh (y9 _))];exact%[by rw[x8];exact e,_,d.append c|IsTup.new _ _]
end
def ixN(n:Nat)(i:Int):Option Nat:=if 0<=i then(if i<n then some i.toNat else none)else if-(n:Int)<=i then some (i+n).toNat else none
def atI{α:Type}(xs:List α)(i:Int):Option α:=(ixN xs.length i).bind λ j=>xs[j]?
def Kz(h:ixN n i=some j):seqIndex? i n=some j/\j<n/\ -(n:Int)<=i/\i<n:=by unfold ixN at h;by_cases b:0<=i;{rw[ca b]at h;by_cases a:i<n;{rw[ca a]at h;have e:i.toNat=j:=cc h;exact%[by rw[seqIndex_of b a,e],%[|0],%[|0]|a]};{rw[bP a]at h;cases h}};{rw[bP b]at h;by_cases a: -(n:Int)<=i;{rw[ca a]at h;have e:(i+n).toNat=j:=cc h;exact%[by rw[seqIndex_neg %[|0] a,e],%[|0],a|%[|0]]};{rw[bP a]at h;cases h}}
def K9{v:a}(h:atI xs i=some v):∃j,seqIndex? i xs.length=some j/\xs[j]? =some v/\j<xs.length/\ -(xs.length:Int)<=i/\i<xs.length:=by
 unfold atI at h
 cases e:ixN xs.length i with
 | none=>rw[e]at h;cases h
 | some j=>rw[e]at h;obtain⟨b,c,d,f⟩:=Kz e;exact%[j,b,h,c,d|f]
def bZ{j:Nat}{v:a}(h:xs[j]? =some v):atI xs (j:Int)=some v:=by
 have b:j<xs.length:=(z0.mp h).1;have e:ixN xs.length (j:Int)=some j:=by unfold ixN;rw[ca %[|0],ca %[|0]];simp
 unfold atI;rw[e];exact h
def Lg(b:Expr):Prop:=∀o i,subscripted b false o i=operate [o,i] (getItem o i)
def IxR(X:Cx)(r:R2):Prop:=
 ∀ (c a:Expr)(b:ae6)(s:ae4)(d:St)(H:Hp)(x y:V)(v u:Value)(Q:VK),Inv X b d H s->RelV x v->RelV y u->r x y H Q->
   subscripted a false v u=operate [v,u] (getItem v u)->wpAny %[|5] X.A (subscriptTail c a v u) (EP X b d Q) X.xe s
def MtR(X:Cx)(id:String)(r:V->List V->Hp->VK->Prop):Prop:=
 ∀ (a:ae6)(s:ae4)(d:St)(H:Hp)(x:V)(c:List V)(v:Value)(b:ae5)(Q:VK),Inv X a d H s->RelV x v->Vals c b->r x c H Q->
   wpAny %[|5] X.A (call (.builtin id) (v::b)) (EP X a d Q) X.xe s
section
variable{X:Cx}{a b:Expr}{ta tb:TE}{pos:Pos}
def acU(K:ae1):R2:=λ x y H Q=>∃p a i v,x=.ref p/\y=.int i/\SqL K H p a/\atI a i=some v/\Q v H
def acO(K:ae1):R2:=λ x y H Q=>∃p a i v,x=.ref p/\y=.int i/\SqT K H p a/\atI a i=some v/\Q v H
def Kl:IxR X (acU X.K):=by
 intro l k a s A H x y v u Q I J K h o;obtain⟨p,P,i,z,rfl,rfl,G,E,q⟩:=h;cases J;obtain⟨t,rfl⟩:=K;obtain⟨e,r,f,O⟩:=I.list G;obtain⟨j,c,B,M,C,D⟩:=K9 E;obtain⟨w,m,g⟩:=r.get B;have F:=r.length;have N:=wM;have b:EP X a A Q w s:=%[z,H,I,g|q];by_cases n:0<=i
 . have d:i.toNat=j:=by rw[seqIndex_of n D]at c;exact cc c
   exact item_listR f.isList n %[|0] (by rw[d];simpa using m) b o
 . have d:(i+(e.toArray.size:Int)).toNat=j:=by rw[seqIndex_neg %[|0] C]at c;rw[x5,<-F];exact cc c
   exact subscriptTail_builtinR (x:=w) f.isList.typeIs slot_list_getitem.lookup
    (wpAny_getItem_list_neg (Q:=λ r L=>r=w/\EP X a A Q r L) f.isList %[|0] (by rw[x5]<;>omega) %[|0] (by rw[d];simpa using m) %[rfl|b]) o
def aac:IxR X (acO X.K):=by
 intro e d a s g H x y v u Q I D E h B;obtain⟨p,N,i,z,rfl,rfl,A,n,q⟩:=h;cases D;obtain⟨t,rfl⟩:=E;obtain⟨C,r,f,M⟩:=I.tuple A;obtain⟨j,l,m,G,J,K⟩:=K9 n;obtain⟨w,k,c⟩:=r.get m;have o:=r.length;have L:=wM;have b:EP X a g Q w s:=%[z,H,I,c|q];exact subscriptTail_builtinR (x:=w) f.typeIs slot_tuple_getitem.lookup
  (getItem_tuple (j:=j) (Q:=λ r F=>r=w/\EP X a g Q r F) f %[|0] %[|0] (by rw[x5,<-o];exact l) (by simpa using k) %[rfl|b]) B
def LC(its:ae5)(n j:Nat)(u:Value):Obj.mapSeq (·.setIfInBounds j u) {cls:=%[|16],data:=.seq its.toArray n}={cls:=%[|16],data:=.seq (its.set j u).toArray n}:=by simp[Obj.mapSeq]
def Inv.lst{σ:St}(I:%[|3])(h:H p=some (.lst xs)):
 ∃(its:ae5) (n:Nat),Vals xs its/\s.heap.get? p=some {cls:=%[|16],data:=.seq its.toArray n}/\xs.length<=sizeLine:=by obtain⟨z,its,n,r,e⟩:=I.hok p _ h;exact%[its,n,r,e|z]
def Inv.lstUpd{σ:St}{its its':ae5}{n a}(I:%[|3])(h:H p=some (.lst xs))
 (g:s.heap.get? p=some {cls:=%[|16],data:=.seq its.toArray n})(c:f {cls:=%[|16],data:=.seq its.toArray n}={cls:=%[|16],data:=.seq its'.toArray a})(r:Vals ys its')(hz:ys.length<=sizeLine)(t:Nat):
 Inv X pins σ (upd H p (.lst ys)) {s with heap:=s.heap.update p f,toks:=t}:=by
 have e:(s.heap.update p f).get? p=some {cls:=%[|16],data:=.seq its'.toArray a}:=by rw[fS f g (by rw[c]<;>rfl),c]
 refine I.write (x:=p) (e:=p) (by rw[h];trivial) (.inl rfl) (λ b u d q=>(kN _ _ (kA d)).trans q) %[_|e] ?_;exact%[hz,its',a,r|e]
def abE:V->V->V->Hp->(Hp->Prop)->Prop:=λ o i v H Q=>∃p a k j,o=.ref p/\i=.int k/\H p=some (.lst a)/\ixN a.length k=some j/\Q (upd H p (.lst (a.set j v)))
def set_list:acQ X abE:=by
 intro b s E H o i v K J u Q I B A C h;obtain⟨p,D,k,j,rfl,rfl,x,y,q⟩:=h;cases B;obtain⟨t,rfl⟩:=A;obtain⟨a,n,r,f,z⟩:=I.lst x;obtain⟨c,F,m,w⟩:=Kz y;have e:=r.length;have G:=wM;have g:Inv X b E (upd H p (.lst (D.set j v))) {s with heap:=s.heap.update p (Obj.mapSeq (·.setIfInBounds j u))}:=
  I.lstUpd x f (LC a n j u) (r.set C j) (by rw[List.length_set];exact z) s.toks;by_cases l:0<=k
 . have d:k.toNat=j:=by rw[seqIndex_of l w]at c;exact cc c
   exact PySem.W.ki_setAt f l %[|0] (by rw[x5,<-e];exact w) (by rw[d];exact%[_,g|q])
 . have d:(k+(a.toArray.size:Int)).toNat=j:=by rw[seqIndex_neg %[|0] m]at c;rw[x5,<-e];exact cc c
   exact PySem.W.ki_setBack f %[|0] (by rw[x5,<-e];exact m) %[|0] (by rw[d];exact%[_,g|q])
def GZ(lo hi:af5)(n:Nat):(sliceBounds lo hi none n).1=((HT.sIx n 0 lo:Nat):Int)/\(sliceBounds lo hi none n).2.1=((HT.sIx n n hi:Nat):Int)/\(sliceBounds lo hi none n).2.2=1:=by
 refine%[?_,?_|rfl]
 . cases lo with
   | none=>simp[sliceBounds,HT.sIx]
   | some i=>simp only[sliceBounds,HT.sIx,Option.getD_none,show(1:Int)>0 by decide,gX];by_cases h:i<0;{simp only[h,gX]<;>omega};{simp only[h,ef]<;>omega}
 . cases hi with
   | none=>simp[sliceBounds,HT.sIx]
   | some i=>simp only[sliceBounds,HT.sIx,Option.getD_none,show(1:Int)>0 by decide,gX];by_cases h:i<0;{simp only[h,gX]<;>omega};{simp only[h,ef]<;>omega}
def Be(its:ae5)(lo hi:af5):slicePick its.toArray lo hi none=((its.drop (HT.sIx its.length 0 lo)).take (HT.sIx its.length its.length hi-HT.sIx its.length 0 lo)).toArray:=by obtain⟨a,b,c⟩:=GZ lo hi its.toArray.size;unfold slicePick;rw[a,b,c];simp only[sliceRange_one,pick_run,x5]<;>rfl
def acM(K:ae1):V->Option Int->Option Int->Hp->VK->Prop:=λ x d c H Q=>∃a b,x=.ref a/\SqL K H a b/\∀p,H p=none->Q (.ref p) (upd H p (.lst (rm b d c)))
def J1:SlR X (acM X.K):=by intro i s A H x v y z e f w Q I t j n p h;obtain⟨a,c,rfl,k,q⟩:=h;cases t;obtain⟨m,r,g,l⟩:=I.list k;have d:=r.length;refine%["list",_,slot_list_getitem.lookup,g.isList.typeIs|?_];refine wpAny_getItem_list_slice g.isList j n p .none (by simp) ?_ (by rw[x5]<;>omega);rw[Be,<-d];refine%[%[|11],_,I.laid (t':=s.toks) (o:=.lst (rm c e f)) (λ b u q=>bE _ q) (y9 _) ?_,rfl|q _ (I.hok.fresh (y9 _))];exact%[cK (ud c e f) l,_,0,(r.drop (HT.sIx c.length 0 e)).take (HT.sIx c.length c.length f-HT.sIx c.length 0 e)|c9 _ rfl]
def kj:jy X (.builtin "len") (λ xs H Q=>∃p ys,xs=[.ref p]/\(SqL X.K H p ys\/SqT X.K H p ys)/\Q (.int ys.length) H):=by intro f s l H xs k Q I r h;obtain⟨p,ys,rfl,b,q⟩:=h;obtain⟨u,rfl,i⟩:=vals1 r;cases i;have j:=wM;rcases b with b | b;{obtain⟨c,e,d,g⟩:=I.list b;have a:=e.length;exact Calls.call_len_list d.isList (by simp only[x5]<;>omega) %[.int ys.length,H,I.tok _,%[s.toks+1|by rw[x5,a]]|q]};{obtain⟨c,e,d,g⟩:=I.tuple b;have a:=e.length;exact len_tuple d (by simp only[x5]<;>omega) %[.int ys.length,H,I.tok _,%[s.toks+1|by rw[x5,a]]|q]}
def oH:jy X %[|10] (λ xs H Q=>∃p ys,xs=[.ref p]/\((SqL X.K H p ys/\∀l,H l=none->Q (.ref l) (upd H l (.tup ys)))\/(SqT X.K H p ys/\Q (.ref p) H))):=by
 intro a s n H xs x Q I r h;obtain⟨p,ys,rfl,h⟩:=h;obtain⟨u,rfl,w⟩:=vals1 r;cases w;rcases h with⟨f,q⟩ | ⟨f,q⟩
 . obtain⟨c,i,g,m⟩:=I.list f;have k:=i.length;refine call_tuple_list g.isList (λ d v=>?_) (by simp only[x5]<;>omega);have j:Inv X a n H {s with heap:=d}:=I.kept (t':=s.toks) v;have t:Inv X a n (upd H d.objs.size (.tup ys)) {s with heap:=d.push {cls:=%[|10],data:=.seq c.toArray}}:=
    j.laid (t':=s.toks) (λ b o e=>bE _ e) (y9 _) (show aW X.prog X.w _ _ _ (.tup ys)from%[m,c,i|IsTup.new _ _]);exact%[.ref d.objs.size,_,t,rfl|q _ (j.hok.fresh (y9 _))]
 {obtain⟨c,i,g,m⟩:=I.tuple f;exact call_tuple_same g %[.ref p,H,I,rfl|q]}
def tyV(K:ae1)(T:String)(x:V)(H:Hp):Prop:=match x with
 | .str _=>T="str"
 | .int _=>T="int"
 | .ref p=>(T="list"/\∃b,SqL K H p b)\/(T="tuple"/\∃o,K.lookup p=some o/\o.cls=%[|10]/\o.dict=none)\/
  (T="dict"/\((∃a,H p=some (.dK a))\/∃a,H p=some (.dT a)))\/(T="set"/\∃S n,H p=some (.set S n))
 | _=>False
def aaY{σ:St}(I:%[|3])(r:RelV x v)(d:tyV X.K T x H):
 s.TypeIs v T/\∀a,v=.ref a->∃ob,s.heap.get? a=some ob/\ob.dict=none:=by
 cases x with
 | str z=>obtain⟨t,rfl⟩:=r;cases (show T="str" from d);exact%[typeIs_str s z t|λ _ e=>nomatch e]
 | int i=>obtain⟨t,rfl⟩:=r;cases (show T="int" from d);exact%[typeIs_int s i t|λ _ e=>nomatch e]
 | ref p=>
   cases r;rcases d with⟨rfl,q,l⟩ | ⟨rfl,o,b,k,g⟩ | ⟨rfl,b⟩ | ⟨rfl,S,n,b⟩;{obtain⟨m,_,j,_⟩:=I.list l;refine%[j.isList.typeIs|λ a e=>?_];cases e;obtain⟨o,n,e,c,g,_⟩:=j;exact%[o,e|g]};{refine%[%[o,I.kIn p o b|k]|λ a e=>?_];cases e;exact%[o,I.kIn _ o b|g]}
   . have z:∃o,s.heap.get? p=some o/\o.ExactDict:=by rcases b with⟨h,b⟩ | ⟨h,b⟩;{obtain⟨_,_,_,_,o,_,_,e,ex,_⟩:=I.hok p _ b;exact%[o,e|ex]};{obtain⟨_,_,_,_,o,_,_,e,ex,_⟩:=I.hok p _ b;exact%[o,e|ex]}
     obtain⟨o,e,ex⟩:=z;refine%[%[o,e|ex.1]|λ a f=>?_];cases f;exact%[o,e|ex.2.1]
   {obtain⟨o,_,_,_,e,ex,_⟩:=I.hok p _ b;refine%[%[o,e|ex.1]|λ a f=>?_];cases f;exact%[o,e|ex.2.1]}
 | _=>exact False.elim d
def tBM(K:ae1)(T:String)(r:V->List V->Hp->VK->Prop)(to:TE)(t:TA):TE:=λ b H Q=>to b H λ x a=>tyV K T x a/\t b a λ d c=>r x d c Q
variable{o e:Expr}{es:List Expr}{to:TE}{t:TA}{name:Str}{apos cpos:Pos}{T id:String}{r:V -> List V -> Hp -> VK -> Prop}
def Mt(q:PlainAttrs T)(slot:Slot T name id)(g:typeOf (.builtin id)=pure (.type "method_descriptor"))(n:MtR X id r)(p:PE X o to)(m:PA X (e::es) t)
 (c:attributeBase o name X.env (eval o X.env)=eval o X.env:=by rfl)
 (f:((backTo cpos (starEach (e::es) X.env)).all (λ x=>!x.1)&&(backToKw cpos (keywordEach [] X.env)).all (λ x=>x.1.isSome)
  &&decide ((e::es).length+([]:List Keyword).length+(if([]:List Keyword).isEmpty then 0 else 1)<30))=true:=by rfl)
 (d:(apos.endLine==cpos.line)=true:=by rfl)(hs:starEach (e::es) X.env=%[|42]::%[|33]:=by rfl)(b:(backTo cpos %[|33]).any (·.1)=false:=by rfl):
 PE X (.Call (.Attribute o name apos) (e::es) [] cpos) (tBM X.K T r to t):=by intro a s i H Q I h;refine wpAny_Call_method_late c f d rfl (thn (p a s i H _ I h) λ v u ⟨x,H1,I1,r1,ty,q1⟩=>?_);obtain⟨k,l⟩:=aaY I1 r1 ty;refine%[T,id,q,slot,g,k,l|?_];have j:=m cpos a u i H1 _ I1 q1;rw[hs]at j ⊢;refine Calls.callWith_builtin (by show(false||(backTo cpos %[|33]).any (·.1))=false;rw[b]<;>rfl) (Calls.evalArgs_plain ?_);exact thn j λ y w ⟨vs,H2,I2,r2,q2⟩=>n a w i H2 x vs v y Q I2 r1 r2 q2
end
def MtM(X:Cx)(id:String)(r:V->List V->Hp->VK->Prop):Prop:=
 ∀ (a:ae6)(s:ae4)(d:St)(H:Hp)(x:V)(c:List V)(v:Value)(b:ae5)(Q:VK),Inv X a d H s->RelV x v->Vals c b->r x c H Q->
   wpAny %[|5] X.A (call (.builtin id) (v::b)) (EP X a d Q) X.xe s
def Vals.one:∀{x:V}{a:ae5},Vals [x] a->∃u,a=[u]/\RelV x u:=by intro _ _ h;cases h with| cons r t=>cases t;exact%[_,rfl|r]
theorem Vals.eraseIdx:∀{xs:List V}{a:ae5}(i:Nat),Vals xs a->Vals (xs.eraseIdx i) (a.eraseIdx i)
 | _,_,_,.nil=>.nil
 | _,_,0,.cons _ t=>t
 | _,_,i+1,.cons r t=>.cons r (Vals.eraseIdx i t)
theorem Vals.rep(h:Vals xs a):∀k:Nat,Vals (List.replicate k xs).flatten (List.replicate k a).flatten
 | 0=>.nil
 | k+1=>by rw[fR,fR,iX,iX];exact Vals.append h (Vals.rep h k)
theorem zH{a:Type}:∀(l:List a)(i:Nat),(l.eraseIdx i).length<=l.length
 | [],_=>y9 _
 | _::_,0=>hZ _
 | _::r,i+1=>Nat.succ_le_succ (zH r i)
theorem foldl_rep(its:ae5):∀(k:Nat)(acc:ae5),
 List.foldl (λ x1 x2=>x1++x2) acc.toArray (List.replicate k its.toArray)=(acc++(List.replicate k its).flatten).toArray
 | 0,acc=>by simp
 | k+1,acc=>by
   have e:acc.toArray++its.toArray=(acc++its).toArray:=by simp
   have a:(acc++its)++(List.replicate k its).flatten=acc++(List.replicate (k+1) its).flatten:=by rw[fR,iX,ci]
   rw[<-a,<-foldl_rep its k (acc++its),<-e,fR,nS]
section
variable{X:Cx}{pins:List (Addr × Obj)}{σ:St}{H:Hp}{s:Shared}{l b:Addr}{xs ys zs:List V}
def Inv.lset{its its':ae5}(I:%[|3])(a:H l=some (.lst xs))
 (e:s.heap.get? l=some {cls:=%[|16],data:=.seq its.toArray n})(c:f its.toArray=its'.toArray)(g:Vals ys its')(hz:ys.length<=sizeLine):
 Inv X pins σ (upd H l (.lst ys)) {s with heap:=s.heap.update l (Obj.mapSeq f),toks:=t'}:=by have q:=PySem.IsL.update e f;rw[c]at q;refine I.write (x:=l) (e:=l) (by rw[a];exact trivial) (.inl rfl) (λ h u b d=>(kN s.heap (Obj.mapSeq f) (kA b)).trans d) %[_|q] ?_;exact%[hz,its',_,g|q]
def Inv.lnew(I:%[|3])(a:Vals ys its)(hz:ys.length<=sizeLine):
 Inv X pins σ (upd H s.heap.objs.size (.lst ys)) {s with heap:=s.heap.push {cls:=%[|16],data:=.seq its.toArray},toks:=t'}:=
 I.laid (λ _ _ q=>bE _ q) (y9 _) %[hz,its,0,a|c9 _ rfl]
def Inv.fresh(I:%[|3]):H s.heap.objs.size=none:=I.hok.fresh (y9 _)
def Inv.lstM(I:%[|3])(a:H l=some (.lst xs)):xs.length<=sizeLine/\∃(its:ae5) (n:Nat),Vals xs its/\xs.length=its.length/\s.heap.get? l=some {cls:=%[|16],data:=.seq its.toArray n}:=by obtain⟨z,its,n,r,e⟩:=I.hok l _ a;exact%[z,its,n,r,r.length|e]
def Vy(h:n<=sizeLine):Builtin.List.listTooLong n=false:=by unfold Builtin.List.listTooLong;exact cE %[|0]
end
section
variable{X:Cx}
def Yj:V->List V->Hp->VK->Prop:=λ x b H Q=>∃l a y,x=.ref l/\b=[y]/\H l=some (.lst a)/\a.length<sizeLine/\Q .non (upd H l (.lst (a++[y])))
def zQ:MtM X "list.append" Yj:=by intro c s p H x m v k Q I g f h;obtain⟨l,o,y,rfl,rfl,b,j,q⟩:=h;cases g;obtain⟨u,rfl,d⟩:=f.one;obtain⟨z,a,n,r,i,e⟩:=I.lstM b;refine ky F.slot_list_append %[_,e|rfl] F.entry_list_append (F.args_list_append_2 _ _) (PySem.list_append l a.toArray n u (by rw[x5];omega)) %[e|?_];refine%[.non,_,I.lset (its':=a++[u]) b e (by simp) (r.append (.cons d .nil)) ?_,rfl|q];rw[x8,hE];omega
def Ff:V->List V->Hp->VK->Prop:=λ x b H Q=>∃l a i k y,x=.ref l/\b=[.int i]/\H l=some (.lst a)/\ -(2 ^ 63)<=i/\i<2 ^ 63/\seqIndex? i a.length=some k/\a[k]? =some y/\Q y (upd H l (.lst (a.eraseIdx k)))
def UT:MtM X "list.pop" Ff:=by
 intro d s J H x G v E Q I C B h;obtain⟨l,D,i,k,y,rfl,rfl,c,f,g,j,p,q⟩:=h;cases C;obtain⟨u,rfl,A⟩:=B.one;obtain⟨t,rfl⟩:=A;obtain⟨z,a,n,r,m,e⟩:=I.lstM c;obtain⟨w,o,b⟩:=r.get p;refine ky F.slot_list_pop %[_,e|rfl] F.entry_list_pop (F.args_list_pop_2 _ _)
  (MeetsSeq.list_pop_at l a.toArray n i t k w (fitsIndex_both f g) (by rw[x5,<-m];exact j) (by rw[<-ge];exact o) (by rw[x5];omega)) %[e|?_];refine%[y,_,I.lset (its':=a.eraseIdx k) c e ?_ (r.eraseIdx k) ?_,b|q];{show a.toArray.eraseIdxIfInBounds k=(a.eraseIdx k).toArray;rw[List.eraseIdxIfInBounds_toArray]};{have:=zH D k;omega}
def len_rep{b:Type}(xs:List b)(k:Nat):(List.replicate k xs).flatten.length=k*xs.length:=by
 induction k with
 | zero=>simp
 | succ k a=>rw[fR,iX,x8,a,l4,Nat.add_comm]
end
end L2
namespace Att
open PySem PySem.W PySem.Calls PyProof.Rows
def wy:∀(ns:ae0)(vs:ae5),WellAll P h vs (ns.map WData.int)->IntsAre vs ns:=by
 intro ns
 induction ns with
 | nil=>intro vs w;rw[l0]at w;cases w;exact .nil
 | cons n ns c=>intro vs w;rw[cn]at w;cases w with| cons a b=>cases a;exact .cons _ _ (c _ b)
def Ro{l:OpenLaw}(t:l.most=some n)
 (b:l.row.toRowW.claim.pre args=true)(k:WellAll P h c args):
 ∃a vs ns,c=[Value.ref a]/\args=[WData.list (ns.map WData.int)]/\h.get? a=some {cls:=%[|16],data:=.seq vs.toArray}/\IntsAre vs ns/\ns.length<=n:=by
 have j:WShape.hasAll [] args [.list .int]=true:=(pre_splitW b).1;have m:l.pre.holds [] {args:=args}=true:=(pre_splitW b).2;obtain⟨d,r,rfl,o,p⟩:=hasAllW_cons j;obtain rfl:=hasAllW_nil p;obtain⟨y,rfl,s⟩:=hasW_list o;obtain⟨ns,rfl⟩:=items_int s;have f:ns.length<=n:=by
  unfold OpenLaw.pre at m;have g:(WTm.not (.lt (.lit (.int (n:Int))) (.len (.arg 0)))).holds [] {args:=[.list (ns.map .int)]}=true:=by have g:=(holds_andW m).1;rw[t]at g;exact g
  have i:=condW_of g (w_not (w_lt w_lit (w_len_list (w_arg rfl))));rw[y7]at i;refine Nat.le_of_not_lt λ q=>?_;have v:(n:Int)<((ns.length:Nat):Int):=%[|0]
  first
   | (rw[cb v]at i;exact absurd i %[|1])
   | (simp at i;omega)
 cases k with| cons w x=>cases x;cases w with| list u e=>exact%[_,_,ns,rfl,rfl,u,wy ns _ e|f]
def QR(l:OpenLaw)(args:List WData):l.row.toRowW.claim.post args (.bool true) args=true:=
 postW_of (r:=l.row.toRowW) (X:=(true==true))
  (show WShape.has [] (.bool true) .bool=true by first | rfl | decide | simp[WShape.has,WShape.arms,WShape.armsAll])
  (show(WTm.eq .res (.lit (.bool true))).value [] {args:=args,res:=some (.bool true),after:=args}=some (.bool (true==true))from w_eq_bool (w_res rfl) w_lit) rfl
def attach_call{l:OpenLaw}
 (M:l.most=some n)(p:d.params.defaults=[])
 (call:∀(w:World)(s₀ b:ae4)(mg u:ae8)(h:Addr)(o:Obj)(v cd e:Value)(a:Addr)(vs:ae5)(ns:ae0),
  Ground q c [] x w s₀ mg u b.heap->y w b.heap->
  b.heap.get? h=some o->o.data=.func (docDef d.name d.params d.body d.scope v cd e)->b.heap.CodeRec cd d.name->mg d.name=some (.ref h)->
  b.heap.get? a=some {cls:=%[|16],data:=.seq vs.toArray}->IntsAre vs ns->ns.length<=n->b.gens=#[]->
  codeAny (model l.prog w) callerA (.call (.ref h) %[[.ref a]|[]]) (λ r s'=>r=.ok (.ret (.bool true))/\OldK b.heap s'.heap/\s'.os=b.os/\AllBare s'.gens) b):
 WalkO q c x y l.row.toRowW d [] (λ f vs=>PySem.call f vs):=by intro w s₀ b mg u G Y h o v cd e D Q N I m A s J z C R k B P t K;obtain rfl:D=.none:=Dflts.none A p;obtain rfl:Q=.none:=Dflts.noKw A;obtain⟨a,vs,ns,rfl,rfl,j,g,i⟩:=Ro M k t;refine enter_call (kX (call w s₀ b mg u h o v cd e a vs ns G Y N (fd_plain I) m s j g i J) λ r s' O=>?_);obtain⟨rfl,E,F,H⟩:=O;exact%[.inl %[.bool true,.bool true,[],rfl,λ _=>rfl,.bool true,QR l _|λ _=>%[List.Pairwise.nil|λ _ L=>(nomatch L)]],E,F|H]
end Att
namespace L2
open PySem PySem.Spec PyProof.Rows
theorem gw:∀{vs:ae5}{ns:ae0},IntsAre vs ns->Vals (ns.map V.int) vs
 | _,_,.nil=>.nil
 | _,_,.cons n t h=>.cons %[t|rfl] (gw h)
def Only(H:Hp):Prop:=∀b,H b=none\/∃o a,H b=some (.frz o (.lst a))
def V4{K}
 (T:K.In c.heap)(B:c.heap.Ns mainGlobals mg)(f:c.heap.Ns builtinsNs R)(N:∀x:Str,x≠"__name__"->R x=bootBuiltins x)(A:c.heap.NoLimit)(hg:c.gens=#[])
 (I:c.heap.get? a=some {cls:=%[|16],data:=.seq vs.toArray})(hi:IntsAre vs ns)(hl:ns.length<=sizeLine)(hr:Room k callerA)
 (F:∀base:Heap,K.In base->base.Ns mainGlobals mg->FnOk P w K mg base CX k L X [x] sp)(j:∀(s:ae4)(u:Value),BindsTo s X %[[u]|[]] [(x,u)])
 (Q:∀H:Hp,Only H->SqL K H a (ns.map V.int)->sp [.ref a] H (λ v _=>v=.bl true) λ _ _ _=>False)
 (M:∀H e s',CX [] H c (λ _ _ _=>False) e s'->False):
 codeAny (model P w) callerA (.call (.ref L) %[[.ref a]|[]]) (λ r s'=>r=.ok (.ret (.bool true))/\OldK c.heap s'.heap/\s'.os=c.os/\AllBare s'.gens) c:=by
 have rv:=gw hi;have E:=hi.length;have i:∀H:Hp,Only H->SqL K H a (ns.map V.int)->HOk P w H c.heap->(∀b,H b≠none->b=a)->(H a≠none->K.lookup a=none)->
  codeAny (model P w) callerA (.call (.ref L) %[[.ref a]|[]]) (λ r s'=>r=.ok (.ret (.bool true))/\OldK c.heap s'.heap/\s'.os=c.os/\AllBare s'.gens) c:=by
  intro H Z hS C Y hK;have W:∀{b:Addr}{o:Obj},c.heap.get? b=some o->H b=none->(ou c.heap H).get? b=some o:=λ e n=>V3 e n;have S:∀{b:Addr}{o:Obj}{t:Array DictEntry}{p:Nat},c.heap.get? b=some o->o.data=.dict t p->H b=none:=λ{b o t p} e d=>by
   cases q:H b with
   | none=>rfl
   | some u=>have J:b=a:=Y b (by rw[q];simp);subst J;rw[I]at e;cases e;have d':Data.seq vs.toArray _=Data.dict t p:=d;cases d'
  have g:∀{b:Addr}{m:ae8},c.heap.Ns b m->(ou c.heap H).Ns b m:=λ{b m} ⟨o,t,p,e,d,r⟩=>%[o,t,p,W e (S e d),d|r];have y:K.In (ou c.heap H):=λ b o e=>W (T b o e) (by
   cases q:H b with
   | none=>rfl
   | some u=>have J:b=a:=Y b (by rw[q];simp);subst J;rw[hK (by rw[q];simp)]at e;cases e);have hM:Mod K mg (ou c.heap H):=%[y,g B,%[R,g f|N]|let ⟨mc,h1,h2⟩:=A;%[mc,g h1|h2]];have e0:Env0 P w K mg (ou c.heap H) callerA [] c H:=%[rfl,hM,λ b o e=>Zi e,nV (Ra _ _),trivial,λ b f=>absurd (show b∈([]:List Addr)from f) (by simp),C|.of_eq hg];refine kX ((F _ y (g B)).run callerA [] c H %[[.ref a]|[]] [.ref a] [.ref a] _ _ hr e0 (j c (.ref a)) (.cons rfl .nil) (Q H Z hS)) λ r s' h=>?_
  cases r with
  | error e=>exact(M H e s' h).elim
  | ok fl =>
    cases fl with
    | next=>exact False.elim h
    | brk=>exact False.elim h
    | cont=>exact False.elim h
    | ret u=>
      obtain⟨v,H',os,l,un,D,r',q⟩:=h;have q':v=.bl true:=q;subst q';obtain rfl:u=Value.bool true:=r';refine%[rfl,OldK.of_keep λ b o e=>?_,os|l]
      cases q:H b with
      | none=>exact un.keep b o e q (by intro z;exact absurd (show b∈([]:List Addr)from z) (by simp)) (by simp)
      | some u=>rcases Z b with z | ⟨ob,xs,z⟩;{rw[q]at z;cases z};{have z2:=un.frzs b ob _ z;obtain⟨U,_⟩:=C b _ z;obtain⟨e2,_⟩:=D b _ z2;rw[e]at U;cases U;exact e2}
 cases O:K.lookup a with
 | some o=>have e:=T a o O;rw[I]at e;cases e;refine i (λ _=>none) (λ _=>.inl rfl) (.inr %[_,vs.toArray,_,O,rfl,rfl,rfl,by rw[x5,E];exact hl|by simpa using rv]) (λ b u z=>by have G:(none:Option HO)=some u:=z;cases G) (λ b z=>absurd rfl z) λ z=>absurd rfl z
 | none=>refine i (λ b=>if b=a then some (.frz {cls:=%[|16],data:=.seq vs.toArray} (.lst (ns.map V.int)))else none) (λ b=>?_) (.inl (.inr %[{cls:=%[|16],data:=.seq vs.toArray}|ca rfl])) (λ b u z=>?_) (λ b z=>?_) λ _=>O;{by_cases f:b=a;{exact .inr %[_,_|ca f]};{exact .inl (bP f)}};{by_cases f:b=a;{have G:=(ca f).symm.trans z;cases G;subst f;exact%[I,by rw[y7];exact hl,vs,_,rv|I]};{have G:=(bP f).symm.trans z;cases G}};{by_cases f:b=a;{exact f};{exact absurd (bP f) z}}
abbrev KOf{K:ae1}{h:Heap}(_:K.In h):PySem.W.Frag:=K
def walk_of{l:PySem.W.OpenLaw}{K:Params->PySem.W.Frag}{CX:World->CXT}{sp:World->Sp}
 (Q:l.most=some n)(y:n<=sizeLine)(r:d.params.defaults=[])(R:Room k callerA)
 (M:∀(w:World)(h:Heap),B w h->(K w.params).In h)
 (F :∀(w:World)(mg:ae8)(m:Addr)(h:Heap),(K w.params).In h->h.Ns mainGlobals mg->mg d.name=some (.ref m)->
  ∃ fd:FuncData,(∀(s:ae4)(u:Value),BindsTo s fd %[[u]|[]] [(x,u)])/\
    ∀base:Heap,(K w.params).In base->base.Ns mainGlobals mg->FnOk l.prog w (K w.params) mg base (CX w) k m fd [x] (sp w))
 (z:∀(w:World)(H:Hp)(a:Addr)(ns:ae0),ns.length<=n->Only H->SqL (K w.params) H a (ns.map V.int)->sp w [.ref a] H (λ v _=>v=.bl true) λ _ _ _=>False)
 (p:∀(w:World)(H:Hp)(s:ae4)(e:Value)(s':ae4),CX w [] H s (λ _ _ _=>False) e s'->False):
 PySem.W.WalkO q g D B l.row.toRowW d [] (λ f vs=>PySem.call f vs):=by refine Att.attach_call Q r λ w C j mg W m o X S E a vs ns G Y U T O t i c b P=>?_;have A:=M w _ Y;obtain⟨fd,N,I⟩:=F w mg m _ A G.T.g t;exact V4 A G.T.g G.T.b G.T.builtins G.T.nolimit P i c (cK b y) R I N (λ H J L=>z w H a ns b J L) λ H e s'=>p w H j e s'
def iG(s:Stmt):Arguments:=match s with
 | .FunctionDef _ a _ _ _ _ _ _ _ _=>a
 | _=>{posonlyargs:=[],args:=[],vararg:=none,kwonlyargs:=[],kw_defaults:=[],kwarg:=none,defaults:=[]}
def dI(s:Stmt):List Stmt:=match s with
 | .FunctionDef _ _ b _ _ _ _ _ _ _=>b
 | _=>[]
def aY(s:Stmt):Scope:=match s with
 | .FunctionDef _ _ _ _ _ _ sc _ _ _=>sc
 | _=>{kind:=.function,names:=[],isGenerator:=false,isCoroutine:=false}
abbrev CX0:CXT:=λ _ _ _ _ _ _=>False
abbrev E0:XK:=λ _ _ _=>False
def acq:Q3 CX0 X E0:=λ _ _ _ _ _ _ _ h=>h.elim
structure Fun(K:ae1)(x qual:Str)(st:Stmt)(f:Addr)(fd:FuncData):Prop where
 ex:∃(oc:Value) (od:af7) (kV doc pm:Value) (an:af7) (cdv ct:Value) (osl:af2),
  fd=PySem.W.fnOf x qual (iG st) (dI st) (aY st) .none kV doc pm an cdv ct/\K.lookup f=some %[oc,od,.func fd|osl]/\PySem.W.codeIn K cdv qual=true
 kp:PySem.W.keepIn K (.ref f)=true
section
variable{P:Program}{w:World}{K:PySem.W.Frag}{mg:Str -> Option Value}{base:Heap}
def Fun.binds{st}(F:Fun K x a st f j)
 (h:∀(e c g:Value)(d:af7)(b ct:Value)(i:ae5),i.length=ps.length->bindArgs (PySem.W.fnOf x a (iG st) (dI st) (aY st) .none e c g d b ct) %[i|[]]=pure (ps.zip i)):Binds K j ps []:=by obtain⟨n,o,e,c,g,d,b,ct,l,rfl,m,k⟩:=F.ex;exact .all (h e c g d b ct)
def Qe{st}(l:K.lookup f=some %[j,od,.func (PySem.W.fnOf x a (iG st) (dI st) (aY st) .none h d i g b ct)|e])
 (c:PySem.W.codeIn K b a=true)(k:PySem.W.keepIn K (.ref f)=true):Fun K x a st f (PySem.W.fnOf x a (iG st) (dI st) (aY st) .none h d i g b ct):=%[%[j,od,h,d,i,g,b,ct,e,rfl,l|c]|k]
end
def fW(H H':Hp):Prop:=∀b o,H b=some o->H' b=some o
def fW.refl(H:Hp):fW H H:=λ _ _ h=>h
variable{Q:%[|25]}
section
variable{κ:Type}[DecidableEq κ]
def gW(kvs:List (κ×V))(k:κ):Option V:=(kvs.find? λ kv=>decide (kv.1=k)).map (·.2)
def putK(kvs:List (κ×V))(k:κ)(v:V):List (κ×V):=
 if(kvs.any λ kv=>decide (kv.1=k))=true then kvs.map (λ kv=>if kv.1=k then(kv.1,v)else kv)else kvs++[(k,v)]
def oE{k:κ}(e:p.1=k):gW (p::r) k=some p.2:=by simp[gW,eM,e]
def m5{k:κ}(e:¬p.1=k):gW (p::r) k=gW r k:=by simp[gW,eM,e]
theorem Hb(k:κ):∀kvs:List (κ×V),(kvs.any λ kv=>decide (kv.1=k))=(gW kvs k).isSome
 | []=>rfl
 | p::r=>by rw[ii];by_cases e:p.1=k;{simp only[oE e,cb e,Bool.true_or,oB]};{rw[m5 e,cE e,Bool.false_or];exact Hb k r}
def lV(kvs:List (κ×V))(k:κ)(v:V):(putK kvs k v).length<=kvs.length+1:=by unfold putK;split;{rw[y7];omega};{rw[x8,dS,List.length_nil];omega}
def lQ.isSome_eq(r:lQ o u):o.isSome=u.isSome:=by
 cases o with
 | none=>cases u with
   | none=>rfl
   | some _=>exact(show False from r).elim
 | some _=>cases u with
   | none=>exact(show False from r).elim
   | some _=>rfl
def KV.val(r:KV kvs vs)(k:κ):lQ (gW kvs k) (valueAt vs k):=by
 unfold KV at r
 induction r with
 | nil=>exact True.intro
 | @cons p q i c h t g=>
   obtain⟨d,f⟩:=h;by_cases e:p.1=k
   . have a:q.1=k:=d.symm.trans e;have b:valueAt (q::c) k=some q.2:=by simp[valueAt,eM,a]
     rw[oE e,b];exact f
   . have a:¬q.1=k:=λ z=>e (d.trans z);have b:valueAt (q::c) k=valueAt c k:=by simp[valueAt,eM,a]
     rw[m5 e,b];exact g
def KV.any(r:KV kvs vs)(k:κ):(kvs.any λ kv=>decide (kv.1=k))=vs.any λ kv=>decide (kv.1=k):=by
 unfold KV at r
 induction r with
 | nil=>rfl
 | cons h t a=>rw[ii,ii,a,h.1]
def KV.repl(r:KV kvs vs)(k:κ)(d:RelV y u):
 KV (kvs.map λ kv=>if kv.1=k then(kv.1,y)else kv) (vs.map λ kv=>if kv.1=k then(kv.1,u)else kv):=by
 unfold KV at r ⊢
 induction r with
 | nil=>exact .nil
 | @cons p q f g h t c=>rw[cn,cn];refine .cons ?_ c;obtain⟨a,b⟩:=h;by_cases e:p.1=k;{rw[ca e,ca (a.symm.trans e)];exact%[a|d]};{rw[bP e,bP (λ z=>e (a.trans z))];exact%[a|b]}
def KV.put(r:KV kvs vs)(k:κ)(a:RelV y u):KV (putK kvs k y) (stored vs k u):=by unfold putK stored;rw[r.any k];by_cases e:(vs.any λ kv=>decide (kv.1=k))=true;{rw[ca e,ca e];exact r.repl k a};{rw[bP e,bP e];exact Paired.snoc r %[rfl|a]}
def KV.length{vs:List (κ×Value)}(r:KV kvs vs):kvs.length=vs.length:=Paired.length r
end
def vI(r:RelV (kV k) u):(cP P w).is k u=true:=by
 cases k with
 | inl i=>obtain⟨t,e⟩:=(show ∃t,u=Value.int i t from r);subst e;exact Jq P w i t
 | inr x=>obtain⟨t,e⟩:=(show ∃t,u=Value.str x t from r);subst e;exact JV P w x t
theorem zK:∀{ks:List Key}{a:ae5},Vals (ks.map kV) a->ItemsAre (cP P w) ks a
 | [],_,r=>by rw[l0]at r;cases r;exact .nil
 | k::ks,_,r=>by rw[cn]at r;cases r with| cons h t=>exact .cons (vI h) (zK t)
abbrev KT(H:Hp):List (List Key×V)->List (List Key×Addr×Value)->Prop:=Paired λ p q=>p.1=q.1/\H q.2.1=some (.tup (p.1.map kV))/\RelV p.2 q.2.2
def KT.val(r:KT H kvs xs)(k:List Key):lQ (gW kvs k) ((atKey xs k).map (·.2)):=by
 induction r with
 | nil=>exact True.intro
 | @cons p q i c h t g=>
   obtain⟨d,_,f⟩:=h;by_cases e:p.1=k
   . have a:q.1=k:=d.symm.trans e;have b:atKey (q::c) k=some q.2:=by simp[atKey,eM,a]
     rw[oE e,b];exact f
   . have a:¬q.1=k:=λ z=>e (d.trans z);have b:atKey (q::c) k=atKey c k:=by simp[atKey,eM,a]
     rw[m5 e,b];exact g
def KT.repl(r:KT H kvs xs)(k:List Key)(f:RelV y u):
 KT H (kvs.map λ kv=>if kv.1=k then(kv.1,y)else kv) (xs.map (putAt k u)):=by
 induction r with
 | nil=>exact .nil
 | @cons p q g i h t d=>rw[cn,cn];refine .cons ?_ d;obtain⟨a,b,c⟩:=h;unfold putAt;by_cases e:p.1=k;{rw[ca e,ca (a.symm.trans e)];exact%[a,b|f]};{rw[bP e,bP (λ z=>e (a.trans z))];exact%[a,b|c]}
def KT.put(r:KT H kvs xs)(k:List Key)(c:H b=some (.tup (k.map kV)))(a:RelV y u):
 KT H (putK kvs k y) (storedH xs k b u):=by
 have e:(kvs.any λ kv=>decide (kv.1=k))=(atKey xs k).isSome:=by rw[Hb,(r.val k).isSome_eq,oS]
 unfold putK storedH;rw[e];by_cases q:(atKey xs k).isSome=true;{rw[ca q,ca q];exact r.repl k a};{rw[bP q,bP q];exact Paired.snoc r %[rfl,c|a]}
def KT.keeps(r:KT H kvs xs)(c:∀b ys,H b=some (.tup ys)->a b=some (.tup ys)):KT a kvs xs:=
 adI r λ _ _ z=>%[z.1,c _ _ z.2.1|z.2.2]
section
variable{P:Program}{w:World}{H:Hp}{h:Heap}{a:Addr}
def Wm(ok:HOk P w H h)(e:Rd H a u):aW P w H h a u:=e.ok ok
def sV(ok:HOk P w H h)(e:Rd H a (.dK kvs)):kvs.length<=sizeLine/\(a==sysModules)=false/\∃vs,KV kvs vs/\h.DictOf (cP P w) a vs:=
 show aW P w H h a (.dK kvs)from Wm ok e
def acd(ok:HOk P w H h)(e:H a=some (.dK kvs)):kvs.length<=sizeLine/\(a==sysModules)=false/\∃vs,KV kvs vs/\h.DictOf (cP P w) a vs:=sV ok (.inl e)
def mJ(ok:HOk P w H h)(e:H a=some (.tup (ks.map kV))):(tupleKind (cP P w)).is h ks a:=by obtain⟨_,b,r,o,c,d,n,f⟩:=(show aW P w H h a (.tup (ks.map kV))from ok a _ e);exact%[o,b.toArray,n,c,d,f|by simpa using zK r]
def rJ(ok:HOk P w H h)(e:Rd H a (.dT kvs)):kvs.length<=sizeLine/\(a==sysModules)=false/\
 ∃xs,KT H kvs xs/\h.DictOfH (tupleKind (cP P w)) a xs:=by
 obtain⟨z,y,xs,r,o,f,d,g,i,j,k,n⟩:=(show aW P w H h a (.dT kvs)from Wm ok e);refine%[z,y,xs,r,o,f,d,g,i,j,k,λ x b=>?_|n];have c:∀{l:List (List Key×V)}{m:List (List Key×Addr×Value)},KT H l m->∀x∈m,(tupleKind (cP P w)).is h x.1 x.2.1:=by
  intro l m q
  induction q with
  | nil=>intro x b;exact nomatch b
  | @cons p q u v hq t s=>intro x b;rcases cr.mp b with e | b;{subst e;exact mJ ok (by rw[<-hq.1];exact hq.2.1)};{exact s x b}
 exact c r x b
def WT(ok:HOk P w H h)(e:H a=some (.dT kvs)):kvs.length<=sizeLine/\(a==sysModules)=false/\
 ∃xs,KT H kvs xs/\h.DictOfH (tupleKind (cP P w)) a xs:=rJ ok (.inl e)
end
def lZ(H:Hp)(a:Addr)(y:V)(r:Option V):Prop:=
 (∃c k,Rd H a (.dK c)/\y=kV k/\r=gW c k)\/∃c k b,Rd H a (.dT c)/\y=.ref b/\H b=some (.tup (k.map kV))/\r=gW c k
def Fw(H:Hp)(a:Addr)(y v:V)(H':Hp):Prop:=
 (∃c k,H a=some (.dK c)/\y=kV k/\c.length<sizeLine/\H'=upd H a (.dK (putK c k v)))\/
 ∃c k b,H a=some (.dT c)/\y=.ref b/\H b=some (.tup (k.map kV))/\c.length<sizeLine/\H'=upd H a (.dT (putK c k v))
def lZ.t(e:H a=some (.dT kvs))(c:H b=some (.tup (k.map kV))):lZ H a (.ref b) (gW kvs k):=.inr %[kvs,k,b,.inl e,rfl,c|rfl]
def Fw.t(e:H a=some (.dT kvs))(c:H b=some (.tup (k.map kV)))(d:kvs.length<sizeLine):
 Fw H a (.ref b) v (upd H a (.dT (putK kvs k v))):=.inr %[kvs,k,b,e,rfl,c,d|rfl]
section
variable{X:Cx}{pins:List (Addr × Obj)}{σ:St}{H:Hp}{s:Shared}{a:Addr}{y v:V}{u r:Value}{o:Option V}{A:Around}{E:%[|25]}
def Inv.big(I:%[|3]):sysModules<s.heap.objs.size:=by have h:mainGlobals<s.heap.objs.size:=(I.mod.glob.keeps I.bk).lt;exact Nat.lt_trans %[|1] h
def RT(x:A.units+1<cLine)(I:%[|3])(g:lZ H a y (some v))(q:RelV y u)(h:∀w' s',Inv X pins σ H s'->RelV v w'->Q w' s'):
 wpAny %[|5] A (getItem (.ref a) u) Q E s:=by rcases g with⟨n,k,e,i,l⟩ | ⟨n,k,b,e,i,r,l⟩;{subst i;obtain⟨z,t,B,c,f⟩:=sV I.hok e;obtain⟨w',m,d⟩:=adL (v:=v) (o:=valueAt B k) (by rw[l];exact c.val k);exact wpAny_getItem_of (vI q) f.mapOf m (h w' _ (I.tok _) d)};{subst i;cases (show u=Value.ref b from q);obtain⟨z,t,C,c,f⟩:=rJ I.hok e;obtain⟨w',m,d⟩:=adL (v:=v) (o:=(atKey C k).map (·.2)) (by rw[l];exact c.val k);obtain⟨p,w,j⟩:=k7.mp m;refine wpAny_getItem_heap (ml x) (mJ I.hok r) f w ?_;rw[j];exact h w' _ (I.tok _) d}
def ac2(p:A.units+1<cLine)(I:%[|3])(g:lZ H a y o)(m:RelV y u)(h:∀s',Inv X pins σ H s'->Q (.bool o.isSome) s'):
 wpAny %[|5] A (compareOp .In u (.ref a)) Q E s:=by rcases g with⟨j,k,e,f,l⟩ | ⟨j,k,b,e,f,n,l⟩;{subst f;obtain⟨z,i,r,c,d⟩:=sV I.hok e;refine wpAny_in_of (vI m) i d.mapOf ?_;rw[<-(c.val k).isSome_eq,<-l];exact h _ (I.tok _)};{subst f;cases (show u=Value.ref b from m);obtain⟨z,i,t,c,d⟩:=rJ I.hok e;refine wpAny_in_heap (ml p) (mJ I.hok n) i d ?_;have q:=(c.val k).isSome_eq;rw[oS]at q;rw[<-q,<-l];exact h _ (I.tok _)}
def Zt(p:A.units+1<cLine)(I:%[|3])(g:lZ H a y o)(m:RelV y u)(h:∀s',Inv X pins σ H s'->Q (.bool (!o.isSome)) s'):
 wpAny %[|5] A (compareOp .NotIn u (.ref a)) Q E s:=by rcases g with⟨j,k,e,f,l⟩ | ⟨j,k,b,e,f,n,l⟩;{subst f;obtain⟨z,i,r,c,d⟩:=sV I.hok e;refine wpAny_notIn_of (vI m) i d.mapOf ?_;rw[<-(c.val k).isSome_eq,<-l];exact h _ (I.tok _)};{subst f;cases (show u=Value.ref b from m);obtain⟨z,i,t,c,d⟩:=rJ I.hok e;refine wpAny_notIn_heap (ml p) (mJ I.hok n) i d ?_;have q:=(c.val k).isSome_eq;rw[oS]at q;rw[<-q,<-l];exact h _ (I.tok _)}
def jJ(I:%[|3])(h:Mut (H a))(hs:Heap.SameBut a s.heap h')(g:∃q,h'.get? a=some q)(c:aW X.prog X.w (upd H a d) h' a d):
 Inv X pins σ (upd H a d) {s with heap:=h',toks:=t'}:=
 I.write (x:=a) (e:=a) h (.inl rfl) (λ b q f z=>(hs.2 b f).trans z) g c
def abl(z:kvs.length<=sizeLine)(e:(a==sysModules)=false)(b:KV kvs vs)(d:h'.DictOf (cP P w) a vs):
 aW P w c h' a (.dK kvs):=%[z,e,vs,b|d]
def Py{Q}(R:A.units+1<cLine)(I:%[|3])(g:Fw H a y v x)(G:RelV y u)(F:RelV v r)(h:∀s',Inv X pins σ x s'->Q () s'):
 wpAny %[|5] A (setItem (.ref a) u r) Q E s:=by
 rcases g with⟨d,k,e,o,l,n⟩ | ⟨d,k,b,e,o,B,l,n⟩
 . subst o n;obtain⟨z,p,S,f,m⟩:=acd I.hok e;have hz:S.length<=sizeLine:=by rw[<-f.length];exact z
   have t:(putK d k v).length<=sizeLine:=by have:=lV d k v;omega
   refine wpAny_setItem_pairs (hsz:=hz) (vI G) m λ D i w=>h _ ?_;have P:∃q,D.get? a=some q:=let ⟨q,_,_,j,_⟩:=i;%[q|j];exact jJ I (by rw[e];exact True.intro) w P (abl t p (f.put k F) i)
 . subst o n;cases (show u=Value.ref b from G);obtain⟨z,p,T,f,m⟩:=WT I.hok e;have hz:T.length<=sizeLine:=by rw[<-Paired.length f];exact z
   have t:(putK d k v).length<=sizeLine:=by have:=lV d k v;omega
   refine wpAny_setItem_heap (hsz:=hz) (ml R) (mJ I.hok B) m λ D i w=>h _ ?_;obtain⟨q,K,J,j,L,M,N,_,O⟩:=i;refine jJ I (by rw[e];exact True.intro) w %[q|j] %[t,p,_,(f.put k B F).keeps λ c U C=>?_,q,K,J,j,L,M,N|O];rw[az (Ww C e (λ z=>nomatch z))];exact C
end
def Eu(i:Expr):Prop:=∀b a,subscripted i false b a=operate [b,a] (getItem b a)
def yX{T id}
 (l:typeLookup (.type T) "__getitem__"=pure (some (.builtin id)))(hs:Eu a)
 (h:wpAny %[|6] A (eval b env) (λ o s₁=>wpAny %[|6] A (eval a env) (λ i s₂=>s₂.TypeIs o T/\wpAny %[|6] A (getItem o i) Q E s₂) E s₁) E s):
 wpAny %[|6] A (eval (.Subscript b a j) env) Q E s:=by
 refine Subscript_ (gl h (λ o s₁ f=>gl f (λ i s₂ c=>?_) λ _ _ x=>x) λ _ _ x=>x);obtain⟨k,c⟩:=c;unfold subscriptTail;refine b0 ?_;rw[getitemInPython_of_ne k.not_modules];refine b0 (gT k l ?_);have e:wpAny %[|6] A (subscripted a false o i) (λ r d=>wpAny %[|6] A (letTemporaryGo b o r>>=λ _=>pure r) Q E d) E s₂:=by rw[hs o i];exact wpAny_operating (gl c (λ r d g=>b0 (wpAny_letTemporaryGo (b9 g))) λ _ _ x=>x)
 first
  | exact b9 (b0 e)
  | exact b0 (b9 (b0 e))
  | exact b0 e
def JD{σ:St}(I:%[|3])(g:lZ H a y o):s.TypeIs (.ref a) "dict":=by rcases g with⟨d,k,e,_,_⟩ | ⟨d,k,b,e,_,_,_⟩;{obtain⟨_,_,f,_,c⟩:=sV I.hok e;exact c.typeIs};{obtain⟨_,_,h,_,c⟩:=rJ I.hok e;exact c.typeIs}
def acl(td ty:TE):TE:=λ c H Q=>td c H λ x d=>ty c d λ y b=>∃a v,x=.ref a/\lZ b a y (some v)/\Q v b
def ach(td ty tv:TE):TS:=λ D b H=>tv b H λ v d=>td b d λ x e=>ty b e λ y f=>∃a c,x=.ref a/\Fw f a y v c/\D.nx b c
section
variable{X:Cx}{o i e value:Expr}{pos pos' tpos:Pos}{td ty tv:TE}
def YC(j:X.A.units+1<cLine)(f:PE X o td)(hi:PE X i ty)(hs:Eu i):PE X (.Subscript o i pos) (acl td ty):=by intro b s d H Q I h;refine yX md.lookup hs (thn (f b s d H _ I h) λ u k ⟨x,H1,I1,rx,q1⟩=>thn (hi b k d H1 _ I1 q1) λ l m ⟨y,H2,I2,ry,a,v,ex,g,q2⟩=>?_);subst ex;obtain rfl:u=Value.ref a:=rx;exact%[JD I2 g|RT j I2 g ry λ p n e c=>%[v,H2,e,c|q2]]
def W9(f:X.A.units+1<cLine)(e:PE X o td)(hi:PE X i ty)(j:PE X value tv)(hs:swapsWith value (some (.Subscript o i pos')) pos.line X.env=pure false):
 PS X (.Assign [.Subscript o i pos'] value pos) (ach td ty tv):=by intro b s c H D I h;refine n3 (thn (j b s c H _ I h) λ r k ⟨v,H1,I1,rv,q1⟩=>thn (e b k c H1 _ I1 q1) λ u l ⟨x,H2,I2,rx,q2⟩=>thn (hi b l c H2 _ I2 q2) λ m n ⟨y,H3,I3,ry,a,H4,ex,g,q3⟩=>?_) hs;subst ex;obtain rfl:u=Value.ref a:=rx;exact Py f I3 g ry rv λ p d=>%[c,H4,d|q3]
end
def GP(h:Heap)(a:sysModules<h.objs.size):aW P w H (h.push {cls:=.type "dict",data:=.dict #[]}) h.objs.size (.dT []):=
 %[dr _,ma.mpr (kA (cm a)),[],.nil,_,#[],0,c9 _ rfl,%[rfl,rfl|rfl],rfl,rfl|iA]
structure M2(X:Cx)(o:Expr)(m:Str)(apos:Pos)(e f:Expr)(cpos:Pos):Prop where
 base:attributeBase o m X.env (eval o X.env)=eval o X.env
 few:((backTo cpos (starEach [e,f] X.env)).all (λ x=>!x.1)&&(backToKw cpos (keywordEach [] X.env)).all (λ x=>x.1.isSome)
  &&decide (([e,f]:List Expr).length+([]:List Keyword).length+(if([]:List Keyword).isEmpty then 0 else 1)<30))=true
 line:(apos.endLine==cpos.line)=true
 trees:backTo cpos (starEach [e,f] X.env)=[%[|42],(false,eval f X.env)]
def IsD(H:Hp)(a:Addr):Prop:=(∃b,Rd H a (.dK b))\/∃b,Rd H a (.dT b)
def Z7{σ:St}(I:%[|3])(d:IsD H a):
 s.TypeIs (.ref a) "dict"/\(∀b,Value.ref a=.ref b->∃ob,s.heap.get? b=some ob/\ob.dict=none)/\(a==sysModules)=false:=by rcases d with⟨h,e⟩ | ⟨h,e⟩;{obtain⟨_,g,i,_,c⟩:=sV I.hok e;refine%[c.typeIs,λ b q=>?_|g];cases q;obtain⟨ob,_,_,f,h2,_⟩:=c;exact%[ob,f|h2.2.1]};{obtain⟨_,g,j,_,c⟩:=rJ I.hok e;refine%[c.typeIs,λ b q=>?_|g];cases q;obtain⟨ob,_,_,f,h2,_⟩:=c;exact%[ob,f|h2.2.1]}
end L2
set_option maxHeartbeats 4000000
namespace DL
open PySem PySem.Spec L2
open PyProof.Rows
variable{a p:Addr}{xs vs:List V}{O':Own}{H':Hp}{S:Store}
abbrev St:=L2.St
inductive D where
 | non | bl(b:Bool) | int(i:Int) | str(x:Str) | tup(ds:List D) | lst(ds:List D) | loc(k:Nat) | dic | dlo(k:Nat)
abbrev Store:=List (List D)
abbrev Gam:=List (Option D)
structure Own where
 A:List (Addr×Bool)
 B:List Addr
abbrev adr(A:List (Addr×Bool)):List Addr:=A.map Prod.fst
def bU{k:Nat}(h:A[k]? =some (a,q)):a∈adr A:=bS.mpr %[_,y4 h|rfl]
def cT(A N:List (Addr×Bool)):adr (A++N)=adr A++adr N:=cf
abbrev Own.has(O:Own)(a:Addr):Prop:=a∈adr O.A\/a∈O.B
def Tp(K:ae1)(O:Own)(H:Hp)(a:Addr)(xs:List V):Prop:=¬O.has a/\H a=some (.tup xs)
def Ls(K:ae1)(O:Own)(H:Hp)(a:Addr)(xs:List V):Prop:=(¬O.has a/\Rd H a (.lst xs))\/SqL K (λ _=>none) a xs
def Tp.sq{K}(h:Tp K O H a xs):SqT K H a xs:=.inl (.inl h.2)
def Ls.sq{K}(h:Ls K O H a xs):SqL K H a xs:=by rcases h with⟨_,h⟩ | (h | h);{exact .inl h};{rcases h with h | ⟨_,h⟩<;>cases h};{exact .inr h}
def Abv(K:ae1)(a:Addr):Prop:=∀c o,K.lookup c=some o->c<a
mutual
inductive Rep(K:ae1)(O:Own)(H:Hp):V->D->Prop
 | non:Rep K O H .non .non
 | bl(b:Bool):Rep K O H (.bl b) (.bl b)
 | int(i:Int):Rep K O H (.int i) (.int i)
 | str(x:Str):Rep K O H (.str x) (.str x)
 | tup{a:Addr}{xs:List V}{ds:List D}(h:Tp K O H a xs)(r:Reps K O H xs ds):Rep K O H (.ref a) (.tup ds)
 | lst{a:Addr}{xs:List V}{ds:List D}(h:Ls K O H a xs)(r:Reps K O H xs ds):Rep K O H (.ref a) (.lst ds)
 | loc{a:Addr}{k:Nat}(h:O.A[k]? =some (a,false)):Rep K O H (.ref a) (.loc k)
 | dlo{a:Addr}{k:Nat}(h:O.A[k]? =some (a,true))(n:Abv K a):Rep K O H (.ref a) (.dlo k)
 | dic{a:Addr}(h:¬O.has a)(e:H a=some (.dK [])):Rep K O H (.ref a) .dic
inductive Reps(K:ae1)(O:Own)(H:Hp):List V->List D->Prop
 | nil:Reps K O H [] []
 | cons{v:V}{d:D}{vs:List V}{ds:List D}(r:Rep K O H v d)(t:Reps K O H vs ds):Reps K O H (v::vs) (d::ds)
end
inductive RvD(K:ae1)(O:Own)(k:Nat)(v:V):Prop
 | mk(a:Addr)(e:v=.ref a)(h:O.A[k]? =some (a,true))(n:Abv K a):RvD K O k v
inductive RvL(O:Own)(k:Nat)(v:V):Prop
 | mk(a:Addr)(e:v=.ref a)(h:O.A[k]? =some (a,false)):RvL O k v
inductive RvS(K:ae1)(O:Own)(H:Hp)(ds:List D)(v:V):Prop
 | mk(a:Addr)(xs:List V)(e:v=.ref a)(h:Ls K O H a xs)(r:Reps K O H xs ds):RvS K O H ds v
inductive RvT(K:ae1)(O:Own)(H:Hp)(ds:List D)(v:V):Prop
 | mk(a:Addr)(xs:List V)(e:v=.ref a)(h:Tp K O H a xs)(r:Reps K O H xs ds):RvT K O H ds v
section
variable{K:PySem.W.Frag}{O:Own}{H:Hp}{v:V}{k:Nat}{ds:List D}
def dM(r:Rep K O H v (.dlo k)):RvD K O k v:=by cases r with | dlo h n=>exact%[_,rfl,h|n]
def cV(r:Rep K O H v (.loc k)):RvL O k v:=by cases r with | loc h=>exact%[_,rfl|h]
def d7(r:Rep K O H v (.lst ds)):RvS K O H ds v:=by cases r with | lst h q=>exact%[_,_,rfl,h|q]
def dj(r:Rep K O H v (.tup ds)):RvT K O H ds v:=by cases r with | tup h q=>exact%[_,_,rfl,h|q]
end
structure Step(O O':Own)(H H':Hp):Prop where
 kept:∀b o,b∉adr O.A->H b=some o->H' b=some o
 dom:∀b,H b≠none->H' b≠none
 ext:∃N,O'.A=O.A++N/\∀b∈adr N,H b=none
 hid:O'.B=O.B
def Step.refl(O:Own)(H:Hp):Step O O H H:=%[λ _ _ _ h=>h,λ _ h=>h,%[[],by simp|λ _ h=>nomatch h]|rfl]
def Step.trans(a:Step O f H e)(b:Step f O2 e H2):Step O O2 H H2:=by
 obtain⟨j,g,i⟩:=a.ext;obtain⟨k,l,m⟩:=b.ext;refine%[λ c o d h=>b.kept c o (λ z=>?_) (a.kept c o d h),λ c h=>b.dom c (a.dom c h),%[j++k,by rw[l,g,ci]|λ c d=>?_]|b.hid.trans a.hid];{rw[g,cT]at z;rcases cq.mp z with z | z;{exact d z};{rw[i c z]at h;cases h}}
 . rw[cT]at d;rcases cq.mp d with z | z;{exact i c z}
   . cases q:H c with
     | none=>rfl
     | some o=>exact absurd (m c z) (a.dom c (by rw[q];simp))
def Step.nothas(s:Step O O' H H')(h:¬O.has a)(t:H a≠none):¬O'.has a:=by obtain⟨N,e,f⟩:=s.ext;rintro(z | z);{rw[e,cT]at z;rcases cq.mp z with z | z;{exact h (.inl z)};{exact t (f a z)}};{rw[s.hid]at z;exact h (.inr z)}
structure Conv(O O':Own)(H H':Hp):Prop where
 tr:∀a u,¬O.has a->H a=some u->¬O'.has a/\H' a=some u
 lc:∀(k:Nat)(a:Addr×Bool),O.A[k]? =some a->O'.A[k]? =some a
def Step.conv(s:Step O O' H H'):Conv O O' H H':=
 %[λ a u h t=>%[s.nothas h (by rw[t];simp)|s.kept a u (λ z=>h (.inl z)) t]|λ k a h=>by obtain⟨N,e,_⟩:=s.ext;rw[e,x9 (z0.mp h).1];exact h]
def Rd.conv(s:Conv O O' H H')(h:¬O.has a)(r:Rd H a u):¬O'.has a/\Rd H' a u:=by rcases r with r | ⟨o,r⟩;{obtain⟨x,y⟩:=s.tr a _ h r;exact%[x|.inl y]};{obtain⟨x,y⟩:=s.tr a _ h r;exact%[x|.inr %[o|y]]}
def Tp.conv{K}(h:Tp K O H a xs)(s:Conv O O' H H'):Tp K O' H' a xs:=s.tr a _ h.1 h.2
def Ls.conv{K}(h:Ls K O H a xs)(s:Conv O O' H H'):Ls K O' H' a xs:=by rcases h with⟨n,r⟩ | h;{exact .inl (Rd.conv s n r)};{exact .inr h}
def Reps.ind{K}{P:List V->List D->Prop}(n:P [] [])(c:∀{v:V}{d:D}{vs:List V}{ds:List D},Rep K O H v d->Reps K O H vs ds->P vs ds->P (v::vs) (d::ds))(h:Reps K O H vs ds):P vs ds:=
 Reps.rec (motive_1:=λ _ _ _=>True) (motive_2:=λ vs ds _=>P vs ds) trivial (λ _=>trivial) (λ _=>trivial) (λ _=>trivial) (λ _ _ _=>trivial) (λ _ _ _=>trivial) (λ _=>trivial) (λ _ _=>trivial) (λ _ _=>trivial) n (λ r t _ a=>c r t a) h
def Rep.conv{K}(s:Conv O O' H H')(h:Rep K O H v d):Rep K O' H' v d:=
 Rep.rec (motive_1:=λ v d _=>Rep K O' H' v d) (motive_2:=λ c b _=>Reps K O' H' c b) .non .bl .int .str (λ h _ a=>.tup (h.conv s) a) (λ h _ a=>.lst (h.conv s) a) (λ h=>.loc (s.lc _ _ h)) (λ h n=>.dlo (s.lc _ _ h) n) (λ h e=>.dic (s.tr _ _ h e).1 (s.tr _ _ h e).2) .nil (λ _ _ i j=>.cons i j) h
def Reps.conv{K}(s:Conv O O' H H')(h:Reps K O H vs ds):Reps K O' H' vs ds:=
 h.ind .nil λ r _ i=>.cons (r.conv s) i
def Rep.mono{K}(h:Rep K O H v d)(s:Step O O' H H'):Rep K O' H' v d:=h.conv s.conv
def Reps.mono{K}(h:Reps K O H v d)(s:Step O O' H H'):Reps K O' H' v d:=h.conv s.conv
abbrev Own.hide(O:Own)(p:Addr):Own:=%[O.A|p::O.B]
def Conv.hide(h:H p=none)(o:HO):Conv O (O.hide p) H (upd H p o):=
 ⟨λ a u n t=>by have b:a≠p:=aL t h;refine%[λ z=>?_|by rw[az b];exact t];rcases z with z | z;{exact n (.inl z)};{rcases cr.mp z with z | z;{exact b z};{exact n (.inr z)}},λ _ _ h=>h⟩
def Conv.unhide:Conv %[A|p::B] %[A|B] H H:=
 %[λ a u n t=>%[λ z=>n (z.elim .inl λ z=>.inr (x4 _ z))|t]|λ _ _ h=>h]
def Conv.updHid(h:p∈O.B)(o:HO):Conv O O H (upd H p o):=
 %[λ a u n t=>%[n|by rw[az (λ e=>n (.inr (by rw[e];exact h)))];exact t]|λ _ _ h=>h]
def Reps.length{K}(h:Reps K O H vs ds):vs.length=ds.length:=
 h.ind (P:=λ vs ds=>vs.length=ds.length) rfl λ _ _ i=>ei Nat.succ i
def Reps.get{K}{i:Nat}(h:Reps K O H vs ds)(e:%[|28]):∃v,vs[i]? =some v/\Rep K O H v d:=by
 revert i;refine h.ind (P:=λ vs ds=>∀{i:Nat},%[|28]->∃v,vs[i]? =some v/\Rep K O H v d) (λ e=>by simp at e) λ r t a i e=>?_
 cases i with
 | zero=>exact%[_,rfl|cc e▸r]
 | succ i=>exact a e
def Reps.append{K}(h:Reps K O H vs ds)(s:Reps K O H ws es):Reps K O H (vs++ws) (ds++es):=
 h.ind (P:=λ vs ds=>Reps K O H (vs++ws) (ds++es)) s λ r _ i=>.cons r i
def Reps.take{K}(n:Nat)(h:Reps K O H vs ds):Reps K O H (vs.take n) (ds.take n):=by
 revert n;refine h.ind (P:=λ vs ds=>∀n:Nat,Reps K O H (vs.take n) (ds.take n)) (λ n=>?_) λ r t a n=>?_;{cases n<;>exact .nil}
 . cases n with
   | zero=>exact .nil
   | succ n=>exact .cons r (a n)
def Reps.drop{K}(n:Nat)(h:Reps K O H vs ds):Reps K O H (vs.drop n) (ds.drop n):=by
 revert n;refine h.ind (P:=λ vs ds=>∀n:Nat,Reps K O H (vs.drop n) (ds.drop n)) (λ n=>?_) λ r t a n=>?_;{cases n<;>exact .nil}
 . cases n with
   | zero=>exact .cons r t
   | succ n=>exact a n
def Reps.set{K}(r:Rep K O H v d)(i:Nat)(h:Reps K O H vs ds):Reps K O H (vs.set i v) (ds.set i d):=by
 revert i;refine h.ind (P:=λ vs ds=>∀i:Nat,Reps K O H (vs.set i v) (ds.set i d)) (λ _=>.nil) λ q t a i=>?_
 cases i with
 | zero=>exact .cons r t
 | succ i=>exact .cons q (a i)
def Reps.ints{K}{ns:ae0}(h:Reps K O H vs (ns.map D.int)):vs=ns.map V.int:=by
 induction ns generalizing vs with
 | nil=>cases h;rfl
 | cons n ns a=>cases h with| cons r t=>cases r;rw[a t];rfl
theorem adB{K}:∀ns:%[|8],Reps K O H (ns.map V.int) (ns.map D.int)
 | []=>.nil
 | n::ns=>.cons (.int n) (adB ns)
def Reps.bools{K}{ns:List Bool}(h:Reps K O H vs (ns.map D.bl)):vs=ns.map V.bl:=by
 induction ns generalizing vs with
 | nil=>cases h;rfl
 | cons n ns a=>cases h with| cons r t=>cases r;rw[a t];rfl
def eG(ns:ae0):List Key:=ns.map Sum.inl
inductive Kps(K:ae1)(O:Own)(H:Hp):List (List Key×V)->List D->Prop
 | nil:Kps K O H [] []
 | cons{ns:ae0}{v:V}{d:D}{kvs:List (List Key×V)}{ds:List D}(r:Rep K O H v d)(t:Kps K O H kvs ds):Kps K O H ((eG ns,v)::kvs) (.tup [.tup (ns.map .int),d]::ds)
def Kps.conv{K}(s:Conv O O' H H')(h:Kps K O H kvs ds):Kps K O' H' kvs ds:=by
 induction h with
 | nil=>exact .nil
 | cons r t a=>exact .cons (r.conv s) a
def hC0(c:af8):Int:=reduceHash (Builtin.Tuple.tupleHashOf [hashInt c.1,reduceHash (Builtin.Tuple.tupleHashOf (c.2.map hashInt))])
abbrev Cy:=List (%[|15]×Addr×Value)
def Va(a:Addr)(ys:Cy)(h:Heap):Prop:=ys.length<=sizeLine/\(a==sysModules)=false/\(ys.map (·.1)).Nodup/\
 ∃o b c,h.get? a=some o/\o.ExactDict/\o.data=.dict b c/\b.toList=ys.map λ y=>(%[hC0 y.1,.ref y.2.1|y.2.2]:DictEntry)
def cG(a:Addr)(ys:Cy)(h:Heap):Prop:=ys.length<=sizeLine/\(a==sysModules)=false/\(ys.map (·.1)).Nodup/\
 ∃o b,h.get? a=some o/\o.ExactDict/\o.data=.dict b ys.length/\b.toList=ys.map λ y=>(%[hC0 y.1,.ref y.2.1|y.2.2]:DictEntry)
inductive Kcs(K:ae1)(O:Own)(H:Hp):Cy->List D->Prop
 | nil:Kcs K O H [] []
 | cons{c:af8}{b:Addr}{u:Value}{v:V}{k d:D}{ys:Cy}{ds:List D}(e:k=.tup [.int c.1,.tup (c.2.map .int)])(rk:Rep K O H (.ref b) k)(rv:RelV v u)(r:Rep K O H v d)(t:Kcs K O H ys ds):Kcs K O H ((c,b,u)::ys) (.tup [k,d]::ds)
def Kcs.conv{K}(s:Conv O O' H H')(h:Kcs K O H ys ds):Kcs K O' H' ys ds:=by
 induction h with
 | nil=>exact .nil
 | cons e b c r t a=>exact .cons e (b.conv s) c (r.conv s) a
def isO:Option Int->Value->Bool
 | some i,.int j _=>decide (i=j)
 | none,.none=>true
 | _,_=>false
def hO0:Option Int->Int
 | some i=>hashInt i
 | none=>4238894112
abbrev Oy:=List (Option Int×Value)
inductive OEs:List DictEntry->Oy->Prop
 | nil:OEs [] []
 | cons{e:DictEntry}{k:af5}{v:Value}{es:List DictEntry}{ys:Oy}(i:isO k e.key=true)(h:e.hash=hO0 k)(q:e.val=v)(t:OEs es ys):OEs (e::es) ((k,v)::ys)
def mj(a:Addr)(ys:Oy)(h:Heap):Prop:=ys.length<=sizeLine/\(a==sysModules)=false/\(ys.map (·.1)).Nodup/\
 ∃o b c,h.get? a=some o/\o.ExactDict/\o.data=.dict b c/\OEs b.toList ys
def oD:Option Int->D
 | some i=>.int i
 | none=>.non
inductive Kos(K:ae1)(O:Own)(H:Hp):Oy->List D->Prop
 | nil:Kos K O H [] []
 | cons{c:af5}{u:Value}{v:V}{k d:D}{ys:Oy}{ds:List D}(e:k=oD c)(rv:RelV v u)(r:Rep K O H v d)(t:Kos K O H ys ds):Kos K O H ((c,u)::ys) (.tup [k,d]::ds)
def Kos.conv{K}(s:Conv O O' H H')(h:Kos K O H ys ds):Kos K O' H' ys ds:=by
 induction h with
 | nil=>exact .nil
 | cons e b r t a=>exact .cons e b (r.conv s) a
abbrev tbD(b:Bool)(l c:Nat)(q:Str)(z:Nat):List D:=[.bl b,.int l,.int c,.str q,.int z,.tup (List.replicate (sizeLine+1) .non)]
def acD(K:ae1)(z a:Addr):Prop:=∃o b,K.lookup z=some o/\o.data=.fields b/\b[11]? =some (.ref a)
def ac6(x:Addr)(q:Str)(h:Heap):Prop:=h.CodeRec (.ref x) q
inductive DOb(K:ae1)(O:Own)(H:Hp)(a:Addr)(ds:List D):Prop
 | t(kvs:List (List Key×V))(e:H a=some (.dT kvs))(r:Kps K O H kvs ds):DOb K O H a ds
 | c(ys:Cy)(n:ys≠[])(e:H a=some (.ext (Va a ys)))(r:Kcs K O H ys ds):DOb K O H a ds
 | o(ys:Oy)(n:ys≠[])(e:H a=some (.ext (mj a ys)))(r:Kos K O H ys ds):DOb K O H a ds
 | m(ys:Cy)(ds':List D)(hd:ds=.non::ds')(e:H a=some (.ext (cG a ys)))(r:Kcs K O H ys ds'):DOb K O H a ds
 | p(ps:af0)(n:¬Abv K a)(b:Bool)(l c z:Nat)(q:Str)(k:acD K z a)(e:H a=some (.tbl ps))(hd:ds=tbD b l c q z)
   (g:(b=false/\ps=#[])\/(b=true/\∃x,ps=#[rawInt l,rawInt c,.ref x]/\¬O.has x/\H x=some (.ext (ac6 x q)))):DOb K O H a ds
def DOb.move{K}(s:Conv O O' H H')(b:DOb K O H a ds)(h:∀o,H a=some o->H' a=some o):DOb K O' H' a ds:=by
 cases b with
 | t i e r=>exact .t i (h _ e) (r.conv s)
 | c d n e r=>exact .c d n (h _ e) (r.conv s)
 | o d n e r=>exact .o d n (h _ e) (r.conv s)
 | m d j f e r=>exact .m d j f (h _ e) (r.conv s)
 | p u n b l c z q k e f g=>exact .p u n b l c z q k (h _ e) f (g.imp id λ⟨g1,x,g2,g3,g4⟩=>%[g1,x,g2|s.tr _ _ g3 g4])
def DOb.there{K}(b:DOb K O H a ds):H a≠none:=by
 cases b with
 | t h e r=>rw[e];simp
 | c d n e r=>rw[e];simp
 | o d n e r=>rw[e];simp
 | m d i f e r=>rw[e];simp
 | p j n b l c z q k e f g=>rw[e];simp
structure StOk(K:ae1)(O:Own)(H:Hp)(S:Store):Prop where
 nd:(adr O.A).Nodup
 len:O.A.length=S.length
 obj:∀(k:Nat)(a:Addr)(ds:List D),O.A[k]? =some (a,false)->S[k]? =some ds->∃xs,H a=some (.lst xs)/\Reps K O H xs ds
 dob:∀(k:Nat)(a:Addr)(ds:List D),O.A[k]? =some (a,true)->S[k]? =some ds->DOb K O H a ds
 apart:∀a∈adr O.A,a∉O.B
 hidden:∀b∈O.B,H b≠none
structure EnvOk(K:ae1)(O:Own)(H:Hp)(σ:St)(Γ:Gam):Prop where
 len:σ.length=Γ.length
 at_:∀(i:Nat)(d:D),Γ[i]? =some (some d)->∃v,σ[i]? =some (some v)/\Rep K O H v d
def EnvOk.mono{K}(e:EnvOk K O H σ c)(s:Step O O' H H'):EnvOk K O' H' σ c:=
 %[e.len|λ i d h=>let ⟨v,a,b⟩:=e.at_ i d h;%[v,a|b.mono s]]
def EnvOk.set{K}(e:EnvOk K O H σ b)(r:Rep K O H v d)(i:Nat):EnvOk K O H (σ.set i (some v)) (b.set i (some d)):=by
 refine%[by simp[e.len]|λ j c h=>?_];by_cases a:i=j
 . subst a;have f:i<b.length:=by have:=(z0.mp h).1;simpa using this
   rw[fq f]at h;cases h;exact%[v,fq (by rw[e.len];exact f)|r]
 {rw[en a]at h;rw[en a];exact e.at_ j c h}
def StOk.tracked{K}(s:StOk K O H S)(h:O.has a):H a≠none:=by
 rcases h with h | h
 . obtain⟨⟨b,c⟩,f,rfl⟩:=bS.mp h;obtain⟨k,d⟩:=cw f;have e:k<S.length:=by rw[<-s.len];exact(z0.mp d).1
   cases c with
   | false=>obtain⟨g,q,_⟩:=s.obj k b S[k] d (y3 e);rw[show(b,false).1=b from rfl,q];simp
   | true=>exact(s.dob k b S[k] d (y3 e)).there
 {exact s.hidden a h}
def Step.fresh(h:H p=none)(o:HO):Step O O H (upd H p o):=
 %[λ b u _ q=>by rw[az (aL q h)];exact q,λ b q=>by by_cases e:b=p;{subst e;rw[aQ];simp};{rw[az e];exact q},%[[],by simp|λ _ z=>nomatch z]|rfl]
def Step.same(h:fW H H'):Step O O H H':=
 ⟨λ b o _ q=>h b o q,λ b q=>by
  cases e:H b with
  | none=>exact absurd e q
  | some o=>rw[h b o e];simp,%[[],by simp|λ _ z=>nomatch z],rfl⟩
def fW.fresh(h:H p=none)(o:HO):fW H (upd H p o):=λ b u q=>by rw[az (aL q h)];exact q
def StOk.same{K}(s:StOk K O H S)(h:fW H H'):StOk K O H' S:=
 %[s.nd,s.len,λ k a c d e=>let ⟨xs,q,r⟩:=s.obj k a c d e;%[xs,h _ _ q|r.mono (Step.same h)],λ k a c d e=>(s.dob k a c d e).move (Step.same h).conv λ o q=>h _ _ q,s.apart|λ b f=>(Step.same (O:=O) h).dom b (s.hidden b f)]
def StOk.fresh_not{K}(s:StOk K O H S)(h:H p=none):¬O.has p:=λ z=>s.tracked z h
def StOk.fresh{K}(s:StOk K O H S)(h:H p=none)(o:HO):StOk K O (upd H p o) S:=s.same (fW.fresh h o)
abbrev Own.more(O:Own)(p:Addr)(q:Bool:=false):Own:=%[O.A++[(p,q)]|O.B]
def Step.own(h:H p=none)(o:HO)(q:Bool:=false):Step O (O.more p q) H (upd H p o):=
 %[(Step.fresh (O:=O) h o).kept,(Step.fresh (O:=O) h o).dom,%[[(p,q)],rfl|λ b z=>by rw[bX.mp z];exact h]|rfl]
def je{p}{x:Addr×Bool}(h:(A++[p])[k]? =some x):A[k]? =some x\/(k=A.length/\x=p):=by
 by_cases b:k<A.length;{rw[x9 b]at h;exact .inl h}
 . rw[da %[|0]]at h;have a:k-A.length=0:=by have:=(z0.mp h).1;simp at this;omega
   rw[a]at h;exact .inr %[%[|0]|(cc h).symm]
def v9(h:(adr A).Nodup)(n:p∉adr A):(adr (A++[(p,q)])).Nodup:=by rw[cT];refine i5.mpr %[h,by simp|λ a c b d e=>?_];rw[bX.mp d]at e;rw[e]at c;exact n c
def StOk.own{K}(s:StOk K O H S)(h:H p=none)(r:Reps K O H xs ds):
 StOk K (O.more p) (upd H p (.lst xs)) (S++[ds]):=by have f:=Step.own (O:=O) h (.lst xs);have l:=s.fresh_not h;refine%[v9 s.nd λ z=>l (.inl z),by simp[s.len],λ k a g c d=>?_,λ k a g c d=>?_,λ a j=>?_|λ b m=>f.dom b (s.hidden b m)];{rcases je c with c | ⟨rfl,e⟩;{have i:=(z0.mp c).1;rw[x9 (by rw[<-s.len];exact i)]at d;obtain⟨t,q,n⟩:=s.obj k a g c d;exact%[t,by rw[az (aL q h)];exact q|n.mono f]};{cases e;rw[da (by rw[s.len];exact y9 _),s.len,nX]at d;cases d;exact%[xs,aQ|r.mono f]}};{rcases je c with c | ⟨rfl,e⟩;{have i:=(z0.mp c).1;rw[x9 (by rw[<-s.len];exact i)]at d;exact(s.dob k a g c d).move f.conv λ o q=>by rw[az (aL q h)];exact q};{cases e}};{rw[cT]at j;rcases cq.mp j with z | z;{exact s.apart a z};{rw[bX.mp z];exact λ q=>l (.inr q)}}
def StOk.ownD{K}(s:StOk K O H S)(h:H p=none)(r:Kps K O H kvs ds):
 StOk K (O.more p true) (upd H p (.dT kvs)) (S++[ds]):=by have f:=Step.own (O:=O) h (.dT kvs) true;have l:=s.fresh_not h;refine%[v9 s.nd λ z=>l (.inl z),by simp[s.len],λ k a g c d=>?_,λ k a g c d=>?_,λ a j=>?_|λ b m=>f.dom b (s.hidden b m)];{rcases je c with c | ⟨rfl,e⟩;{have i:=(z0.mp c).1;rw[x9 (by rw[<-s.len];exact i)]at d;obtain⟨u,q,n⟩:=s.obj k a g c d;exact%[u,by rw[az (aL q h)];exact q|n.mono f]};{cases e}};{rcases je c with c | ⟨rfl,e⟩;{have i:=(z0.mp c).1;rw[x9 (by rw[<-s.len];exact i)]at d;exact(s.dob k a g c d).move f.conv λ o q=>by rw[az (aL q h)];exact q};{cases e;rw[da (by rw[s.len];exact y9 _),s.len,nX]at d;cases d;exact .t kvs aQ (r.conv f.conv)}};{rw[cT]at j;rcases cq.mp j with z | z;{exact s.apart a z};{rw[bX.mp z];exact λ q=>l (.inr q)}}
def Step.put(h:a∈adr O.A)(o:HO):Step O O H (upd H a o):=
 %[λ b u c q=>by rw[az (λ e=>c (by rw[e];exact h))];exact q,λ b q=>by by_cases e:b=a;{subst e;rw[aQ];simp};{rw[az e];exact q},%[[],by simp|λ _ z=>nomatch z]|rfl]
def xf(nd:(adr A).Nodup){k j:Nat}{p q}(h:A[k]? =some (a,p))(h2:A[j]? =some (b,q))(i:k≠j):b≠a:=λ e=>i (by
 have f:(adr A)[k]? =some a:=by rw[y8,h];rfl
 have g:(adr A)[j]? =some b:=by rw[y8,h2];rfl
 obtain⟨l,c⟩:=z0.mp f;obtain⟨h2,d⟩:=z0.mp g;exact(List.getElem_inj nd).mp (c.trans (e.symm.trans d.symm)))
def StOk.put{K}(s:StOk K O H S)(h:O.A[k]? =some (a,false))(r:Reps K O H xs ds):
 StOk K O (upd H a (.lst xs)) (S.set k ds):=by
 have g:=Step.put (O:=O) (H:=H) (bU h) (.lst xs);refine%[s.nd,by simp[s.len],λ j b i c d=>?_,λ j b i c d=>?_,s.apart|λ b l=>g.dom b (s.hidden b l)];{by_cases f:k=j;{subst f;rw[h]at c;cases c;have m:=(z0.mp d).1;rw[fq (by simpa using m)]at d;cases d;exact%[xs,aQ|r.mono g]};{rw[en f]at d;obtain⟨p,q,n⟩:=s.obj j b i c d;exact%[p,by rw[az (xf s.nd h c f)];exact q|n.mono g]}}
 . have f:k≠j:=λ e=>by subst e;rw[h]at c;cases c
   rw[en f]at d;exact(s.dob j b i c d).move g.conv λ o q=>by rw[az (xf s.nd h c f)];exact q
def StOk.putO{K}(s:StOk K O H S)(h:O.A[k]? =some (a,true))(r:DOb K O (upd H a o) a ds):
 StOk K O (upd H a o) (S.set k ds):=by
 have i:=Step.put (O:=O) (H:=H) (bU h) o;refine%[s.nd,by simp[s.len],λ j b g c d=>?_,λ j b g c d=>?_,s.apart|λ b l=>i.dom b (s.hidden b l)]
 . have f:k≠j:=λ e=>by subst e;rw[h]at c;cases c
   rw[en f]at d;obtain⟨p,q,n⟩:=s.obj j b g c d;exact%[p,by rw[az (xf s.nd h c f)];exact q|n.mono i]
 {by_cases f:k=j;{subst f;rw[h]at c;cases c;have m:=(z0.mp d).1;rw[fq (by simpa using m)]at d;cases d;exact r};{rw[en f]at d;exact(s.dob j b g c d).move i.conv λ o q=>by rw[az (xf s.nd h c f)];exact q}}
def StOk.putD{K}(s:StOk K O H S)(h:O.A[k]? =some (a,true))(r:Kps K O H kvs ds):
 StOk K O (upd H a (.dT kvs)) (S.set k ds):=s.putO h (.t kvs aQ (r.conv (Step.put (O:=O) (H:=H) (bU h) (.dT kvs)).conv))
def StOk.hide{K}(s:StOk K O H S)(h:H p=none)(o:HO):StOk K (O.hide p) (upd H p o) S:=by have i:=Step.fresh (O:=O) h o;refine%[s.nd,s.len,λ k a c d e=>?_,λ k a c d e=>?_,λ a f z=>?_|λ b g=>?_];{obtain⟨j,q,r⟩:=s.obj k a c d e;exact%[j,by rw[az (aL q h)];exact q|r.conv (Conv.hide h o)]};{exact(s.dob k a c d e).move (Conv.hide h o) λ o q=>by rw[az (aL q h)];exact q};{rcases cr.mp z with z | z;{exact s.tracked (.inl f) (z▸h)};{exact s.apart a f z}};{rcases cr.mp g with z | z;{subst z;rw[aQ];simp};{exact i.dom b (s.hidden b z)}}
def StOk.unhide{K}(s:StOk K %[A|p::B] H S):StOk K %[A|B] H S:=
 %[s.nd,s.len,λ k a c d e=>let ⟨xs,q,r⟩:=s.obj k a c d e;%[xs,q|r.conv Conv.unhide],λ k a c d e=>(s.dob k a c d e).move Conv.unhide λ _ q=>q,λ a f z=>s.apart a f (x4 _ z)|λ b g=>s.hidden b (x4 _ g)]
def StOk.updHid{K}(s:StOk K O H S)(h:p∈O.B)(o:HO):StOk K O (upd H p o) S:=
 %[s.nd,s.len,λ k a d c f=>by obtain⟨j,q,r⟩:=s.obj k a d c f;have g:a≠p:=λ e=>s.apart a (bU c) (e▸h);exact%[j,by rw[az g];exact q|r.conv (Conv.updHid h o)],λ k a d c f=>by have g:a≠p:=λ e=>s.apart a (bU c) (e▸h);exact(s.dob k a d c f).move (Conv.updHid h o) λ _ q=>by rw[az g];exact q,s.apart|λ b i=>by by_cases e:b=p;{subst e;rw[aQ];simp};{rw[az e];exact s.hidden b i}]
def Step.adopt(s:Step O %[A|O.B] H H')(h:H p=none):Step O %[A++[(p,false)]|O.B] H H':=by obtain⟨N,e,f⟩:=s.ext;refine%[s.kept,s.dom,%[N++[(p,false)],?_|λ b a=>?_]|rfl];{show A++[(p,false)]=_;rw[show A=O.A++N from e,ci]};{rw[cT]at a;rcases cq.mp a with z | z;{exact f b z};{rw[bX.mp z];exact h}}
def Conv.adopt:Conv %[A|p::B] %[A++[(p,false)]|B] H H:=
 %[λ a u n t=>%[λ z=>n (z.elim (λ z=>(cq.mp (by rw[<-cT];exact z)).elim .inl λ z=>.inr (by rw[bX.mp z];exact x6)) λ z=>.inr (x4 _ z))|t]|
  λ k a h=>by show(A++[(p,false)])[k]? =some a;rw[x9 (z0.mp h).1];exact h]
def StOk.adopt{K}(s:StOk K %[A|p::B] H S)(m:p∉B)(h:H p=some (.lst xs))(r:Reps K %[A|p::B] H xs ds):StOk K %[A++[(p,false)]|B] H (S++[ds]):=by have n:p∉adr A:=λ z=>s.apart p z x6;have i:A.length=S.length:=s.len;refine%[v9 s.nd n,by simp[i],λ k a g c d=>?_,λ k a g c d=>?_,λ a f=>?_|λ b j=>s.hidden b (x4 _ j)];{rcases je c with c | ⟨rfl,e⟩;{have l:=(z0.mp c).1;rw[x9 %[|0]]at d;obtain⟨t,q,o⟩:=s.obj k a g c d;exact%[t,q|o.conv Conv.adopt]};{cases e;rw[da %[|0],i,nX]at d;cases d;exact%[xs,h|r.conv Conv.adopt]}};{rcases je c with c | ⟨rfl,e⟩;{have l:=(z0.mp c).1;rw[x9 %[|0]]at d;exact(s.dob k a g c d).move Conv.adopt λ _ q=>q};{cases e}};{have f:a∈adr (A++[(p,false)]):=f;rw[cT]at f;rcases cq.mp f with z | z;{exact λ q=>s.apart a z (x4 _ q)};{rw[bX.mp z];exact m}}
def Step.inner(a:Step O %[d|B] H g)(b:Step %[d|p::B] %[f|p::B] g H2)(h:H p=none)(o:HO):Step O %[f|B] H (upd H2 p o):=by have i:Step %[d|B] %[f|B] g H2:=%[b.kept,b.dom,b.ext|rfl];have c:=a.trans i;refine%[λ x u j t=>?_,λ x t=>?_,c.ext|c.hid];{rw[az (aL t h)];exact c.kept x u j t};{by_cases e:x=p;{subst e;rw[aQ];simp};{rw[az e];exact c.dom x t}}
end DL
namespace DL
open PySem PySem.Spec L2
open PyProof.Rows
variable{K:PySem.W.Frag}{O:Own}{H:Hp}{x:D}{ds:List D}{i j:Int}{p:Addr}{xs:List V}
abbrev Pins:=List (Addr×Obj)
abbrev WD:=D->%[|4]
inductive And3(a b c:Prop):Prop
 | mk(x:a)(y:b)(z:c):And3 a b c
inductive QG(K:ae1)(O:Own)(H:Hp)(W:WD)(v:V)(H':Hp):Prop
 | mk(O':Own)(d:D)(S':Store)(w:W d S')(q:And3 (Step O O' H H') (StOk K O' H' S') (Rep K O' H' v d)):QG K O H W v H'
inductive QA(K:ae1)(O:Own)(H:Hp)(W:List D->%[|4])(vs:List V)(H':Hp):Prop
 | mk(O':Own)(ds:List D)(S':Store)(w:W ds S')(q:And3 (Step O O' H H') (StOk K O' H' S') (Reps K O' H' vs ds)):QA K O H W vs H'
inductive QT(K:ae1)(O:Own)(H:Hp)(W:Bool->%[|4])(b:Bool)(H':Hp):Prop
 | mk(O':Own)(S':Store)(w:W b S')(q:Step O O' H H'/\StOk K O' H' S'):QT K O H W b H'
def Ev(X:Cx)(Γ:Gam)(S:Store)(e:Expr)(W:WD):Prop:=
 ∀ (a:Pins)(s:ae4)(b:St)(H:Hp)(O:Own),Inv X a b H s->EnvOk X.K O H b Γ->%[|13]->
   wpAny %[|5] X.A (eval e X.env) (EP X a b (QG X.K O H W)) X.xe s
def EvA(X:Cx)(Γ:Gam)(S:Store)(es:af1)(W:List D->%[|4]):Prop:=
 ∀ (b:Pos)(a:Pins)(s:ae4)(c:St)(H:Hp)(O:Own),Inv X a c H s->EnvOk X.K O H c Γ->%[|13]->
   wpAny %[|5] X.A (spliced (backTo b %[|33])) (AP X a c (QA X.K O H W)) X.xe s
def TsW(X:Cx)(Γ:Gam)(S:Store)(e:Expr)(W:Bool->%[|4]):Prop:=
 ∀ (b:Sem Value)(a:Pins)(s:ae4)(c:St)(H:Hp)(O:Own),Inv X a c H s->EnvOk X.K O H c Γ->%[|13]->
   wpAny %[|5] X.A (isTrue e X.env b) (TP X a c (QT X.K O H W)) X.xe s
def Ts(X:Cx)(Γ:Gam)(S:Store)(e:Expr)(W:Bool->%[|4]):Prop:=
 ∀ (a:Pins)(s:ae4)(b:St)(H:Hp)(O:Own),Inv X a b H s->EnvOk X.K O H b Γ->%[|13]->
   wpAny %[|5] X.A (isTrue e X.env (eval e X.env)) (TP X a b (QT X.K O H W)) X.xe s
def OpW(X:Cx)(f:Value->Value->Sem Value)(x y:D)(S:Store)(W:WD):Prop:=
 ∀ (a:Pins)(s:ae4)(c:St)(H:Hp)(O:Own)(v w:V)(u b:Value),Inv X a c H s->%[|13]->Rep X.K O H v x->Rep X.K O H w y->RelV v u->RelV w b->
   wpAny %[|5] X.A (f u b) (EP X a c (QG X.K O H W)) X.xe s
def gU(X:Cx)(f:Value)(ds:List D)(S:Store)(W:WD):Prop:=
 ∀ (a:Pins)(s:ae4)(d:St)(H:Hp)(O:Own)(c:List V)(b:ae5),Inv X a d H s->%[|13]->Reps X.K O H c ds->Vals c b->
   wpAny %[|5] X.A (call f b) (EP X a d (QG X.K O H W)) X.xe s
abbrev fV(X:Cx)(op:Operator):=OpW X (binaryOp op)
abbrev cA(X:Cx)(op:CmpOp):=OpW X (compareOp op)
section
variable{X:Cx}{Γ:Gam}{S S1:Store}{W:WD}{a b e:Expr}{es rest:List Expr}{pos:Pos}
def QG.pre{b}(st:Step O c H b){a}(q:QG K c b W v a):QG K O H W v a:=by obtain⟨e,d,f,w,h,g,r⟩:=q;exact%[e,d,f,w,st.trans h,g|r]
def fc{pins:Pins}{σ:St}{b}{a}(st:Step O b H a)(q:EP X pins σ (QG X.K b a W) u s'):EP X pins σ (QG X.K O H W) u s':=by obtain⟨v,c,I,r,q⟩:=q;exact%[v,c,I,r|q.pre st]
def WK{pins:Pins}{σ:St}{b}{a}(st:Step O b H a){W}(q:TP X pins σ (QT X.K b a W) u s'):TP X pins σ (QT X.K O H W) u s':=by obtain⟨c,I,d,e,w,g,f⟩:=q;exact%[c,I,d,e,w,st.trans g|f]
def Ev.mono(h:Ev X Γ S e W)(k:∀d S',W d S'->f d S'):Ev X Γ S e f:=λ a s m H O I b l=>
 thn (h a s m H O I b l) λ _ _ c=>by obtain⟨v,g,i,r,j,d,S',w,q⟩:=c;exact%[v,g,i,r,j,d,S',k d S' w|q]
def OpW.mono(h:OpW X f x y S W)(k:∀d S',W d S'->c d S'):OpW X f x y S c:=λ a s t H O v w u p I o j l m n=>
 thn (h a s t H O v w u p I o j l m n) λ _ _ b=>by obtain⟨v,e,g,r,i,d,S',w,q⟩:=b;exact%[v,e,g,r,i,d,S',k d S' w|q]
def gF(b:OpR X f r)(h:∀O H v w,%[|13]->Rep X.K O H v x->Rep X.K O H w y->r v w H (QG X.K O H W)):OpW X f x y S W:=
 λ a s k H O v w u j I i c d e g=>b a s k H v w u j _ I e g (h O H v w i c d)
def eE(b:jy X f r)(h:∀O H vs,%[|13]->Reps X.K O H vs ds->r vs H (QG X.K O H W)):gU X f ds S W:=
 λ a s i H O vs g I e c d=>b a s i H vs g _ I d (h O H vs e c)
def Hc(w:W d S)(st:StOk K O H S)(r:Rep K O H v d):QG K O H W v H:=%[O,d,S,w,Step.refl O H,st|r]
def ZW(i:Nat){x}(f:Γ[i]? =some (some d))(w:W d S)(g:X.N[i]? =some x:=by rfl)
 (j:Vis X.env.scope x:=by first | exact Or.inl rfl | exact Or.inr (Or.inl rfl) | exact Or.inr (Or.inr rfl))(h:%[|48]:=by decide)(c:(x==("__classdict__":Str))=false:=by decide):
 Ev X Γ S (.Name x pos) W:=by intro a s l H O I b k;obtain⟨v,e,r⟩:=b.at_ i d f;exact aar g j h c a s l H _ I %[v,e|Hc w k r]
def aaK{j}(w:W (.int i) S):Ev X Γ S (.Constant (.int i) j pos) W:=λ a s c H O I _ b=>abj a s c H _ I (Hc w b (.int i))
def abV{i}{j}(w:W (.bl i) S):Ev X Γ S (.Constant (.bool i) j pos) W:=λ a s c H O I _ b=>acg a s c H _ I (Hc w b (.bl i))
def aao{j}(w:W .non S):Ev X Γ S (.Constant .none j pos) W:=λ a s c H O I _ b=>Z1 a s c H _ I (Hc w b .non)
def aad{x}{j}(w:W (.str x) S):Ev X Γ S (.Constant (.str x) j pos) W:=λ a s c H O I _ b=>Z3 a s c H _ I (Hc w b (.str x))
def U0{x}(d:X.mg x=some (.int i t))(w:W (.int i) S)(c:Gl X x:=by rfl)(b:%[|48]:=by decide):Ev X Γ S (.Name x pos) W:=
 λ a s f H O I _ e=>Ze c d (v:=.int i) %[t|rfl] b a s f H _ I (Hc w e (.int i))
def wL(h:Ev X Γ S a λ x S1=>Ev X Γ S1 b λ y S2=>fV X op x y S2 W):Ev X Γ S (.BinOp a op b pos) W:=by intro c s m H O I e G;refine wpAny_BinOp (thn (h c s m H O I e G) λ u E d=>?_);obtain⟨v,n,p,C,t,x,S1,A,i,k,f⟩:=d;refine thn (A c E m n t p (e.mono i) k) λ J F d=>?_;obtain⟨w,o,r,D,z,y,S2,B,j,l,g⟩:=d;exact thn (B c F m o z v w u J r l (f.mono j) g C D) λ _ _ q=>fc (i.trans j) q
def RV(h:Ev X Γ S a λ x S1=>Ev X Γ S1 b λ y S2=>cA X op x y S2 W)(B:behindInMarks op b=false:=by first | exact nomark _ | (with_unfolding_all rfl)):Ev X Γ S (.Compare a [op] [b] pos) W:=by intro c s m H O I e J;refine wpAny_Compare1 (thn (h c s m H O I e J) λ u F d=>?_) B;obtain⟨v,n,p,D,t,x,S1,A,i,k,f⟩:=d;refine thn (A c F m n t p (e.mono i) k) λ K G d=>?_;obtain⟨w,o,r,E,z,y,S2,C,j,l,g⟩:=d;exact thn (C c G m o z v w u K r l (f.mono j) g D E) λ _ _ q=>fc (i.trans j) q
abbrev asB(W:Bool->%[|4]):WD:=λ d S=>∃c,d=.bl c/\W c S
def Rz{W}(h:Ev X Γ S a λ x S1=>Ev X Γ S1 b λ y S2=>cA X op x y S2 (asB W))(N:behindInMarks op b=false:=by first | exact nomark _ | (with_unfolding_all rfl)):Ts X Γ S (.Compare a [op] [b] pos) W:=by intro f s r H O I g Y;refine wpAny_isTrue_Compare1 (thn (h f s r H O I g Y) λ u U e=>?_) N;obtain⟨v,t,C,Q,F,x,S1,L,l,n,i⟩:=e;refine thn (L f U r t F C (g.mono l) n) λ Z V e=>?_;obtain⟨w,A,D,R,G,y,S2,P,m,o,j⟩:=e;refine thn (P f V r A G v w u Z D o (i.mono m) j Q R) λ _ _ e=>?_;obtain⟨z,B,E,T,J,d,K,⟨c,M,wc⟩,q,p,k⟩:=e;subst M;cases k;cases T;exact gy %[B,E,J,K,wc,(l.trans m).trans q|p]
def aax{W}(h:Ev X Γ S e (asB W))(p:∀whole,isTrue e X.env whole=(do let v <-whole;standAt e.pos;holding [v] (truthy v)):=by intro _;rfl):Ts X Γ S e W:=by intro a s u H O I f r;refine isTrue_plain (thn (h a s u H O I f r) λ _ _ g=>?_) (p _);obtain⟨z,k,l,q,m,d,n,⟨c,o,t⟩,j,i,b⟩:=g;subst o;cases b;cases q;exact gy %[k,l,m,n,t,j|i]
def TsW.ts{W}(h:TsW X Γ S e W):Ts X Γ S e W:=λ a s d H O I b c=>h _ a s d H O I b c
def tw_and1{W}(h:Ts X Γ S a W):TsW X Γ S (.BoolOp .And [a] pos) W:=by
 intro j b s g H O I d f;refine isTrue_and (thn (h b s g H O I d f) λ c i e=>?_)
 cases c with
 | true=>exact isTrue_and_nil e
 | false=>exact e
def tw_or1{W}(h:Ts X Γ S a W):TsW X Γ S (.BoolOp .Or [a] pos) W:=by
 intro j b s g H O I d f;refine isTrue_or (thn (h b s g H O I d f) λ c i e=>?_)
 cases c with
 | false=>exact isTrue_or_nil e
 | true=>exact e
def tw_and{W}(h:Ts X Γ S a λ c S1=>(c=true->TsW X Γ S1 (.BoolOp .And (b::rest) pos) W)/\(c=false->W false S1)):TsW X Γ S (.BoolOp .And (a::b::rest) pos) W:=by
 intro p d s m H O I f o;refine isTrue_and (thn (h d s m H O I f o) λ c n i=>?_);obtain⟨j,k,l,S1,w1,e,g⟩:=i
 cases c with
 | true=>exact thn (w1.1 rfl p d n m j l k (f.mono e) g) λ _ _ q=>WK e q
 | false=>exact%[j,k,l,S1,w1.2 rfl,e|g]
def tw_or{W}(h:Ts X Γ S a λ c S1=>(c=true->W true S1)/\(c=false->TsW X Γ S1 (.BoolOp .Or (b::rest) pos) W)):TsW X Γ S (.BoolOp .Or (a::b::rest) pos) W:=by
 intro p d s m H O I f o;refine isTrue_or (thn (h d s m H O I f o) λ c n i=>?_);obtain⟨j,k,l,S1,w1,e,g⟩:=i
 cases c with
 | false=>exact thn (w1.2 rfl p d n m j l k (f.mono e) g) λ _ _ q=>WK e q
 | true=>exact%[j,k,l,S1,w1.1 rfl,e|g]
def aaf{W}(h:Ts X Γ S a λ c S1=>W (!c) S1):Ts X Γ S (.UnaryOp .Not a pos) W:=by intro b s f H O I d e;exact isTrue_not (thn (h b s f H O I d e) λ c g ⟨H1,I1,O1,S1,w1,st1,ok1⟩=>%[H1,I1,O1,S1,w1,st1|ok1])
def Qg{op}(h:Ev X Γ S a W):Ev X Γ S (.BoolOp op [a] pos) W:=λ b s e H O I c d=>BoolOp_one (h b s e H O I c d)
def aaF(h:Ev X Γ S a λ x S1=>∃c,x=.bl c/\(c=true->Ev X Γ S1 (.BoolOp .And (b::rest) pos) W)/\(c=false->W (.bl false) S1)):Ev X Γ S (.BoolOp .And (a::b::rest) pos) W:=by
 intro d s n H O I f y;refine BoolOp_and (thn (h d s n H O I f y) λ u w j=>?_);obtain⟨v,k,l,t,m,x,S1,⟨c,r,o,p⟩,e,g,i⟩:=j;subst r;cases i;cases t;refine gy ?_
 cases c with
 | true=>exact thn (o rfl d w n k m l (f.mono e) g) λ _ _ q=>fc e q
 | false=>exact%[.bl false,k,l,rfl,m,.bl false,S1,p rfl,e,g|.bl false]
def acu(h:Ev X Γ S a λ x S1=>∃c,x=.bl c/\(c=true->W (.bl true) S1)/\(c=false->Ev X Γ S1 (.BoolOp .Or (b::rest) pos) W)):Ev X Γ S (.BoolOp .Or (a::b::rest) pos) W:=by
 intro d s n H O I f y;refine BoolOp_or (thn (h d s n H O I f y) λ u w j=>?_);obtain⟨v,k,l,t,m,x,S1,⟨c,r,o,p⟩,e,g,i⟩:=j;subst r;cases i;cases t;refine gy ?_
 cases c with
 | false=>exact thn (p rfl d w n k m l (f.mono e) g) λ _ _ q=>fc e q
 | true=>exact%[.bl true,k,l,rfl,m,.bl true,S1,o rfl,e,g|.bl true]
def aaP(h:Ev X Γ S a λ x S1=>∃c,x=.bl c/\W (.bl (!c)) S1):Ev X Γ S (.UnaryOp .Not a pos) W:=by intro b s q H O I e p;refine UnaryOp_ (thn (h b s q H O I e p) λ u r f=>?_);obtain⟨v,j,k,o,l,x,S1,⟨c,n,m⟩,i,g,d⟩:=f;subst n;cases d;cases o;exact not_of (gy %[.bl (!c),j,k,rfl,l,.bl (!c),S1,m,i,g|.bl (!c)])
def Z5(h:Ev X Γ S a λ x S1=>∃i,x=.int i/\W (.int (-i)) S1):Ev X Γ S (.UnaryOp .USub a pos) W:=by intro b s k H O I e t;refine UnaryOp_ (thn (h b s k H O I e t) λ u r f=>?_);obtain⟨v,l,m,q,n,x,S1,⟨c,p,o⟩,j,g,d⟩:=f;subst p;cases d;exact Zw b r k l _ _ _ m q %[c,rfl,n,.int (-c),S1,o,j,g|.int (-c)]
def Th(h:Ev X Γ S a λ x S1=>Ev X Γ S1 b λ y S2=>cA X op x y S2 λ z S3=>∃k,z=.bl k/\(k=false->W (.bl false) S3)/\(k=true->Ev X Γ S3 c λ t S4=>cA X n y t S4 W))
 (hm:lastMarks [op,n] [b,c]=false:=by with_unfolding_all rfl):Ev X Γ S (.Compare a [op,n] [b,c] pos) W:=by
 intro e s C H O I m st;refine Compare_chain (thn (h e s C H O I m st) λ u s1 f=>?_) hm;obtain⟨v,N,R,r1,V,x,S1,hb,g,D,p⟩:=f;refine chain_link (thn (hb e s1 C N V R (m.mono g) D) λ M s2 f=>?_);obtain⟨w,P,T,L,Y,y,S2,hw,i,E,l⟩:=f;refine thn (hw e s2 C P Y v w u M T E (p.mono i) l r1 L) λ _ s3 f=>?_;obtain⟨z,G,J,r3,K,d,S3,⟨k,hd,k1,k2⟩,j,o,r⟩:=f;subst hd;cases r;cases r3;refine gy ?_
 cases k with
 | false=>exact ite_ff %[.bl false,G,J,rfl,K,.bl false,S3,k1 rfl,(g.trans i).trans j,o|.bl false]
 | true=>refine ite_tt (chain_last (thn (k2 rfl e s3 C G K J (((m.mono g).mono i).mono j) o) λ u4 s4 f=>?_));obtain⟨w4,Q,U,r4,Z,t,S4,h4,B,F,A⟩:=f;exact thn (h4 e s4 C Q Z w w4 M u4 U F ((l.mono j).mono B) A L r4) λ _ _ q=>fc (((g.trans i).trans j).trans B) q
def gr{W}(w:W [] S):EvA X Γ S [] W:=λ _ a s c H O I _ b=>f8 %[[],H,I,.nil,O,[],S,w,Step.refl O H,b|.nil]
def cH{W}(h:Ev X Γ S e λ d S1=>EvA X Γ S1 es λ ds S2=>W (d::ds) S2)(hs:starEach (e::es) X.env=%[|42]::%[|33]:=by rfl):EvA X Γ S (e::es) W:=by intro f a s n H O I c E;rw[hs];show wpAny _ _ (spliced (%[|42]::backTo f %[|33])) _ _ s;refine eI (thn (h a s n H O I c E) λ u C b=>?_);obtain⟨v,o,q,A,t,x,S1,z,j,l,g⟩:=b;exact thn (z f a C n o t q (c.mono j) l) λ J G b=>by obtain⟨F,p,r,B,y,ds,S2,w,k,m,i⟩:=b;exact%[v::F,p,r,.cons A B,y,x::ds,S2,w,j.trans k,m|.cons (g.mono k) i]
def small(h:n<=1000000):n<=sizeLine:=cK h %[|1]
def aaz(st:StOk K O H S)(h:H p=none):Tp K O (upd H p (.tup xs)) p xs:=%[st.fresh_not h|aQ]
def aaq(st:StOk K O H S)(h:H p=none):Ls K O (upd H p (.lst xs)) p xs:=.inl %[st.fresh_not h|.inl aQ]
def mK(w:W (.tup ds) S)(st:StOk K O H S)(h:H p=none)(r:Reps K O H xs ds):QG K O H W (.ref p) (upd H p (.tup xs)):=
 %[O,.tup ds,S,w,Step.fresh h _,st.fresh h _|.tup (aaz st h) (r.mono (Step.fresh h _))]
def jb(w:W (.lst ds) S)(st:StOk K O H S)(h:H p=none)(r:Reps K O H xs ds):QG K O H W (.ref p) (upd H p (.lst xs)):=
 %[O,.lst ds,S,w,Step.fresh h _,st.fresh h _|.lst (aaq st h) (r.mono (Step.fresh h _))]
def G9(w:W (.loc S.length) (S++[ds]))(st:StOk K O H S)(h:H p=none)(r:Reps K O H xs ds):QG K O H W (.ref p) (upd H p (.lst xs)):=
 %[O.more p,.loc S.length,S++[ds],w,Step.own h _,st.own h r|.loc (by show(O.A++[(p,false)])[S.length]? =some (p,false);rw[<-st.len];simp)]
def aat{o}(h:EvA X Γ S es λ ds S1=>ds.length<=1000000/\W (.tup ds) S1):Ev X Γ S (.Tuple es o pos) W:=by intro c s q H O I d m;refine wpAny_Tuple_spliced (thn (h pos c s q H O I d m) λ n s1 f=>?_);obtain⟨p,j,k,r,t,ds,S1,⟨z,w⟩,i,g,a⟩:=f;refine%[by rw[<-r.length,a.length];exact small z|?_];have l:j s1.heap.objs.size=none:=k.hok.fresh (y9 _);refine%[.ref s1.heap.objs.size,upd j s1.heap.objs.size (.tup p),k.laid (t':=s1.toks) (λ b u e=>bE _ e) (y9 _) ?_,rfl|(mK w g l a).pre i];exact%[by rw[a.length];exact small z,n,r|%[_,c9 _ rfl,rfl,_|rfl]]
def aa3(h:EvA X Γ S es λ ds S1=>ds.length<=1000000/\W (.lst ds) S1):Ev X Γ S (.List es pos) W:=by intro c s p H O I d m;refine wpAny_List_spliced (thn (h pos c s p H O I d m) λ n s1 f=>?_);obtain⟨o,j,k,r,q,ds,S1,⟨z,w⟩,i,g,a⟩:=f;refine%[by rw[<-r.length,a.length];exact small z|?_];have l:j s1.heap.objs.size=none:=k.hok.fresh (y9 _);refine%[.ref s1.heap.objs.size,upd j s1.heap.objs.size (.lst o),k.laid (t':=s1.toks) (λ b u e=>bE _ e) (y9 _) ?_,rfl|(jb w g l a).pre i];exact%[by rw[a.length];exact small z,n,0,r|c9 _ rfl]
def YX(h:EvA X Γ S es λ ds S1=>ds.length<=1000000/\W (.loc S1.length) (S1++[ds])):Ev X Γ S (.List es pos) W:=by intro c s p H O I d m;refine wpAny_List_spliced (thn (h pos c s p H O I d m) λ n s1 f=>?_);obtain⟨o,j,k,r,q,ds,S1,⟨z,w⟩,i,g,a⟩:=f;refine%[by rw[<-r.length,a.length];exact small z|?_];have l:j s1.heap.objs.size=none:=k.hok.fresh (y9 _);refine%[.ref s1.heap.objs.size,upd j s1.heap.objs.size (.lst o),k.laid (t':=s1.toks) (λ b u e=>bE _ e) (y9 _) ?_,rfl|(G9 w g l a).pre i];exact%[by rw[a.length];exact small z,n,0,r|c9 _ rfl]
def jL{g:Int->Int->Int}(a:OpR X (binaryOp op) (rI C λ i j=>.int (g i j)))(c:C i j)(w:W (.int (g i j)) S):fV X op (.int i) (.int j) S W:=
 gF a λ O H v f e b d=>by cases b;cases d;exact%[i,j,rfl,rfl,c|Hc w e (.int _)]
def FJ{g:Int->Int->Int}(a:OpR X (binaryOp op) (rI0 λ i j=>.int (g i j)))(w:W (.int (g i j)) S):fV X op (.int i) (.int j) S W:=
 gF a λ O H v e d b c=>by cases b;cases c;exact%[i,j,rfl,rfl|Hc w d (.int _)]
def abU(w:W (.int (i+j)) S):fV X .Add (.int i) (.int j) S W:=FJ aak w
def aco(w:W (.int (i-j)) S):fV X .Sub (.int i) (.int j) S W:=FJ ZQ w
def abW(c:CMul i j)(w:W (.int (i*j)) S):fV X .Mult (.int i) (.int j) S W:=jL abp c w
def abG(c:0<j)(w:W (.int (i % j)) S):fV X .Mod (.int i) (.int j) S W:=jL aaT c w
def aaL(c:0<j/\j<1073741824)(w:W (.int (i/j)) S):fV X .FloorDiv (.int i) (.int j) S W:=jL Xu c w
def abO(c:CPow i j)(w:W (.int (i ^ j.toNat)) S):fV X .Pow (.int i) (.int j) S W:=jL aaM c w
def sI{g:Int->Int->Bool}(a:OpR X (compareOp op) (rI0 λ i j=>.bl (g i j)))(w:W (.bl (g i j)) S):cA X op (.int i) (.int j) S W:=
 gF a λ O H v e d b c=>by cases b;cases c;exact%[i,j,rfl,rfl|Hc w d (.bl _)]
def ac3(w:W (.bl (decide (i<j))) S):cA X .Lt (.int i) (.int j) S W:=sI acf w
def adb(w:W (.bl (decide (i<=j))) S):cA X .LtE (.int i) (.int j) S W:=sI acF w
def acZ(w:W (.bl (decide (j<i))) S):cA X .Gt (.int i) (.int j) S W:=sI acs w
def ac9(w:W (.bl (decide (j<=i))) S):cA X .GtE (.int i) (.int j) S W:=sI acz w
def acp(w:W (.bl (decide (i=j))) S):cA X .Eq (.int i) (.int j) S W:=
 gF WQ λ O H v d c a b=>by
  cases a;cases b;have e:decide (V.int i=V.int j)=decide (i=j):=by rw[sO];exact(Bool.beq_eq_decide_eq i j)
  exact%[rfl|by rw[e];exact Hc w c (.bl _)]
def aca(w:W (.bl (!decide (i=j))) S):cA X .NotEq (.int i) (.int j) S W:=
 gF WL λ O H v d c a b=>by
  cases a;cases b;have e:decide (V.int i=V.int j)=decide (i=j):=by rw[sO];exact(Bool.beq_eq_decide_eq i j)
  exact%[rfl|by rw[e];exact Hc w c (.bl _)]
def abH{i j}(w:W (.bl (i==j)) S):cA X .Eq (.bl i) (.bl j) S W:=
 gF WQ λ O H v d c a b=>by cases a;cases b;exact%[rfl|by rw[wY];exact Hc w c (.bl _)]
def abP{i j}(w:W (.bl (!(i==j))) S):cA X .NotEq (.bl i) (.bl j) S W:=
 gF WL λ O H v d c a b=>by cases a;cases b;exact%[rfl|by rw[wY];exact Hc w c (.bl _)]
def ab2(w:W (.bl (match x with | .non=>true | _=>false)) S):cA X .Is x .non S W:=
 gF aaS λ O H v d c a b=>by cases b;refine%[rfl|?_];cases a<;>exact Hc w c (.bl _)
def Zj(w:W (.bl (match x with | .non=>false | _=>true)) S):cA X .IsNot x .non S W:=
 gF YT λ O H v d c a b=>by cases b;refine%[rfl|?_];cases a<;>exact Hc w c (.bl _)
def abm{es}(hz:ds.length+es.length<=1000000)(w:W (.tup (ds++es)) S):fV X .Add (.tup ds) (.tup es) S W:=by
 intro h s Z H O v w' u U I r Q R C E;obtain⟨a,F,rfl,m,i⟩:=dj Q;obtain⟨b,Y,rfl,o,j⟩:=dj R;by_cases B:F=[]
 . subst B;have e:ds=[]:=by have:=i.length;simpa using this.symm
   subst e;cases C;cases E;obtain⟨L,V,N,_⟩:=I.tuple m.sq;obtain⟨g,v2,P,_⟩:=I.tuple o.sq;cases V;obtain⟨⟨G,J,x,T⟩,A,y,n,z⟩:=id N;obtain⟨⟨t,l,k,q⟩,f,c,M,d⟩:=id P;simp only at y z c d;subst y z c d;exact nN %[_,A|rfl] %[_,f|rfl] noFill_tuple_add seq_tuple_add mT mI (mi _ _)
    (tuple_addW0 a b ([]:List Value).toArray g.toArray n M J l T q rfl) %[A,f|%[.ref b,H,I,rfl|Hc w r (.tup o j)]]
 . refine Xx h s Z H _ _ u U _ I C E %[a,b,F,Y,rfl,rfl,m.sq,o.sq,B,by rw[i.length,j.length];exact small hz,λ e=>?_|λ _ p K=>mK w r K (i.append j)];subst e;have e:es=[]:=by have:=j.length;simpa using this.symm
   subst e;rw[fA]at w;exact Hc w r (.tup m i)
def abf{es}(hz:ds.length+es.length<=1000000)(w:W (.lst (ds++es)) S):fV X .Add (.lst ds) (.lst es) S W:=by
 intro x s σ H O v Y u V I U N P Q R;obtain⟨a,Z,rfl,F,j⟩:=d7 N;obtain⟨b,ys,rfl,G,k⟩:=d7 P;cases Q;cases R;obtain⟨d,y,L,_⟩:=I.list F.sq;obtain⟨c,A,M,_⟩:=I.list G.sq;obtain⟨⟨B,C,o,T⟩,n,t,p,J,q⟩:=id L;obtain⟨⟨m,i,h,l⟩,K,g,e,r,f⟩:=id M;simp only at p q e f;subst p q e f;have z:d.length+c.length<=sizeLine:=by rw[<-y.length,<-A.length,j.length,k.length];exact small hz
 refine nN %[_,t|rfl] %[_,g|rfl] noFill_list_add seq_list_add PySem.F.slot_list_add PySem.F.entry_list_add (PySem.F.args_list_add_2 _ _)
  (list_addW a b d.toArray c.toArray n K C i T l (by simpa using z)) %[t,g|?_];have E:d.toArray++c.toArray=(d++c).toArray:=by simp
 rw[E];refine%[%[|11],_,I.lnew (t':=s.toks) (y.append A) (by rw[x8,j.length,k.length];exact small hz),rfl|jb w U I.fresh (j.append k)]
end
end DL
namespace DL
open PySem PySem.Spec L2
open PyProof.Rows
variable{K:PySem.W.Frag}{O:Own}{H:Hp}{xs:List V}{ds:List D}{i:Int}{d:D}{k:Nat}{x:Str}{p:Pos}
section
variable{X:Cx}{Γ:Gam}{S:Store}{W:WD}{a b e:Expr}{es:List Expr}{pos:Pos}
def IxW(X:Cx)(a b:Expr)(x y:D)(S:Store)(W:WD):Prop:=
 ∀ (c:Pins)(s:ae4)(e:St)(H:Hp)(O:Own)(v w:V)(u d:Value),Inv X c e H s->%[|13]->Rep X.K O H v x->Rep X.K O H w y->RelV v u->RelV w d->
   subscripted b false u d=operate [u,d] (getItem u d)->wpAny %[|5] X.A (subscriptTail a b u d) (EP X c e (QG X.K O H W)) X.xe s
def abS(h:Ev X Γ S a λ x S1=>Ev X Γ S1 b λ y S2=>IxW X a b x y S2 W)(hs:Lg b:=by intro _ _;rfl):Ev X Γ S (.Subscript a b pos) W:=by intro c s m H O I e G;refine Subscript_ (thn (h c s m H O I e G) λ u E d=>?_);obtain⟨v,n,p,C,t,x,S1,A,i,k,f⟩:=d;refine thn (A c E m n t p (e.mono i) k) λ J F d=>?_;obtain⟨w,o,r,D,z,y,S2,B,j,l,g⟩:=d;exact thn (B c F m o z v w u J r l (f.mono j) g C D (hs _ _)) λ _ _ q=>fc (i.trans j) q
def ym(r:Reps K O H xs ds)(h:atI ds i=some d):∃v,atI xs i=some v/\Rep K O H v d:=by
 unfold atI at h ⊢;rw[r.length]
 cases e:ixN ds.length i with
 | none=>rw[e]at h;cases h
 | some j=>rw[e]at h;exact r.get (i:=j) h
def ab6(h:atI ds i=some d)(w:W d S):IxW X a b (.tup ds) (.int i) S W:=by intro c s x H O v y u r I q k l m n f;cases l;obtain⟨p,t,rfl,e,j⟩:=dj k;obtain⟨z,g,o⟩:=ym j h;exact aac a b c s x H _ _ u r _ I m n %[p,t,i,z,rfl,rfl,e.sq,g|Hc w q o] f
def ab7(h:atI ds i=some d)(w:W d S):IxW X a b (.lst ds) (.int i) S W:=by intro c s x H O v y u r I q k l m n f;cases l;obtain⟨p,t,rfl,e,j⟩:=d7 k;obtain⟨z,g,o⟩:=ym j h;exact Kl a b c s x H _ _ u r _ I m n %[p,t,i,z,rfl,rfl,e.sq,g|Hc w q o] f
def acv(g:S[k]? =some ds)(h:atI ds i=some d)(w:W d S):IxW X a b (.loc k) (.int i) S W:=by intro c s B H O v C u y I e o q r t j;cases q;obtain⟨p,rfl,f⟩:=cV o;obtain⟨A,l,n⟩:=e.obj k p ds f g;obtain⟨z,m,x⟩:=ym n h;exact Kl a b c s B H _ _ u y _ I r t %[p,A,i,z,rfl,rfl,SqL.of l,m|Hc w e x] j
def PoD(X:Cx)(Γ:Gam)(S:Store)(o:Option Expr)(W:Option Int->%[|4]):Prop:=match o with
 | none=>W none S
 | some e=>Ev X Γ S e λ d a=>∃i,d=.int i/\W (some i) a
def SlW(X:Cx)(x:D)(lo hi:af5)(S:Store)(W:WD):Prop:=
 ∀ (a:Pins)(s:ae4)(e:St)(H:Hp)(O:Own)(v:V)(u c d:Value)(b:Addr),Inv X a e H s->%[|13]->Rep X.K O H v x->RelV v u->s.heap.IsSliceOf b c d .none->IsPart c lo->IsPart d hi->
   ∃T f,typeLookup (.type T) "__getitem__"=pure (some (.builtin f))/\s.TypeIs u T/\wpAny %[|5] X.A (getItem u (.ref b)) (EP X a e (QG X.K O H W)) X.xe s
def PT{W}(h:PoD X Γ S o W){pins:Pins}{σ:St}(I:%[|3])(env:EnvOk X.K O H σ Γ)(st:%[|13]):
 wpAny %[|5] X.A (evalPart o X.env) (λ u s'=>∃p H' O' S',Inv X pins σ H' s'/\IsPart u p/\W p S'/\Step O O' H H'/\StOk X.K O' H' S') X.xe s:=by
 cases o with
 | none=>rw[evalPart_none];exact b9 %[none,H,O,S,I,.none,h,Step.refl O H|st]
 | some e=>rw[evalPart_some];refine thn (h pins s σ H O I env st) λ u n b=>?_;obtain⟨v,f,g,m,j,x,k,⟨i,l,w⟩,d,c,a⟩:=b;subst l;cases a;obtain⟨t,rfl⟩:=m;exact%[some i,f,j,k,g,.int i t,w,d|c]
def SM{lo hi}(h:Ev X Γ S e λ x S1=>PoD X Γ S1 lo λ l S2=>PoD X Γ S2 hi λ r S3=>SlW X x l r S3 W):Ev X Γ S (.Subscript e (.Slice lo hi none w) pos) W:=by intro c s t H O I d Q;refine Subscript_ (thn (h c s t H O I d Q) λ v s1 a=>?_);obtain⟨y,R,z,P,V,x,S1,F,f,n,i⟩:=a;refine wpAny_Slice (thn (PT F z (d.mono f) n) λ k s2 a=>?_);obtain⟨l,U,Y,S2,A,M,G,g,o⟩:=a;refine thn (PT G A ((d.mono f).mono g) o) λ m s3 a=>?_;obtain⟨r,u,D,S3,B,N,J,j,p⟩:=a;rw[evalPart_none];refine b9 ?_;have C:Inv X c t u {s3 with heap:=s3.heap.push {cls:=.type "slice",data:=.fields #[k,m,.none]}}:=B.kept (t':=s3.toks) λ b ob q=>bE _ q;obtain⟨T,Z,E,L,K⟩:=J c {s3 with heap:=s3.heap.push {cls:=.type "slice",data:=.fields #[k,m,.none]}} t u D y v k m s3.heap.objs.size C p ((i.mono g).mono j) P (Heap.IsSliceOf.new ..) M N;show wpAny %[|5] X.A (subscriptTail e (.Slice lo hi none w) v (.ref s3.heap.objs.size)) _ X.xe {s3 with heap:=s3.heap.push {cls:=.type "slice",data:=.fields #[k,m,.none]}};exact tail_any (ops:=[.ref s3.heap.objs.size,v]) L E (thn K λ _ _ q=>fc ((f.trans g).trans j) q) (by with_unfolding_all rfl)
def cutD(ds:List D)(lo hi:af5):List D:=(ds.drop (HT.sIx ds.length 0 lo)).take (HT.sIx ds.length ds.length hi-HT.sIx ds.length 0 lo)
def xQ(r:Reps K O H xs ds)(lo hi:af5):Reps K O H (rm xs lo hi) (cutD ds lo hi):=by unfold rm cutD;rw[r.length];exact(r.drop _).take _
def JW{t e}{lo hi}(a:IsTup s.heap t items)(hs:s.heap.IsSliceOf e vl vu .none)(pl:IsPart vl lo)(j:IsPart vu hi)
 (f:HT.sIx items.size 0 lo=0)(h1:HT.sIx items.size items.size hi=items.size)(h:Q (.ref t) s):wpAny %[|6] A (getItem (.ref t) (.ref e)) Q E s:=by
 obtain⟨i,c,b,g⟩:=id hs;have d:s.TypeIs (.ref e) "slice":=%[i,c|b];unfold getItem;try with_reducible refine eu ?_
 first | refine b0 (b9 ?_) | skip
 refine b0 (wpAny_sequenceKey a.typeIs %[|1] ?_);refine b0 (wpAny_callSpecial?_slot (name:=Str.ofString "__getitem__") a.typeIs fT
  (dA fT a.typeIs entry_tuple_getitem ?_ (args_tuple_getitem _ _)));show wpAny _ _ (Builtin.Tuple.tupleItemsOf (.ref t)>>=_) _ _ s;refine b0 (tupleItemsOf_ a (b0 (kB d ?_)));rw[ca %[|1]];refine b0 (HT.sliceApplied_gen hs pl j ?_);rw[f,h1];show wpAny _ _ (if(((0:Nat):Int)==0&&(1:Int)==1&&(items.size-0)==items.size)=true then _ else _) _ _ s;rw[ca (by simp)];unfold Builtin.Tuple.tupleIsExact;first
  | exact b0 (b0 (kB a.typeIs (b9 (by rw[ca %[|1]];exact b0 (k6 (b9 %[_,rfl|b9 h]))))))
  | (refine b0 (b0 (kB a.typeIs (b9 ?_)));simp only[f7,gX];exact b0 (k6 (b9 %[_,rfl|b9 h])))
def ab5{lo hi}(w:W (.tup (cutD ds lo hi)) S):SlW X (.tup ds) lo hi S W:=by
 intro c s y H O v u t x q I m o l h j k;obtain⟨p,b,rfl,f,d⟩:=dj o;by_cases hw:HT.sIx b.length 0 lo=0/\HT.sIx b.length b.length hi=b.length
 . cases l;obtain⟨g,r,i,z⟩:=I.tuple f.sq;have a:g.toArray.size=b.length:=by rw[x5];exact r.length.symm
   refine%["tuple",_,fT.lookup,i.typeIs|JW i h j k (by rw[a];exact hw.1) (by rw[a];exact hw.2) %[.ref p,H,I,rfl|?_]];have e:cutD ds lo hi=ds:=by unfold cutD;rw[<-d.length,hw.1,hw.2,List.drop_zero,db (by rw[<-d.length];omega)]
   rw[e]at w;exact Hc w m (.tup f d)
 {exact ZC c s y H _ u t x lo hi q _ I l h j k %[p,b,rfl,f.sq,hw|λ A n=>mK w m n (xQ d lo hi)]}
def acb{lo hi}(w:W (.lst (cutD ds lo hi)) S):SlW X (.lst ds) lo hi S W:=by intro a s o H O v u l m j I k h i d e f;obtain⟨p,n,rfl,b,g⟩:=d7 h;exact J1 a s o H _ u l m lo hi j _ I i d e f %[p,n,rfl,b.sq|λ q c=>jb w k c (xQ g lo hi)]
def Tz{id}(h:EvA X Γ S (e::es) λ ds S1=>gU X (.builtin id) ds S1 W)(t:X.mg x=none)(v:bootBuiltins x=some (.builtin id))(r:Gl X x:=by rfl)(u:x≠"__name__":=by decide)(c:%[|48]:=by decide)
 (o:starEach (e::es) X.env=%[|42]::%[|33]:=by rfl)(d:(backTo pos %[|33]).any (·.1)=false:=by rfl):Ev X Γ S (.Call (.Name x p) (e::es) [] pos) W:=by intro a s k H O I b A;refine g9 (cj I r t v ?_ u c);exact gS (thn (h pos a s k H O I b A) λ B z f=>by obtain⟨C,l,m,y,n,ds,S1,w,j,g,i⟩:=f;exact thn (w a z k l n C B m g i y) λ _ _ q=>fc j q) o d
def Vz(h:EvA X Γ S (e::es) λ ds S1=>gU X (.type T) ds S1 W)(t:X.mg x=none)(v:bootBuiltins x=some (.type T))(r:Gl X x:=by rfl)(u:x≠"__name__":=by decide)(c:%[|48]:=by decide)
 (o:starEach (e::es) X.env=%[|42]::%[|33]:=by rfl)(d:(backTo pos %[|33]).any (·.1)=false:=by rfl):Ev X Γ S (.Call (.Name x p) (e::es) [] pos) W:=by intro a s k H O I b A;refine g9 (cj I r t v ?_ u c);exact dV (thn (h pos a s k H O I b A) λ B z f=>by obtain⟨C,l,m,y,n,ds,S1,w,j,g,i⟩:=f;exact thn (w a z k l n C B m g i y) λ _ _ q=>fc j q) o d
def gh(r:Reps K O H vs [d]):∃v,vs=[v]/\Rep K O H v d:=by cases r with| cons a t=>cases t;exact%[_,rfl|a]
def aau(w:W (.int ds.length) S):gU X (.builtin "len") [.tup ds] S W:=eE kj λ O H f d r=>by obtain⟨v,rfl,c⟩:=gh r;obtain⟨p,e,rfl,a,b⟩:=dj c;exact%[p,e,rfl,.inr a.sq|by rw[b.length];exact Hc w d (.int _)]
def aay(w:W (.int ds.length) S):gU X (.builtin "len") [.lst ds] S W:=eE kj λ O H f d r=>by obtain⟨v,rfl,c⟩:=gh r;obtain⟨p,e,rfl,a,b⟩:=d7 c;exact%[p,e,rfl,.inl a.sq|by rw[b.length];exact Hc w d (.int _)]
def aah(c:S[k]? =some ds)(w:W (.int ds.length) S):gU X (.builtin "len") [.loc k] S W:=eE kj λ O H h a r=>by obtain⟨v,rfl,f⟩:=gh r;obtain⟨p,rfl,b⟩:=cV f;obtain⟨g,d,e⟩:=a.obj k p ds b c;exact%[p,g,rfl,.inl (SqL.of d)|by rw[e.length];exact Hc w a (.int _)]
def abw(w:W (.tup ds) S):gU X %[|10] [.lst ds] S W:=eE oH λ O H g e r=>by obtain⟨v,rfl,d⟩:=gh r;obtain⟨p,f,rfl,a,c⟩:=d7 d;exact%[p,f,rfl|.inl %[a.sq|λ l b=>mK w e b c]]
def abD(c:S[k]? =some ds)(w:W (.tup ds) S):gU X %[|10] [.loc k] S W:=eE oH λ O H i a r=>by obtain⟨v,rfl,g⟩:=gh r;obtain⟨p,rfl,b⟩:=cV g;obtain⟨h,e,f⟩:=a.obj k p ds b c;exact%[p,h,rfl|.inl %[SqL.of e|λ l d=>mK w a d f]]
abbrev Ct:=List D->Store->WD->Prop
def spC(K:ae1)(n:Nat)(F:Ct):Sp:=λ c H Q _=>∃O a S W,a.length=n/\Reps K O H c a/\StOk K O H S/\F a S W/\∀v b,QG K O H W v b->Q v b
structure Callee(P:af4)(w:World)(K:ae1)(mg:ae8)(base:Heap)(x:Str)(k n:Nat)(F:Ct):Prop where
 ex:∃f fd ps,FnOk P w K mg base CX0 k f fd ps (spC K n F)/\mg x=some (.ref f)/\PySem.W.keepIn K (.ref f)=true/\Binds K fd ps []
def Yz(C:Callee X.prog X.w X.K X.mg X.base x k n F)(D:Room k X.A)(h:EvA X Γ S (e::es) λ ds S1=>ds.length=n/\F ds S1 W)(y:Gl X x:=by rfl)(c:%[|48]:=by decide)
 (u:starEach (e::es) X.env=%[|42]::%[|33]:=by rfl)(d:(backTo pos %[|33]).any (·.1)=false:=by rfl):Ev X Γ S (.Call (.Name x p) (e::es) [] pos) W:=by intro a s J H O I b G;obtain⟨f,M,N,r,B,z,t⟩:=C.ex;refine g9 (Ku I y B ?_ c);refine PySem.W.callWith_K (h₀:=X.base) I.ok.mod.kin z (thn (h pos a s J H O I b G) λ Q P g=>?_) u d;obtain⟨R,L,m,E,o,ds,S1,⟨A,w⟩,l,i,j⟩:=g;refine%[m.kIn|?_];refine aai r D t .nil acq m E ?_;rw[fA];exact%[o,ds,S1,W,A,j,i,w|λ v K q=>q.pre l]
structure Fin where
 nx:Gam->%[|4]
 rt:WD
 bk:Gam->%[|4]:=λ _ _=>False
 ct:Gam->%[|4]:=λ _ _=>False
inductive QN(K:ae1)(O:Own)(H:Hp)(W:Gam->%[|4])(σ':St)(H':Hp):Prop
 | mk(O':Own)(Γ':Gam)(S':Store)(w:W Γ' S')(q:And3 (Step O O' H H') (StOk K O' H' S') (EnvOk K O' H' σ' Γ')):QN K O H W σ' H'
def ends(K:ae1)(O:Own)(H:Hp)(W:Fin):Ends:={nx:=QN K O H W.nx,rt:=QG K O H W.rt,bk:=QN K O H W.bk,ct:=QN K O H W.ct}
def Rn(X:Cx)(Γ:Gam)(S:Store)(st:Stmt)(W:Fin):Prop:=
 ∀ (a:Pins)(s:ae4)(b:St)(H:Hp)(O:Own),Inv X a b H s->EnvOk X.K O H b Γ->%[|13]->
   wpAny %[|5] X.A (exec st X.env) (SP X a (ends X.K O H W)) X.xe s
def Rns(X:Cx)(Γ:Gam)(S:Store)(sts:List Stmt)(W:Fin):Prop:=
 ∀ (a:Pins)(s:ae4)(b:St)(H:Hp)(O:Own),Inv X a b H s->EnvOk X.K O H b Γ->%[|13]->
   wpAny %[|5] X.A (execs sts X.env) (SP X a (ends X.K O H W)) X.xe s
def QN.pre{b}(st:Step O c H b){W}{a}(q:QN K c b W v a):QN K O H W v a:=by obtain⟨e,d,f,w,h,g,r⟩:=q;exact%[e,d,f,w,st.trans h,g|r]
def N5{pins:Pins}{d}{W}(st:Step O d H c)(q:SP X pins (ends X.K d c W) f s'):SP X pins (ends X.K O H W) f s':=by
 cases f with
 | next=>obtain⟨b,a,I,q⟩:=q;exact%[b,a,I|QN.pre st q]
 | brk=>obtain⟨b,a,I,q⟩:=q;exact%[b,a,I|QN.pre st q]
 | cont=>obtain⟨b,a,I,q⟩:=q;exact%[b,a,I|QN.pre st q]
 | ret u=>obtain⟨v,b,a,I,r,q⟩:=q;exact%[v,b,a,I,r|QG.pre st q]
variable{W:Fin}{st:Stmt}{sts:List Stmt}
def aa8(w:W.nx Γ S):Rns X Γ S [] W:=λ b s d H O I a c=>wpAny_execs_nil %[d,H,I,O,Γ,S,w,Step.refl O H,c|a]
def Yq(h:Rn X Γ S st {W with nx:=λ Γ1 S1=>Rns X Γ1 S1 sts W}):Rns X Γ S (st::sts) W:=by
 intro a s n H O I c l;refine wpAny_execs_cons (thn (h a s n H O I c l) λ f m q=>?_)
 cases f with
 | next=>obtain⟨g,i,j,k,Γ1,S1,w,e,d,b⟩:=q;exact thn (w a m g i k j b d) λ _ _ q=>N5 e q
 | ret v=>exact q
 | brk=>exact q
 | cont=>exact q
def acx(h:Ev X Γ S e W.rt):Rn X Γ S (.Return (some e) pos) W:=by intro a s c H O I b d;exact wpAny_Return_some (thn (h a s c H O I b d) λ v f ⟨x,H1,I1,r1,q1⟩=>%[x,c,H1,I1,r1|q1])
def acY{xs ys}(h:Ts X Γ S c λ k S1=>(k=true->Rns X Γ S1 xs W)/\(k=false->Rns X Γ S1 ys W)):Rn X Γ S (.If c xs ys pos) W:=by
 intro a s i H O I e o;refine wpAny_If (thn (h a s i H O I e o) λ d n g=>?_);obtain⟨j,l,m,S1,w,b,f⟩:=g
 cases d with
 | true=>exact thn (w.1 rfl a n i j m l (e.mono b) f) λ _ _ q=>N5 b q
 | false=>exact thn (w.2 rfl a n i j m l (e.mono b) f) λ _ _ q=>N5 b q
def Wy(i:Nat){a}(h:Ev X Γ S e λ d S1=>W.nx (Γ.set i (some d)) S1)(p:X.N.Nodup)(hi:X.N[i]? =some x:=by rfl)(r:Loc X.env.scope x:=by first | exact Or.inl rfl | exact Or.inr rfl)
 (hs:swapsWith e (some (.Name x a)) pos.line X.env=pure false:=by rfl)(q:X.fn x=true\/%[|52]:=by first | exact .inl rfl | exact .inr rfl):Rn X Γ S (.Assign [.Name x a] e pos) W:=by intro c s z H O I b t;refine wpAny_Assign_Name (thn (h c s z H O I b t) λ v A j=>?_) hs;obtain⟨y,l,m,u,o,d,S1,w,g,k,f⟩:=j;exact j4 m p hi r u (λ B n=>%[_,l,n,o,_,S1,w,g,k|(b.mono g).set f i]) q
def ZV(h:Ev X Γ S e λ d S1=>W.nx Γ S1)(hs:swapsWith e none pos.line X.env=pure false:=by rfl):Rn X Γ S (.Expr e pos) W:=by intro b s j H O I a n;exact wpAny_Expr_any (thn (h b s j H O I a n) λ v p f=>by obtain⟨x,k,l,o,m,d,S1,w,c,g,i⟩:=f;exact%[j,k,l,m,Γ,S1,w,c,g|a.mono c]) I.quiet hs
def tE(K:ae1)(Γ:Gam)(S:Store)(W:WD):TE:=λ b H Q=>∃O,EnvOk K O H b Γ/\StOk K O H S/\∀v a,QG K O H W v a->Q v a
def PX{pins:Pins}{σ:St}{Q a}(q:EP X pins σ Q u s')(k:∀v H',Q v H'->a v H'):EP X pins σ a u s':=by obtain⟨v,H',I,r,q⟩:=q;exact%[v,H',I,r|k v H' q]
def Ev.pe{W}(h:Ev X Γ S e W):PE X e (tE X.K Γ S W):=λ a s b H Q I ⟨O,env,st,k⟩=>thn (h a s b H O I env st) λ _ _ q=>PX q k
def tEA(K:ae1)(Γ:Gam)(S:Store)(W:List D->%[|4]):TA:=λ b H Q=>∃O,EnvOk K O H b Γ/\StOk K O H S/\∀v a,QA K O H W v a->Q v a
def EvA.pa{W}(h:EvA X Γ S es W):PA X es (tEA X.K Γ S W):=λ b a s c H Q I ⟨O,env,st,k⟩=>thn (h b a s c H O I env st) λ _ _ ⟨v,H',I',r,q⟩=>%[v,H',I',r|k v H' q]
def X7{o i}{a}(h:Ev X Γ S e λ d S1=>Ev X Γ S1 o λ x S2=>Ev X Γ S2 i λ y S3=>∃k n ds j,x=.loc k/\y=.int n/\S3[k]? =some ds/\ixN ds.length n=some j/\W.nx Γ (S3.set k (ds.set j d)))
 (ha:∀v,assign (.Subscript o i a) X.env v=(do
  let ov <-holding [v] (eval o X.env)
  let iv <-holding [v,ov] (eval i X.env)
  standAt a
  holding [v,ov,iv] (setItem ov iv v)
  release [v,ov,iv] []):=by intro _;rfl)(hs:swapsWithSole [.Subscript o i a] e pos.line X.env=pure false:=by rfl)(hw:swappedStores [.Subscript o i a] e X.env=pure none:=by rfl)
 (h1:(assignEach [.Subscript o i a] X.env).map (·.2)=[assign (.Subscript o i a) X.env]:=by rfl):Rn X Γ S (.Assign [.Subscript o i a] e pos) W:=by intro c s B H O I f ok;refine wpAny_Assign_stores (thn (h c s B H O I f ok) λ u s1 b=>?_) hs hw;obtain⟨v,K,M,r1,R,d,S1,w1,g,D,t⟩:=b;rw[h1];show wpAny _ _ (assign (.Subscript o i a) X.env u) _ _ _;rw[ha];refine b0 (eu (thn (w1 c s1 B K R M (f.mono g) D) λ ov s2 b=>?_));obtain⟨x,L,N,r2,T,dx,S2,w2,l,E,z⟩:=b;refine b0 (eu (thn (w2 c s2 B L T N ((f.mono g).mono l) E) λ iv s3 b=>?_));obtain⟨y,F,P,r3,U,dy,S3,⟨k,n,ds,j,Y,Z,hk,hj,w⟩,m,r,A⟩:=b;subst Y;subst Z;have rx:=z.mono m;obtain⟨p,rfl,C⟩:=cV rx;cases A;obtain⟨G,hx,q⟩:=r.obj k p ds C hk;have rd:=(t.mono l).mono m;refine b0 (lP (b0 (eu (thn (set_list c s3 B F _ _ v ov iv u (λ J=>J=upd F p (.lst (G.set j v))) P r2 r3 r1 %[p,G,n,j,rfl,rfl,hx,by rw[q.length];exact hj|rfl]) λ _ s4 b=>?_))));obtain⟨H4,Q,V⟩:=b;subst V;refine wpAny_release %[B,_,Q,U,Γ,_,w,((g.trans l).trans m).trans (Step.put (bU C) _),r.put C (q.set rd j)|(((f.mono g).mono l).mono m).mono (Step.put (bU C) _)]
def BdW(X:Cx)(tg:Expr)(d:D)(Γ:Gam)(S:Store)(W:Gam->%[|4]):Prop:=
 ∀ (a:Pins)(s:ae4)(b:St)(H:Hp)(O:Own)(v:V)(u:Value),Inv X a b H s->EnvOk X.K O H b Γ->%[|13]->Rep X.K O H v d->RelV v u->
   wpAny %[|5] X.A (assign tg X.env u) (λ _ c=>NP X a (QN X.K O H W) c) X.xe s
def Fe(X:Cx)(ts:af1)(ds:List D)(Γ:Gam)(S:Store)(W:Gam->%[|4]):Prop:=
 ∀ (a:Pins)(s:ae4)(d:St)(H:Hp)(O:Own)(c:List V)(b:ae5),Inv X a d H s->EnvOk X.K O H d Γ->%[|13]->Reps X.K O H c ds->Vals c b->
   wpAny %[|5] X.A (assignInOrder ((assignEach ts X.env).map (·.2)) b) (λ _ e=>NP X a (QN X.K O H W) e) X.xe s
def Zf(i:Nat){W}(w:W (Γ.set i (some d)) S)(e:X.N.Nodup)(hi:X.N[i]? =some x:=by rfl)(g:Loc X.env.scope x:=by first | exact Or.inl rfl | exact Or.inr rfl)
 (f:X.fn x=true\/%[|52]:=by first | exact .inl rfl | exact .inr rfl):BdW X (.Name x pos) d Γ S W:=λ b s l H O v u I a j r h=>
 wpAny_assign_Name (j4 I e hi g h (λ k c=>%[_,H,c,O,_,S,w,Step.refl O H,j|a.set r i]) f)
def YK{W}(w:W Γ S):Fe X [] [] Γ S W:=λ b s e H O g f I a d r c=>by cases r;cases c;exact assignInOrder_nil %[e,H,I,O,Γ,S,w,Step.refl O H,d|a]
def Wg{W}(h:BdW X t d Γ S λ Γ1 S1=>Fe X f ds Γ1 S1 W)
 (hs:(assignEach (t::f) X.env).map (·.2)=assign t X.env::(assignEach f X.env).map (·.2):=by rfl):Fe X (t::f) (d::ds) Γ S W:=λ a s A H O D C I g z r k=>by cases r with| cons r x=>cases k with| cons k j=>rw[hs];refine assignInOrder_cons (thn (h a s A H O _ _ I g z r k) λ _ y b=>?_);obtain⟨l,n,p,v,Γ1,S1,w,e,i,c⟩:=b;refine thn (w a y l n v _ _ p c i (x.mono e) j) λ _ B b=>by obtain⟨m,o,u,q⟩:=b;exact%[m,o,u|QN.pre e q]
def aa7{W}(h:Fe X c ds Γ S W)(q:X.calm=true:=by rfl)(t:(assignEach c X.env).length=ds.length:=by rfl)(f:(assignEach c X.env).findIdx? (·.1)=none:=by rfl):BdW X (.Tuple c k pos) (.tup ds) Γ S W:=λ a s j H O v u I d A r z=>by obtain⟨p,B,rfl,n,g⟩:=dj r;cases z;obtain⟨y,i,w,C⟩:=I.tuple n.sq;refine assign_Tuple_tuple (I.ok.hd q) w (by simp[t,<-g.length,i.length]) f λ m x=>?_;have l:Inv X a j H {s with heap:=m}:=I.kept (t':=s.toks) λ b o e=>x b o (cm (c8 e)) e;exact h a _ j H O B _ l d A g (by simpa using i)
def jY(K:ae1)(J:It)(O:Own)(H:Hp)(ds:List D):Prop:=
 ∀(e:Own)(c:Hp),Conv O e H c->(∀a,e.has a->c a≠none)->∀i:Nat,(∀d,%[|28]->J.go i c/\∀x b,J.yld i c x b->fW c b/\Rep K e b x d)/\(i=ds.length->J.stop i c)
inductive QI(K:ae1)(O:Own)(H:Hp)(W:List D->%[|4])(J:It)(H':Hp):Prop
 | mk(O':Own)(ds:List D)(S':Store)(w:W ds S')(q:And3 (Step O O' H H') (StOk K O' H' S') (jY K J O' H' ds)):QI K O H W J H'
def ItW(X:Cx)(Γ:Gam)(S:Store)(tg iter:Expr)(W:List D->%[|4]):Prop:=
 ∀ (a:Pins)(s:ae4)(b:St)(H:Hp)(O:Own),Inv X a b H s->EnvOk X.K O H b Γ->%[|13]->
   wpAny %[|5] X.A (eval iter X.env) (λ v c=>wpAny %[|5] X.A (pyIter v) (PIE X a b tg (QI X.K O H W)) X.xe c) X.xe s
def t8{a}(h:Ls K O H a xs)(r:Reps K O H xs ds):jY K (Itl K a) O H ds:=by intro n m f _ i;have b:=(h.conv f).sq;refine%[λ d j=>?_|λ k=>%[xs,b|by rw[r.length];exact nV k.symm]];obtain⟨v,c,l⟩:=r.get j;refine%[%[xs,v,b|c]|λ x g y=>?_];obtain⟨e,y⟩:=y;subst e;have e:=y xs b;rw[c]at e;cases e;exact%[fW.refl _|l.conv f]
def wu{a}(h:Tp K O H a xs)(r:Reps K O H xs ds):jY K (Itt K a) O H ds:=by intro n m f _ i;have b:=(h.conv f).sq;refine%[λ d j=>?_|λ k=>%[xs,b|by rw[r.length];exact nV k.symm]];obtain⟨v,c,l⟩:=r.get j;refine%[%[xs,v,b|c]|λ x g y=>?_];obtain⟨e,y⟩:=y;subst e;have e:=y xs b;rw[c]at e;cases e;exact%[fW.refl _|l.conv f]
def upTo(lo:Int)(n:Nat):List D:=%[|18].map λ(k:Nat)=>D.int (lo+(k:Int))
def aB(lo:Int)(n:Nat):(upTo lo n).length=n:=by simp[upTo]
def bO{lo}{n i}(h:(upTo lo n)[i]? =some d):i<n/\d=.int (lo+i):=by
 unfold upTo at h;rw[y8]at h
 cases e:%[|18][i]? with
 | none=>rw[e]at h;cases h
 | some k=>rw[e]at h;obtain⟨b,a⟩:=z0.mp e;simp at b a;subst a;cases h;exact%[b|rfl]
def qb(lo:Int)(n:Nat):jY K (Itr lo n) O H (upTo lo n):=by intro j h k _ i;refine%[λ d g=>?_|λ a=>by rw[aB]at a;exact nV a.symm];obtain⟨a,c⟩:=bO g;subst c;refine%[a|λ x b y=>?_];obtain⟨e,f⟩:=y;subst e;subst f;exact%[fW.refl _|.int _]
def PN{u a}{W}(h:Ev X Γ S a λ d S1=>∃j:Int,d=.int j/\ -(2 ^ 62)<=j/\j<2 ^ 62/\W (upTo 0 j.toNat) S1)(r:X.mg "range"=none)(o:Gl X "range":=by rfl)(hs:starEach [a] X.env=[(false,eval a X.env)]:=by rfl):
 ItW X Γ S u (.Call (.Name "range" p) [a] [] pos) W:=by intro b s x H O I c t;refine RZ o r (rW h.pe Ek hs) hs b s x H _ I %[O,c,t|λ v y q=>?_];obtain⟨i,d,k,⟨j,l,m,n,w⟩,g,e,f⟩:=q;subst l;cases f;exact%[j,rfl,m,n,i,_,k,w,g,e|qb 0 _]
def QM{F a b}{W}(h:Ev X Γ S a λ d S1=>Ev X Γ S1 b λ d' S2=>∃i j:Int,d=.int i/\d'=.int j/\(-(2 ^ 62)<=i/\i<2 ^ 62/\ -(2 ^ 62)<=j/\j<2 ^ 62)/\W (upTo i (j-i).toNat) S2)(A:X.mg "range"=none)(z:Gl X "range":=by rfl)
 (hs:starEach [a,b] X.env=[(false,eval a X.env),(false,eval b X.env)]:=by rfl)(c:starEach [b] X.env=[(false,eval b X.env)]:=by rfl):
 ItW X Γ S F (.Call (.Name "range" p) [a,b] [] pos) W:=by
 intro e s G H O I f E;have y:EvA X Γ S [a,b] λ o S2=>∃i j:Int,o=[.int i,.int j]/\(-(2 ^ 62)<=i/\i<2 ^ 62/\ -(2 ^ 62)<=j/\j<2 ^ 62)/\W (upTo i (j-i).toNat) S2:=
  cH (h.mono λ d S1 x=>cH (x.mono λ d' S2 ⟨i,j,e1,e2,g,w⟩=>gr %[i,j,by rw[e1,e2],g|w]) c) (by rw[hs,c]);refine Pu z A y.pa hs c e s G H _ I %[O,f,E|λ v J q=>?_];obtain⟨r,o,t,⟨i,j,u,g,w⟩,n,k,m⟩:=q;subst u;cases m with| cons B l=>cases l with| cons l C=>cases C;cases B;cases l;exact%[i,j,rfl,g,r,_,t,w,n,k|qb i _]
def ace(h:ItW X Γ S M iter λ ds S1=>∃Pv:Nat->Gam->%[|4],Pv 0 Γ S1/\
 (∀i d Γ' S',%[|28]->Pv i Γ' S'->BdW X M d Γ' S' λ Γ2 S2=>Rns X Γ2 S2 l {W with nx:=Pv (i+1),ct:=Pv (i+1),bk:=W.nx})/\(∀Γ' S',Pv ds.length Γ' S'->W.nx Γ' S'))
 (hp:PassesOwn %[|5] X.A X.env X.xe:=by exact me)(hc:X.calm=true:=by rfl)(hs:∀x,foldedSetIterable iter X.env x=pure x:=by intro _;rfl):Rn X Γ S (.For M iter l [] pos) W:=by
 intro j s o H O I n ok;let WI:List D->%[|4]:=λ ds S1=>∃Pv:Nat->Gam->%[|4],Pv 0 Γ S1/\
     (∀i d Γ' S',%[|28]->Pv i Γ' S'->BdW X M d Γ' S' λ Γ2 S2=>Rns X Γ2 S2 l {W with nx:=Pv (i+1),ct:=Pv (i+1),bk:=W.nx})/\(∀Γ' S',Pv ds.length Γ' S'->W.nx Γ' S');have hI:PI X M iter (λ o H R=>∃O,EnvOk X.K O H o Γ/\%[|13]/\∀J g,QI X.K O H WI J g->R J g):=λ j s o H R I T=>by obtain⟨O,n,U,k⟩:=T;refine thn (h j s o H O I n U) λ _ _ q=>thn q λ _ _ q2=>?_;obtain⟨it,fp,tn,J,g,e1,e2,e3,e4,e5,e6⟩:=q2;exact%[it,fp,tn,J,g,e1,e2,e3,e4,e5|k J g e6]
 have hG:PG X M (λ v o H Q=>∃O d Γ S t,EnvOk X.K O H o Γ/\%[|13]/\Rep X.K O H v d/\BdW X M d Γ S t/\∀c g,QN X.K O H t c g->Q c g):=λ j s o H v u Q I ru T=>by obtain⟨O,d,Γ,S,t,n,U,r,b,k⟩:=T;refine thn (b j s o H O v u I n U r ru) λ _ _ q2=>?_;obtain⟨c,g,w,q⟩:=q2;exact%[c,g,w|k c g q]
 have hB:PSs X l (λ D o H=>∃O Γ S t,EnvOk X.K O H o Γ/\%[|13]/\Rns X Γ S l t/\(∀c g,QN X.K O H t.nx c g->D.nx c g)/\(∀v g,QG X.K O H t.rt v g->D.rt v g)/\(∀c g,QN X.K O H t.bk c g->D.bk c g)/\∀c g,QN X.K O H t.ct c g->D.ct c g):=
  λ j s o H D I T=>by
   obtain⟨O,Γ,S,t,n,U,b,k1,k2,k3,k4⟩:=T;refine thn (b j s o H O I n U) λ f s' q=>?_
   cases f with
   | next=>obtain⟨c,g,w,q⟩:=q;exact%[c,g,w|k1 c g q]
   | brk=>obtain⟨c,g,w,q⟩:=q;exact%[c,g,w|k3 c g q]
   | cont=>obtain⟨c,g,w,q⟩:=q;exact%[c,g,w|k4 c g q]
   | ret u=>obtain⟨v,c,g,w,r,q⟩:=q;exact%[v,c,g,w,r|k2 v g q]
 refine RD hp hc hI hG hB hs j s o H _ I %[O,n,ok|λ J H1 q=>?_];obtain⟨Y,ds,S1,⟨Pv,p0,pt,pe⟩,A,aa,yl⟩:=q;refine%[λ i m c g=>m=ds.length-i/\i<=ds.length/\∃E Γ' S',Pv i Γ' S'/\Step Y E H1 g/\StOk X.K E g S'/\EnvOk X.K E g c Γ',%[ds.length,by simp,dr _,Y,Γ,S1,p0,Step.refl _ _,aa|n.mono A]|?_];rintro i m af H2 ⟨rfl,hi,O2,Γ2,S2,p2,K,F,C⟩;obtain⟨y1,y2⟩:=yl O2 H2 K.conv (λ a ha=>F.tracked ha) i;by_cases z:i<ds.length;{obtain⟨go,yy⟩:=y1 ds[i] (y3 z);refine .inr %[go,λ c g=>i+1<=ds.length/\∃E Γ' S',Pv (i+1) Γ' S'/\Step Y E H1 g/\StOk X.K E g S'/\EnvOk X.K E g c Γ',λ c g q=>%[ds.length-(i+1),%[|0],rfl,q.1|q.2]|λ x H3 y=>?_];obtain⟨sm,rx⟩:=yy x H3 y;have V:=Step.same (O:=O2) sm;refine%[O2,ds[i],Γ2,S2,_,C.mono V,F.same sm,rx,pt i ds[i] Γ2 S2 (y3 z) p2|λ ag H4 q4=>?_];obtain⟨O4,ad,S4,w4,ac,ab,P⟩:=q4;have B:=(K.trans V).trans ac;refine%[O4,ad,S4,_,P,ab,w4,?_,?_,?_|?_];{rintro ae H5 ⟨Z,N,S5,w5,L,G,p⟩;exact%[z,Z,N,S5,w5,B.trans L,G|p]};{exact λ v g q=>QG.pre (A.trans B) q};{exact λ c g q=>QN.pre (A.trans B) q};{rintro ae H5 ⟨Z,N,S5,w5,L,G,p⟩;exact%[z,Z,N,S5,w5,B.trans L,G|p]}}
 . have e:i=ds.length:=%[|0]
   subst e;exact .inl %[y2 rfl,O2,Γ2,S2,pe Γ2 S2 p2,A.trans K,F|C]
def ab4(FF:Fun K x g m f C)(SC:FnScope N ps (aY m))
 (p:∀(l:Value)(A:ag1)(outer:List Env)(s:ae4)(H:Hp)(E:XK)(ds:List D)(S:Store)(W:WD),C.code=l->Room k (A.deeper (envOfC g (aY m) s.heap.objs.size f l))->ds.length=ps.length->F ds S W->
  Rns (rF CX0 P w K mg base N g (aY m) f l A outer s H E).nox (ds.map some++List.replicate (N.length-ds.length) none) S (dI m) {nx:=λ _ S1=>W .non S1,rt:=W}):FnOk P w K mg base CX0 (k+1) f C ps (spC K ps.length F):=by
 obtain⟨oc,od,kV,aa,pm,an,l,ct,ab,rfl,lk,G⟩:=FF.ex;refine ab9 lk G SC (λ V H Q E h=>?_) λ A outer s H V Q E hr h=>?_;{obtain⟨O,ds,S,W,L,r,_⟩:=h;rw[r.length,L]}
 . obtain ⟨O,ds,S,W,L,r,T,hF,q⟩:=h;have hB:=p l A outer s H E ds S W rfl hr L hF;suffices key:∃t,PSs (rF CX0 P w K mg base N g (aY m) f l A outer s H E).nox (dI m) t/\t {nx:=λ _ c=>Q .non c,rt:=Q} (L2.start N V) H from key.elim λ t h=>%[t,h.1.nox|h.2];refine%[λ D Y c=>∃O X S o,EnvOk K O c Y X/\StOk K O c S/\Rns (rF CX0 P w K mg base N g (aY m) f l A outer s H E).nox X S (dI m) o/\(∀a j,QN K O c o.nx a j->D.nx a j)/\(∀v j,QG K O c o.rt v j->D.rt v j)/\(∀a j,QN K O c o.bk a j->D.bk a j)/\∀a j,QN K O c o.ct a j->D.ct a j,?_|?_]
   . rintro y s Y c D I ⟨O,X,S,o,B,T,b,k1,k2,k3,k4⟩;refine thn (b y s Y c O I B T) λ f s' q=>?_
     cases f with
     | next=>obtain⟨a,c,n,q⟩:=q;exact%[a,c,n|k1 a c q]
     | brk=>obtain⟨a,c,n,q⟩:=q;exact%[a,c,n|k3 a c q]
     | cont=>obtain⟨a,c,n,q⟩:=q;exact%[a,c,n|k4 a c q]
     | ret u=>obtain⟨v,a,c,n,r,q⟩:=q;exact%[v,a,c,n,r|k2 v c q]
   . refine%[O,_,S,_,?_,T,hB,?_,?_,?_|?_]
     . have Z:V.length=ds.length:=r.length;refine%[by simp[L2.start,Z]|λ i d h=>?_];by_cases J:i<ds.length
       . rw[x9 (by simpa using J),y8]at h
         cases e:ds[i]? with
         | none=>rw[e]at h;cases h
         | some d'=>rw[e]at h;cases h;obtain⟨v,M,rv⟩:=r.get e;refine%[v,?_|rv];unfold L2.start;rw[x9 (by rw[y7,Z];exact J),y8,M];rfl
       {rw[da (by simpa using J),List.getElem?_replicate]at h;split at h<;>cases h}
     {rintro a j ⟨O',ac,S',w,U,R,_⟩;exact q _ _ %[O',.non,S',w,U,R|.non]};{exact λ v j z=>q v j z};{rintro a j ⟨_,_,_,w,_⟩;exact w.elim};{rintro a j ⟨_,_,_,w,_⟩;exact w.elim}
end
end DL
namespace DL
open PySem PySem.Spec L2
open PyProof.Rows
variable{x:Str}{K:PySem.W.Frag}{O:Own}{H:Hp}{s:Shared}
def rk(env:Env)(n:Str)(k:NameKind):NameKind:=if(k==NameKind.free&&env.scope.kind==.function&&env.kindOf n==some .cell)=true then .cell else k
def nT(a:Scope)(env:Env):(relabel a env).names=a.names.map λ p=>(p.1,rk env p.1 p.2):=by show a.names.map _=_;congr 1;funext p;obtain⟨n,k⟩:=p;unfold rk;by_cases h:(k==NameKind.free&&env.scope.kind==.function&&env.kindOf n==some .cell)=true;{simp only[h,gX]};{simp only[h,ef,cy]}
theorem gD(g:Str->NameKind->NameKind)(x:Str):∀names:List (Str×NameKind),(names.map λ p=>(p.1,g p.1 p.2)).lookup x=(names.lookup x).map (g x)
 | []=>rfl
 | (n,k)::r=>by
   have b:=gD g x r;rw[cn,jv,jv]
   cases a:x==n with
   | true=>rw[ZU a];rfl
   | false=>exact b
def uU(env:Env)(n:Str)(k:NameKind):rk env n k=k\/(k=.free/\rk env n k=.cell):=by unfold rk;by_cases h:(k==NameKind.free&&env.scope.kind==.function&&env.kindOf n==some .cell)=true;{rw[ca h];rw[eL,eL]at h;exact .inr %[ZU h.1.1|rfl]};{rw[bP h];exact .inl rfl}
def mD(h:(relabel a env).names.lookup x=some k):∃k0,a.names.lookup x=some k0/\(k=k0\/(k0=.free/\k=.cell)):=by
 rw[nT,gD]at h
 cases e:a.names.lookup x with
 | none=>rw[e]at h;cases h
 | some k0=>rw[e]at h;have b:rk env x k0=k:=cc h;refine%[k0,rfl|?_];rcases uU env x k0 with q | ⟨c,d⟩;{exact .inl (b.symm.trans q)};{exact .inr %[c|b.symm.trans d]}
def Gg(h:a.names.lookup x=some .free):(relabel a env).names.lookup x=some .cell\/(relabel a env).names.lookup x=some .free:=by rw[nT,gD,h];rcases uU env x .free with q | ⟨_,q⟩;{exact .inr (ei some q)};{exact .inl (ei some q)}
def closes(env:Env):List (Str×NameKind)->List (Str×Addr)->List (Str×Addr)
 | [],cs=>cs
 | (n,k)::r,cs=>closes env r (if k==.free then(n,(env.cells.lookup n).getD 0)::cs else cs)
def Jg:∀(names:af6)(cs:af9),(∀y∈names,y.2=.free->∃c,env.cells.lookup y.1=some c)->
 (forIn (m:=Sem) names cs λ x r=>if(x.2==.free)=true then do let a <-cellOf env x.1;pure (ForInStep.yield ((x.1,a)::r))else pure (ForInStep.yield r))=pure (closes env names cs):=by
 intro names
 induction names with
 | nil=>intro cs _;rw[l8];rfl
 | cons l r g=>
   obtain⟨n,k⟩:=l;intro cs h;rw[mf];have f:=λ cs=>g cs λ y j=>h y (x4 _ j);by_cases d:(k==NameKind.free)=true
   . obtain⟨c,i⟩:=h (n,k) x6 (ZU d);have b:env.cells.lookup n=some c:=i;have e:cellOf env n=pure c:=by unfold cellOf;rw[b]
     have q:=f ((n,c)::cs);simp only[d,gX,e,pure_bind];rw[q];simp[closes,d,b]
   {have q:=f cs;simp only[d,ef,pure_bind,cy];rw[q];simp[closes,d]}
def oK(h:∀y∈a.names,y.2=.free->∃c,env.cells.lookup y.1=some c):closureFor a env=pure (closes env a.names []):=by
 have q:=Jg (env:=env) a.names [] h;unfold closureFor;first
  | (simp only[bind_pure];exact q)
  | (rw[show(forIn a.names ([]:List (Str×Addr)) _:Sem _)=_ from q];rfl)
  | (refine Eq.trans (ei (λ t=>t>>=pure) q) ?_;simp)
def Jj:∀(names:af6)(cs:af9),(∀y∈names,y.2=.free->∃c,env.cells.lookup y.1=some c)->(∀c,cs.lookup x=some c->env.cells.lookup x=some c)->(closes env names cs).lookup x=some c->env.cells.lookup x=some c:=by
 intro names
 induction names with
 | nil=>intro cs _ d h;exact d c h
 | cons p r l=>
   obtain⟨n,k⟩:=p;intro cs j d h;refine l _ (λ y o=>j y (x4 _ o)) ?_ h;intro i a;by_cases f:(k==NameKind.free)=true
   . rw[ca f]at a;obtain⟨m,b⟩:=j (n,k) x6 (ZU f);have b:env.cells.lookup n=some m:=b;rw[jv]at a
     cases g:x==n with
     | true=>rw[g,b]at a;have e:x=n:=ZU g;subst e;simp only[Option.getD_some]at a;cases a;exact b
     | false=>rw[g]at a;exact d i a
   {rw[bP f]at a;exact d i a}
def nW:∀(names:af6)(cs:af9),((∃c,cs.lookup x=some c)\/names.lookup x=some .free)->∃c,(closes env names cs).lookup x=some c:=by
 intro names
 induction names with
 | nil=>intro cs h;rcases h with h | h;{exact h};{simp at h}
 | cons e r d=>
   obtain⟨n,k⟩:=e;intro cs h;refine d _ ?_;rcases h with⟨c,h⟩ | h
   . refine .inl ?_;by_cases b:(k==NameKind.free)=true
     . rw[ca b,jv]
       cases a:x==n with
       | true=>exact%[_|rfl]
       | false=>exact%[c|h]
     {rw[bP b];exact%[c|h]}
   . rw[jv]at h
     cases a:x==n with
     | true=>rw[a]at h;simp only at h;cases h;refine .inl %[(env.cells.lookup n).getD 0|?_];simp[jv,a]
     | false=>rw[a]at h;exact .inr h
def iQ(X:Cx)(sc:Scope)(N:ae7)(C:Addr)(s:ae4)(H:Hp)(ex:ag3)(cl:af9):Cx:=
 {X with N:=N,s₀:=s,H₀:=H,env:=compEnvC sc cl C X.env,outer:=X.stack,stack:=X.stack,ex:=ex,fn:=λ x=>sc.names.lookup x==some .cell,pn:=[]}
def capt{α:Type}(cap:ae9)(xs:List (Option α)):List (Option α):=cap.map λ o=>o.bind λ j=>(xs[j]?).join
def b8(N:ae7)(names:af6)(N':ae7)(names':af6):List (Option Nat)->List Str->Bool
 | [],[]=>true
 | none::r,_::t=>b8 N names N' names' r t
 | some j::r,x::t=>(N[j]? ==some x)&&(names.lookup x==some .cell||names.lookup x==some .free)&&(names'.lookup x==some .free)&&b8 N names N' names' r t
 | _,_=>false
def Q5:∀{a:ae9}{t:ae7},b8 N names d b a t=true->a.length=t.length:=by
 intro a
 induction a with
 | nil=>
   intro t h
   cases t with
   | nil=>rfl
   | cons=>simp[b8]at h
 | cons o r c=>
   intro t h
   cases t with
   | nil=>cases o<;>simp[b8]at h
   | cons x t=>
     cases o with
     | none=>simp only[b8]at h;simp[c h]
     | some j=>simp only[b8,eL]at h;simp[c h.2]
def Vv:∀{d:ae9}{t:ae7}{i j:Nat},b8 N names l c d t=true->d[i]? =some (some j)->
 ∃x,t[i]? =some x/\N[j]? =some x/\(names.lookup x=some .cell\/names.lookup x=some .free)/\c.lookup x=some .free:=by
 intro d
 induction d with
 | nil=>intro t i j _ h;simp at h
 | cons o r f=>
   intro t i j h e
   cases t with
   | nil=>cases o<;>simp[b8]at h
   | cons x t=>
     cases o with
     | none=>
       cases i with
       | zero=>simp at e
       | succ i=>simp only[b8]at h;obtain⟨y,a,b⟩:=f (i:=i) h (by simpa using e);exact%[y,by simpa using a|b]
     | some k=>
       simp only[b8,eL]at h
       cases i with
       | zero=>obtain⟨⟨⟨m,g⟩,n⟩,_⟩:=h;simp at e;subst e;rw[i6]at g;exact%[x,rfl,ZU m,g.imp ZU ZU|ZU n]
       | succ i=>obtain⟨y,a,b⟩:=f (i:=i) h.2 (by simpa using e);exact%[y,by simpa using a|b]
def Km{i:Nat}{d:b}(h:(capt a xs)[i]? =some (some d)):∃j,a[i]? =some (some j)/\xs[j]? =some (some d):=by
 unfold capt at h;rw[y8]at h
 cases e:a[i]? with
 | none=>rw[e]at h;cases h
 | some o=>
   rw[e]at h
   cases o with
   | none=>simp at h
   | some j=>
     simp at h;refine%[j,rfl|?_]
     cases q:xs[j]? with
     | none=>rw[q]at h;cases h
     | some z=>rw[q]at h;simp at h;rw[h]
def EnvOk.capt(e:EnvOk K O H σ b)(a:ae9):EnvOk K O H (capt a σ) (capt a b):=by refine%[by simp[DL.capt]|λ i d h=>?_];obtain⟨j,f,c⟩:=Km h;obtain⟨v,g,r⟩:=e.at_ j d c;refine%[v,?_|r];unfold DL.capt;rw[y8,f];simp[g]
def Sub(Γ Γ':Gam):Prop:=Γ.length=Γ'.length/\∀(i:Nat)(d:D),Γ[i]? =some (some d)->Γ'[i]? =some (some d)
def Sub.refl(a:Gam):Sub a a:=%[rfl|λ _ _ h=>h]
def Sub.set(s:Sub b Γ')(i:Nat)(d:Option D)(h:b[i]? =some none:=by rfl):Sub b (Γ'.set i d):=%[by rw[List.length_set];exact s.1|λ j c a=>by
 have f:i≠j:=λ e=>by subst e;rw[h]at a;cases a
 rw[en f];exact s.2 j c a]
def EnvOk.sub(e:EnvOk K O H σ Γ')(s:Sub a Γ'):EnvOk K O H σ a:=%[e.len.trans s.1.symm|λ i d h=>e.at_ i d (s.2 i d h)]
def EnvOk.conv(e:EnvOk K O H σ g)(s:Conv O f H c):EnvOk K f c σ g:=
 %[e.len|λ i d h=>let ⟨v,a,b⟩:=e.at_ i d h;%[v,a|b.conv s]]
def freeOk(names names':af6):Bool:=names'.all λ y=>!(y.2==.free)||(names.lookup y.1==some .cell||names.lookup y.1==some .free)
def qe(h:freeOk names a=true):∀y∈a,y.2=.free->names.lookup y.1=some .cell\/names.lookup y.1=some .free:=λ y b e=>by have q:=gp.mp h y b;simp only[e,f7,fF,Bool.false_or,i6,pd]at q;exact q
def yC(names:af6):Bool:=match names.filter (λ y=>y.2==.cell)with
 | []=>true
 | [y]=>names.lookup y.1==some .cell
 | _=>false
def Dz(h:names.filter (λ y=>y.2==.cell)=[])(n:Nat)(acc:af9)(b:Heap):cellsFrom n names acc=acc/\pushCells b names=b:=by
 induction names with
 | nil=>exact%[rfl|rfl]
 | cons y r e=>obtain⟨x,k⟩:=y;rw[List.filter_cons]at h;by_cases a:(k==NameKind.cell)=true;{rw[ca a]at h;cases h};{rw[bP a]at h;obtain⟨c,d⟩:=e h;unfold cellsFrom pushCells;rw[bP a,bP a];exact%[c|d]}
def Ak(h:names.filter (λ y=>y.2==.cell)=[t])(n:Nat)(acc:af9)(b:Heap):cellsFrom n names acc=(t.1,n)::acc/\pushCells b names=b.push {cls:=.type "cell",data:=.cell none}:=by
 induction names with
 | nil=>cases h
 | cons y r f=>obtain⟨x,k⟩:=y;rw[List.filter_cons]at h;by_cases a:(k==NameKind.cell)=true;{rw[ca a]at h;have e:=gv h;obtain⟨c,d⟩:=Dz e.2 (n+1) ((x,n)::acc) (b.push {cls:=.type "cell",data:=.cell none});unfold cellsFrom pushCells;rw[ca a,ca a,c,d,<-e.1];exact%[rfl|rfl]};{rw[bP a]at h;obtain⟨c,d⟩:=f h;unfold cellsFrom pushCells;rw[bP a,bP a];exact%[c|d]}
def Xl
 (h:Q (newEnv scope s.heap.objs.size b (cellsFrom %[|27] scope.names a) c none .none (some outer) builtinsNs) {s with heap:=pushCells (s.heap.push {cls:=.type "dict",data:=.dict #[]}) scope.names}):
 wpAny M A (newFunctionEnv scope b a [] c none .none (some outer)) Q E s:=by simp only[newFunctionEnv,oB,gX];refine b0 (wpAny_alloc ?_);refine b0 (wpAny_layCells _ (λ g d e=>by cases f:d==NameKind.cell<;>simp[f]) _ _ _ _ ?_);rw[show({s with heap:=s.heap.push {cls:=.type "dict",data:=.dict #[]}}:Shared).heap.objs.size=%[|27] from fx ..];rw[l8];exact b0 (b9 (b9 h))
structure CelsB(X:Cx)(sc:Scope)(cl:af9)(z:Nat)(h1:Heap):Prop where
 lk:∀x c,cl.lookup x=some c->%[|34]\/(c=z/\sc.names.lookup x=some .cell/\h1.IsCell c none/\∀y,cl.lookup y=some c->y=x)
 has:∀x,sc.names.lookup x=some .cell\/sc.names.lookup x=some .free->∃c,cl.lookup x=some c
 cp:∀x c,sc.names.lookup x=some .free->%[|34]->cl.lookup x=some c
 ow:∀x c,sc.names.lookup x=some .cell->cl.lookup x=some c->z<=c
section
variable{X:Cx}
def Zg{pins:Pins}{σ:St}(I:%[|3])(A:∀b∈J,iz X pins H b)(R:∀b∈J,∃o,%[|37])
 (D:n.kind=.function)(f:CelsB X n cl (s.heap.objs.size+2) h1)(P:∀y∈n.names,y.2=.free->X.env.kindOf y.1=some .cell\/X.env.kindOf y.1=some .free)(B:b8 X.N X.env.scope.names F n.names C F=true)
 (k:∀b u,s.heap.get? b=some u->h1.get? b=some u)(hD:h1.get? s.heap.objs.size=some {cls:=%[|16],data:=.seq #[] 0})(hC:∃m,h1.Ns %[|27] m):
 Inv (iQ X n F %[|27] s H J cl) [] (capt C σ) (upd H s.heap.objs.size (.lst [])) {s with heap:=h1,toks:=t}:=by
 have L:H s.heap.objs.size=none:=I.hok.fresh (y9 _);have M:H %[|27]=none:=I.hok.fresh (hZ _);have N:H (s.heap.objs.size+2)=none:=I.hok.fresh %[|0];have V:∀b∈J,b<s.heap.objs.size:=λ b g=>let ⟨o,e⟩:=R b g;c8 e;have K:∀{x c},%[|34]->c<s.heap.objs.size:=λ{x c} h=>by obtain⟨v,q⟩:=I.cell x c h;exact q.lt
 refine%[%[I.ok.mod,D,I.ok.glob,I.ok.blt,hZ _,λ x y c a b=>?_,λ x hx=>?_,λ x c z e=>?_,I.ok.hd,I.ok.frames,.inl rfl,λ b g=>%[cm (gz (V b g))|λ x c h=>?_],
  I.bs,cK I.ok.bsz I.sz,λ b o e g=>?_,λ b g z=>?_,I.stack|I.stkFree],rfl,I.bare,Un.laid k (y9 _) L,?_,λ x c h=>?_,?_,λ x c h=>?_,λ p hp=>absurd (show p∈([]:Pins)from hp) (by simp),I.hok.laid k (y9 _) %[dr _,[],0,.nil|hD]|?_];{rcases f.lk x c a with q | ⟨_,_,_,q⟩;{rcases f.lk y c b with E | ⟨_,_,_,E⟩;{exact I.ok.inj x y c q E};{exact E x a}};{exact(q y b).symm}}
 . have S:(relabel n X.env).names.lookup x=some .cell\/(relabel n X.env).names.lookup x=some .free:=hx;have z:n.names.lookup x=some .cell\/n.names.lookup x=some .free:=by rcases S with q | q;{obtain⟨k0,e,r⟩:=mD q;rcases r with r | r;{exact .inl (by rw[e,r])};{exact .inr (by rw[e,r.1])}};{obtain⟨k0,e,r⟩:=mD q;rcases r with r | r;{exact .inr (by rw[e,r])};{exact absurd r.2 %[|1]}}
   exact f.has x z
 {have z':n.names.lookup x=some .cell:=ZU z;have:=f.ow x c z' e;show s.heap.objs.size<=c;omega};{rcases f.lk x c h with q | ⟨q,_⟩;{exact(A b g).2.2.2.2.1 x c q};{exact λ e=>hY _ (v3 (V b g) (by rw[<-e,q];exact fI _ _))}};{rcases(A b g).2.2.2.1 with z | z;{exact I.ok.noex b o e z};{exact absurd (v3 (c8 e) (cK I.ok.bsz z)) (hY _)}};{rcases cr.mp (I.stkSub b z)with q | q;{exact(A b g).2.1 q};{exact(A b g).2.2.1 q}}
 . obtain⟨m,hm⟩:=hC;refine%[m,hm|λ i x v W Y e3=>?_];obtain⟨j,hj,hv⟩:=Km Y;obtain⟨y,a,b,c,d⟩:=Vv B hj;have G:F[i]? =some x:=W;rw[a]at G;cases G;obtain⟨m0,aa,hl⟩:=I.loc;have T:Vis X.env.scope x:=by rcases c with c | c;{exact .inr (.inl c)};{exact .inr (.inr c)}
   obtain⟨u,r,l⟩:=hl j x v b hv T;refine%[u,r|?_];rcases l with⟨q,_⟩ | ⟨q,U,hc,w⟩;{exfalso;have E:%[|52]:=q;rcases c with c | c<;>· rw[c]at E;cases E};{have Z:=f.cp x U d hc;obtain⟨o,Q,O⟩:=w;refine .inr %[?_,U,Z|%[o,k _ _ Q|O]];exact Gg d}
 {rcases f.lk x c h with q | ⟨_,_,q,_⟩;{obtain⟨v,o,Q,O⟩:=I.cell x c q;exact%[v,o,k _ _ Q|O]};{exact%[_|q]}};{show upd H s.heap.objs.size (.lst []) %[|27]=none;rw[az (Nat.succ_ne_self _)];exact M};{rcases f.lk x c h with q | ⟨q,_⟩;{rw[az (cm (K q))];exact I.freeC x c q};{subst q;rw[az (g7 (Nat.lt_add_of_pos_right %[|1]))];exact N}};{show(capt C σ).length=F.length;rw[<-Q5 B];simp[capt]}
def yw{Q:a->Shared->Prop}(b:E=λ _ _=>False)(h:wpAny M A t Q E s):wpAny M A t Q E' s:=gl h (λ _ _ q=>q) λ _ _ z=>by rw[b]at z;exact z.elim
def TsA(X:Cx)(Γ:Gam)(S:Store):List Expr->(Bool->%[|4])->Prop
 | [],W=>W true S
 | [c],W=>Ts X Γ S c W
 | _,_=>False
def YW(h:TsA X b S a W){pins:Pins}{σ:St}(I:%[|3])(env:EnvOk X.K O H σ b)(st:%[|13]):
 wpAny %[|5] X.A (forIn a true λ c r=>if r=true then do let ok <-isTrue c X.env (eval c X.env);pure (ForInStep.yield ok)else pure (ForInStep.yield r)) (TP X pins σ (QT X.K O H W)) X.xe s:=by
 match a,h with
 | [],h=>exact wpAny_tests_nil %[H,I,O,S,h,Step.refl O H|st]
 | [c],h=>exact wpAny_tests_one (h pins s σ H O I env st)
 | _::_::_,h=>exact h.elim
def rQ(K:ae1)(J:It)(O:Own)(H:Hp)(C:%[|4])(ds:List D):Prop:=
 ∀(c:Own)(b:Hp)(e:Store),Conv O c H b->StOk K c b e->C e->∀i:Nat,(∀d,%[|28]->J.go i b/\∀x a,J.yld i b x a->fW b a/\Rep K c a x d)/\(i=ds.length->J.stop i b)
inductive QIc(K:ae1)(O:Own)(H:Hp)(W:List D->%[|4]->%[|4])(J:It)(H':Hp):Prop
 | mk(O':Own)(ds:List D)(C:%[|4])(S':Store)(w:W ds C S')(q:And3 (Step O O' H H') (StOk K O' H' S') (rQ K J O' H' C ds)):QIc K O H W J H'
def ItC(X:Cx)(Γ:Gam)(S:Store)(tg iter:Expr)(W:List D->%[|4]->%[|4]):Prop:=
 ∀ (a:Pins)(s:ae4)(b:St)(H:Hp)(O:Own),Inv X a b H s->EnvOk X.K O H b Γ->%[|13]->
   wpAny %[|5] X.A (eval iter X.env) (λ v c=>wpAny %[|5] X.A (pyIter v) (PIE X a b tg (QIc X.K O H W)) X.xe c) X.xe s
def uV(y:jY K J O H ds):rQ K J O H (λ _=>True) ds:=λ c b g f e _ i=>y c b f (λ a d=>e.tracked d) i
def adV(h:ItW X e S d iter λ ds S1=>W ds (λ _=>True) S1):ItC X e S d iter W:=λ a s y H O I b r=>
 thn (h a s y H O I b r) λ _ _ q=>thn q λ _ _ c=>by obtain⟨p,o,t,J,f,j,k,l,m,n,g,ds,i,w,u,v,x⟩:=c;exact%[p,o,t,J,f,j,k,l,m,n,g,ds,_,i,w,u,v|uV x]
abbrev CT(X:Cx)(sc:Scope)(N':ae7)(cap:ae9)(Γ:Gam)(elt tg:Expr)(ifs:af1)(W:WD):List D->%[|4]->%[|4]:=λ g l m=>
 g.length<=1000000/\∃e:Nat->List D->%[|4],e 0 [] m/\(∀i a b,e i a b->l b)/\
  (∀i d a b,g[i]? =some d->e i a b->∀(C:Addr)(s:ae4)(H:Hp)(h:ag3)(f:af9),BdW (iQ X sc N' C s H h f) tg d (capt cap Γ) b λ c n=>Sub (capt cap Γ) c/\
   TsA (iQ X sc N' C s H h f) c n ifs λ k j=>(k=true->Ev (iQ X sc N' C s H h f) c j elt λ y o=>e (i+1) (a++[y]) o)/\(k=false->e (i+1) a j))/\
  ∀a b,e g.length a b->W (.lst a) b\/W (.loc b.length) (b++[a])
def Ag{pins:Pins}{σ:St}
 {RR:Value->Addr->Result->Shared->Prop}
 (hx:X.xe=λ _ _=>False)(hc:X.calm=true)(ay:f.kind=.function)(F:yC f.names=true)(ae:∀y∈f.names,y.2=.free->X.env.kindOf y.1=some .cell\/X.env.kindOf y.1=some .free)
 (aP:b8 X.N X.env.scope.names N' f.names N N'=true)(h:ItC X Γ S tg iter (CT X f N' N Γ al tg aq W))(I:%[|3])(env:EnvOk X.K O H σ Γ)(st:%[|13])
 (fin:∀(s':ae4)(g:Hp)(D0 C:Addr)(m:ae8),Inv X pins σ g s'->s'.heap.Ns C m->iz X pins g C->D0≠C->QG X.K O H W (.ref D0) g->RR (.ref D0) C (.ok .next) s'):
 wpAny %[|5] X.A (eval iter X.env) (λ x s₁=>wpAny %[|5] X.A (pyIter x) (λ it s₂=>wpAny %[|5] X.A (newList []) (λ acc s₃=>
  wpAny %[|5] X.A (newFunctionEnv f X.env.globals (closes X.env f.names []) [] X.env.qual none .none (some X.env)) (λ cenv s₄=>
   codeAny %[|5] X.A (.compStart (.ListComp al [%[tg,iter,aq|0]] f ab) 0 it acc {cenv with scope:=relabel f X.env}) (RR acc cenv.locals) s₄) E s₃) E s₂) E s₁) E s:=by
 refine thn (yw hx (h pins s σ H O I env st)) λ xv s1 h1=>thn (yw hx h1) λ bk s2 h2=>?_;obtain⟨it,fp,tn,J,H2,e,I2,T,aG,f2,l,ds,C0,S2,⟨hz,Pv,p0,pC,pt,pe⟩,aI,aE,yl⟩:=h2;subst e;refine dQ (Xl ?_);dsimp only;have L:H2 s2.heap.objs.size=none:=I2.hok.fresh (y9 _);have aB:(s2.heap.push {cls:=%[|16],dict:=none,data:=.seq ([]:List Value).toArray}).objs.size=s2.heap.objs.size+1:=fx ..;rw[aB];have aX:=Heap.Ns.new (s2.heap.push {cls:=%[|16],dict:=none,data:=.seq ([]:List Value).toArray}) (.type "dict");rw[aB]at aX;obtain⟨cl,P⟩:∃cl,cellsFrom (s2.heap.objs.size+1+1) f.names (closes X.env f.names [])=cl:=%[_|rfl];obtain⟨h₁,an⟩:∃h₁,pushCells ((s2.heap.push {cls:=%[|16],dict:=none,data:=.seq ([]:List Value).toArray}).push {cls:=.type "dict",data:=.dict #[]}) f.names=h₁:=%[_|rfl];have ao:h₁.Ns (s2.heap.objs.size+1) (λ _=>none):=by rw[<-an];exact aX.keeps (pushCells_keeps _ _)
 have aW:∀b u,(s2.heap.push {cls:=%[|16],dict:=none,data:=.seq ([]:List Value).toArray}).get? b=some u->h₁.get? b=some u:=λ b u e=>by rw[<-an];exact pushCells_keeps _ _ b u (bE _ e)
 have kp:∀b u,s2.heap.get? b=some u->h₁.get? b=some u:=λ b u e=>aW b u (bE _ e);have ba:h₁.get? s2.heap.objs.size=some {cls:=%[|16],data:=.seq #[] 0}:=aW _ _ (c9 _ rfl);have hf:∀y∈f.names,y.2=.free->∃c,X.env.cells.lookup y.1=some c:=λ y hy e=>I.ok.has y.1 (ae y hy e);have bb :CelsB X f cl (s2.heap.objs.size+2) h₁:=by
  have U:∀{x c},(closes X.env f.names []).lookup x=some c->%[|34]:=λ{x c} h=>Jj f.names [] hf (λ c h=>by simp at h) h;have aJ:∀x c,f.names.lookup x=some .free->%[|34]->(closes X.env f.names []).lookup x=some c:=λ x c d hc=>by obtain⟨c2,h2⟩:=nW (env:=X.env) f.names [] (.inr d);have e:=U h2;rw[hc]at e;cases e;exact h2
  unfold yC at F;split at F
  . rename_i aa;have e1:=(Dz aa (s2.heap.objs.size+1+1) (closes X.env f.names []) s2.heap).1;rw[P]at e1;have no:∀x,f.names.lookup x≠some .cell:=λ x z=>by have:(x,NameKind.cell)∈f.names.filter (λ y=>y.2==.cell):=nI.mpr %[ia z|rfl];rw[aa]at this;cases this
    rw[e1];exact%[λ x c h=>.inl (U h),λ x hx=>hx.elim (λ z=>absurd z (no x)) λ z=>nW f.names [] (.inr z),aJ|λ x c z=>absurd z (no x)]
  . rename_i y aa;have hy:f.names.lookup y.1=some .cell:=ZU F;obtain⟨e1,_⟩:=Ak aa (s2.heap.objs.size+1+1) (closes X.env f.names []) s2.heap;rw[P]at e1;have e2:=(Ak aa 0 [] ((s2.heap.push {cls:=%[|16],dict:=none,data:=.seq ([]:List Value).toArray}).push {cls:=.type "dict",data:=.dict #[]})).2;rw[an]at e2;have e3:((s2.heap.push {cls:=%[|16],dict:=none,data:=.seq ([]:List Value).toArray}).push {cls:=.type "dict",data:=.dict #[]}).objs.size=s2.heap.objs.size+2:=by rw[fx,aB]
    have a3:h₁.IsCell (s2.heap.objs.size+2) none:=by rw[e2,<-e3];exact%[_,c9 _ rfl|rfl]
    have only:∀x,f.names.lookup x=some .cell->x=y.1:=λ x z=>by have:(x,NameKind.cell)∈f.names.filter (λ y=>y.2==.cell):=nI.mpr %[ia z|rfl];rw[aa]at this;have:=bX.mp this;rw[<-this]
    have bg:∀{x c},(closes X.env f.names []).lookup x=some c->c<s2.heap.objs.size:=λ{x c} h=>by obtain⟨v,q⟩:=I2.cell x c (U h);exact q.lt
    have af:∀x,cl.lookup x=if x=y.1 then some (s2.heap.objs.size+1+1)else(closes X.env f.names []).lookup x:=λ x=>by rw[e1,jv];by_cases z:x=y.1;{subst z;simp};{rw[bP z,ma.mpr z]}
    refine%[λ x c h=>?_,λ x hx=>?_,λ x c d hc=>?_|λ x c z h=>?_];{rw [af]at h;by_cases z:x=y.1;{rw[ca z]at h;cases h;refine .inr %[rfl,by rw[z];exact hy,a3|λ u hu=>?_];rw[af]at hu;by_cases z2:u=y.1;{rw[z2,z]};{rw[bP z2]at hu;exact(hY _ (kK (fI _ 2) (bg hu))).elim}};{rw[bP z]at h;exact .inl (U h)}};{rw[af];by_cases z:x=y.1;{exact%[_|ca z]};{rw[bP z];exact hx.elim (λ q=>absurd (only x q) z) λ q=>nW f.names [] (.inr q)}};{rw[af,bP (λ z=>by rw[z,hy]at d;cases d)];exact aJ x c d hc};{rw[af,ca (only x z)]at h;cases h;exact y9 _}
  {cases F}
 rw[P,an];have aS:∀b∈fp,∃o,s2.heap.get? b=some o:=λ b k=>let ⟨o,e,_⟩:=T.obj _ _ aG b k;%[o|e];have I4:=Zg (t:=s2.toks) (h1:=h₁) I2 f2 aS ay bb ae aP kp ba %[_|ao];generalize hX':iQ X f N' (s2.heap.objs.size+1) s2 H2 fp cl=X' at I4;have aZ:=λ i d acc S' a b=>pt i d acc S' a b (s2.heap.objs.size+1) s2 H2 fp cl;rw[hX']at aZ;have eP:X'.prog=X.prog:=by rw[<-hX'];rfl
 have ew:X'.w=X.w:=by rw[<-hX'];rfl
 have eK:X'.K=X.K:=by rw[<-hX'];rfl
 have eA:X'.A=X.A:=by rw[<-hX'];rfl
 have ec:X'.calm=true:=by rw[<-hX'];exact hc
 have am:X'.xe=λ _ _=>False:=by rw[<-hX'];exact hx
 have ac:X'.env=compEnvC f cl (s2.heap.objs.size+1) X.env:=by rw[<-hX'];rfl
 have ad:X'.ex=fp:=by rw[<-hX'];rfl
 have aM:X'.outer=X.stack:=by rw[<-hX'];rfl
 have aN:X'.s₀=s2:=by rw[<-hX'];rfl
 have a5:X'.H₀=H2:=by rw[<-hX'];rfl
 have a6:X'.pn=[]:=by rw[<-hX'];rfl
 have aj:∀{H':Hp},(∀b∈fp,H' b=none)->∀b∈fp,iz X' [] H' b:=λ hn b k=>by refine%[hn b k,(I4.ok.exf b (by rw[ad];exact k)).1,I4.ok.exfs b (by rw[ad];exact k),.inl (by rw[ad];exact k),(I4.ok.exf b (by rw[ad];exact k)).2|λ p hp=>?_];rw[a6]at hp;exact absurd hp (by simp)
 have au:∀s₃:Shared,s₃={s2 with heap:=h₁}->
  codeAny %[|5] X.A (.compLoop (.ListComp al [%[tg,iter,aq|0]] f ab) 0 (.ref it) (.ref s2.heap.objs.size) (compEnvC f cl (s2.heap.objs.size+1) X.env))
   (RR (.ref s2.heap.objs.size) (s2.heap.objs.size+1)) s₃:=by
  intro s₃ es;rw[<-ac];refine codeAny_loop rfl (λ n s'=>∃i acc Y g A Z G,n=ds.length-i/\i<=ds.length/\Inv X' [] G g s'/\tn i s'.heap/\(∀b∈fp,g b=none)/\Pv i acc Z/\g s2.heap.objs.size=some (.lst Y)/\Y.length<=i/\
   Reps X.K %[A|%[|40]] g Y acc/\Step l %[A|l.B] H2 g/\StOk X.K %[A|%[|40]] g Z/\EnvOk X.K %[A|%[|40]] g G (capt N Γ)) ?_ ds.length ?_
  . rintro n s' ⟨i,acc,Y,g,A,Z,G,rfl,hi,Ic,a0,aO,pc,aC,aU,rc,ag,Q,aL⟩;show wpAny _ _ ((compTurn (.ListComp al [%[tg,iter,aq|0]] f ab) 0 (.ref it) (.ref s2.heap.objs.size) X'.env).onRaise (λ x=>do noteFrame x X'.env;theTreesLotGoes x)) _ _ s';refine wpAny_noted ?_;rw[compTurn_list];refine b0 (lP (b0 ?_));have cv:Conv l %[A|%[|40]] H2 g:=by refine%[λ a u n t=>?_|ag.conv.lc];obtain⟨x1,x2⟩:=ag.conv.tr a u n t;refine%[λ z=>?_|x2];rcases z with z | z;{exact x1 (.inl z)};{rcases cr.mp z with z | z;{subst z;rw[L]at t;cases t};{exact x1 (.inr z)}}
    obtain⟨y1,y2⟩:=yl _ _ _ cv Q (pC _ _ _ pc) i;by_cases aA:i<ds.length
    . obtain⟨go,yy⟩:=y1 ds[i] (y3 aA);have aV:=T.item X' eP ew eK ec i [] s' G g (λ _ _=>False) Ic (aj aO) a0 go;rw[eA]at aV;refine gl aV (λ r s3 j=>?_) λ _ _ z=>z.elim;obtain⟨u,hr,h3⟩:=j;subst hr;refine b0 (gl h3 (λ _ s5 j=>?_) λ _ _ z=>z.elim);obtain⟨x,H5,I5,r5,y5,aH,a8⟩:=j;obtain⟨sm,rx⟩:=yy x H5 y5;have a2:=I5.pinned (aj a8) (T.obj _ _ aH);have aw:=Step.same (O:=%[A|%[|40]]) sm;have bd:=aZ i ds[i] acc Z (y3 aA) pc _ s5 G H5 %[A|%[|40]] x u a2 (by rw[eK];exact aL.mono aw) (by rw[eK];exact Q.same sm) (by rw[eK];exact rx) r5;rw[eP,ew,eA]at bd;refine b0 (gl (yw (E':=λ _ _=>False) am bd) (λ _ s6 j=>?_) λ _ _ z=>z.elim);obtain⟨ak,H6,I6,O6,bl,S6,⟨ax,w6⟩,bi,aY,K⟩:=j;have a1:=YW w6 I6 K aY;rw[eP,ew,eA]at a1;refine b0 (gl (yw (E':=λ _ _=>False) am a1) (λ ok s7 j=>?_) λ _ _ z=>z.elim);obtain⟨H7,I7,O7,S7,w7,as,aF⟩:=j;have M:Step %[A|%[|40]] O7 g H7:=aw.trans (bi.trans as);have bj:O7.B=%[|40]:=M.hid;have next:∀(s9:ae4)(H8:Hp)(O8:Own)(S8:Store)(ys:List V)(R:List D),Step %[A|%[|40]] O8 g H8->
       StOk X.K O8 H8 S8->EnvOk X.K O8 H8 ak (capt N Γ)->Pv (i+1) R S8->Inv X' ([]++qL fp s5.heap) ak (upd H8 s2.heap.objs.size (.lst ys)) s9->Reps X.K O8 H8 ys R->ys.length<=i+1->
       ∃ m,m<ds.length-i/\∃i acc Y g A Z G,m=ds.length-i/\i<=ds.length/\Inv X' [] G g s9/\tn i s9.heap/\(∀b∈fp,g b=none)/\Pv i acc Z/\g s2.heap.objs.size=some (.lst Y)/\Y.length<=i/\
         Reps X.K %[A|%[|40]] g Y acc/\Step l %[A|l.B] H2 g/\StOk X.K %[A|%[|40]] g Z/\EnvOk X.K %[A|%[|40]] g G (capt N Γ):=by
       intro s9 H8 O8 S8 ys R ai ar aK p8 I8 r8 bc;have eB:O8.B=%[|40]:=ai.hid;obtain⟨A8,B8⟩:=O8;have a4:B8=%[|40]:=eB;subst a4;have aD:s2.heap.objs.size∈(%[A8|%[|40]]:Own).B:=x6;refine%[ds.length-(i+1),%[|0],i+1,R,ys,_,A8,S8,ak,rfl,aA,I8.unpinned,T.keep _ _ _ aH λ b k o e=>(I8.pin (b,o) (eD _ (eD _ (ju k e)))).1,λ b k=>?_,p8,aQ,bc,
        r8.conv (Conv.updHid aD _),ag.inner ai L _,ar.updHid aD _|aK.conv (Conv.updHid aD _)];obtain⟨o,e,d⟩:=T.obj _ _ aH b k;exact(I8.pin (b,o) (eD _ (eD _ (ju k e)))).2.1
      rw[eK]at aF K aY;have aR:∀{O':Own}{H':Hp}{S':Store},Step %[A|%[|40]] O' g H'->H' s2.heap.objs.size=some (.lst Y):=λ bh=>
       bh.kept _ _ (λ z=>Q.apart _ z x6) aC
      cases ok with
      | false=>
        refine b9 %[rfl|?_];have be:=aR (S':=S7) M;have a7:upd H7 s2.heap.objs.size (.lst Y)=H7:=by funext b;by_cases k:b=s2.heap.objs.size;{subst k;rw[aQ];exact be.symm};{exact az k}
        exact next s7 H7 O7 S7 Y acc M aF ((K.mono as).sub ax) (w7.2 rfl) (by rw[a7];exact I7) (rc.mono M) (Nat.le_succ_of_le aU)
      | true=>
        have el:=w7.1 rfl _ s7 ak H7 O7 I7 (by rw[eK];exact K.mono as) (by rw[eK];exact aF);rw[eP,ew,eA]at el;refine b0 (b0 (gl (yw (E':=λ _ _=>False) am el) (λ xe s8 j=>?_) λ _ _ z=>z.elim));obtain⟨v8,H8,I8,r8,O8,y,S8,w8,ai,ar,av⟩:=j;rw[eK]at ar av;have ah:=M.trans ai;have bf:=aR (S':=S8) ah;have ap:=zQ (X:=X') _ s8 ak H8 (.ref s2.heap.objs.size) [v8] (.ref s2.heap.objs.size) [xe] (λ v H'=>H'=upd H8 s2.heap.objs.size (.lst (Y++[v8]))) I8 rfl (.cons r8 .nil)
         %[s2.heap.objs.size,Y,v8,rfl,rfl,bf,kK (cK aU (cK hi hz)) %[|1]|rfl];rw[eP,ew,eA]at ap;refine b0 (gl (yw (E':=λ _ _=>False) am ap) (λ _ s9 j=>b9 (b9 %[rfl|?_])) λ _ _ z=>z.elim);obtain⟨_,H9,I9,_,e9⟩:=j;subst e9;exact next s9 H8 O8 S8 (Y++[v8]) (acc++[y]) ah ar (((K.mono as).mono ai).sub ax) w8 I9 ((rc.mono ah).append (.cons av .nil)) (by rw[x8,hE];omega)
    . have e:i=ds.length:=%[|0]
      subst e;have dn:=T.done X' eP ew eK ec ds.length [] s' G g (λ _ _=>False) Ic (aj aO) a0 (y2 rfl);rw[eA]at dn;refine gl dn (λ r s3 j=>?_) λ _ _ z=>z.elim;obtain⟨hr,I3⟩:=j;subst hr;refine b9 ?_;obtain⟨m,hm,_⟩:=I3.loc;have un:Un (frs X.stack) fp H2 g s2.heap s3.heap:=by have:=I3.base;rw[ad,a5,aN]at this;show Un (frs X.stack) fp H2 g s2.heap s3.heap;rw[<-aM];exact this
      have os:s3.os=s2.os:=by have:=I3.os;rw[aN]at this;exact this
      have aT:HOk X.prog X.w g s3.heap:=by have:=I3.hok;rw[eP,ew]at this;exact this
      have IX:Inv X pins σ g s3:=I2.call' os un aT I3.bare (λ b k=>%[(f2 b k).2.2.2.1,(f2 b k).2.1,(f2 b k).2.2.2.2.1|(f2 b k).2.2.2.2.2]);have a9:g (s2.heap.objs.size+1)=none:=by have:=I3.free;rw[ac]at this;exact this
      refine fin s3 g _ _ m IX (by rw[ac]at hm;exact hm) (I2.fpOk (hZ _) a9) (cm (jI _)) ?_;rcases pe acc Z pc with w | w;{refine%[%[A|l.B],.lst acc,Z,w,aI.trans ag,Q.unhide|.lst (.inl %[λ z=>?_|.inl aC]) (rc.conv Conv.unhide)];rcases z with z | z;{exact Q.apart _ z x6};{exact aE.hidden _ z L}};{refine%[%[A++[(s2.heap.objs.size,false)]|l.B],.loc Z.length,Z++[acc],w,aI.trans (ag.adopt L),Q.adopt (λ z=>aE.hidden _ z L) aC rc|.loc ?_];have el:A.length=Z.length:=Q.len;show(A++[(s2.heap.objs.size,false)])[Z.length]? =some _;rw[<-el];simp}
  {refine%[0,[],[],upd H2 s2.heap.objs.size (.lst []),l.A,S2,capt N σ,rfl,dr _,by rw[es];exact I4,by rw[es];exact T.keep 0 s2.heap h₁ aG λ b k o e=>kp b o e,λ b k=>?_,p0,aQ,y9 0,.nil,Step.fresh L _,aE.hide L _|((env.mono aI).capt N).conv (Conv.hide L _)];obtain⟨o,e⟩:=aS b k;rw[az (cm (c8 e))];exact(f2 b k).1}
 exact codeAny_compStart_list (au _ rfl) (T.self _ 0 _ _ _ (T.keep 0 s2.heap h₁ aG λ b k o e=>kp b o e) (au _ rfl))
variable{Γ:Gam}{S:Store}{elt tg iter:Expr}{ifs:List Expr}{sc:Scope}{pos:Pos}{N':List Str}{cap:List (Option Nat)}
def W2(n:ae7)(j:ae9)(h:ItC X Γ S tg iter (CT X sc n j Γ elt tg ifs W))(L:X.xe=λ _ _=>False:=by rfl)(G:X.calm=true:=by rfl)(d:sc.kind=.function:=by rfl)
 (i:yC sc.names=true:=by rfl)(hfr:freeOk X.env.scope.names sc.names=true:=by rfl)
 (f:∀y∈sc.names,y.2=.local->sc.names.lookup y.1=some .local:=by decide+kernel)(k:b8 X.N X.env.scope.names n sc.names j n=true:=by rfl)(hs:∀x,foldedSetIterable iter X.env x=pure x:=by intro _;rfl):
 Ev X Γ S (.ListComp elt [%[tg,iter,ifs|0]] sc pos) W:=by intro l s P H O I r N;have a:∀y∈sc.names,y.2=.free->X.env.kindOf y.1=some .cell\/X.env.kindOf y.1=some .free:=qe hfr;have J:∀y∈sc.names,y.2=.free->∃c,X.env.cells.lookup y.1=some c:=λ y M e=>I.ok.has y.1 (a y M e);rw[eval_ListComp];refine wpAny_comprehension_free (use:=none) (g:=%[tg,iter,ifs|0]) (gs:=[]) rfl hs (oK J) d f ?_;refine Ag (RR:=λ p C=>compPost %[|5] X.A X.xe none (EP X l P (QG X.K O H W)) p C) L G d i a k h I r N ?_;intro s' u t C m v K E T q;refine%[m,K|λ R sb=>%[.ref t,u,?_,rfl|q]];obtain⟨w,z,Q,A,B,D⟩:=E;exact v.turned (t':=s'.toks) (λ b o F e=>(sb.2 b F).trans e) w z A B D
def Rx(i:Nat){f p}{W}(E:ae7)(t:ae9)(h:ItC X Γ S tg iter (CT X sc E t Γ elt tg ifs λ d S1=>W.nx (Γ.set i (some d)) S1))(hN:X.N.Nodup)(hi:X.N[i]? =some x:=by rfl)
 (hl:Loc X.env.scope x:=by first | exact Or.inl rfl | exact Or.inr rfl)(K:swapsWith (.ListComp elt [%[tg,iter,ifs|0]] sc pos) (some (.Name x f)) p.line X.env=pure true:=by rfl)
 (G:X.fn x=true\/%[|52]:=by first | exact .inl rfl | exact .inr rfl)(hx:X.xe=λ _ _=>False:=by rfl)(hc:X.calm=true:=by rfl)(k:sc.kind=.function:=by rfl)
 (r:yC sc.names=true:=by rfl)(hfr:freeOk X.env.scope.names sc.names=true:=by rfl)
 (l:∀y∈sc.names,y.2=.local->sc.names.lookup y.1=some .local:=by decide+kernel)(v:b8 X.N X.env.scope.names E sc.names t E=true:=by rfl)(hs:∀x,foldedSetIterable iter X.env x=pure x:=by intro _;rfl):
 Rn X Γ S (.Assign [.Name x f] (.ListComp elt [%[tg,iter,ifs|0]] sc pos) p) W:=by
 intro n s σ H O I u st;have j:∀y∈sc.names,y.2=.free->X.env.kindOf y.1=some .cell\/X.env.kindOf y.1=some .free:=qe hfr;have hf:∀y∈sc.names,y.2=.free->∃c,X.env.cells.lookup y.1=some c:=λ y hy e=>I.ok.has y.1 (j y hy e);rw[exec_Assign_Name_used _ _ _ _ K];refine b0 (lP (b0 ?_));show wpAny _ X.A (do let _ <-comprehension (.ListComp elt [%[tg,iter,ifs|0]] sc pos) sc X.env _ (newList []) false (eval iter X.env) (some (assign (.Name x f) X.env))) _ _ s;refine b0 (gl (wpAny_comprehension_free (use:=some (assign (.Name x f) X.env)) (g:=%[tg,iter,ifs|0]) (gs:=[]) (Q:=λ _ A=>SP X n (ends X.K O H W) .next A) rfl hs (oK hf) k l ?_) (λ _ A hq=>b9 (b9 hq)) λ _ _ e=>e);refine Ag (RR:=λ F C=>compPost %[|5] X.A X.xe (some (assign (.Name x f) X.env)) (λ _ A=>SP X n (ends X.K O H W) .next A) F C) hx hc k r j v h I u st ?_;intro A T D C m U hm fp ne q;show wpAny _ X.A (assign (.Name x f) X.env (.ref D)) _ _ _;refine wpAny_assign_Name (z8 U hN hi hl (show RelV (.ref D) (.ref D)from rfl) (λ s2 V J=>?_) G);obtain⟨a,sa,ha⟩:=J;obtain⟨f0,P,f2,f3,R,f5⟩:=fp;have L:C≠a:=by rcases ha with z | z;{rw[z];exact P};{exact(R x a z).symm}
 refine%[m,hm.sameBut sa L|λ h' sb=>?_];obtain⟨Y,d,Z,w,B,M,N⟩:=q;exact%[_,T,V.turned (t':=s2.toks) (λ b o hb e=>(sb.2 b hb).trans e) f0 P f3 R f5,Y,_,Z,w,B,M|(u.mono B).set N i]
end
end DL
namespace DL
open PySem PySem.Spec L2
open PyProof.Rows
def tyD:D->String
 | .non=>"NoneType" | .bl _=>"bool" | .int _=>"int" | .str _=>"str" | .tup _=>"tuple" | .lst _=>"list" | .loc _=>"list" | .dic=>"dict" | .dlo _=>"dict"
def isi(t c:String):Bool:=t==c||(t=="bool"&&c=="int")
def isT(c:String):Bool:=c=="int"||c=="bool"||c=="tuple"||c=="list"||c=="str"
def kit_at(K:ae1)(d:D)(a:isT c=true):PySem.W.kitOne K (.type (tyD d)) (.type c)=some (isi (tyD d) c):=by simp only[isT,i6,pd]at a;rcases a with(((h | h) | h) | h) | h<;>subst h<;>cases d<;>kernel_rfl
section
variable{X:Cx}{Γ:Gam}{S:Store}{W:WD}{a b e:Expr}{es:List Expr}{pos:Pos}
def Zv{pins:Pins}{σ:St}(I:%[|3])(st:%[|13])(r:Rep X.K O H v d)(f:RelV v u)
 (b:∀{x t:Value}{G:Heap->Prop},PySem.W.KitX X.K x t G->t=.type (tyD d)->G s.heap->x≠.builtin "__main__.__loader__#opaque"->wpAny %[|5] A (call (.builtin "isinstance") [x,c]) Q E s):
 wpAny %[|5] A (call (.builtin "isinstance") [u,c]) Q E s:=by
 cases r with
 | non=>cases f;exact b PySem.W.kitx_none rfl True.intro (λ z=>nomatch z)
 | bl y=>cases f;exact b PySem.W.kitx_bool rfl True.intro (λ z=>nomatch z)
 | int y=>obtain⟨t,rfl⟩:=f;exact b PySem.W.kitx_int rfl True.intro (λ z=>nomatch z)
 | str y=>obtain⟨t,rfl⟩:=f;exact b PySem.W.kitx_str rfl True.intro (λ z=>nomatch z)
 | tup q K=>cases f;obtain⟨i,_,⟨o,g,a,_⟩,_⟩:=I.tuple q.sq;exact b PySem.W.kitx_tuple rfl %[o,g|a] (λ z=>nomatch z)
 | lst q K=>cases f;obtain⟨i,_,F,_⟩:=I.list q.sq;obtain⟨o,g,a,_⟩:=F.isList;exact b PySem.W.kitx_list rfl %[o,g|a] (λ z=>nomatch z)
 | @loc p k h=>
   cases f;have B:k<S.length:=by rw[<-st.len];exact(z0.mp h).1
   obtain⟨L,e,_⟩:=st.obj k p S[k] h (y3 B);obtain⟨i,_,F,_⟩:=I.list (SqL.of e);obtain⟨o,g,a,_⟩:=F.isList;exact b PySem.W.kitx_list rfl %[o,g|a] (λ z=>nomatch z)
 | @dic p q g=>cases f;obtain⟨_,_,M,_,o,l,w,a,h4,_⟩:=(show aW X.prog X.w H s.heap p (.dK [])from I.hok p _ g);exact b kQ rfl %[o,a|h4.1] (λ z=>nomatch z)
 | @dlo p k h J=>
   cases f;have B:k<S.length:=by rw[<-st.len];exact(z0.mp h).1
   cases st.dob k p S[k] h (y3 B)with
   | t C e _=>obtain⟨_,_,L,_,o,l,w,a,h4,_⟩:=(show aW X.prog X.w H s.heap p (.dT C)from I.hok p _ e);exact b kQ rfl %[o,a|h4.1] (λ z=>nomatch z)
   | c j _ e _=>obtain⟨⟨_,_,_,o,l,w,a,h4,_⟩,_,_⟩:=(show aW X.prog X.w H s.heap p (.ext (Va p j))from I.hok p _ e);exact b kQ rfl %[o,a|h4.1] (λ z=>nomatch z)
   | o j _ e _=>obtain⟨⟨_,_,_,o,l,w,a,h4,_⟩,_,_⟩:=(show aW X.prog X.w H s.heap p (.ext (mj p j))from I.hok p _ e);exact b kQ rfl %[o,a|h4.1] (λ z=>nomatch z)
   | m j _ _ e _=>obtain⟨⟨_,_,_,o,l,a,h4,_⟩,_,_⟩:=(show aW X.prog X.w H s.heap p (.ext (cG p j))from I.hok p _ e);exact b kQ rfl %[o,a|h4.1] (λ z=>nomatch z)
   | p _ n=>exact absurd J n
def ZS{p q}(h:Ev X Γ S a λ x S1=>W (.bl (isi (tyD x) Tn)) S1)(C:isT Tn=true)(D:bootBuiltins T=some (.type Tn))(t:X.mg "isinstance"=none)(G:X.mg T=none)(o:Gl X "isinstance":=by rfl)(F:Gl X T:=by rfl)
 (J:T≠"__name__":=by decide)(n:(T==("__debug__":Str))=false:=by decide)(i:starEach [a,.Name T q] X.env=(false,eval a X.env)::starEach [.Name T q] X.env:=by rfl)(j:starEach [.Name T q] X.env=[(false,eval (.Name T q) X.env)]:=by rfl):
 Ev X Γ S (.Call (.Name "isinstance" p) [a,.Name T q] [] pos) W:=by
 intro b s B H O I m N;have E:jy X (.builtin "isinstance") (λ A l Q=>∃v,A=[v,.ty Tn]/\∃f d g,StOk X.K f l g/\Rep X.K f l v d/\Q (.bl (isi (tyD d) Tn)) l):=by intro b s B H A U Q I r h;obtain⟨v,rfl,f,d,g,y,c,q⟩:=h;obtain⟨u,R,rfl,L,M⟩:=vals2 r;cases M;refine Zv I y c L λ Z e p K=>?_;subst e;exact PySem.W.kia_one Z I.kIn p (kit_at X.K d C) K λ P=>%[.bl _,H,I.tok P,rfl|q]
 refine Tf E o t PyProof.Rows.boot_isinstance (rW h.pe (rW (YS F G D (v:=.ty Tn) rfl J n) Ek j) i) %[|1] %[|1] i (by rw[j];rfl) b s B H _ I %[O,m,N|λ v l q=>?_];obtain⟨f,d,g,w,z,k,c⟩:=q;exact%[v,rfl,f,d,g,k,c,f,_,g,w,z,k|.bl _]
def range_all{n:Type}(f:n->Bool)(d:n):∀(a:List n)(k:Nat),((List.range' k a.length).all λ i=>f ((List.replicate k d++a).getD i d))=a.all f:=by
 intro a
 induction a with
 | nil=>intro _;simp
 | cons b a o=>
   intro k;have q:=o (k+1);rw[dS,List.range'_succ,ij,ij];congr 1;{simp[List.getD]}
   . rw[<-q];have e:List.replicate k d++b::a=(List.replicate k d++[b])++a:=by simp
     rw[List.all_eq,List.all_eq];congr 1;apply propext;constructor
     . intro h i c;have:=h i c;rw[List.mem_range']at c;obtain⟨j,p,rfl⟩:=c;simp only[List.getD,List.getElem?_append,nr]at this ⊢;have l:¬(k+1+1*j<k):=%[|0]
       have m:¬(k+1+1*j<k+1):=%[|0]
       rw[bP l]at this;rw[bP m];have g:k+1+1*j-k=(k+1+1*j-(k+1))+1:=%[|0]
       rw[g,List.getElem?_cons_succ]at this;exact this
     . intro h i c;have:=h i c;rw[List.mem_range']at c;obtain⟨j,p,rfl⟩:=c;simp only[List.getD,List.getElem?_append,nr]at this ⊢;have l:¬(k+1+1*j<k):=%[|0]
       have m:¬(k+1+1*j<k+1):=%[|0]
       rw[bP m]at this;rw[bP l];have g:k+1+1*j-k=(k+1+1*j-(k+1))+1:=%[|0]
       rw[g,List.getElem?_cons_succ];exact this
def Ni(a:List Bool):((List.range a.length).all λ i=>a.getD i false)=a.all id:=by have:=range_all id false a 0;simpa[List.range_eq_range']using this
def k_all{c:List Bool}(w:W (.bl (c.all id)) S)(C:X.calm=true:=by rfl):gU X (.builtin "all") [.lst (c.map .bl)] S W:=by
 intro n s σ H O Z Y I N r K;obtain⟨v,rfl,J⟩:=gh r;obtain⟨u,rfl,l⟩:=vals1 K;obtain⟨a,xs,rfl,B,G⟩:=d7 J;cases l;obtain⟨d,p,k,T⟩:=I.list B.sq;have y:=G.bools;subst y;have f:d.length=c.length:=by rw[<-p.length];simp
 refine call_all_walk (kq k.isList ?_);have F:a≠s.heap.objs.size:=by obtain⟨o,e,_⟩:=k.isList;exact cm (c8 e)
 refine%[_,_,_,_,_,_,λ i=>c.getD i false,rfl,Walks.list (A:=X.A.in1) (I.ok.hd C) _ a F d.toArray,%[%[_,c9 _ rfl,rfl|rfl]|k.isList.push _],λ i v M t Q j E=>?_|λ R U D=>?_]
 . have j:d[i]? =some v:=by simpa using j
   have m:i<c.length:=by rw[<-f];exact(z0.mp j).1
   obtain⟨z,h,L⟩:=p.get (i:=i) (x:=V.bl c[i]) (by rw[y8,y3 m];rfl);rw[j]at h;cases h;cases L;have e:c.getD i false=c[i]:=by simp[List.getD,m]
   have g:t (c.getD i false) M:=E;rw[e]at g;exact gy g
 . have e:(List.range d.toArray.size).all (λ i=>c.getD i false)=c.all id:=by rw[x5,f];exact Ni c
   rw[e];refine%[.bl _,H,I.kept (λ b o q=>D b o (λ z=>?_) (bE _ q)),rfl|Hc w N (.bl _)];have P:b=s.heap.objs.size:=by simpa using z
   exact absurd (c8 q) (by rw[P];exact hY _)
def ab1{ns:ae0}(w:W (.int ns.sum) S)(l:X.calm=true:=by rfl):gU X (.builtin "sum") [.lst (ns.map .int)] S W:=by
 intro h s F H O D C I x r q;obtain⟨v,rfl,p⟩:=gh r;obtain⟨u,rfl,c⟩:=vals1 q;obtain⟨a,E,rfl,k,o⟩:=d7 p;cases c;obtain⟨b,t,n,z⟩:=I.list k.sq;have j:=o.ints;subst j;have g:IntsAre b ns:=intsAre_of t;obtain⟨i,d⟩:=g.allInts.items;have f:=n.isList;rw[d]at f;refine sum_intListG (I.ok.hd l) f λ y B A m=>?_;have e:preSum (numAt i) i.size=ns.sum:=by rw[preSum_eq,db (by simp),<-nums_intItems,<-d];exact ei List.sum g.numsOf
 rw[e];exact%[.int _,H,I.kept m,%[_|rfl]|Hc w x (.int _)]
mutual
def deep:D->Nat
 | .tup ds=>aR ds+1
 | .lst ds=>aR ds+1
 | .dic=>1
 | _=>0
def aR:List D->Nat
 | []=>0
 | d::ds=>max (deep d) (aR ds)
end
mutual
def aA:D->Bool
 | .tup ds=>aa ds
 | .lst ds=>aa ds
 | .loc _=>false
 | .dlo _=>false
 | _=>true
def aa:List D->Bool
 | []=>true
 | d::ds=>aA d&&aa ds
end
theorem nF:∀{ds:List D}{i:Nat},%[|28]->deep d<=aR ds
 | [],_,h=>by simp at h
 | c::ds,0,h=>by simp at h;subst h;simp[aR];omega
 | c::ds,i+1,h=>by have:=nF (ds:=ds) (i:=i) (by simpa using h);simp[aR];omega
end
end DL
namespace DL
open PySem PySem.Spec L2
open PyProof.Rows
variable{pins:Pins}{H:Hp}{s:Shared}
set_option genInjectivity false in
structure SqKind(P:af4)(w:World)(K:ae1) where
 Sq:Hp->Addr->List V->Prop
 It:Heap->Addr->Addr->Nat->Prop
 Ob:Heap->Addr->Array Value->Prop
 itObj:∀{h it a i},It h it a i->∃o vs,h.get? it=some o/\o.data=.fields vs
 itAt:∀{h h' it a i},It h it a i->(∀o,h.get? it=some o->h'.get? it=some o)->It h' it a i
 obObj:∀{h a its},Ob h a its->∃o n,h.get? a=some o/\o.data=.seq its n
 draws:∀(A:ag1),A.handled=none->∀(it a:Addr),a≠it->∀items:Array Value,Draws P w A it [it,a] items.size (λ i v=>items[i]? =some v) (λ i h=>It h it a i/\Ob h a items)
 get:∀{X:Cx}{pins:Pins}{σ:St}{H:Hp}{s:ae4}{a:Addr}{xs:List V},X.prog=P->X.w=w->X.K=K->%[|3]->Sq H a xs->∃its:List Value,Vals xs its/\Ob s.heap a its.toArray
 inj:∀{X:Cx}{pins:Pins}{σ:St}{H:Hp}{s:ae4}{a:Addr}{xs ys:List V},X.prog=P->X.w=w->X.K=K->%[|3]->Sq H a xs->Sq H a ys->xs=ys
 far:∀{X:Cx}{pins:Pins}{σ:St}{H:Hp}{s:ae4}{a b:Addr}{xs:List V},X.K=K->%[|3]->Sq H a xs->iz X pins H b->a≠b
section
variable{P:Program}{w:World}{K:PySem.W.Frag}
def SqKind.ne(q:SqKind P w K)(x:q.It h d a i)(y:q.Ob h a its):a≠d:=λ e=>by obtain⟨o,k,f,g⟩:=q.itObj x;obtain⟨j,n,b,c⟩:=q.obObj y;rw[e,f]at b;cases b;rw[g]at c;cases c
def abn{σ:St}(I:%[|3])(h:X.K.lookup a=some o)(f:iz X pins H b):a≠b:=λ z=>by have e:=I.ok.mod.kin a o h;rw[z]at e;rcases f.2.2.2.1 with q | q;{exact I.ok.noex b o e q};{exact absurd (v3 (c8 e) (cK I.ok.bsz q)) (hY _)}
def Wt(P:af4)(w:World)(K:ae1):SqKind P w K where
 Sq:=SqL K
 It:=λ h m a i=>h.IsListIter m a i
 Ob:=λ h a c=>h.IsList a c
 itObj:=λ x=>let ⟨o,e,_,d⟩:=x;%[o,_,e|d]
 itAt:=λ x k=>x.at k
 obObj:=λ x=>let ⟨o,e,_,n,d⟩:=x;%[o,n,e|d]
 draws:=λ A r m a s b=>Draws.list r m a s b
 get:=λ j l g I h=>by subst j l g;obtain⟨c,t,p,_⟩:=I.list h;exact%[c,t|p.isList]
 inj:=λ j l g I h q=>by subst j l g;exact I.list_inj h q
 far:=λ g I h f=>by subst g;rcases h with(h | ⟨_,h⟩) | ⟨o,_,_,h,_⟩;{exact aL h f.1};{exact aL h f.1};{exact abn I h f}
def aa9(hi:s.heap.IsTupleIter a t i)(h:s.heap.IsTuple t items)(j:items[i]? =some x)
 (f:∀h',h'.IsTupleIter a t (i+1)->Heap.SameBut a s.heap h'->Q x %[|20]):wpAny %[|6] A (Builtin.SmallTypes.nextOf (.ref a)) Q E s:=by obtain⟨o,c,g,b⟩:=id hi;obtain⟨l,e,_,k,d⟩:=h;unfold Builtin.SmallTypes.nextOf;refine b0 (wpAny_callSpecial?_slot (name:=Str.ofString "__next__") hi.typeIs kn (dA kn hi.typeIs F.entry_tuple_iterator_next ?_ (F.args_tuple_iterator_next_1 _)));refine b0 (m:=field (.ref a) 0) (fi c b (x:=.ref t) rfl ?_);rw[bP (show ¬((Value.ref t==Value.none)=true)from y6)];refine b0 (m:=field (.ref a) 1) (fi c b (x:=.int i 0) rfl ?_);refine b0 (m:=seqItems? (.ref t)) (fy e d ?_);simp only[dk,j];refine b0 (jS c b (by simp) (b9 %[x,rfl|b9 (f _ %[_,fS _ c (Obj.isFreed_of_fields (mn b _)),(Obj.cls_mapFields ..).trans g|by rw[mn b];simp[rawInt]] (ej ..))]))
def Pz(hh:A.handled=none)(hi:s.heap.IsTupleIter b t i)(j:s.heap.IsTuple t items)(k:items[i]? =none)
 (h:∀h' e,Heap.ExtBut b s.heap h'->(∃o,h'.get? e=some o/\o.cls=.type "StopIteration")->E (.ref e) %[|20]):wpAny %[|6] A (Builtin.SmallTypes.nextOf (.ref b)) Q E s:=by
 obtain⟨o,f,l,c⟩:=id hi;obtain⟨p,g,_,n,d⟩:=j;unfold Builtin.SmallTypes.nextOf;refine b0 (wpAny_callSpecial?_slot (name:=Str.ofString "__next__") hi.typeIs kn (dA kn hi.typeIs F.entry_tuple_iterator_next ?_ (F.args_tuple_iterator_next_1 _)));refine b0 (m:=field (.ref b) 0) (fi f c (x:=.ref t) rfl ?_);rw[bP (show ¬((Value.ref t==Value.none)=true)from y6)];refine b0 (m:=field (.ref b) 1) (fi f c (x:=.int i 0) rfl ?_);refine b0 (m:=seqItems? (.ref t)) (fy g d ?_);simp only[dk,k];refine b0 (k6 (b0 (jS f c (by simp) (b0 (m:=newExc (.type "StopIteration") []) ?_))));simp only[newExc,newTuple];refine b0 (dQ (b0 (m:=firstArgMember _ _) (wpAny_of_eq (a:=Value.none) (by first | rfl | (simp only[firstArgMember];rfl)) (dQ ?_ (by size_fits)))) (by size_fits));simp only[raiseNew];refine b0 (wpAny_handled ?_);first | rw[show A.in1.handled=none from hh] | rw[hh]
 exact b0 (b9 (wpAny_throw (h _ _ (((ej ..).extBut.push _).push _) %[_,c9 _ rfl|rfl])))
theorem Vc(hh:A.handled=none)(a t:Addr)(ne:t≠a)(items:af0):
 Draws prog w A a [a,t] items.size (λ i v=>items[i]? =some v) (λ i h=>h.IsTupleIter a t i/\h.IsTuple t items) where
 live:=λ i h x=>let ⟨o,e,_⟩:=x.1;%[o|e]
 frame:=λ i h b x k=>by obtain⟨⟨o,e,r⟩,⟨d,g,m⟩⟩:=x;exact%[%[o,k a (by simp) o e|r]|%[d,k t (by simp) d g|m]]
 item:=λ i s Q E c x l=>aa9 x.1 x.2 (x:=items[i]) (by simp[c]) λ b y f=>l _ b s.toks (by simp[c]) %[y|x.2.extBut f.extBut ne] f
 done:=λ s Q E x j=>Pz hh x.1 x.2 (by simp) j
def Mx(P:af4)(w:World)(K:ae1):SqKind P w K where
 Sq:=SqT K
 It:=λ h m a i=>h.IsTupleIter m a i
 Ob:=λ h a c=>h.IsTuple a c
 itObj:=λ x=>let ⟨o,e,_,d⟩:=x;%[o,_,e|d]
 itAt:=λ x k=>let ⟨o,e,r⟩:=x;%[o,k o e|r]
 obObj:=λ x=>let ⟨o,e,_,n,d⟩:=x;%[o,n,e|d]
 draws:=λ A s m a t b=>Vc s m a t b
 get:=λ j l g I h=>by subst j l g;obtain⟨c,u,p,_⟩:=I.tuple h;exact%[c,u|p]
 inj:=λ j l g I h q=>by subst j l g;exact I.tuple_inj h q
 far:=λ g I h f=>by subst g;rcases h with(h | ⟨_,h⟩) | ⟨o,_,_,h,_⟩;{exact aL h f.1};{exact aL h f.1};{exact abn I h f}
def sJ{σ:St}{ch:ag3}(I:%[|3])(d:∀b∈ch,iz X pins H b)(k:∀b o,b∉ch->%[|32]):Inv X pins σ H {s with heap:=h',toks:=t}:=by
 have f:∀b u,H b=some u->b∉ch:=λ b u e z=>by rw[(d b z).1]at e;cases e
 refine I.step (g':=s.gens) (d':=s.drawn) (ch:=ch) (λ b g=>%[(d b g).2.2.2.1,(d b g).2.1,(d b g).2.2.2.2.1|(d b g).2.2.2.2.2]) (λ b o _ _ a e _=>k b o a e) (λ b o _ _ a e _=>%[o.slots|k b o a e]) (λ _ _ _ _ n=>n) (λ b o a e=>%[o|k b o a e])
  (λ _ _ e=>e) (λ _ _ _ e=>e) (λ b p e=>%[#[]|by rw[e];simp]) (λ m j=>?_) (λ b u e=>?_) I.bare;{obtain⟨o,i,h,l,r⟩:=j;exact%[o,i,h,k _ o (λ z=>(d _ z).2.1 rfl) l|r]};{refine(I.hok b u e).stay (λ c v a q=>k c v ?_ q) (λ _ q=>q) λ _ _ q=>q;rcases a with z | z;{rw[z];exact f b u e};{exact f c _ z}}
def uY{σ:St}{p:Addr}(I:%[|3])(a:Inv X pins σ H s')(d:s.heap.objs.size<=p)(g:aW X.prog X.w (upd H p o) s'.heap p o):Inv X pins σ (upd H p o) s':=by have y:H p=none:=I.hok.fresh d;have f:∀b u,H b=some u->b≠p:=λ b u e=>aL e y;refine%[a.ok,a.os,a.bare,%[a.base.keep,a.base.slot,λ b g e n A=>?_,a.base.there,λ b k e=>?_,λ b g u e=>?_|λ b C e=>?_],a.loc,a.cell,?_,λ x c e=>?_,λ q j=>?_,λ b u e=>?_|a.len];{have B:b<s.heap.objs.size:=v3 (c8 e) I.sz;rw[az (cm (v3 B d))];exact a.base.free b g e n A};{have:=a.base.tups b k e;rw[az (f b _ this)];exact this};{have:=a.base.frzs b g u e;rw[az (f b _ this)];exact this};{obtain⟨m,h⟩:=a.base.tbls b C e;exact%[m|by rw[az (f b _ h)];exact h]};{rw[az (cm (v3 I.lt d))];exact a.free};{obtain⟨v,z⟩:=I.cell x c e;rw[az (cm (v3 z.lt d))];exact a.freeC x c e};{obtain⟨w,_⟩:=I.pin q j;obtain⟨l,r,t⟩:=a.pin q j;exact%[l,by rw[az (cm (v3 (c8 w) d))];exact r|t]};{by_cases i:b=p;{subst i;rw[aQ]at e;cases e;exact g};{rw[az i]at e;exact(a.hok b u e).stay (λ c v _ q=>q) (λ c q=>by rw[az (f c _ q)];exact q) λ c k q=>by rw[az (f c _ q)];exact q}}
def Ite(q:SqKind P w K)(a:Addr):It:=
 %[λ i H=>∃b x,q.Sq H a b/\b[i]? =some x,λ i H x c=>∃p y,H p=none/\c=upd H p (.tup [.int i,y])/\x=.ref p/\∀b,q.Sq H a b->b[i]? =some y|λ i H=>∃b,q.Sq H a b/\i=b.length]
theorem Rk(q:SqKind P w K)(a e g:Addr)(p:e≠g):Turn P w K (.Tuple C k W) (Ite q a) [e,g] e (λ i h=>(∃old,IsEnum h e g i old)/\q.It h g a i) where
 mem:=by simp
 obj:=λ i h st b d=>by obtain⟨⟨old,f⟩,l⟩:=st;rcases cr.mp d with rfl | d;{exact%[_,f|λ v z=>nomatch z]};{rw[bX.mp d];obtain⟨o,vs,r,m⟩:=q.itObj l;exact%[o,r|λ v z=>by rw[m]at z;cases z]}
 keep:=λ i h h' st k=>%[let ⟨old,f⟩:=st.1;%[old|k e (by simp) _ f]|q.itAt st.2 λ o e=>k g (by simp) o e]
 item :=by
  intro X t y G Q i j s σ H E I J st T;obtain⟨xs,x,L,M⟩:=T;obtain⟨c,Z,A⟩:=q.get t y G I L;obtain⟨u,hu,ru⟩:=Z.get M;obtain⟨⟨old,f⟩,l⟩:=st;have V:=q.ne l A;have S:e≠a:=λ z=>by obtain⟨o,n,r,m⟩:=q.obObj A;rw[<-z,f]at r;cases r;cases m
  have U:i<c.toArray.size:=by simpa using(z0.mp hu).1
  have uq:∀ys,q.Sq H a ys->ys[i]? =some x:=λ ys hy=>by rw[q.inj t y G I hy L];exact M
  subst t y;refine wpAny_pyNext_enum_itemD (q.draws X.A.in1 (I.ok.hd Q) g a V c.toArray) f %[l|A] U p (by simp[p,S]) λ x' h' F D ho hs' hT ab hk=>?_;have ex:x'=u:=by
   have:c.toArray[i]? =some u:=by simpa using hu
   rw[this]at D;exact(cc D).symm
  subst ex;refine%[_,rfl|wpAny_letOwnedTupleGo_enum ho λ m R sb=>?_];have I1:Inv X j σ H {s with heap:=m,toks:=F+1}:=sJ (ch:=[e,g]) I J λ b o d Y=>(sb.2 b (λ z=>d (by simp[z]))).trans (hk b o (λ z=>d (by simp[z])) (λ z=>d (by simp[z])) Y);have hp:H s.heap.objs.size=none:=I.hok.fresh (y9 _);have B:e<s.heap.objs.size:=c8 f;have O:m.get? s.heap.objs.size=some {cls:=%[|10],data:=.seq #[.int i F,x']}:=(sb.2 _ (g7 B)).trans hT;have I2:Inv X j σ (upd H s.heap.objs.size (.tup [.int i,x])) {s with heap:=m,toks:=F+1}:=uY I I1 (y9 _) %[by show 2<=sizeLine;decide,[.int i F,x'],.cons %[F|rfl] (.cons ru .nil),_,O,rfl,_|rfl];refine%[%[|11],_,I2,rfl,%[_,x,hp,rfl,rfl|uq],%[%[_|by simpa using R]|q.itAt hs'.1 λ o Y=>(sb.2 g p.symm).trans Y]|λ b d=>?_];rw[az (cm ?_)];{exact(J b d).1};{rcases cr.mp d with rfl | d;{exact B};{rw[bX.mp d];obtain⟨o,vs,r,_⟩:=q.itObj l;exact c8 r}}
 done:=by
  intro X t y G Q i j s σ H E I J st T;obtain⟨xs,L,M⟩:=T;obtain⟨c,Z,A⟩:=q.get t y G I L;obtain⟨⟨old,f⟩,l⟩:=st;have V:=q.ne l A;subst t y;obtain⟨f0,f1,f2,f3,f4,f5⟩:=J g (by simp);have hn:i=c.toArray.size:=by rw[M,Z.length];simp
  have aa:q.It s.heap g a c.toArray.size/\q.Ob s.heap a c.toArray:=%[hn▸l|A];exact wpAny_pyNext_enum_endD (q.draws X.A.in1 (I.ok.hd Q) g a V c.toArray) f aa λ h' N=>%[rfl|I.turned (t':=s.toks) (λ b o d e=>N b o d e) f0 f1 f3 f4 f5]
 self:=λ _ _ _ _ _ st h=>let ⟨old,f⟩:=st.1;wpAny_pyIter_enum f h
def uB(q:SqKind P w K)(h:∀O' H',Conv O O' H H'->∃xs,q.Sq H' a xs/\Reps K O' H' xs ds):jY K (Ite q a) O H (ds.mapIdx λ i d=>.tup [.int i,d]):=by
 intro O' H' l t i;obtain⟨xs,f,r⟩:=h O' H' l;refine%[λ d b=>?_|λ m=>%[xs,f|by rw[m,r.length];simp]];rw[iL]at b
 cases e:ds[i]? with
 | none=>rw[e]at b;cases b
 | some u=>rw[e]at b;cases b;obtain⟨v,j,s⟩:=r.get e;refine%[%[xs,v,f|j]|λ x k y=>?_];obtain⟨p,y,c,rfl,rfl,n⟩:=y;have g:=n xs f;rw[j]at g;cases g;have o:¬O'.has p:=λ z=>t p z c;exact%[fW.fresh c _|.tup %[o|aQ] (.cons (.int _) (.cons (s.mono (Step.fresh c _)) .nil))]
section
variable{X:Cx}{Γ:Gam}{S:Store}{e:Expr}{pos:Pos}
def J9{σ:St}(q:SqKind X.prog X.w X.K)(I:%[|3])(e:IsEnum h' %[|27] s.heap.objs.size 0 .none)(hi:q.It h' s.heap.objs.size a 0)
 (f:∀b o,%[|32])(r:R (Ite q a) H):wpAny %[|5] X.A (pyIter (.ref %[|27])) (PIE X pins σ (.Tuple c k g) R) E %[|20]:=by refine wpAny_pyIter_enum e ?_;refine%[%[|27],[%[|27],s.heap.objs.size],_,_,H,rfl,I.kept (t':=s.toks) f,Rk q a %[|27] s.heap.objs.size (Nat.succ_ne_self _),%[%[_|e]|hi],λ b d=>?_|r];rcases cr.mp d with rfl | d;{exact I.fpOk (hZ _) (I.hok.fresh (hZ _))};{rw[bX.mp d];exact I.fpOk (y9 _) (I.hok.fresh (y9 _))}
def Qx(l:Addr)(items:af0)(n:Nat)(b:af7)(m:af2):
 Meets (Builtin.«enumerate.__new__» %[[.type "enumerate",.ref l]|[]]) (λ _ R s=>s.heap.get? l=some {cls:=%[|10],dict:=b,data:=.seq items n,slots:=m}/\
  R (.ok (.ret (.ref (s.heap.push {cls:=.type "tuple_iterator",data:=.fields #[.ref l,.int 0 0]}).objs.size)))
    {s with heap:=(s.heap.push {cls:=.type "tuple_iterator",data:=.fields #[.ref l,.int 0 0]}).push {cls:=.type "enumerate",data:=.fields #[.none,.bool false,%[|11],rawInt 0,.none,.none]}}):=
 .of_wp λ i w A R s h=>by obtain⟨j,g,d,o,k⟩:=s;obtain⟨a,h⟩:=h;have f:=sub_enumerate;have e:Heap.IsTuple (Shared.heap %[j,g,d,o|k]) l items:=%[_,a,rfl,n|rfl];wp_walk using AutoSeq1.wpAny_loadPart' a;refine wpAny_stack_any λ p=>b9 ?_;split;{rename_i c _ _ _ _ _;cases (c==Value.type "enumerate")<;>(wp_walk using AutoSeq1.wpAny_loadPart' a,wpAny_pyIter_tuple e;exact%[_,rfl|h])};{wp_walk using AutoSeq1.wpAny_loadPart' a,wpAny_pyIter_tuple e;exact%[_,rfl|h]}
end
end
end DL
namespace DL
open PySem PySem.Spec L2
open PyProof.Rows
structure Zd(z TI TO i1 i2:Addr)(f1 f2:ag3):Prop where
 a:TI≠z
 b:TO≠z
 c:TI≠TO
 d:TI≠i1
 e:TI≠i2
 f:TO≠i1
 g:TO≠i2
 h:i1≠z
 i:i2≠z
 j:z∉f1
 k:z∉f2
 l:TO∉f1
 m:TO∉f2
 n:i1∉f2
 o:i2∉f1
section
variable{prog:Program}{w:World}{A:Around}{E:%[|25]}{s:Shared}{z TI TO i1 i2:Addr}{f1 f2:List Addr}{n1 n2 k:Nat}{P1 P2:Nat -> Value -> Prop}{T1 T2:Nat -> Heap -> Prop}{va vb:Value}
def abu{Q:ae2}(F:Draws prog w A i1 f1 n1 P1 T1)(G:Draws prog w A i2 f2 n2 P2 T2)(Z:Zd z TI TO i1 i2 f1 f2)(hz:IsZip s.heap z TI TO .none)(K:IsPair s.heap TI (.ref i1) (.ref i2))(L:IsPair s.heap TO va vb)(t1:T1 k s.heap)(t2:T2 k s.heap)(k1:k<n1)(k2:k<n2)
 (hQ:∀x y h' tk,P1 k x->P2 k y->IsZip h' z TI TO (rawInt s.heap.objs.size)->IsPair h' TO x y->T1 (k+1) h'->T2 (k+1) h'->IsPair h' s.heap.objs.size x y->
  (∀c o,c≠z->c≠TO->c≠i1->c≠i2->s.heap.get? c=some o->h'.get? c=some o)->Q %[|11] {s with heap:=h',toks:=tk}):
 wpAny %[|6] A (Builtin.«zip.__next__» %[[.ref z]|[]]) (λ fin s'=>∃v,fin=.done (.ret v)/\Q v s') E s:=by
 obtain⟨V,g,d,aa,os⟩:=s;refine b0 (m:=field (.ref z) 2) (fi hz rfl (x:=.bool false) rfl (b0 (m:=field (.ref z) 3) (fi hz rfl (x:=.ref TI) rfl (b0 (fy K rfl ?_)))));refine b0 (m:=Builtin.SmallTypes.ownedTupleIsFree (.ref z)) ?_;unfold Builtin.SmallTypes.ownedTupleIsFree;refine b0 (fi hz rfl (x:=.none) rfl (b9 ?_));simp only[gX];refine b0 (k6 (b0 (fi hz rfl (x:=.ref TO) rfl (b0 (fw hz (by simp) λ S j s1=>?_)))));replace j:IsZip S z TI TO .ellipsis:=j;refine b0 ?_;simp only[List.zipIdx_cons,List.zipIdx_nil,mf,l8];refine b0 (b0 (wpAny_onRaise (b0 (m:=Builtin.SmallTypes.nextOf (.ref i1)) ?_)));refine F.item k _ _ _ k1 (F.frame _ _ _ t1 λ b a o e=>s1.extBut b o (λ q=>Z.j (q▸a)) e) λ x T ab p1 O s2=>b9 ?_;replace s2:Heap.SameBut i1 S T:=s2;have W:IsPair T TO va vb:=s2.extBut _ _ Z.f (s1.extBut _ _ Z.b L);refine b0 (fy W rfl (b0 (oe W λ J N s3=>b0 (wpAny_letGo (b9 ?_)))));replace N:IsPair J TO x vb:=N;refine b0 (b0 (wpAny_onRaise (b0 (m:=Builtin.SmallTypes.nextOf (.ref i2)) ?_)));have P:T2 k J:=G.frame _ _ _ t2 λ b a o e=>s3.extBut b o (λ q=>Z.m (q▸a)) (s2.extBut b o (λ q=>Z.n (q▸a)) (s1.extBut b o (λ q=>Z.k (q▸a)) e));refine G.item k _ _ _ k2 P λ y U R p2 t s4=>b9 ?_;replace s4:Heap.SameBut i2 J U:=s4;have X:IsPair U TO x vb:=s4.extBut _ _ Z.g N;refine b0 (fy X rfl (b0 (oe X λ f C s5=>b0 (wpAny_letGo (b9 (b9 ?_))))));replace C:IsPair f TO x y:=C;refine b0 (fy C rfl (b0 (wpAny_newTuple ?_)));have sz:f.objs.size=V.objs.size:=by rw[s5.1,s4.1,s3.1,s2.1,s1.1]
 have p:IsZip f z TI TO .ellipsis:=s5.extBut _ _ Z.b.symm (s4.extBut _ _ Z.i.symm (s3.extBut _ _ Z.b.symm (s2.extBut _ _ Z.h.symm j)));have k5:∀c o,c≠z->c≠TO->c≠i1->c≠i2->V.get? c=some o->f.get? c=some o:=λ c o i B H I q=>s5.extBut _ _ B (s4.extBut _ _ I (s3.extBut _ _ B (s2.extBut _ _ H (s1.extBut _ _ i q))));have u:z<f.objs.size:=c8 p;refine b0 (m:=Builtin.SmallTypes.ownedTupleHandOut (.ref z) (.ref f.objs.size)) ?_;unfold Builtin.SmallTypes.ownedTupleHandOut;have M:IsZip (f.push {cls:=%[|10],data:=.seq #[x,y]}) z TI TO .ellipsis:=bE _ p;refine b0 (fw M (by simp) λ h7 l s7=>?_);replace l:IsZip h7 z TI TO (rawInt f.objs.size):=l;refine fw l (by simp) λ n h s8=>?_;replace h:IsZip n z TI TO (rawInt f.objs.size):=h;have D:∀c o,c≠z->f.get? c=some o->n.get? c=some o:=λ c o i q=>s8.extBut _ _ i (s7.extBut _ _ i (bE _ q));have Y:IsPair n f.objs.size x y:=s8.extBut _ _ (g7 u) (s7.extBut _ _ (g7 u) (c9 _ rfl));rw[sz]at h Y;refine b9 %[_,rfl|?_];show Q (.ref f.objs.size) _;rw[sz];have u1:T1 (k+1) n:=F.frame _ _ _ O λ b a o q=>D b o (λ r=>Z.j (r▸a)) (s5.extBut b o (λ r=>Z.l (r▸a)) (s4.extBut b o (λ r=>Z.o (r▸a)) (s3.extBut b o (λ r=>Z.l (r▸a)) q)));have u2:T2 (k+1) n:=G.frame _ _ _ t λ b a o q=>D b o (λ r=>Z.k (r▸a)) (s5.extBut b o (λ r=>Z.m (r▸a)) q);exact hQ x y n R p1 p2 h (D _ _ Z.b C) u1 u2 Y λ c o i B H I q=>D c o i (k5 c o i B H I q)
def Vn(F:Draws prog w A i1 f1 n1 P1 T1)(M:Draws prog w A i2 f2 n2 P2 T2)(Z:Zd z TI TO i1 i2 f1 f2)(hz:IsZip s.heap z TI TO .none)(I:IsPair s.heap TI (.ref i1) (.ref i2))(J:IsPair s.heap TO va vb)(X:T1 k s.heap)(Y:T2 k s.heap)(V:k=n1\/(k<n1/\k=n2))
 (O:∀h' tk e,(∀c o,c≠z->c≠TO->c≠i1->c≠i2->s.heap.get? c=some o->h'.get? c=some o)->(∃o,h'.get? e=some o/\o.cls=.type "StopIteration")->E (.ref e) {s with heap:=h',toks:=tk}):
 wpAny %[|6] A (Builtin.«zip.__next__» %[[.ref z]|[]]) Q E s:=by
 obtain⟨hp,g,d,aa,os⟩:=s;refine b0 (m:=field (.ref z) 2) (fi hz rfl (x:=.bool false) rfl (b0 (m:=field (.ref z) 3) (fi hz rfl (x:=.ref TI) rfl (b0 (fy I rfl ?_)))));refine b0 (m:=Builtin.SmallTypes.ownedTupleIsFree (.ref z)) ?_;unfold Builtin.SmallTypes.ownedTupleIsFree;refine b0 (fi hz rfl (x:=.none) rfl (b9 ?_));simp only[gX];refine b0 (k6 (b0 (fi hz rfl (x:=.ref TO) rfl (b0 (fw hz (by simp) λ B f v=>?_)))));replace f:IsZip B z TI TO .ellipsis:=f;refine b0 ?_;simp only[List.zipIdx_cons,List.zipIdx_nil,mf,l8];refine b0 (b0 (wpAny_onRaise (b0 (m:=Builtin.SmallTypes.nextOf (.ref i1)) ?_)));have y:T1 k B:=F.frame _ _ _ X λ b r o e=>v.extBut b o (λ q=>Z.j (q▸r)) e;rcases V with rfl | ⟨W,rfl⟩
 . refine F.done _ _ _ y λ p e a i=>?_;obtain⟨K,h,n⟩:=i;replace a:Heap.ExtBut i1 B p:=a;have t:IsZip p z TI TO .ellipsis:=a _ _ Z.h.symm f;have H:e≠z:=λ q=>by subst q;rw[t]at h;cases h;simp at n
   exact fw t (by simp) λ C _ j=>O C _ e (λ c o l _ G _ q=>j.extBut _ _ l (a _ _ G (v.extBut _ _ l q))) %[K,j.extBut _ _ H h|n]
 . refine F.item k _ _ _ W y λ x p ab p1 _ a=>b9 ?_;replace a:Heap.SameBut i1 B p:=a;have P:IsPair p TO va vb:=a.extBut _ _ Z.f (v.extBut _ _ Z.b J);refine b0 (fy P rfl (b0 (oe P λ C o3 j=>b0 (wpAny_letGo (b9 ?_)))));refine b0 (b0 (wpAny_onRaise (b0 (m:=Builtin.SmallTypes.nextOf (.ref i2)) ?_)));have L:T2 k C:=M.frame _ _ _ Y λ b r o e=>j.extBut b o (λ q=>Z.m (q▸r)) (a.extBut b o (λ q=>Z.n (q▸r)) (v.extBut b o (λ q=>Z.k (q▸r)) e));refine M.done _ _ _ L λ N e D i=>?_;obtain⟨K,h,n⟩:=i;replace D:Heap.ExtBut i2 C N:=D;have u:IsZip N z TI TO .ellipsis:=D _ _ Z.i.symm (j.extBut _ _ Z.b.symm (a.extBut _ _ Z.h.symm f));have H:e≠z:=λ q=>by subst q;rw[u]at h;cases h;simp at n
   exact fw u (by simp) λ U _ R=>O U _ e (λ c o l S G T q=>R.extBut _ _ l (D _ _ T (j.extBut _ _ S (a.extBut _ _ G (v.extBut _ _ l q))))) %[K,R.extBut _ _ H h|n]
end
section
variable{P:Program}{w:World}{K:PySem.W.Frag}
def Itz(q r:SqKind P w K)(a b:Addr):It:=
 %[λ i H=>∃c d x y,q.Sq H a c/\r.Sq H b d/\c[i]? =some x/\d[i]? =some y,
  λ i H v e=>∃p x y,H p=none/\e=upd H p (.tup [x,y])/\v=.ref p/\(∀c,q.Sq H a c->c[i]? =some x)/\∀d,r.Sq H b d->d[i]? =some y|
  λ i H=>∃c d,q.Sq H a c/\r.Sq H b d/\i=min c.length d.length]
structure Zr(z TI TO i1 i2:Addr):Prop where
 a:TI≠z
 b:TO≠z
 c:TI≠TO
 d:TI≠i1
 e:TI≠i2
 f:TO≠i1
 g:TO≠i2
 h:i1≠z
 i:i2≠z
 j:i1≠i2
def Zr.zd(q r:SqKind P w K){pins:Pins}{σ:St}{z g d e f a b}(Z:Zr z g d e f)(k:X.K=K)(I:%[|3])(l:∀c∈[z,g,d,e,f],iz X pins H c)(m:q.Sq H a xs)(n:r.Sq H b ys):Zd z g d e f [e,a] [f,b]:=by have h:∀c∈[z,g,d,e,f],c≠a:=λ c j=>(q.far k I m (l c j)).symm;have i:∀c∈[z,g,d,e,f],c≠b:=λ c j=>(r.far k I n (l c j)).symm;refine%[Z.a,Z.b,Z.c,Z.d,Z.e,Z.f,Z.g,Z.h,Z.i,?_,?_,?_,?_,?_|?_];{simp[Z.h.symm,h z (by simp)]};{simp[Z.i.symm,i z (by simp)]};{simp[Z.f,h d (by simp)]};{simp[Z.g,i d (by simp)]};{simp[Z.j,i e (by simp)]};{simp[Z.j.symm,h f (by simp)]}
theorem Vo(q r:SqKind P w K)(a b z L N m n:Addr)(Z:Zr z L N m n):Turn P w K (.Tuple ab k al) (Itz q r a b) [z,L,N,m,n] z
 (λ i h=>IsZip h z L N .none/\IsPair h L (.ref m) (.ref n)/\(∃va vb,IsPair h N va vb)/\q.It h m a i/\r.It h n b i) where
 mem:=by simp
 obj:=λ i h st c M=>by obtain⟨C,f,⟨va,vb,g⟩,A,B⟩:=st;obtain⟨o,vs,h1,U⟩:=q.itObj A;obtain⟨o',an,O,af⟩:=r.itObj B;simp only[cr,io,nn]at M;rcases M with rfl | rfl | rfl | rfl | rfl;{exact%[_,C|λ v z=>nomatch z]};{exact%[_,f|λ v z=>nomatch z]};{exact%[_,g|λ v z=>nomatch z]};{exact%[o,h1|λ v z=>by rw[U]at z;cases z]};{exact%[o',O|λ v z=>by rw[af]at z;cases z]}
 keep:=λ i h h' st k=>by obtain⟨C,f,⟨va,vb,g⟩,A,B⟩:=st;exact%[k z (by simp) _ C,k L (by simp) _ f,%[va,vb|k N (by simp) _ g],q.itAt A λ o e=>k m (by simp) o e|r.itAt B λ o e=>k n (by simp) o e]
 item:=by
  intro X G J D M i t s σ H E I V st hg;obtain⟨xs,ys,x,y,W,Y,hx,hy⟩:=hg;obtain⟨j,rv,ob⟩:=q.get G J D I W;obtain⟨d,R,p⟩:=r.get G J D I Y;obtain⟨u,hu,ru⟩:=rv.get hx;obtain⟨u2,ae,am⟩:=R.get hy;obtain⟨C,f,⟨va,vb,g⟩,A,B⟩:=st;have ux:∀S,q.Sq H a S->S[i]? =some x:=λ S h=>by rw[q.inj G J D I h W];exact hx
  have uy:∀S,r.Sq H b S->S[i]? =some y:=λ S h=>by rw[r.inj G J D I h Y];exact hy
  have Z2:=Z.zd q r D I V W Y;have l1:i<j.toArray.size:=by simpa using(z0.mp hu).1
  have l2:i<d.toArray.size:=by simpa using(z0.mp ae).1
  subst G J;have hT:s.TypeIs (.ref z) "zip":=%[_,C|rfl];unfold pyNext;refine b0 (ko (wpAny_callSpecial?_slot (name:=Str.ofString "__next__") hT og (dA og hT F.entry_zip_next ?_ (F.args_zip_next_1 _))));refine abu (q.draws X.A.in1 (I.ok.hd M) m a (q.ne A ob) j.toArray) (r.draws X.A.in1 (I.ok.hd M) n b (r.ne B p) d.toArray) Z2 C f g %[A|ob] %[B|p] l1 l2 λ x' y' h' tk px py aj ad t1 t2 ah kp=>b9 ?_;have ex:x'=u:=by
   have e1:j.toArray[i]? =some u:=by simpa using hu
   rw[e1]at px;exact(cc px).symm
  have ey:y'=u2:=by
   have e1:d.toArray[i]? =some u2:=by simpa using ae
   rw[e1]at py;exact(cc py).symm
  subst ex;subst ey;refine%[_,rfl|wpAny_letOwnedTupleGo_zip aj λ U ak sb=>?_];have I1:Inv X t σ H {s with heap:=U,toks:=tk}:=sJ (ch:=[z,L,N,m,n]) I V λ c o l Q=>(sb.2 c (λ z=>l (by simp[z]))).trans (kp c o (λ z=>l (by simp[z])) (λ z=>l (by simp[z])) (λ z=>l (by simp[z])) (λ z=>l (by simp[z])) Q);have hp:H s.heap.objs.size=none:=I.hok.fresh (y9 _);have aa:z<s.heap.objs.size:=c8 C;have ag:U.get? s.heap.objs.size=some {cls:=%[|10],data:=.seq #[x',y']}:=(sb.2 _ (g7 aa)).trans ah;have I2:Inv X t σ (upd H s.heap.objs.size (.tup [x,y])) {s with heap:=U,toks:=tk}:=uY I I1 (y9 _) %[by show 2<=sizeLine;decide,[x',y'],.cons ru (.cons am .nil),_,ag,rfl,_|rfl];have ac:IsPair U L (.ref m) (.ref n):=(sb.2 _ Z.a).trans (kp _ _ Z.a Z.c Z.d Z.e f);refine%[%[|11],_,I2,rfl,%[_,x,y,hp,rfl,rfl,ux|uy],%[ak,ac,%[_,_|(sb.2 _ Z.b).trans ad],q.itAt t1.1 λ o Q=>(sb.2 m Z.h).trans Q|r.itAt t2.1 λ o Q=>(sb.2 n Z.i).trans Q]|λ c l=>?_];rw[az (cm ?_)];{exact(V c l).1};{obtain⟨o,vs,h1,_⟩:=q.itObj A;obtain⟨o',an,O,_⟩:=r.itObj B;simp only[cr,io,nn]at l;rcases l with rfl | rfl | rfl | rfl | rfl;{exact aa};{exact c8 f};{exact c8 g};{exact c8 h1};{exact c8 O}}
 done:=by
  intro X G J D M i t s σ H E I V st hg;obtain⟨xs,ys,W,Y,hn⟩:=hg;obtain⟨j,rv,ob⟩:=q.get G J D I W;obtain⟨d,R,p⟩:=r.get G J D I Y;obtain⟨C,f,⟨va,vb,g⟩,A,B⟩:=st;have Z2:=Z.zd q r D I V W Y;subst G J;have hT:s.TypeIs (.ref z) "zip":=%[_,C|rfl];have hk:i=j.toArray.size\/(i<j.toArray.size/\i=d.toArray.size):=by have e1:=rv.length;have e2:=R.length;simp only[x5];omega
  unfold pyNext;refine b0 (ko (wpAny_callSpecial?_slot (name:=Str.ofString "__next__") hT og (dA og hT F.entry_zip_next ?_ (F.args_zip_next_1 _))));refine Vn (q.draws X.A.in1 (I.ok.hd M) m a (q.ne A ob) j.toArray) (r.draws X.A.in1 (I.ok.hd M) n b (r.ne B p) d.toArray) Z2 C f g %[A|ob] %[B|p] hk λ h' tk e kp ai=>?_;obtain⟨o,he,ce⟩:=ai;refine b0 (gt (T:="StopIteration") (b:=true) %[o,he|ce] isSubtype_stop (b9 %[rfl|?_]));exact sJ (ch:=[z,L,N,m,n]) I V λ c o l Q=>kp c o (λ z=>l (by simp[z])) (λ z=>l (by simp[z])) (λ z=>l (by simp[z])) (λ z=>l (by simp[z])) Q
 self:=λ _ _ _ _ _ st h=>wpAny_pyIter_zip st.1 h
def wZ(q r:SqKind P w K)(h:∀O' H',Conv O O' H H'->∃xs ys,q.Sq H' a xs/\Reps K O' H' xs ds/\r.Sq H' b ys/\Reps K O' H' ys es):jY K (Itz q r a b) O H (List.zipWith (λ x y=>.tup [x,y]) ds es):=by
 intro O' H' B I i;obtain⟨xs,ys,l,u,m,v⟩:=h O' H' B;refine%[λ d c=>?_|λ C=>%[xs,ys,l,m|by rw[C,u.length,v.length,List.length_zipWith]]];rw[nv]at c
 cases g:ds[i]? with
 | none=>rw[g]at c;cases c
 | some M=>
   cases k:es[i]? with
   | none=>rw[g,k]at c;cases c
   | some N=>rw[g,k]at c;cases c;obtain⟨J,e,n⟩:=u.get g;obtain⟨L,f,o⟩:=v.get k;refine%[%[xs,ys,J,L,l,m,e|f]|λ x A y=>?_];obtain⟨p,Q,R,j,rfl,rfl,E,F⟩:=y;have s:=E xs l;have t:=F ys m;rw[e]at s;rw[f]at t;cases s;cases t;have G:¬O'.has p:=λ z=>I p z j;exact%[fW.fresh j _|.tup %[G|aQ] (.cons (n.mono (Step.fresh j _)) (.cons (o.mono (Step.fresh j _)) .nil))]
abbrev zh(h:Heap)(c1 c2:String)(l1 l2:Addr):Heap:=
 ((((h.push {cls:=.type c1,data:=.fields #[.ref l1,.int 0 0]}).push {cls:=.type c2,data:=.fields #[.ref l2,.int 0 0]}).push {cls:=%[|10],data:=.seq #[.ref h.objs.size,.ref (h.push {cls:=.type c1,data:=.fields #[.ref l1,.int 0 0]}).objs.size]}).push {cls:=%[|10],data:=.seq #[.none,.none]})
abbrev zhz(h:Heap)(c1 c2:String)(l1 l2:Addr):Heap:=
 (zh h c1 c2 l1 l2).push {cls:=.type "zip",data:=.fields #[.none,.bool false,.bool false,.ref ((h.push {cls:=.type c1,data:=.fields #[.ref l1,.int 0 0]}).push {cls:=.type c2,data:=.fields #[.ref l2,.int 0 0]}).objs.size,
  .ref (((h.push {cls:=.type c1,data:=.fields #[.ref l1,.int 0 0]}).push {cls:=.type c2,data:=.fields #[.ref l2,.int 0 0]}).push {cls:=%[|10],data:=.seq #[.ref h.objs.size,.ref (h.push {cls:=.type c1,data:=.fields #[.ref l1,.int 0 0]}).objs.size]}).objs.size]}
def R6(a b:Addr)(xs ys:af0):
 Meets (Builtin.«zip.__new__» %[[.type "zip",.ref a,.ref b]|[]]) (λ _ R s=>s.heap.IsTuple a xs/\s.heap.IsTuple b ys/\
  R (.ok (.ret (.ref (zh s.heap "tuple_iterator" "tuple_iterator" a b).objs.size))) {s with heap:=zhz s.heap "tuple_iterator" "tuple_iterator" a b}):=
 .of_wp λ i w A R s h=>by obtain⟨c,g,d,j,f⟩:=s;obtain⟨k,l,h⟩:=h;have e:=sub_zip;have m:Heap.IsTuple (Shared.heap %[c,g,d,j|f]) a xs:=k;have n:Heap.IsTuple (Shared.heap %[c.push {cls:=.type "tuple_iterator",data:=.fields #[.ref a,.int 0 0]},g,d,j|f]) b ys:=Heap.IsTuple.push l _;wp_walk using wpAny_pyIter_tuple m,wpAny_pyIter_tuple n;exact%[_,rfl|h]
end
section
variable{X:Cx}{Γ:Gam}{S:Store}{pos:Pos}
def zip_parts(h:Heap)(a d:String)(c f:Addr):(zh h a d c f).objs.size=h.objs.size+4/\IsZip (zhz h a d c f) (h.objs.size+4) (h.objs.size+2) (h.objs.size+3) .none/\IsPair (zhz h a d c f) (h.objs.size+2) (.ref h.objs.size) (.ref (h.objs.size+1))/\IsPair (zhz h a d c f) (h.objs.size+3) .none .none/\
 (zhz h a d c f).get? h.objs.size=some %[|44]/\(zhz h a d c f).get? (h.objs.size+1)=some {cls:=.type d,data:=.fields #[.ref f,.int 0 0]}/\∀b o,h.get? b=some o->(zhz h a d c f).get? b=some o:=by
 have j:(h.push %[|44]).objs.size=h.objs.size+1:=fx ..;have g:((h.push %[|44]).push {cls:=.type d,data:=.fields #[.ref f,.int 0 0]}).objs.size=h.objs.size+2:=by rw[fx,j]
 have i:(((h.push %[|44]).push {cls:=.type d,data:=.fields #[.ref f,.int 0 0]}).push {cls:=%[|10],data:=.seq #[.ref h.objs.size,.ref (h.push %[|44]).objs.size]}).objs.size=h.objs.size+3:=by rw[fx,g]
 have p:(zh h a d c f).objs.size=h.objs.size+4:=by rw[fx,i]
 have n:=c9 (zh h a d c f) (o:={cls:=.type "zip",data:=.fields #[.none,.bool false,.bool false,.ref ((h.push %[|44]).push {cls:=.type d,data:=.fields #[.ref f,.int 0 0]}).objs.size,
  .ref (((h.push %[|44]).push {cls:=.type d,data:=.fields #[.ref f,.int 0 0]}).push {cls:=%[|10],data:=.seq #[.ref h.objs.size,.ref (h.push %[|44]).objs.size]}).objs.size]}) rfl;have m:(zhz h a d c f).get? (((h.push %[|44]).push {cls:=.type d,data:=.fields #[.ref f,.int 0 0]}).push {cls:=%[|10],data:=.seq #[.ref h.objs.size,.ref (h.push %[|44]).objs.size]}).objs.size=some {cls:=%[|10],data:=.seq #[.none,.none]}:=bE _ (c9 _ rfl);have l:(zhz h a d c f).get? ((h.push %[|44]).push {cls:=.type d,data:=.fields #[.ref f,.int 0 0]}).objs.size=some {cls:=%[|10],data:=.seq #[.ref h.objs.size,.ref (h.push %[|44]).objs.size]}:=bE _ (bE _ (c9 _ rfl));have k:(zhz h a d c f).get? (h.push %[|44]).objs.size=some {cls:=.type d,data:=.fields #[.ref f,.int 0 0]}:=bE _ (bE _ (bE _ (c9 _ rfl)));have q:(zhz h a d c f).get? h.objs.size=some %[|44]:=bE _ (bE _ (bE _ (bE _ (c9 _ rfl))));rw[g,i,p]at n;rw[i]at m;rw[j,g]at l;rw[j]at k;refine%[p,?_,l,m,q,k|λ b o e=>bE _ (bE _ (bE _ (bE _ (bE _ e))))];show(zhz h a d c f).get? _=_;unfold zhz;rw[g,i];exact n
def R4{pins:Pins}{σ:St}(q r:SqKind X.prog X.w X.K)(I:%[|3])
 (hi:q.It (zhz s.heap f g a c) s.heap.objs.size a 0)(j:r.It (zhz s.heap f g a c) %[|27] c 0)(o:R (Itz q r a c) H):
 wpAny %[|5] X.A (pyIter (.ref (s.heap.objs.size+4))) (PIE X pins σ (.Tuple d k p) R) E {s with heap:=zhz s.heap f g a c}:=by
 obtain⟨_,i,m,n,_,_,l⟩:=zip_parts s.heap f g a c;refine wpAny_pyIter_zip i ?_;refine%[s.heap.objs.size+4,[s.heap.objs.size+4,s.heap.objs.size+2,s.heap.objs.size+3,s.heap.objs.size,%[|27]],_,_,H,rfl,I.kept (t':=s.toks) l,Vo q r a c (s.heap.objs.size+4) (s.heap.objs.size+2) (s.heap.objs.size+3) s.heap.objs.size %[|27] ?_,%[i,m,%[_,_|n],hi|j],λ b h=>?_|o];{constructor<;>exact λ z=>by have t:(_:Nat)=_:=z;omega}
 . have e:s.heap.objs.size<=b:=by simp only[cr,io,nn]at h;rcases h with rfl | rfl | rfl | rfl | rfl;{exact fI _ _};{exact fI _ _};{exact fI _ _};{exact y9 _};{exact fI _ _}
   exact I.fpOk e (I.hok.fresh e)
def VN{e}{k}{tp p}(h:Ev X Γ S e1 λ d S1=>Ev X Γ S1 c λ d' S2=>∃ds es,d=.tup ds/\d'=.tup es/\W (List.zipWith (λ x y=>.tup [x,y]) ds es) S2)(N:X.mg "zip"=none)(M:Gl X "zip":=by rfl)
 (hs:starEach [e1,c] X.env=(false,eval e1 X.env)::starEach [c] X.env:=by rfl)(f:starEach [c] X.env=[(false,eval c X.env)]:=by rfl):
 ItW X Γ S (.Tuple e k tp) (.Call (.Name "zip" p) [e1,c] [] pos) W:=by
 intro i s σ H O I n st;have L:EvA X Γ S [e1,c] λ E S2=>∃ds es,E=[.tup ds,.tup es]/\W (List.zipWith (λ x y=>.tup [x,y]) ds es) S2:=
  cH (h.mono λ d S1 l=>cH (l.mono λ d' S2 ⟨ds,es,a,b,w⟩=>gr %[ds,es,by rw[a,b]|w]) f) hs;refine Call_ (cj I M N boot_zip (dV (thn (L pos i s σ H O I n st) λ us s1 o=>?_) hs (by rw[f];rfl)));obtain⟨vs,H1,m,Z,J,E,S1,⟨ds,es,K,w⟩,C,t,A⟩:=o;subst K;cases A with| cons ra z=>cases z with| cons z rc=>cases rc;obtain⟨u,u2,rfl,ru,B⟩:=vals2 Z;obtain⟨a,xs,rfl,l,V⟩:=dj ra;obtain⟨b,ys,rfl,G,Y⟩:=dj z;cases ru;cases B;obtain⟨q,rv,U,hz⟩:=m.tuple l.sq;obtain⟨g,aa,v,P⟩:=m.tuple G.sq;obtain⟨z4,Q,p2,p3,R,T,kp⟩:=zip_parts s1.heap "tuple_iterator" "tuple_iterator" a b;refine callType_new F.called_zip %[|1] (F.typeCall_zip_2 _ _) (F.newCall_zip_2 _ _) (λ r=>F.args_object_init_3 r _ _) F.entry_zip_new (R6 a b q.toArray g.toArray) %[U,v|?_];show _/\_;rw[z4];refine%[%[_,Q|rfl]|R4 (Mx X.prog X.w X.K) (Mx X.prog X.w X.K) m %[_,R,rfl|rfl] %[_,T,rfl|rfl] %[J,_,S1,w,C,t|wZ _ _ λ O' H' j=>%[xs,ys,(l.conv j).sq,V.conv j,(G.conv j).sq|Y.conv j]]]
end
section
variable{X:Cx}{Γ:Gam}{S:Store}{e:Expr}
def ac8(h:Ev X Γ S e λ d S1=>∃i,d=.int i/\W (some i) S1):PoD X Γ S (some e) W:=h
def acK(h:W none S):PoD X Γ S none W:=h
def abZ(h:Ts X Γ S c W):TsA X Γ S [c] W:=h
end
def aH{a:Type}{xs:List a}{x}(h:xs[i]? =some x):xs.take (i+1)=xs.take i++[x]:=by rw[List.take_add_one,h];rfl
def Gr(d:D)(ds:List D):cutD (d::ds) (some 1) none=ds:=by
 unfold cutD;have a:HT.sIx (d::ds).length 0 (some 1)=1:=by have:=HT.sIx_nat (d::ds).length 0 1;simp only[dS]at this ⊢;have b:((1:Nat):Int)=1:=rfl;rw[b]at this;rw[this];omega
 rw[a,HT.sIx_none];simp
def QW(h:0<=k):cutD ds none (some k)=ds.take k.toNat:=by
 unfold cutD;rw[HT.sIx_none];have e:HT.sIx ds.length ds.length (some k)=min k.toNat ds.length:=by have:=HT.sIx_nat ds.length ds.length k.toNat;rwa[kD h]at this
 rw[e,List.drop_zero,Nat.sub_zero];rcases Nat.le_total k.toNat ds.length with q | q;{rw[Nat.min_eq_left q]};{rw[Nat.min_eq_right q,db (y9 _),db q]}
def Ft(h:0<=k):cutD ds (some k) none=ds.drop k.toNat:=by
 unfold cutD;rw[HT.sIx_none];have e:HT.sIx ds.length 0 (some k)=min k.toNat ds.length:=by have:=HT.sIx_nat ds.length 0 k.toNat;rwa[kD h]at this
 rw[e];rcases Nat.le_total k.toNat ds.length with q | q;{rw[Nat.min_eq_left q,db (by rw[lm];omega)]};{rw[Nat.min_eq_right q,n4 (y9 _),n4 q];simp}
def kI{ds:List c}{v:Int}(b:0<=v)(h1:v<ds.length):∃x,atI ds v=some x/\ds[v.toNat]? =some x:=by
 have a:v.toNat<ds.length:=%[|0]
 refine%[ds[v.toNat],?_|y3 a];have q:=bZ (xs:=ds) (j:=v.toNat) (y3 a);rwa[kD b]at q
def vq(x:a)(xs:List a):atI (x::xs) 0=some x:=bZ (xs:=x::xs) (j:=0) rfl
def set_get{S:Store}(h:S[k]? =some l):(S.set k a)[k]? =some a:=fq (z0.mp h).1
end DL
namespace RF
open PySem PySem.Spec L2 DL
open PyProof.Rows
open Builtin
def uT:fillsNumberSlot %[|10] "mul"=pure false:=
 PySem.fillsNumberSlot_seq (id:="tuple.__mul__") (r:=some (.builtin "tuple.__rmul__")) ln.lookup %[|9] F.slot_tuple_rmul.lookup %[|9]
def GD:seqRepeat? %[|10]=pure (some (.builtin "tuple.__mul__")):=by unfold seqRepeat?;rw[PySem.seqSlot_of (T:="tuple") (name:="__mul__") (id:="tuple.__mul__") ln.lookup %[|9],PySem.seqSlot_of (T:="tuple") (name:="__rmul__") (id:="tuple.__rmul__") F.slot_tuple_rmul.lookup %[|9]];rfl
def yt(a:Int)(t:Tok)(l:Addr)(items:af0)(n:Nat)(b:af7)(e:af2):
 Meets (Builtin.«int.__rmul__» %[[.int a t,.ref l]|[]]) (λ _ R s=>s.heap.get? l=some {cls:=%[|10],dict:=b,data:=.seq items n,slots:=e}/\R (.ok (.ret Value.notImplemented)) s):=
 .of_wp λ c w A R s h=>by obtain⟨i,g,d,k,j⟩:=s;obtain⟨f,h⟩:=h;wp_walk;exact%[_,rfl|h]
def yW(l:Addr)(items:af0)(n:Nat)(a:af7)(f:af2)(x:Int)(u:Tok)(h1:¬(decide (x< -(2 ^ 63))||decide (x≥2 ^ 63))=true)(e:(items.isEmpty||x==1)=true):
 Meets (Builtin.«tuple.__mul__» %[[.ref l,.int x u]|[]]) (λ _ R s=>s.heap.get? l=some {cls:=%[|10],dict:=a,data:=.seq items n,slots:=f}/\R (.ok (.ret (.ref l))) s):=
 .of_wp λ c w A R s h=>by
  obtain⟨i,g,d,k,j⟩:=s;obtain⟨b,h⟩:=h;unfold Builtin.«tuple.__mul__»;wp_walk;rw[bP h1];wp_walk using AutoSeq1.wpAny_loadPart' b;try rw[ca e]
  wp_walk using AutoSeq1.wpAny_loadPart' b;exact%[_,rfl|h]
def xU(l:Addr)(items:af0)(n:Nat)(a:af7)(f:af2)(x:Int)(u:Tok)(h1:¬(decide (x< -(2 ^ 63))||decide (x≥2 ^ 63))=true)(e:¬(items.isEmpty||x==1)=true)(h2:(decide (x<=0)||items.isEmpty)=true):
 Meets (Builtin.«tuple.__mul__» %[[.ref l,.int x u]|[]]) (λ _ R s=>s.heap.get? l=some {cls:=%[|10],dict:=a,data:=.seq items n,slots:=f}/\R (.ok (.ret %[|11])) {s with heap:=s.heap.push {cls:=%[|10],data:=.seq #[]}}):=
 .of_wp λ c w A R s h=>by
  obtain⟨i,g,d,k,j⟩:=s;obtain⟨b,h⟩:=h;unfold Builtin.«tuple.__mul__»;wp_walk;rw[bP h1];wp_walk using AutoSeq1.wpAny_loadPart' b;try rw[bP e]
  wp_walk using AutoSeq1.wpAny_loadPart' b;try rw[ca h2]
  wp_walk using AutoSeq1.wpAny_loadPart' b;exact%[_,rfl|h]
def xx(l:Addr)(items:af0)(n:Nat)(b:af7)(j:af2)(x:Int)(u:Tok)(h1:¬(decide (x< -(2 ^ 63))||decide (x≥2 ^ 63))=true)(i:¬(items.isEmpty||x==1)=true)(h2:¬(decide (x<=0)||items.isEmpty)=true)
 (e:¬((items.size:Int)*x>(2 ^ 63-1)/8))(f:¬Builtin.Tuple.tupleTooMany ((items.size:Int)*x)=true)(k:((List.replicate x.toNat items).foldl (· ++·) #[]).size<=sizeLine):
 Meets (Builtin.«tuple.__mul__» %[[.ref l,.int x u]|[]]) (λ _ R s=>s.heap.get? l=some {cls:=%[|10],dict:=b,data:=.seq items n,slots:=j}/\R (.ok (.ret %[|11])) {s with heap:=s.heap.push {cls:=%[|10],data:=.seq ((List.replicate x.toNat items).foldl (· ++·) #[])}}):=
 .of_wp λ c w A R s h=>by
  obtain⟨m,g,d,p,o⟩:=s;obtain⟨a,h⟩:=h;unfold Builtin.«tuple.__mul__»;wp_walk;rw[bP h1];wp_walk using AutoSeq1.wpAny_loadPart' a;try rw[bP i]
  wp_walk using AutoSeq1.wpAny_loadPart' a;try rw[bP h2]
  wp_walk using AutoSeq1.wpAny_loadPart' a;try rw[bP e]
  wp_walk using AutoSeq1.wpAny_loadPart' a;try rw[bP f]
  wp_walk using AutoSeq1.wpAny_loadPart' a;exact%[_,rfl|h]
theorem Reps.rep{K}(r:Reps K O H vs ds):∀k:Nat,Reps K O H (List.replicate k vs).flatten (List.replicate k ds).flatten
 | 0=>.nil
 | k+1=>by rw[fR,fR,iX,iX];exact r.append (Reps.rep r k)
def ZP(hk: -(2 ^ 63)<=k/\k<2 ^ 63)(hz:ds.length*k.toNat<=1000000)(w:W (.tup (List.replicate k.toNat ds).flatten) S):fV X .Mult (.tup ds) (.int k) S W:=by
 intro i s Z H O v w' u u' I G L M N P;obtain⟨a,Y,rfl,B,l⟩:=dj L;cases M;cases N;obtain⟨t,rfl⟩:=P;obtain⟨c,J,K,_⟩:=I.tuple B.sq;obtain⟨⟨cls,j,data,o⟩,d,C,n,E⟩:=id K;simp only at C E;subst C E;have r:c.length=ds.length:=by rw[<-J.length,l.length]
 have q:¬(decide (k< -(2 ^ 63))||decide (k≥2 ^ 63))=true:=by rw[cE %[|0],cE %[|0]];decide
 have h:∀m:Nat,m=k.toNat->EP X i Z (QG X.K O H W) %[|11] {s with heap:=s.heap.push {cls:=%[|10],data:=.seq (List.replicate m c).flatten.toArray}}:=by rintro m rfl;refine%[%[|11],upd H s.heap.objs.size (.tup (List.replicate k.toNat Y).flatten),I.laid (t':=s.toks) (λ b u e=>bE _ e) (y9 _) ?_,rfl|mK w G I.fresh (Reps.rep l _)];exact%[by rw[len_rep,l.length,oi];exact small hz,_,J.rep _|%[_,c9 _ rfl,rfl,_|rfl]]
 refine nE (T:="tuple") (U:="int") %[|1] %[_,d|rfl] (λ Q=>typeIs_int Q k t) uT F.fills_int_mul oj GD F.slot_int_index.lookup
  (ky oj (typeIs_int s k t) F.entry_int_rmul (F.args_int_rmul_2 _ _) (yt k t a c.toArray n j o) %[d,rfl,%[_,d|rfl]|?_]);by_cases f:(c.toArray.isEmpty||k==1)=true
 . refine ky ln %[_,d|rfl] F.entry_tuple_mul (F.args_tuple_mul_2 _ _) (yW a c.toArray n j o k t q f) %[d,.ref a,H,I,rfl|?_];have e:(List.replicate k.toNat ds).flatten=ds:=by
    rw[i6]at f;rcases f with z | z
    . have:c=[]:=by simpa using z
      have:ds=[]:=by rw[this]at r;simpa using r.symm
      subst this;simp
    {have:k=1:=ZU z;subst this;simp}
   rw[e]at w;exact Hc w G (.tup B l)
 . by_cases g:(decide (k<=0)||c.toArray.isEmpty)=true
   . refine ky ln %[_,d|rfl] F.entry_tuple_mul (F.args_tuple_mul_2 _ _) (xU a c.toArray n j o k t q f g) %[d|?_];have A:k.toNat=0:=by rw[i6]at g;rcases g with z | z;{have:=ck z;omega};{exact absurd (by rw[z];rfl) f}
     have:=h 0 A.symm;exact this
   . have A:0<k:=by
      cases z:decide (k<=0)with
      | true=>exact absurd (by rw[z];rfl) g
      | false=>have:=fe z;omega
     have x:(c.toArray.size:Int)*k=((c.length*k.toNat:Nat):Int):=by rw[x5,om,kD %[|0]]
     have y:List.foldl (λ R V=>R++V) #[] (List.replicate k.toNat c.toArray)=(List.replicate k.toNat c).flatten.toArray:=by have:=foldl_rep c k.toNat [];rw[List.nil_append]at this;exact this
     have p:c.length*k.toNat<=1000000:=by rw[r];exact hz
     refine ky ln %[_,d|rfl] F.entry_tuple_mul (F.args_tuple_mul_2 _ _) (xx a c.toArray n j o k t q f g (by rw[x];omega) ?_ ?_) %[d|?_]
     . rw[x];have:(1000000:Nat)<=sizeLine:=%[|1]
       unfold Builtin.Tuple.tupleTooMany;rw[gE];omega
     {rw[y,x5,len_rep,oi];exact small p};{rw[y];exact h _ rfl}
variable{W:WD}
set_option genInjectivity false in
structure Wd where
 P:Program
 w:World
 K:PySem.W.Frag
 mg:Str->Option Value
 base:Heap
 cd:Option (Value×Str):=none
abbrev Nm:=List (Str×NameKind)
structure At(Ω:Wd)(X:Cx)(r:Nat)(top:Bool)(N:ae7)(nm:Nm):Prop where
 p:X.prog=Ω.P
 w:X.w=Ω.w
 k:X.K=Ω.K
 g:X.mg=Ω.mg
 b:X.base=Ω.base
 room:Room r X.A
 xe:X.xe=λ _ _=>False
 calm:X.calm=true
 n:X.N=N
 nd:N.Nodup
 kind:X.env.scope.kind=.function
 look:∀x k,nm.lookup x=some k->X.env.kindOf x=some k\/(k=.free/\X.env.kindOf x=some .cell)
 fn:∀x,nm.lookup x=some .cell->X.fn x=true
 cd:top=true->∀p,Ω.cd=some p->X.env.code=p.1/\X.env.qual=p.2
 fr:top=true->X.stack=X.env::X.outer/\X.env.frame=some X.env.locals/\X.ex=[]
def vis(nm:Nm)(x:Str):Bool:=match nm.lookup x with | some .local=>true | some .cell=>true | some .free=>true | _=>false
def lcl(top:Bool)(nm:Nm)(x:Str):Bool:=match nm.lookup x with | some .local=>true | some .cell=>true | _=>false
def glb(nm:Nm)(x:Str):Bool:=nm.lookup x==some .globalImplicit
def okN(x:Str):Bool:=!(x==("__debug__":Str))&&(!(x==("__classdict__":Str))&& !(x==("__name__":Str)))
def okE:Expr->Bool
 | .Starred .. =>false | .Set .. =>false | .Slice .. =>false | _=>true
def noC:Expr->Bool
 | .ListComp .. =>false | .SetComp .. =>false | .DictComp .. =>false | _=>true
def VD:Expr->Bool
 | .UnaryOp .. =>false | .BoolOp .. =>false | .IfExp .. =>false | .Compare .. =>false | _=>true
def bD(h:(a&&b)=true):a=true/\b=true:=by cases a<;>cases b<;>first | exact%[rfl|rfl] | exact(y6 h).elim
def onD(x:D)(k:Nat->Prop):Prop:=match x with | .dlo c=>k c | _=>False
@[elab_as_elim] theorem fB{a:D->Prop}(h:onD x k)(g:∀c,k c->a (.dlo c)):a x:=by cases x<;>first | exact g _ h | exact(show False from h).elim
def onL(x:D)(k:Nat->Prop):Prop:=match x with | .loc c=>k c | _=>False
@[elab_as_elim] theorem tB{a:D->Prop}(h:onL x k)(g:∀c,k c->a (.loc c)):a x:=by cases x<;>first | exact g _ h | exact(show False from h).elim
def onI(x:D)(k:Int->Prop):Prop:=match x with | .int c=>k c | _=>False
@[elab_as_elim] theorem tu{a:D->Prop}(h:onI x k)(g:∀c,k c->a (.int c)):a x:=by cases x<;>first | exact g _ h | exact(show False from h).elim
def onB(x:D)(k:Bool->Prop):Prop:=match x with | .bl c=>k c | _=>False
@[elab_as_elim] theorem rN{a:D->Prop}(h:onB x k)(g:∀c,k c->a (.bl c)):a x:=by cases x<;>first | exact g _ h | exact(show False from h).elim
def an2{P:Prop}(h:(a&&b)=true)(g:a=true->b=true->P):P:=g (bD h).1 (bD h).2
def an3{P:Prop}(h:(a&&(b&&c))=true)(g:a=true->b=true->c=true->P):P:=an2 (bD h).2 (g (bD h).1)
def an4{P:Prop}(h:(a&&(b&&(c&&d)))=true)(g:a=true->b=true->c=true->d=true->P):P:=an3 (bD h).2 (g (bD h).1)
def an5{P:Prop}(h:(a&&(b&&(c&&(d&&e))))=true)(g:a=true->b=true->c=true->d=true->e=true->P):P:=an4 (bD h).2 (g (bD h).1)
def an6{P:Prop}(h:(a&&(b&&(c&&(d&&(e&&f)))))=true)(g:a=true->b=true->c=true->d=true->e=true->f=true->P):P:=an5 (bD h).2 (g (bD h).1)
def an7{P:Prop}(h:(a&&(b&&(c&&(d&&(e&&(f&&i))))))=true)(g:a=true->b=true->c=true->d=true->e=true->f=true->i=true->P):P:=an6 (bD h).2 (g (bD h).1)
def an8{P:Prop}(h:(a&&(b&&(c&&(d&&(e&&(f&&(i&&j)))))))=true)(g:a=true->b=true->c=true->d=true->e=true->f=true->i=true->j=true->P):P:=an7 (bD h).2 (g (bD h).1)
def an9{P:Prop}(h:(a&&(b&&(c&&(d&&(e&&(f&&(i&&(j&&k))))))))=true)(g:a=true->b=true->c=true->d=true->e=true->f=true->i=true->j=true->k=true->P):P:=an8 (bD h).2 (g (bD h).1)
def nt(h:(!a)=true):a=false:=by cases a<;>first | rfl | exact(y6 h).elim
def jg(h:okN x=true):%[|48]/\(x==("__classdict__":Str))=false/\x≠"__name__":=by refine an3 h λ b c a=>?_;exact%[nt b,nt c|λ e=>by rw[e]at a;simp at a]
section
variable{Ω:Wd}{X:Cx}{r:Nat}{top:Bool}{N:List Str}{nm:Nm}{x:Str}
def At.vis(A:%[|23])(h:RF.vis nm x=true):Vis X.env.scope x:=by
 unfold RF.vis at h
 cases e:nm.lookup x with
 | none=>rw[e]at h;cases h
 | some k=>
   rw[e]at h;have q:=A.look x k e
   cases k with
   | «local»=>rcases q with q | ⟨q,_⟩;exact .inl q;exact nomatch q
   | cell=>rcases q with q | ⟨q,_⟩;exact .inr (.inl q);exact nomatch q
   | free=>rcases q with q | ⟨_,q⟩;exact .inr (.inr q);exact .inr (.inl q)
   | _=>exact(y6 h).elim
def At.lcl(A:%[|23])(h:RF.lcl top nm x=true):Loc X.env.scope x/\(X.fn x=true\/%[|52]):=by
 unfold RF.lcl at h
 cases e:nm.lookup x with
 | none=>rw[e]at h;cases h
 | some k=>
   rw[e]at h;have q:=A.look x k e
   cases k with
   | «local»=>rcases q with q | ⟨q,_⟩;exact%[.inl q|.inr q];exact nomatch q
   | cell=>rcases q with q | ⟨q,_⟩;exact%[.inr q|.inl (A.fn x e)];exact nomatch q
   | _=>exact(y6 h).elim
def At.glb(A:%[|23])(h:RF.glb nm x=true):Gl X x:=by have e:nm.lookup x=some .globalImplicit:=ZU h;rcases A.look x _ e with q | ⟨q,_⟩;{exact q};{exact nomatch q}
end
def aJ(h:okE e=true)(es:af1)(env:Env):starEach (e::es) env=(false,eval e env)::starEach es env:=by cases e<;>first | rfl | exact(y6 h).elim
theorem vY:∀{es:af1}(_:es.all okE=true)(a:Pos)(env:Env),(backTo a (starEach es env)).any (·.1)=false
 | [],_,_,_=>rfl
 | e::es,h,a,env=>by rw[ij]at h;refine an2 h λ b c=>?_;rw[aJ b];show(false||(backTo a (starEach es env)).any (·.1))=false;rw[vY c];rfl
def iB(h:okE e=true):behindInMarks op e=false:=by cases e<;>first | rfl | exact(y6 h).elim
def nP(h:okE e=true):Lg e:=by intro _ _;cases e<;>first | rfl | exact(y6 h).elim
def rR(h:okE e=true)(env:Env):∀x,foldedSetIterable e env x=pure x:=by intro x;cases e<;>first | rfl | exact(y6 h).elim
def iD(h:noC e=true)(t:Option Expr)(l:Nat)(env:Env):swapsWith e t l env=pure false:=by cases e<;>first | rfl | exact(y6 h).elim
def Pn(h:VD e=true)(env:Env):∀whole,isTrue e env whole=(do let v <-whole;standAt e.pos;holding [v] (truthy v)):=by intro w;cases e<;>first | rfl | exact(y6 h).elim
section
variable{X:Cx}{Γ:Gam}{S:Store}{e:Expr}{es:List Expr}
def EvA.mono{W f}(h:EvA X Γ S es W)(k:∀ds S',W ds S'->f ds S'):EvA X Γ S es f:=λ e a s m H O I b l=>
 thn (h e a s m H O I b l) λ _ _ c=>by obtain⟨v,g,i,r,j,d,S',w,q⟩:=c;exact%[v,g,i,r,j,d,S',k d S' w|q]
def Ts.mono{W f}(h:Ts X Γ S e W)(k:∀c S',W c S'->f c S'):Ts X Γ S e f:=λ a s m H O I b l=>
 thn (h a s m H O I b l) λ _ _ d=>by obtain⟨g,i,j,S',w,q⟩:=d;exact%[g,i,j,S',k _ S' w|q]
def BdW.mono{W f}(h:BdW X e d Γ S W)(k:∀G S',W G S'->f G S'):BdW X e d Γ S f:=λ a s n H O v u I b m r l=>
 thn (h a s n H O v u I b m r l) λ _ _ q=>by obtain⟨c,g,i,j,G,S',w,q⟩:=q;exact%[c,g,i,j,G,S',k G S' w|q]
def ItW.mono{W c}(h:ItW X Γ S d e W)(k:∀ds S',W ds S'->c ds S'):ItW X Γ S d e c:=λ a s u H O I b r=>
 thn (h a s u H O I b r) λ _ _ q=>thn q λ _ _ q=>by obtain⟨p,o,t,J,f,i,j,l,m,n,g,ds,S',w,z⟩:=q;exact%[p,o,t,J,f,i,j,l,m,n,g,ds,S',k ds S' w|z]
def aan{pins:Pins}{W g}(h1:∀G S,W.nx G S->g.nx G S)(h2:∀d S,W.rt d S->g.rt d S)(h:∀G S,W.bk G S->g.bk G S)(i:∀G S,W.ct G S->g.ct G S)(q:SP X pins (ends X.K O H W) f s'):SP X pins (ends X.K O H g) f s':=by
 cases f with
 | next=>obtain⟨e,a,I,b,G,c,w,q⟩:=q;exact%[e,a,I,b,G,c,h1 _ _ w|q]
 | brk=>obtain⟨e,a,I,b,G,c,w,q⟩:=q;exact%[e,a,I,b,G,c,h _ _ w|q]
 | cont=>obtain⟨e,a,I,b,G,c,w,q⟩:=q;exact%[e,a,I,b,G,c,i _ _ w|q]
 | ret u=>obtain⟨v,e,a,I,r,b,d,c,w,q⟩:=q;exact%[v,e,a,I,r,b,d,c,h2 _ _ w|q]
def Rn.mono{st}{W a}(h:Rn X Γ S st W)(h1:∀G S,W.nx G S->a.nx G S)(h2:∀d S,W.rt d S->a.rt d S)(e:∀G S,W.bk G S->a.bk G S)(f:∀G S,W.ct G S->a.ct G S):Rn X Γ S st a:=λ b s i H O I c g=>
 thn (h b s i H O I c g) λ _ _ q=>aan h1 h2 e f q
def Rw{W}(h:Ev X Γ S a λ x S1=>Ev X Γ S1 b λ y S2=>cA X op x y S2 (asB λ k S3=>(k=false->W false S3)/\(k=true->Ev X Γ S3 c λ t S4=>cA X m y t S4 (asB W))))
 (hm:lastMarks [op,m] [b,c]=false):Ts X Γ S (.Compare a [op,m] [b,c] J) W:=by
 intro e s B H O I l st;refine isTrue_chain (rs:=[]) (thn (h e s B H O I l st) λ u s1 d=>?_) hm;obtain⟨v,R,Y,r1,O1,x,S1,hb,f,D,o⟩:=d;refine test_link (thn (hb e s1 B R O1 Y (l.mono f) D) λ Q s2 d=>?_);obtain⟨w,T,Z,P,O2,y,S2,hw,g,E,j⟩:=d;refine thn (hw e s2 B T O2 v w u Q Z E (o.mono g) j r1 P) λ _ s3 d=>?_;obtain⟨z,L,M,r3,N,d3,S3,⟨k,C,k1,k2⟩,i,n,p⟩:=d;subst C;cases p;cases r3;refine gy ?_
 cases k with
 | false=>exact ite_ff %[L,M,N,S3,k1 rfl,(f.trans g).trans i|n]
 | true=>refine ite_tt (test_last (thn (k2 rfl e s3 B L N M (((l.mono f).mono g).mono i) n) λ u4 s4 d=>?_));obtain⟨w4,U,I4,r4,O4,t,S4,h4,A,F,q⟩:=d;refine thn (h4 e s4 B U O4 w w4 Q u4 I4 F ((j.mono i).mono A) q P r4) λ _ s5 d=>?_;obtain⟨z5,V,I5,r5,O5,d5,S5,⟨k,C,w5⟩,K,G,r⟩:=d;subst C;cases r;cases r5;exact gy %[V,I5,O5,S5,w5,(((f.trans g).trans i).trans A).trans K|G]
end
def bII(x y:D)(k:Int->Int->Prop):Prop:=match x with
 | .int i=>(match y with
   | .int j=>k i j
   | _=>False)
 | _=>False
def gA(h:bII x y k):∃i j,x=.int i/\y=.int j/\k i j:=by cases x<;>first | exact h.elim | (cases y<;>first | exact h.elim | exact%[_,_,rfl,rfl|h])
def bTu(x:D)(k:List D->Prop):Prop:=match x with
 | .tup a=>k a
 | _=>False
def xg(h:bTu x k):∃a,x=.tup a/\k a:=by cases x<;>first | exact h.elim | exact%[_,rfl|h]
def bLs(x:D)(k:List D->Prop):Prop:=match x with
 | .lst a=>k a
 | _=>False
def KQ(h:bLs x k):∃a,x=.lst a/\k a:=by cases x<;>first | exact h.elim | exact%[_,rfl|h]
def bIn(x:D)(k:Int->Prop):Prop:=match x with
 | .int a=>k a
 | _=>False
def XR(h:bIn x k):∃a,x=.int a/\k a:=by cases x<;>first | exact h.elim | exact%[_,rfl|h]
def Uj(x:D)(a b c:Prop):Prop:=match x with
 | .int _=>a
 | .tup _=>b
 | _=>c
def Gj(h:Uj x a b c):a\/b\/c:=by cases x<;>first | exact .inl h | exact .inr (.inl h) | exact .inr (.inr h)
def WN(op:Operator)(x y:D)(S:Store)(W:WD):Prop:=match op with
 | .Add=>Uj x (bII x y λ i j=>W (.int (i+j)) S) (bTu x λ a=>bTu y λ b=>a.length+b.length<=1000000/\W (.tup (a++b)) S) (bLs x λ a=>bLs y λ b=>a.length+b.length<=1000000/\W (.lst (a++b)) S)
 | .Sub=>bII x y λ i j=>W (.int (i-j)) S
 | .Mult=>Uj x (bII x y λ i j=>CMul i j/\W (.int (i*j)) S) (bTu x λ a=>bIn y λ n=>(-(2 ^ 63)<=n/\n<2 ^ 63)/\a.length*n.toNat<=1000000/\W (.tup (List.replicate n.toNat a).flatten) S) False
 | .Mod=>bII x y λ i j=>0<j/\W (.int (i % j)) S
 | .FloorDiv=>bII x y λ i j=>(0<j/\j<1073741824)/\W (.int (i/j)) S
 | .Pow=>bII x y λ i j=>CPow i j/\W (.int (i ^ j.toNat)) S
 | _=>False
def U9(h:WN op x y S W):fV X op x y S W:=by
 cases op<;>first | exact(show False from h).elim | skip
 {rcases Gj h with h | h | h;{obtain⟨i,j,rfl,rfl,h⟩:=gA h;exact abU h};{obtain⟨a,rfl,c⟩:=xg h;obtain⟨b,rfl,h2⟩:=xg c;exact abm h2.1 h2.2};{obtain⟨a,rfl,c⟩:=KQ h;obtain⟨b,rfl,h2⟩:=KQ c;exact abf h2.1 h2.2}};{obtain⟨i,j,rfl,rfl,h⟩:=gA h;exact aco h};{rcases Gj h with h | h | h;{obtain⟨i,j,rfl,rfl,h⟩:=gA h;exact abW h.1 h.2};{obtain⟨a,rfl,c⟩:=xg h;obtain⟨b,rfl,h2⟩:=XR c;exact ZP h2.1 h2.2.1 h2.2.2};{exact h.elim}};all_goals obtain⟨i,j,rfl,rfl,h⟩:=gA h
 all_goals first | exact abG h.1 h.2 | exact aaL h.1 h.2 | exact abO h.1 h.2
def Uw(x y:D)(S:Store)(W:WD):Prop:=match x,y with
 | .tup a,.int i=>∃d,atI a i=some d/\W d S
 | .lst a,.int i=>∃d,atI a i=some d/\W d S
 | .loc k,.int i=>∃a d,S[k]? =some a/\atI a i=some d/\W d S
 | _,_=>False
def Xv(h:Uw x y S W):IxW X a b x y S W:=by unfold Uw at h;split at h;{obtain⟨d,c,e⟩:=h;exact ab6 c e};{obtain⟨d,c,e⟩:=h;exact ab7 c e};{obtain⟨g,d,c,e,f⟩:=h;exact acv c e f};{exact h.elim}
def VJ(x:D)(l h:af5)(S:Store)(W:WD):Prop:=match x with
 | .tup a=>W (.tup (cutD a l h)) S
 | .lst a=>W (.lst (cutD a l h)) S
 | .loc k=>∃a,S[k]? =some a/\W (.lst (cutD a l h)) S
 | _=>False
def ab8{lo hi}(d:S[k]? =some ds)(w:W (.lst (cutD ds lo hi)) S):SlW X (.loc k) lo hi S W:=by intro a s t H O v u o q n I b l m f h i;obtain⟨p,rfl,c⟩:=cV l;obtain⟨r,g,j⟩:=b.obj k p ds c d;exact J1 a s t H _ u o q lo hi n _ I m f h i %[p,r,rfl,SqL.of g|λ x e=>jb w b e (xQ j lo hi)]
def Yu(h:VJ x l r S W):SlW X x l r S W:=by unfold VJ at h;split at h;{exact ab5 h};{exact acb h};{obtain⟨c,a,b⟩:=h;exact ab8 a b};{exact h.elim}
inductive Ty where
 | int | bool | tuple | list | str
 deriving DecidableEq
def Ty.id:Ty->String
 | .int=>"int" | .bool=>"bool" | .tuple=>"tuple" | .list=>"list" | .str=>"str"
def Ty.nm:Ty->Str
 | .int=>"int" | .bool=>"bool" | .tuple=>"tuple" | .list=>"list" | .str=>"str"
def isD:Ty->D->Bool
 | .int,.int _=>true | .int,.bl _=>true | .bool,.bl _=>true | .tuple,.tup _=>true | .list,.lst _=>true | .list,.loc _=>true | .str,.str _=>true | _,_=>false
def aaH(T:Ty)(x:D):isi (tyD x) T.id=isD T x:=by cases T<;>cases x<;>rfl
def Ty.isT(T:Ty):DL.isT T.id=true:=by cases T<;>rfl
def Ty.boot(T:Ty):bootBuiltins T.nm=some (.type T.id):=by cases T<;>decide+kernel
def Ty.ok(T:Ty):(T.nm==("__debug__":Str))=false/\T.nm≠"__name__":=by cases T<;>decide+kernel
end RF
set_option maxHeartbeats 1000000
namespace RF
open PySem PySem.Spec L2 DL
open PyProof.Rows
variable{e:Expr}
def nameP(e:Expr):Option {x:Str×Pos // e=.Name x.1 x.2}:=match e with
 | .Name x p=>some %[(x,p)|rfl]
 | _=>none
def nameV(e:Expr):Option Str:=(nameP e).map (·.1.1)
def jX(h:nameV e=some x):∃p,e=.Name x p:=by obtain⟨z,_,a⟩:=k7.mp h;exact%[z.1.2|by rw[<-a];exact z.2]
def Wz(e:Expr):Option {x:Expr×List Expr×List Keyword×Pos // e=.Call x.1 x.2.1 x.2.2.1 x.2.2.2}:=match e with
 | .Call f es ks q=>some %[(f,es,ks,q)|rfl]
 | _=>none
def anB{α:Type}(o:Option α)(k:α->Bool):Bool:=match o with
 | some a=>k a
 | none=>false
def bz{k:b->Bool}(h:anB o k=true):∃a,o=some a/\k a=true:=by
 cases o with
 | none=>cases h
 | some a=>exact%[a,rfl|h]
def uK{α:Type}(l:List α)(b:Bool):Bool:=l.isEmpty&&b
def jE{l:List a}(h:uK l b=true):l=[]/\b=true:=
 %[List.isEmpty_iff.mp (bD h).1|(bD h).2]
def cO(e:Expr)(k:Str->List Expr->Bool):Bool:=anB (Wz e) λ z=>uK z.1.2.2.1 (anB (nameV z.1.1) λ f=>k f z.1.2.1)
def Ud(h:cO e k=true):∃f p es pos,e=.Call (.Name f p) es [] pos/\k f es=true:=by obtain⟨z,_,a⟩:=bz h;obtain⟨b,c⟩:=jE a;obtain⟨x,d,g⟩:=bz c;obtain⟨p,i⟩:=jX d;exact%[x,p,z.1.2.1,z.1.2.2.2,z.2.trans (by rw[b,i])|g]
@[elab_as_elim] theorem aX{a:Expr->Prop}(h:cO e k=true)(g:∀f p es pos,k f es=true->a (.Call (.Name f p) es [] pos)):a e:=by obtain⟨b,c,d,i,rfl,h⟩:=Ud h;exact g b c d i h
def cM{α:Type}(l:List α)(k:α->Bool):Bool:=match l with
 | [a]=>k a
 | _=>false
def fG{k:b->Bool}(h:cM l k=true):∃a,l=[a]/\k a=true:=by
 cases l with
 | nil=>cases h
 | cons a l=>cases l with
   | nil=>exact%[a,rfl|h]
   | cons=>cases h
@[elab_as_elim] theorem bK{b:List c->Prop}(h:cM l k=true)(g:∀a,k a=true->b [a]):b l:=by obtain⟨d,rfl,h⟩:=fG h;exact g d h
def two2{α:Type}(l:List α)(k:α->α->Bool):Bool:=match l with
 | [a,b]=>k a b
 | _=>false
def two2_of{k:c->c->Bool}(h:two2 l k=true):∃a b,l=[a,b]/\k a b=true:=by
 cases l with
 | nil=>cases h
 | cons a l=>cases l with
   | nil=>cases h
   | cons b l=>cases l with
     | nil=>exact%[a,b,rfl|h]
     | cons=>cases h
@[elab_as_elim] theorem two2_ind{c:List d->Prop}(h:two2 l k=true)(g:∀a b,k a b=true->c [a,b]):c l:=by obtain⟨e,f,rfl,h⟩:=two2_of h;exact g e f h
def xT{α:Type}(l:List α)(k:α->List α->Bool):Bool:=match l with
 | a::l=>k a l
 | []=>false
def X8{k:b->List b->Bool}(h:xT l k=true):∃a m,l=a::m/\k a m=true:=by
 cases l with
 | nil=>cases h
 | cons a l=>exact%[a,l,rfl|h]
@[elab_as_elim] theorem nR{b:List c->Prop}(h:xT l k=true)(g:∀a m,k a m=true->b (a::m)):b l:=by obtain⟨d,e,rfl,h⟩:=X8 h;exact g d e h
def tupP(e:Expr):Option {x:List Expr×Nat×Pos // e=.Tuple x.1 x.2.1 x.2.2}:=match e with
 | .Tuple a b c=>some %[(a,b,c)|rfl]
 | _=>none
def zm(e:Expr):Bool:=(tupP e).isSome
def mV(h:zm e=true):∃es k p,e=.Tuple es k p:=by obtain⟨z,_⟩:=Option.isSome_iff_exists.mp h;exact%[_,_,_|z.2]
def acw(e:Expr):Option {x:Expr×Str×Pos // e=.Attribute x.1 x.2.1 x.2.2}:=match e with
 | .Attribute x m p=>some %[(x,m,p)|rfl]
 | _=>none
def Mf(st:Stmt):Option {x:List Expr×Expr×Pos // st=.Assign x.1 x.2.1 x.2.2}:=match st with
 | .Assign a b c=>some %[(a,b,c)|rfl]
 | _=>none
def aaX(st:Stmt):Option (List Expr×Expr):=(Mf st).map λ x=>(x.1.1,x.1.2.1)
def W3{st}(h:aaX st=some (a,e)):∃p,st=.Assign a e p:=by obtain⟨z,_,b⟩:=k7.mp h;have c:z.1.1=a:=ei Prod.fst b;have d:z.1.2.1=e:=ei Prod.snd b;exact%[z.1.2.2|by rw[<-c,<-d];exact z.2]
def setB(st:Stmt)(k:Str->Expr->Bool):Bool:=anB (Mf st) λ z=>cM z.1.1 λ t=>anB (nameV t) λ x=>k x z.1.2.1
def XF{st}(h:setB st k=true):∃x q e p,st=.Assign [.Name x q] e p/\k x e=true:=by obtain⟨z,_,c⟩:=bz h;obtain⟨t,a,d⟩:=fG c;obtain⟨x,f,g⟩:=bz d;obtain⟨q,b⟩:=jX f;exact%[x,q,z.1.2.1,z.1.2.2,z.2.trans (by rw[a,b])|g]
@[elab_as_elim] theorem Gi{a:Stmt->Prop}{st}(h:setB st k=true)(g:∀x q e p,k x e=true->a (.Assign [.Name x q] e p)):a st:=by obtain⟨b,c,d,f,rfl,h⟩:=XF h;exact g b c d f h
def pM(e:Expr)(k:Expr->Str->Pos->List Expr->Pos->Bool):Bool:=anB (Wz e) λ z=>uK z.1.2.2.1 (anB (acw z.1.1) λ a=>k a.1.1 a.1.2.1 a.1.2.2 z.1.2.1 z.1.2.2.2)
def XH(h:pM e k=true):∃x m p es q,e=.Call (.Attribute x m p) es [] q/\k x m p es q=true:=by obtain⟨z,_,b⟩:=bz h;obtain⟨c,d⟩:=jE b;obtain⟨a,_,f⟩:=bz d;exact%[a.1.1,a.1.2.1,a.1.2.2,z.1.2.1,z.1.2.2.2,z.2.trans (by rw[c];exact ei (Expr.Call · _ _ _) a.2)|f]
@[elab_as_elim] theorem iJ{a:Expr->Prop}(h:pM e k=true)(g:∀x m p es q,k x m p es q=true->a (.Call (.Attribute x m p) es [] q)):a e:=by obtain⟨b,c,d,f,i,rfl,h⟩:=XH h;exact g b c d f i h
def frP(st:Stmt):Option {x:Expr×Expr×List Stmt×List Stmt×Pos // st=.For x.1 x.2.1 x.2.2.1 x.2.2.2.1 x.2.2.2.2}:=match st with
 | .For t it b els p=>some %[(t,it,b,els,p)|rfl]
 | _=>none
def frB(st:Stmt)(k:Expr->Expr->List Stmt->Bool):Bool:=anB (frP st) λ z=>uK z.1.2.2.2.1 (k z.1.1 z.1.2.1 z.1.2.2.1)
def abd{st}(h:frB st k=true):∃t it b p,st=.For t it b [] p/\k t it b=true:=by obtain⟨z,_,a⟩:=bz h;obtain⟨c,d⟩:=jE a;exact%[z.1.1,z.1.2.1,z.1.2.2.1,z.1.2.2.2.2,z.2.trans (by rw[c])|d]
@[elab_as_elim] theorem xr{a:Stmt->Prop}{st}(h:frB st k=true)(g:∀t it b p,k t it b=true->a (.For t it b [] p)):a st:=by obtain⟨c,d,e,f,rfl,h⟩:=abd h;exact g c d e f h
def sbP(e:Expr):Option {x:Expr×Expr×Pos // e=.Subscript x.1 x.2.1 x.2.2}:=match e with
 | .Subscript x y p=>some %[(x,y,p)|rfl]
 | _=>none
def acH(st:Stmt):Option {x:Expr×Operator×Expr×Pos // st=.AugAssign x.1 x.2.1 x.2.2.1 x.2.2.2}:=match st with
 | .AugAssign t o e p=>some %[(t,o,e,p)|rfl]
 | _=>none
def aa4(st:Stmt):Option (Expr×Operator×Expr):=(acH st).map λ x=>(x.1.1,x.1.2.1,x.1.2.2.1)
def Zc{st}(h:aa4 st=some (t,o,e)):∃p,st=.AugAssign t o e p:=by obtain⟨z,_,a⟩:=k7.mp h;have b:z.1.1=t:=ei Prod.fst a;have c:z.1.2.1=o:=ei (λ z=>z.2.1) a;have d:z.1.2.2.1=e:=ei (λ z=>z.2.2) a;exact%[z.1.2.2.2|by rw[<-b,<-c,<-d];exact z.2]
def dctP(e:Expr):Option {x:List (Option Expr)×List Expr×Pos // e=.Dict x.1 x.2.1 x.2.2}:=match e with
 | .Dict ks vs p=>some %[(ks,vs,p)|rfl]
 | _=>none
def LR(e:Expr):Option (List (Option Expr)×List Expr):=(dctP e).map λ x=>(x.1.1,x.1.2.1)
def yE(h:LR e=some (ks,vs)):∃p,e=.Dict ks vs p:=by obtain⟨z,_,a⟩:=k7.mp h;have b:z.1.1=ks:=ei Prod.fst a;have c:z.1.2.1=vs:=ei Prod.snd a;exact%[z.1.2.2|by rw[<-b,<-c];exact z.2]
def ixB(st:Stmt)(k:Expr->Expr->Expr->Bool):Bool:=anB (Mf st) λ z=>cM z.1.1 λ t=>anB (sbP t) λ q=>k q.1.1 q.1.2.1 z.1.2.1
def aaQ{st}(h:ixB st k=true):∃x y q e p,st=.Assign [.Subscript x y q] e p/\k x y e=true:=by obtain⟨z,_,g⟩:=bz h;obtain⟨t,a,b⟩:=fG g;obtain⟨q,_,c⟩:=bz b;exact%[q.1.1,q.1.2.1,q.1.2.2,z.1.2.1,z.1.2.2,z.2.trans (by rw[a];exact ei (Stmt.Assign [·] _ _) q.2)|c]
@[elab_as_elim] theorem sZ{a:Stmt->Prop}{st}(h:ixB st k=true)(g:∀x y q e p,k x y e=true->a (.Assign [.Subscript x y q] e p)):a st:=by obtain⟨b,c,d,f,i,rfl,h⟩:=aaQ h;exact g b c d f i h
def cmP(e:Expr):Option {x:Expr×List CmpOp×List Expr×Pos // e=.Compare x.1 x.2.1 x.2.2.1 x.2.2.2}:=match e with
 | .Compare l os rs p=>some %[(l,os,rs,p)|rfl]
 | _=>none
def cm1(e:Expr)(k:Expr->CmpOp->Expr->Bool):Bool:=anB (cmP e) λ z=>cM z.1.2.1 λ o=>cM z.1.2.2.1 λ r=>k z.1.1 o r
def aam(h:cm1 e k=true):∃l o r p,e=.Compare l [o] [r] p/\k l o r=true:=by obtain⟨z,_,g⟩:=bz h;obtain⟨o,a,c⟩:=fG g;obtain⟨r,b,d⟩:=fG c;exact%[z.1.1,o,r,z.1.2.2.2,z.2.trans (by rw[a,b])|d]
@[elab_as_elim] theorem sH{a:Expr->Prop}(h:cm1 e k=true)(g:∀l o r p,k l o r=true->a (.Compare l [o] [r] p)):a e:=by obtain⟨b,c,d,f,rfl,h⟩:=aam h;exact g b c d f h
def cm2(e:Expr)(k:Expr->CmpOp->CmpOp->Expr->Expr->Bool):Bool:=anB (cmP e) λ z=>two2 z.1.2.1 λ o p=>two2 z.1.2.2.1 λ m r=>k z.1.1 o p m r
def aaa(h:cm2 e k=true):∃l o p m r q,e=.Compare l [o,p] [m,r] q/\k l o p m r=true:=by obtain⟨z,_,g⟩:=bz h;obtain⟨o,p,a,c⟩:=two2_of g;obtain⟨m,r,b,d⟩:=two2_of c;exact%[z.1.1,o,p,m,r,z.1.2.2.2,z.2.trans (by rw[a,b])|d]
@[elab_as_elim] theorem Lf{a:Expr->Prop}(h:cm2 e k=true)(g:∀l o p m r q,k l o p m r=true->a (.Compare l [o,p] [m,r] q)):a e:=by obtain⟨b,c,d,f,i,j,rfl,h⟩:=aaa h;exact g b c d f i j h
end RF
set_option maxHeartbeats 4000000
namespace RF
open PySem PySem.Spec L2 DL
open PyProof.Rows
variable{ds:List D}{S:Store}{x y:D}{W:Bool -> Store -> Prop}
mutual
def eqD:D->D->Bool
 | .non,.non=>true
 | .bl a,.bl b=>a==b
 | .int a,.int b=>a==b
 | .bl a,.int b=>(if a then 1 else 0)==b
 | .int a,.bl b=>a==(if b then 1 else 0)
 | .str a,.str b=>a==b
 | .tup a,.tup b=>dg a b
 | .lst a,.lst b=>dg a b
 | .dic,.dic=>true
 | _,_=>false
def dg:List D->List D->Bool
 | [],[]=>true
 | a::as,b::bs=>eqD a b&&dg as bs
 | _,_=>false
end
mutual
def okD:D->Bool
 | .tup ds=>bW ds
 | .lst ds=>bW ds
 | .loc _=>false
 | .dic=>false
 | .dlo _=>false
 | _=>true
def bW:List D->Bool
 | []=>true
 | d::ds=>okD d&&bW ds
end
mutual
inductive Sn(K:ae1)(H:Hp):V->D->Prop
 | non:Sn K H .non .non
 | bl(b:Bool):Sn K H (.bl b) (.bl b)
 | int(i:Int):Sn K H (.int i) (.int i)
 | str(x:Str):Sn K H (.str x) (.str x)
 | tup{a:Addr}{xs:List V}{ds:List D}(h:SqT K H a xs)(r:Sns K H xs ds):Sn K H (.ref a) (.tup ds)
 | lst{a:Addr}{xs:List V}{ds:List D}(h:SqL K H a xs)(r:Sns K H xs ds):Sn K H (.ref a) (.lst ds)
inductive Sns(K:ae1)(H:Hp):List V->List D->Prop
 | nil:Sns K H [] []
 | cons{v:V}{d:D}{vs:List V}{ds:List D}(r:Sn K H v d)(t:Sns K H vs ds):Sns K H (v::vs) (d::ds)
end
section
variable{K:PySem.W.Frag}{H:Hp}{O:Own}
def Sns.ind{P:List V->List D->Prop}(n:P [] [])(c:∀{v:V}{d:D}{vs:List V}{ds:List D},Sn K H v d->Sns K H vs ds->P vs ds->P (v::vs) (d::ds))(h:Sns K H vs ds):P vs ds:=
 Sns.rec (motive_1:=λ _ _ _=>True) (motive_2:=λ vs ds _=>P vs ds) trivial (λ _=>trivial) (λ _=>trivial) (λ _=>trivial) (λ _ _ _=>trivial) (λ _ _ _=>trivial) n (λ r t _ a=>c r t a) h
def Sns.length(h:Sns K H vs ds):vs.length=ds.length:=
 h.ind (P:=λ vs ds=>vs.length=ds.length) rfl λ _ _ i=>ei Nat.succ i
def Sns.get{i:Nat}(h:Sns K H vs ds)(e:%[|28]):∃v,vs[i]? =some v/\Sn K H v d:=by
 revert i;refine h.ind (P:=λ vs ds=>∀{i:Nat},%[|28]->∃v,vs[i]? =some v/\Sn K H v d) (λ e=>by simp at e) λ r t a i e=>?_
 cases i with
 | zero=>exact%[_,rfl|cc e▸r]
 | succ i=>exact a e
def Dk(h:okD d=true)(r:Rep K O H v d):Sn K H v d:=
 Rep.rec (motive_1:=λ v d _=>okD d=true->Sn K H v d) (motive_2:=λ e c _=>bW c=true->Sns K H e c) (λ _=>.non) (λ b _=>.bl b) (λ i _=>.int i) (λ x _=>.str x) (λ a _ i h=>.tup a.sq (i h)) (λ a _ i h=>.lst a.sq (i h)) (λ _ h=>by cases h) (λ _ _ h=>by cases h) (λ _ _ h=>by cases h) (λ _=>.nil) (λ _ _ i j h=>.cons (i (bD h).1) (j (bD h).2)) r h
def Yn(h:bW ds=true)(r:Reps K O H vs ds):Sns K H vs ds:=
 r.ind (P:=λ vs ds=>bW ds=true->Sns K H vs ds) (λ _=>.nil) (λ r _ i h=>.cons (Dk (bD h).1 r) (i (bD h).2)) h
end
section
variable{X:Cx}{pins:Pins}{s:Shared}{σ:DL.St}{H:Hp}
mutual
theorem pU(I:%[|3]){v:V}{x y:D}(a:Sn X.K H v x)(b:Sn X.K H v y):x=y:=by
 cases a with
 | non=>cases b;rfl
 | bl=>cases b;rfl
 | int=>cases b;rfl
 | str=>cases b;rfl
 | tup h r=>
   cases b with
   | tup h' r'=>have e:=I.tuple_inj h h';subst e;rw[yp I r r']
   | lst h' r'=>exfalso;obtain⟨its,_,⟨o,h2,h3,_⟩,_⟩:=I.tuple h;obtain⟨its2,_,pl,_⟩:=I.list h';obtain⟨o',h2',h3',_⟩:=pl.isList;rw[h2]at h2';cases h2';rw[h3]at h3';exact absurd h3' %[|1]
 | lst h r=>
   cases b with
   | lst h' r'=>have e:=I.list_inj h h';subst e;rw[yp I r r']
   | tup h' r'=>exfalso;obtain⟨its,_,⟨o,h2,h3,_⟩,_⟩:=I.tuple h';obtain⟨its2,_,pl,_⟩:=I.list h;obtain⟨o',h2',h3',_⟩:=pl.isList;rw[h2]at h2';cases h2';rw[h3]at h3';exact absurd h3' %[|1]
theorem yp(I:%[|3]){vs:List V}{xs ys:List D}(a:Sns X.K H vs xs)(b:Sns X.K H vs ys):xs=ys:=by
 cases a with
 | nil=>cases b;rfl
 | cons r t=>cases b with| cons r' t'=>rw[pU I r r',yp I t t']
end
end
def Zo(a b:List D):eqD (.tup a) (.tup b)=dg a b:=rfl
def XD(a b:List D):eqD (.lst a) (.lst b)=dg a b:=rfl
mutual
theorem nJ:∀(x:D),aA x=true->eqD x x=true
 | .non,_=>rfl
 | .bl b,_=>f7 b
 | .int i,_=>f7 i
 | .str s,_=>f7 s
 | .tup ds,h=>qz ds h
 | .lst ds,h=>qz ds h
 | .loc _,h=>by cases h
 | .dlo _,h=>by cases h
 | .dic,_=>rfl
theorem qz:∀(xs:List D),aa xs=true->dg xs xs=true
 | [],_=>rfl
 | d::ds,h=>by obtain⟨h1,h2⟩:=bD (show(aA d&&aa ds)=true from h);show(eqD d d&&dg ds ds)=true;rw[nJ d h1,qz ds h2];rfl
end
abbrev eqJ(ds es:List D)(j:Nat):Bool:=eqD (ds.getD j .non) (es.getD j .non)
def TX(d e:D)(ds es:List D):(eqJ (d::ds) (e::es)) ∘ Nat.succ=eqJ ds es:=by funext j;simp[eqJ,List.getD]
theorem nu:∀(ds es:List D),((List.range (min ds.length es.length)).all (eqJ ds es)&&ds.length==es.length)=dg ds es
 | [],[]=>by simp[dg]
 | [],e::es=>by simp[dg]
 | d::ds,[]=>by simp[dg]
 | d::ds,e::es=>by
   have f:=nu ds es;have a:min (d::ds).length (e::es).length=min ds.length es.length+1:=by simp only[dS];omega
   rw[a,List.range_succ_eq_map,ij,List.all_map,TX];have b:((d::ds).length==(e::es).length)=(ds.length==es.length):=by simp
   have c:eqJ (d::ds) (e::es) 0=eqD d e:=by simp[eqJ,List.getD]
   rw[b,c,Bool.and_assoc,f];simp only[dg]
def Uu(h:ds.length=es.length):(List.range ds.length).all (eqJ ds es)=dg ds es:=by rw[<-nu ds es,<-h,Nat.min_self,f7,d6]
def Y9(h:ds.length≠es.length):dg ds es=false:=by
 rw[<-nu ds es];have:(ds.length==es.length)=false:=by simpa using h
 rw[this,Bool.and_false]
section
variable{X:Cx}
def yf(ih:∀(x y:D),deep x<=n->∀{pins:Pins}{s:ae4}{σ:DL.St}{H:Hp}{v w:V}{u O:Value}{A:ag1},%[|3]->Sn X.K H v x->Sn X.K H w y->RelV v u->RelV w O->A.units+n<cLine->SeqAt.EqAt A s u O (eqD x y))
 (x y:D)(U:deep x<=n+1){pins:Pins}{σ:DL.St}(I:%[|3])(r1:Sn X.K H v x)(M:Sn X.K H w y)(N:RelV v u)(f:RelV w O)(hu:A.units+(n+1)<cLine):
 SeqAt.RcAt A s u O (eqD x y)/\SeqAt.RcNeAt A s u O (!eqD x y):=by
 have d:A.units<cLine:=%[|0]
 have B:∀{o r:List D}{R S:List V}{l c:ae5},aR o<=n->Sns X.K H R o->Sns X.K H S r->Vals R l->Vals S c->∀j(T:j<l.toArray.size)(m:j<c.toArray.size),SeqAt.EqAt A.in1 s l.toArray[j] c.toArray[j] (eqJ o r j):=by
  intro o r R S l c L C p E q j j1 j2;have F:l.length=o.length:=by rw[<-E.length,C.length]
  have K:c.length=r.length:=by rw[<-q.length,p.length]
  have W:j<o.length:=by simpa[F]using j1
  have P:j<r.length:=by simpa[K]using j2
  obtain⟨z1,G,Y⟩:=C.get (y3 W);obtain⟨z2,J,Z⟩:=p.get (y3 P);obtain⟨u1,c1,d1⟩:=E.get G;obtain⟨u2,c2,d2⟩:=q.get J;have e1:l.toArray[j]=u1:=by have:=(z0.mp c1).2;simpa using this
  have e2:c.toArray[j]=u2:=by have:=(z0.mp c2).2;simpa using this
  rw[e1,e2];have e3:eqJ o r j=eqD o[j] r[j]:=by simp[eqJ,List.getD,W,P]
  rw[e3];have aa:=nF (y3 W);exact ih o[j] r[j] %[|0] I Y Z d1 d2 (by show A.units+1+n<cLine;omega)
 cases r1 with
 | non=>
   cases N
   cases M with
   | non=>cases f;exact%[SeqAt.RcAt.none_none|SeqAt.RcNeAt.none_none]
   | bl b=>cases f;exact%[SeqAt.RcAt.none_bool b|SeqAt.RcNeAt.none_bool b]
   | int i=>obtain⟨h,rfl⟩:=f;exact%[SeqAt.RcAt.none_int i h|SeqAt.RcNeAt.none_int i h]
   | str i=>obtain⟨h,rfl⟩:=f;exact%[SeqAt.RcAt.none_str i h|SeqAt.RcNeAt.none_str i h]
   | tup m p=>cases f;obtain⟨c,q,g,_⟩:=I.tuple m;exact%[SeqAt.RcAt.none_tuple (show s.heap.IsTuple _ c.toArray from g) d|SeqAt.RcNeAt.none_tuple (show s.heap.IsTuple _ c.toArray from g) d]
   | lst m p=>cases f;obtain⟨c,q,g,_⟩:=I.list m;exact%[SeqAt.RcAt.none_list g.isList d|SeqAt.RcNeAt.none_list g.isList d]
 | bl a=>
   cases N
   cases M with
   | non=>cases f;exact%[SeqAt.RcAt.bool_none a|SeqAt.RcNeAt.bool_none a]
   | bl b=>cases f;exact%[SeqAt.RcAt.bool_bool a b|SeqAt.RcNeAt.bool_bool a b]
   | int i=>obtain⟨h,rfl⟩:=f;exact%[SeqAt.RcAt.bool_int a i h|SeqAt.RcNeAt.bool_int a i h]
   | str i=>obtain⟨h,rfl⟩:=f;exact%[SeqAt.RcAt.bool_str a i h|SeqAt.RcNeAt.bool_str a i h]
   | tup m p=>cases f;obtain⟨c,q,g,_⟩:=I.tuple m;exact%[SeqAt.RcAt.bool_tuple a (show s.heap.IsTuple _ c.toArray from g) d|SeqAt.RcNeAt.bool_tuple a (show s.heap.IsTuple _ c.toArray from g) d]
   | lst m p=>cases f;obtain⟨c,q,g,_⟩:=I.list m;exact%[SeqAt.RcAt.bool_list a g.isList d|SeqAt.RcNeAt.bool_list a g.isList d]
 | int a=>
   obtain⟨t,rfl⟩:=N
   cases M with
   | non=>cases f;exact%[SeqAt.RcAt.int_none a t|SeqAt.RcNeAt.int_none a t]
   | bl b=>cases f;exact%[SeqAt.RcAt.int_bool a t b|SeqAt.RcNeAt.int_bool a t b]
   | int i=>obtain⟨h,rfl⟩:=f;exact%[SeqAt.RcAt.int_int a t i h|SeqAt.RcNeAt.int_int a t i h]
   | str i=>obtain⟨h,rfl⟩:=f;exact%[SeqAt.RcAt.int_str a t i h|SeqAt.RcNeAt.int_str a t i h]
   | tup m p=>cases f;obtain⟨c,q,g,_⟩:=I.tuple m;exact%[SeqAt.RcAt.int_tuple a t (show s.heap.IsTuple _ c.toArray from g) d|SeqAt.RcNeAt.int_tuple a t (show s.heap.IsTuple _ c.toArray from g) d]
   | lst m p=>cases f;obtain⟨c,q,g,_⟩:=I.list m;exact%[SeqAt.RcAt.int_list a t g.isList d|SeqAt.RcNeAt.int_list a t g.isList d]
 | str a=>
   obtain⟨t,rfl⟩:=N
   cases M with
   | non=>cases f;exact%[SeqAt.RcAt.str_none a t|SeqAt.RcNeAt.str_none a t]
   | bl b=>cases f;exact%[SeqAt.RcAt.str_bool a t b|SeqAt.RcNeAt.str_bool a t b]
   | int i=>obtain⟨h,rfl⟩:=f;exact%[SeqAt.RcAt.str_int a t i h|SeqAt.RcNeAt.str_int a t i h]
   | str i=>obtain⟨h,rfl⟩:=f;exact%[SeqAt.RcAt.str_str a t i h|SeqAt.RcNeAt.str_str a t i h]
   | tup m p=>cases f;obtain⟨c,q,g,_⟩:=I.tuple m;exact%[SeqAt.RcAt.str_tuple a t (show s.heap.IsTuple _ c.toArray from g) d|SeqAt.RcNeAt.str_tuple a t (show s.heap.IsTuple _ c.toArray from g) d]
   | lst m p=>cases f;obtain⟨c,q,g,_⟩:=I.list m;exact%[SeqAt.RcAt.str_list a t g.isList d|SeqAt.RcNeAt.str_list a t g.isList d]
 | @tup a R o T C=>
   cases N;obtain⟨l,E,k,_⟩:=I.tuple T;have k:s.heap.IsTuple a l.toArray:=k
   cases M with
   | non=>cases f;exact%[SeqAt.RcAt.tuple_none k d|SeqAt.RcNeAt.tuple_none k d]
   | bl b=>cases f;exact%[SeqAt.RcAt.tuple_bool b k d|SeqAt.RcNeAt.tuple_bool b k d]
   | int i=>obtain⟨h,rfl⟩:=f;exact%[SeqAt.RcAt.tuple_int i h k d|SeqAt.RcNeAt.tuple_int i h k d]
   | str i=>obtain⟨h,rfl⟩:=f;exact%[SeqAt.RcAt.tuple_str i h k d|SeqAt.RcNeAt.tuple_str i h k d]
   | @tup b S r m p=>
     cases f;obtain⟨c,q,g,_⟩:=I.tuple m;have g:s.heap.IsTuple b c.toArray:=g;have F:l.toArray.size=o.length:=by rw[x5,<-E.length,C.length]
     have K:c.toArray.size=r.length:=by rw[x5,<-q.length,p.length]
     have L:aR o<=n:=by simp[deep]at U;exact U
     have G:=SeqAt.RcAt.tuples (e:=eqJ o r) k g d (B L C p E q);have J:=SeqAt.RcNeAt.tuples (e:=eqJ o r) k g d (B L C p E q);rw[F,K,nu]at G J;rw[Zo];exact%[G|J]
   | lst m p=>cases f;obtain⟨c,q,g,_⟩:=I.list m;exact%[SeqAt.RcAt.tuple_list k g.isList d|SeqAt.RcNeAt.tuple_list k g.isList d]
 | @lst a R o T C=>
   cases N;obtain⟨l,E,k,_⟩:=I.list T;have k:=k.isList
   cases M with
   | non=>cases f;exact%[SeqAt.RcAt.list_none k d|SeqAt.RcNeAt.list_none k d]
   | bl b=>cases f;exact%[SeqAt.RcAt.list_bool b k d|SeqAt.RcNeAt.list_bool b k d]
   | int i=>obtain⟨h,rfl⟩:=f;exact%[SeqAt.RcAt.list_int i h k d|SeqAt.RcNeAt.list_int i h k d]
   | str i=>obtain⟨h,rfl⟩:=f;exact%[SeqAt.RcAt.list_str i h k d|SeqAt.RcNeAt.list_str i h k d]
   | tup m p=>cases f;obtain⟨c,q,g,_⟩:=I.tuple m;exact%[SeqAt.RcAt.list_tuple k (show s.heap.IsTuple _ c.toArray from g) d|SeqAt.RcNeAt.list_tuple k (show s.heap.IsTuple _ c.toArray from g) d]
   | @lst b S r m p=>
     cases f;obtain⟨c,q,g,_⟩:=I.list m;have g:=g.isList;have F:l.toArray.size=o.length:=by rw[x5,<-E.length,C.length]
     have K:c.toArray.size=r.length:=by rw[x5,<-q.length,p.length]
     have L:aR o<=n:=by simp[deep]at U;exact U
     rw[XD];by_cases Q:o.length=r.length;{have G:=SeqAt.RcAt.lists (e:=eqJ o r) k g (by rw[F,K,Q]) d (B L C p E q);have J:=SeqAt.RcNeAt.lists (e:=eqJ o r) k g (by rw[F,K,Q]) d (B L C p E q);rw[F,Uu Q]at G J;exact%[G|J]}
     . have z:(l.toArray.size !=c.toArray.size)=true:=by rw[F,K];simpa using Q
       rw[Y9 Q];exact%[SeqAt.RcAt.lists_lengths k g z d|SeqAt.RcNeAt.lists_lengths k g z d]
def Dr:∀{K:ae1}{H:Hp}{v:V}{x:D},Sn K H v x->aA x=true:=by intro K H v x h;refine Sn.rec (motive_1:=λ v x _=>aA x=true) (motive_2:=λ j g _=>aa g=true) ?_ ?_ ?_ ?_ ?_ ?_ ?_ ?_ h;{simp[aA]};{intro b;simp[aA]};{intro b;simp[aA]};{intro b;simp[aA]};{intro a g i h r c;simpa[aA]using c};{intro a g i h r c;simpa[aA]using c};{simp[aa]};{intro v d j i r t e f;simp[aa,e,f]}
def Nh (n:Nat):∀(x y:D),deep x<=n->∀{pins:Pins}{s:ae4}{σ:DL.St}{H:Hp}{v w:V}{u E:Value}{A:ag1},%[|3]->Sn X.K H v x->Sn X.K H w y->RelV v u->RelV w E->A.units+n<cLine->SeqAt.EqAt A s u E (eqD x y):=by
 induction n with
 | zero=>
   intro x y C pins s σ H v w u E A I B l m c J
   cases B with
   | non=>
     cases m
     cases l with
     | non=>cases c;exact mh _
     | bl b=>cases c;exact SeqAt.EqAt.none_bool b
     | int i=>obtain⟨g,rfl⟩:=c;exact SeqAt.EqAt.none_int i g
     | str i=>obtain⟨g,rfl⟩:=c;exact SeqAt.EqAt.none_str i g
     | tup f k=>cases c;obtain⟨d,o,h,_⟩:=I.tuple f;exact SeqAt.EqAt.none_tuple (show s.heap.IsTuple _ d.toArray from h) %[|0]
     | lst f k=>cases c;obtain⟨d,o,h,_⟩:=I.list f;exact SeqAt.EqAt.none_list h.isList %[|0]
   | bl a=>
     cases m
     cases l with
     | non=>cases c;exact SeqAt.EqAt.bool_none a
     | bl b=>cases c;exact SeqAt.EqAt.bool_bool a b
     | int i=>obtain⟨g,rfl⟩:=c;exact SeqAt.EqAt.bool_int a i g
     | str i=>obtain⟨g,rfl⟩:=c;exact SeqAt.EqAt.bool_str a i g
     | tup f k=>cases c;obtain⟨d,o,h,_⟩:=I.tuple f;exact SeqAt.EqAt.bool_tuple a (show s.heap.IsTuple _ d.toArray from h) %[|0]
     | lst f k=>cases c;obtain⟨d,o,h,_⟩:=I.list f;exact SeqAt.EqAt.bool_list a h.isList %[|0]
   | int a=>
     obtain⟨t,rfl⟩:=m
     cases l with
     | non=>cases c;exact SeqAt.EqAt.int_none a t
     | bl b=>cases c;exact SeqAt.EqAt.int_bool a t b
     | int i=>obtain⟨g,rfl⟩:=c;exact SeqAt.EqAt.int_int a t i g
     | str i=>obtain⟨g,rfl⟩:=c;exact SeqAt.EqAt.int_str a t i g
     | tup f k=>cases c;obtain⟨d,o,h,_⟩:=I.tuple f;exact SeqAt.EqAt.int_tuple a t (show s.heap.IsTuple _ d.toArray from h) %[|0]
     | lst f k=>cases c;obtain⟨d,o,h,_⟩:=I.list f;exact SeqAt.EqAt.int_list a t h.isList %[|0]
   | str a=>
     obtain⟨t,rfl⟩:=m
     cases l with
     | non=>cases c;exact SeqAt.EqAt.str_none a t
     | bl b=>cases c;exact SeqAt.EqAt.str_bool a t b
     | int i=>obtain⟨g,rfl⟩:=c;exact SeqAt.EqAt.str_int a t i g
     | str i=>obtain⟨g,rfl⟩:=c;exact SeqAt.EqAt.str_str a t i g
     | tup f k=>cases c;obtain⟨d,o,h,_⟩:=I.tuple f;exact SeqAt.EqAt.str_tuple a t (show s.heap.IsTuple _ d.toArray from h) %[|0]
     | lst f k=>cases c;obtain⟨d,o,h,_⟩:=I.list f;exact SeqAt.EqAt.str_list a t h.isList %[|0]
   | tup _ _=>simp[deep]at C
   | lst _ _=>simp[deep]at C
 | succ n K=>
   intro x y C pins s σ H v w u E A I B l m c J;by_cases q:deep x<=n;{exact K x y q I B l m c %[|0]}
   . have both:=yf K x y C I B l m c J
     cases B with
     | non=>simp[deep]at q
     | bl b=>simp[deep]at q
     | int b=>simp[deep]at q
     | str b=>simp[deep]at q
     | @tup a O M p z=>
       cases m;obtain⟨r,N,j,_⟩:=I.tuple p;have j:s.heap.IsTuple a r.toArray:=j
       cases l with
       | non=>cases c;exact SeqAt.EqAt.tuple_none j %[|0]
       | bl b=>cases c;exact SeqAt.EqAt.tuple_bool b j %[|0]
       | int i=>obtain⟨g,rfl⟩:=c;exact SeqAt.EqAt.tuple_int i g j %[|0]
       | str i=>obtain⟨g,rfl⟩:=c;exact SeqAt.EqAt.tuple_str i g j %[|0]
       | @tup b L G f k=>cases c;by_cases e:a=b;{subst e;have F:=pU I (.tup p z) (.tup f k);rw[<-F,nJ _ (Dr (.tup p z))];exact mh _};{exact SeqAt.EqAt.of_refs e both.1}
       | @lst b L G f k=>cases c;obtain⟨d,o,h,_⟩:=I.list f;exact SeqAt.EqAt.tuple_list j h.isList %[|0]
     | @lst a O M p z=>
       cases m;obtain⟨r,N,j,_⟩:=I.list p;have j:=j.isList
       cases l with
       | non=>cases c;exact SeqAt.EqAt.list_none j %[|0]
       | bl b=>cases c;exact SeqAt.EqAt.list_bool b j %[|0]
       | int i=>obtain⟨g,rfl⟩:=c;exact SeqAt.EqAt.list_int i g j %[|0]
       | str i=>obtain⟨g,rfl⟩:=c;exact SeqAt.EqAt.list_str i g j %[|0]
       | tup f k=>cases c;obtain⟨d,o,h,_⟩:=I.tuple f;exact SeqAt.EqAt.list_tuple j (show s.heap.IsTuple _ d.toArray from h) %[|0]
       | @lst b L G f k=>cases c;by_cases e:a=b;{subst e;have F:=pU I (.lst p z) (.lst f k);rw[<-F,nJ _ (Dr (.lst p z))];exact mh _};{exact SeqAt.EqAt.of_refs e both.1}
def vw(S:Store):D->D
 | .loc k=>match S[k]? with | some ds=>.lst ds | none=>.loc k
 | d=>d
def M8(S:Store)(x y:D):Prop:=okD (vw S x)=true/\okD (vw S y)=true/\deep (vw S x)<=50
def iR{K}(st:StOk K O H S)(r:Rep K O H v x)(h:okD (vw S x)=true):Sn K H v (vw S x):=by
 cases r with
 | @loc a k e=>
   simp only[vw]at h ⊢;have f:k<S.length:=by rw[<-st.len];exact(z0.mp e).1
   obtain⟨l,g,q⟩:=st.obj k a S[k] e (y3 f);rw[y3 f]at h ⊢;exact .lst (SqL.of g) (Yn (by simpa[okD]using h) q)
 | non=>exact .non
 | bl b=>exact .bl b
 | int i=>exact .int i
 | str i=>exact .str i
 | tup c d=>exact Dk h (.tup c d)
 | lst c d=>exact Dk h (.lst c d)
 | dic c j=>simp[vw,okD]at h
 | dlo c _=>simp[vw,okD]at h
def abL(k:%[|36])(h:M8 S x y)(w:W (eqD (vw S x) (vw S y)) S):cA X .Eq x y S (asB W):=by intro b s o H O v m u l I a e f g i;obtain⟨c,d,j⟩:=h;have:=(yf (n:=50) (A:=X.A) (Nh 50) (vw S x) (vw S y) %[|0] I (iR a e c) (iR a f d) g i %[|0]).1;exact this _ _ _ _ %[.bl _,H,I,rfl|Hc %[_,rfl|w] a (.bl _)]
def abI(k:%[|36])(h:M8 S x y)(w:W (!eqD (vw S x) (vw S y)) S):cA X .NotEq x y S (asB W):=by intro b s o H O v m u l I a e f g i;obtain⟨c,d,j⟩:=h;have:=(yf (n:=50) (A:=X.A) (Nh 50) (vw S x) (vw S y) %[|0] I (iR a e c) (iR a f d) g i %[|0]).2;exact this _ _ _ _ %[.bl _,H,I,rfl|Hc %[_,rfl|w] a (.bl _)]
theorem nq:∀{xs:List V}{its:ae5}{i:Nat}{v:V},Vals xs its->xs[i]? =some v->∃y,its[i]? =some y/\RelV v y
 | _,_,_,_,.nil,e=>by simp at e
 | _,_,0,_,.cons a _,e=>by simp at e;subst e;exact%[_,rfl|a]
 | _,_,i+1,v,.cons _ t,e=>by obtain⟨y,b,c⟩:=nq (i:=i) (v:=v) t (by simpa using e);exact%[y,by simpa using b|c]
def K5{pins:Pins}{σ:DL.St}(T:%[|36])(I:%[|3])(Q:Sn X.K H v x)(R:Sn X.K H F (.lst ds))(O:RelV v u)(P:RelV F E)(J:aR ds<=50):
 ∃(l:Addr) (its:ae5) (e:Value->Bool),E=.ref l/\s.heap.IsList l its.toArray/\(∀y,y∈its.toArray->SeqAt.EqAt X.A.in1 s y u (e y))/\its.toArray.any e=ds.any λ d=>eqD d x:=by
 classical
 cases R with
 | @lst a j _ G g=>
   cases P;obtain⟨its,h,N,U⟩:=I.list G;let e:Value->Bool:=λ y=>decide (∃(b:V) (d:D),RelV b y/\Sn X.K H b d/\eqD d x=true);have A:∀(y:Value)(b:V)(d:D),RelV b y->Sn X.K H b d->e y=eqD d x:=by
    intro y b d c f
    cases k:eqD d x with
    | true=>exact cb %[b,d,c,f|k]
    | false=>refine cE ?_;rintro⟨W,S,r,t,m⟩;have p:=r.inj c;subst p;have:=pU I t f;subst this;rw[k]at m;cases m
   refine%[a,its,e,rfl,N.isList,?_|?_]
   . intro y L;have z:y∈its:=by simpa using L
     obtain⟨i,B⟩:=cw z;have q:i<j.length:=by rw[h.length];exact(z0.mp B).1
     obtain⟨d,k⟩:∃d,%[|28]:=%[_|y3 (by rw[<-g.length];exact q)];obtain⟨b,w,f⟩:=g.get k;obtain⟨Y,n,c⟩:=nq h w;rw[B]at n;cases n;rw[A y b d c f];exact Nh 50 d x (cK (nF k) J) I f Q c O (by show X.A.units+1+50<cLine;omega)
   . have C:its.length=ds.length:=by rw[<-h.length,g.length]
     have o:∀(j:List V)(its:ae5)(ds:List D),Vals j its->Sns X.K H j ds->its.any e=ds.any λ d=>eqD d x:=by
      intro j its ds h g
      induction h generalizing ds with
      | nil=>cases g;rfl
      | cons c _ M=>cases g with| cons f K=>rw[ii,ii,A _ _ _ c f,M _ K]
     rw[List.any_toArray];exact o j its ds h g
def acC(k:%[|36])(b:vw S y=.lst ds)(h1:okD (vw S x)=true)(h2:bW ds=true)(g:aR ds<=50)(w:W (ds.any λ d=>eqD d (vw S x)) S):cA X .In x y S (asB W):=by intro c s z H O v t u r I a n o p q;have f:=iR a o (by rw[b];simpa[okD]using h2);rw[b]at f;obtain⟨l,m,e,rfl,j,i,h⟩:=K5 k I (iR a n h1) f p q g;refine SeqAt.in_listAt e j i ?_;rw[h];exact%[.bl _,H,I,rfl|Hc %[_,rfl|w] a (.bl _)]
def abC(k:%[|36])(b:vw S y=.lst ds)(h1:okD (vw S x)=true)(h2:bW ds=true)(g:aR ds<=50)(w:W (!(ds.any λ d=>eqD d (vw S x))) S):cA X .NotIn x y S (asB W):=by intro c s z H O v t u r I a n o p q;have f:=iR a o (by rw[b];simpa[okD]using h2);rw[b]at f;obtain⟨l,m,e,rfl,j,i,h⟩:=K5 k I (iR a n h1) f p q g;refine SeqAt.notIn_listAt e j i ?_;rw[h];exact%[.bl _,H,I,rfl|Hc %[_,rfl|w] a (.bl _)]
end
end RF
namespace RF
open PySem PySem.Spec L2 DL
open PyProof.Rows
variable{X:Cx}
def isN:D->Bool
 | .non=>true
 | _=>false
def abA(w:W (a==b) S):cA X .Is (.bl a) (.bl b) S (asB W):=by
 intro c s l H O v k u j I i d f g h;cases d;cases f;cases g;cases h;refine wpAny_is_plain rfl ?_;have e:(Value.bool a==Value.bool b)=(a==b):=by cases a<;>cases b<;>rfl
 rw[e];exact%[.bl _,H,I,rfl|Hc %[_,rfl|w] i (.bl _)]
def Pj(w:W (!(a==b)) S):cA X .IsNot (.bl a) (.bl b) S (asB W):=by
 intro c s l H O v k u j I i d f g h;cases d;cases f;cases g;cases h;refine wpAny_isNot_plain rfl ?_;have e:(Value.bool a==Value.bool b)=(a==b):=by cases a<;>cases b<;>rfl
 rw[e];exact%[.bl _,H,I,rfl|Hc %[_,rfl|w] i (.bl _)]
def bEq(x y:D)(ki:Int->Int->Prop)(kb:Bool->Bool->Prop)(g:Prop):Prop:=match x with
 | .int i=>(match y with
   | .int j=>ki i j
   | _=>g)
 | .bl i=>(match y with
   | .bl j=>kb i j
   | _=>g)
 | _=>g
def Kv(h:bEq x y b a g):(∃i j,x=.int i/\y=.int j/\b i j)\/(∃i j,x=.bl i/\y=.bl j/\a i j)\/g:=by cases x<;>first | exact .inr (.inr h) | (cases y<;>first | exact .inr (.inr h) | exact .inl %[_,_,rfl,rfl|h] | exact .inr (.inl %[_,_,rfl,rfl|h]))
def bIs(x y:D)(n:Prop)(kb:Bool->Bool->Prop):Prop:=match y with
 | .non=>n
 | .bl j=>(match x with
   | .bl i=>kb i j
   | _=>False)
 | _=>False
def KN(h:bIs x y n a):(y=.non/\n)\/∃i j,x=.bl i/\y=.bl j/\a i j:=by cases y<;>first | exact h.elim | exact .inl %[rfl|h] | (cases x<;>first | exact h.elim | exact .inr %[_,_,rfl,rfl|h])
@[irreducible] noncomputable def bc(op:CmpOp)(x y:D)(S:Store)(W:Bool->%[|4]):Prop:=match op with
  | .Lt=>bII x y λ i j=>W (decide (i<j)) S
  | .LtE=>bII x y λ i j=>W (decide (i<=j)) S
  | .Gt=>bII x y λ i j=>W (decide (j<i)) S
  | .GtE=>bII x y λ i j=>W (decide (j<=i)) S
  | .Eq=>bEq x y (λ i j=>W (decide (i=j)) S) (λ i j=>W (i==j) S) (M8 S x y/\W (eqD (vw S x) (vw S y)) S)
  | .NotEq=>bEq x y (λ i j=>W (!decide (i=j)) S) (λ i j=>W (!(i==j)) S) ((M8 S x y/\W (!eqD (vw S x) (vw S y)) S)\/False)
  | .Is=>bIs x y (W (isN x) S) λ i j=>W (i==j) S
  | .IsNot=>bIs x y (W (!isN x) S) λ i j=>W (!(i==j)) S
  | .In=>∃a,vw S y=.lst a/\okD (vw S x)=true/\bW a=true/\aR a<=50/\W (a.any λ d=>eqD d (vw S x)) S
  | .NotIn=>∃a,vw S y=.lst a/\okD (vw S x)=true/\bW a=true/\aR a<=50/\W (!(a.any λ d=>eqD d (vw S x))) S
def dq(h:∀V:WD,V (.bl b) S->cA X op x y S V)(w:W b S):cA X op x y S (asB W):=h (asB W) %[b,rfl|w]
def iC(a:%[|36])(h:bc op x y S W):cA X op x y S (asB W):=by
 unfold bc at h
 cases op with
 | Lt=>obtain⟨i,j,rfl,rfl,h⟩:=gA h;exact dq (λ _=>ac3) h
 | LtE=>obtain⟨i,j,rfl,rfl,h⟩:=gA h;exact dq (λ _=>adb) h
 | Gt=>obtain⟨i,j,rfl,rfl,h⟩:=gA h;exact dq (λ _=>acZ) h
 | GtE=>obtain⟨i,j,rfl,rfl,h⟩:=gA h;exact dq (λ _=>ac9) h
 | Eq=>rcases Kv h with⟨i,j,rfl,rfl,h⟩ | ⟨i,j,rfl,rfl,h⟩ | h;{exact dq (λ _=>acp) h};{exact dq (λ _=>abH) h};{exact abL a h.1 h.2}
 | NotEq=>rcases Kv h with⟨i,j,rfl,rfl,h⟩ | ⟨i,j,rfl,rfl,h⟩ | h | h;{exact dq (λ _=>aca) h};{exact dq (λ _=>abP) h};{exact abI a h.1 h.2};{exact h.elim}
 | Is=>rcases KN h with⟨rfl,h⟩ | ⟨i,j,rfl,rfl,h⟩;{exact dq (λ V w=>ab2 w) h};{exact abA h}
 | IsNot=>rcases KN h with⟨rfl,h⟩ | ⟨i,j,rfl,rfl,h⟩;{refine dq (λ V w=>Zj ?_) h;cases x<;>exact w};{exact Pj h}
 | In=>obtain⟨g,b,c,d,e,f⟩:=h;exact acC a b c d e f
 | NotIn=>obtain⟨g,b,c,d,e,f⟩:=h;exact abC a b c d e f
section
variable{i j:Int}{a b:Bool}{x y:D}{S:Store}{W:Bool -> Store -> Prop}
def cLt(w:W (decide (i<j)) S):bc .Lt (.int i) (.int j) S W:=by unfold bc;exact w
def cLe(w:W (decide (i<=j)) S):bc .LtE (.int i) (.int j) S W:=by unfold bc;exact w
def cGt(w:W (decide (j<i)) S):bc .Gt (.int i) (.int j) S W:=by unfold bc;exact w
def cEqI(w:W (decide (i=j)) S):bc .Eq (.int i) (.int j) S W:=by unfold bc;exact w
def cNeI(w:W (!decide (i=j)) S):bc .NotEq (.int i) (.int j) S W:=by unfold bc;exact w
def cEqB(w:W (a==b) S):bc .Eq (.bl a) (.bl b) S W:=by unfold bc;exact w
def cNeB(w:W (!(a==b)) S):bc .NotEq (.bl a) (.bl b) S W:=by unfold bc;exact w
def cIsN(w:W (isN x) S):bc .Is x .non S W:=by unfold bc;cases x<;>exact w
def cIsNot(w:W (!isN x) S):bc .IsNot x .non S W:=by unfold bc;cases x<;>exact w
def cIn(h1:vw S y=.lst ds)(h2:okD (vw S x)=true)(a:bW ds=true)(b:aR ds<=50)(w:W (ds.any λ d=>eqD d (vw S x)) S):bc .In x y S W:=by unfold bc;cases x<;>exact%[ds,h1,h2,a,b|w]
def K7(h1:aA x=true)(a:okD x=true)(h2:deep x<=50)(w:W false S):bc .NotEq x x S W:=by
 have e:W (!eqD x x) S:=by rw[nJ x h1];exact w
 unfold bc
 cases x with
 | int i=>simpa[bEq]using w
 | bl i=>simpa[bEq]using w
 | loc k=>cases a
 | _=>exact .inl %[%[a,a|h2]|e]
end
set_option genInjectivity false in
structure Ex(Ω:Wd) where
 lev:Nat
 chk:Bool->List Str->Nm->Expr->Bool
 wp:Gam->Store->WD->Prop
 sound:∀{X:Cx}{r:Nat}{top:Bool}{N:ae7}{nm:Nm}{e:Expr}{Γ:Gam}{S:Store}{W:WD},%[|23]->lev<=r->chk top N nm e=true->wp Γ S W->Ev X Γ S e W
set_option genInjectivity false in
structure Te(Ω:Wd) where
 lev:Nat
 chk:Bool->List Str->Nm->Expr->Bool
 wp:Gam->Store->(Bool->%[|4])->Prop
 sound:∀{X:Cx}{r:Nat}{top:Bool}{N:ae7}{nm:Nm}{e:Expr}{Γ:Gam}{S:Store}{W:Bool->%[|4]},%[|23]->lev<=r->chk top N nm e=true->wp Γ S W->Ts X Γ S e W
set_option genInjectivity false in
structure Ar(Ω:Wd) where
 lev:Nat
 chk:Bool->List Str->Nm->List Expr->Bool
 wp:Gam->Store->(List D->%[|4])->Prop
 plain:∀{top:Bool}{N:ae7}{nm:Nm}{es:af1},chk top N nm es=true->es.all okE=true
 sound:∀{X:Cx}{r:Nat}{top:Bool}{N:ae7}{nm:Nm}{es:af1}{Γ:Gam}{S:Store}{W:List D->%[|4]},%[|23]->lev<=r->chk top N nm es=true->wp Γ S W->EvA X Γ S es W
set_option genInjectivity false in
structure Bo(Ω:Wd) where
 lev:Nat
 chk:Bool->List Str->Nm->List Expr->Bool
 wpA:Gam->Store->WD->Prop
 wpO:Gam->Store->WD->Prop
 ne:∀{top:Bool}{N:ae7}{nm:Nm}{es:af1},chk top N nm es=true->∃b rest,es=b::rest
 soundA:∀{X:Cx}{r:Nat}{top:Bool}{N:ae7}{nm:Nm}{es:af1}{Γ:Gam}{S:Store}{W:WD}{pos:Pos},%[|23]->lev<=r->chk top N nm es=true->wpA Γ S W->Ev X Γ S (.BoolOp .And es pos) W
 soundO:∀{X:Cx}{r:Nat}{top:Bool}{N:ae7}{nm:Nm}{es:af1}{Γ:Gam}{S:Store}{W:WD}{pos:Pos},%[|23]->lev<=r->chk top N nm es=true->wpO Γ S W->Ev X Γ S (.BoolOp .Or es pos) W
set_option genInjectivity false in
structure Bt(Ω:Wd) where
 lev:Nat
 chk:Bool->List Str->Nm->List Expr->Bool
 wpA:Gam->Store->(Bool->%[|4])->Prop
 wpO:Gam->Store->(Bool->%[|4])->Prop
 ne:∀{top:Bool}{N:ae7}{nm:Nm}{es:af1},chk top N nm es=true->∃b rest,es=b::rest
 soundA:∀{X:Cx}{r:Nat}{top:Bool}{N:ae7}{nm:Nm}{es:af1}{Γ:Gam}{S:Store}{W:Bool->%[|4]}{pos:Pos},%[|23]->lev<=r->chk top N nm es=true->wpA Γ S W->TsW X Γ S (.BoolOp .And es pos) W
 soundO:∀{X:Cx}{r:Nat}{top:Bool}{N:ae7}{nm:Nm}{es:af1}{Γ:Gam}{S:Store}{W:Bool->%[|4]}{pos:Pos},%[|23]->lev<=r->chk top N nm es=true->wpO Γ S W->TsW X Γ S (.BoolOp .Or es pos) W
def At.hu(A:%[|23]):%[|36]:=by have:=A.room.un;omega
def lv2{a b r:Nat}(h:max a b<=r):a<=r/\b<=r:=%[|0]
variable{Ω:Wd}
def eN(i:Nat):Ex Ω where
 lev:=0
 chk _ N h e:=match e with | .Name x _=>(N[i]? ==some x)&&(vis h x&&okN x) | _=>false
 wp f S W:=match f[i]? with | some (some d)=>W d S | _=>False
 sound:=by
  intro X r p N h e f S W A _ g b
  cases e with
  | Name x n=>
    refine an3 g λ c l m=>?_;obtain⟨j,k,_⟩:=jg m;have c:N[i]? =some x:=ZU c
    cases a:f[i]? with
    | none=>rw[a]at b;exact b.elim
    | some o=>
      cases o with
      | none=>rw[a]at b;exact b.elim
      | some d=>rw[a]at b;exact ZW i a b (by rw[A.n];exact c) (A.vis l) j k
  | _=>exact fE g
def gk(i:Int):Ex Ω where
 lev:=0
 chk _ _ _ e:=match e with | .Constant (.int j) _ _=>j==i | _=>false
 wp _ S W:=W (.int i) S
 sound:=by
  intro X r f N g e h S W A _ a b
  cases e with
  | Constant c k d=>
    cases c with
    | int j=>have e:j=i:=ZU a;subst e;exact aaK b
    | _=>exact fE a
  | _=>exact fE a
def Ex.bl(i:Bool):Ex Ω where
 lev:=0
 chk _ _ _ e:=match e with | .Constant (.bool j) _ _=>j==i | _=>false
 wp _ S W:=W (.bl i) S
 sound:=by
  intro X r f N g e h S W A _ a b
  cases e with
  | Constant c k d=>
    cases c with
    | bool j=>have e:j=i:=ZU a;subst e;exact abV b
    | _=>exact fE a
  | _=>exact fE a
def Ex.non:Ex Ω where
 lev:=0
 chk _ _ _ e:=match e with | .Constant .none _ _=>true | _=>false
 wp _ S W:=W .non S
 sound:=by
  intro X r f N g e h S W A _ a b
  cases e with
  | Constant c k d=>
    cases c with
    | none=>exact aao b
    | _=>exact fE a
  | _=>exact fE a
def Ex.str(i:Str):Ex Ω where
 lev:=0
 chk _ _ _ e:=match e with | .Constant (.str j) _ _=>j==i | _=>false
 wp _ S W:=W (.str i) S
 sound:=by
  intro X r f N g e h S W A _ a b
  cases e with
  | Constant c k d=>
    cases c with
    | str j=>have e:j=i:=ZU a;subst e;exact aad b
    | _=>exact fE a
  | _=>exact fE a
def aec{x:Str}{i:Int}(h:∃t,Ω.mg x=some (.int i t)):Ex Ω where
 lev:=0
 chk _ _ b e:=match e with | .Name y _=>(y==x)&&(glb b x&&okN x) | _=>false
 wp _ S W:=W (.int i) S
 sound:=by
  intro X r k N b e l S W A _ a g
  cases e with
  | Name y j=>refine an3 a λ c d f=>?_;have e:y=x:=ZU c;subst e;obtain⟨t,h⟩:=h;exact U0 (by rw[A.g];exact h) g (A.glb d) (jg f).1
  | _=>exact fE a
def FN(op:Operator)(a b:Ex Ω):Ex Ω where
 lev:=max a.lev b.lev
 chk c N d e:=match e with | .BinOp l o r _=>(o==op)&&(a.chk c N d l&&b.chk c N d r) | _=>false
 wp f S W:=a.wp f S λ x g=>b.wp f g λ y h=>WN op x y h W
 sound:=by
  intro X r c N d e f S W A n i p;obtain⟨s,t⟩:=lv2 n
  cases e with
  | BinOp l o v u=>refine an3 i λ j k m=>?_;have e:o=op:=ZU j;subst e;exact wL ((a.sound A s k p).mono λ x g q=>(b.sound A t m q).mono λ y h q=>U9 q)
  | _=>exact fE i
def adC(op:CmpOp)(a b:Ex Ω):Ex Ω where
 lev:=max a.lev b.lev
 chk f N h e:=cm1 e λ l o r=>(o==op)&&(okE r&&(a.chk f N h l&&b.chk f N h r))
 wp i S W:=a.wp i S λ x j=>b.wp i j λ y k=>bc op x y k λ c m=>W (.bl c) m
 sound:=by intro X r f N h e i S W A v u z;obtain⟨B,C⟩:=lv2 v;refine sH u λ l o E D g=>?_;refine an4 g λ p n s t=>?_;have e:o=op:=ZU p;subst e;exact RV ((a.sound A B s z).mono λ x j q=>(b.sound A C t q).mono λ y k q=>(iC A.hu q).mono λ d m ⟨c,e,w⟩=>by subst e;exact w) (iB n)
def adf(op:CmpOp)(a b:Ex Ω):Te Ω where
 lev:=max a.lev b.lev
 chk c N f e:=cm1 e λ l o r=>(o==op)&&(okE r&&(a.chk c N f l&&b.chk c N f r))
 wp g S W:=a.wp g S λ x h=>b.wp g h λ y i=>bc op x y i W
 sound:=by intro X r c N f e g S W A s p t;obtain⟨u,v⟩:=lv2 s;refine sH p λ l o z w d=>?_;refine an4 d λ k j m n=>?_;have e:o=op:=ZU k;subst e;exact Rz ((a.sound A u m t).mono λ x h q=>(b.sound A v n q).mono λ y i q=>iC A.hu q) (iB j)
abbrev WP(a:Ex Ω)(o1:CmpOp)(b:Ex Ω)(o2:CmpOp)(c:Ex Ω)(Γ:Gam)(S:Store)(W:Bool->%[|4]):Prop:=
 a.wp Γ S λ x e=>b.wp Γ e λ y f=>bc o1 x y f λ k d=>(k=false->W false d)/\(k=true->c.wp Γ d λ t g=>bc o2 y t g W)
def Ex.ch2(a:Ex Ω)(o1:CmpOp)(b:Ex Ω)(o2:CmpOp)(c:Ex Ω):Ex Ω where
 lev:=max (max a.lev b.lev) c.lev
 chk f N g e:=cm2 e λ l j n m r=>(j==o1)&&((n==o2)&&(okE r&&(a.chk f N g l&&(b.chk f N g m&&c.chk f N g r))))
 wp p S W:=WP a o1 b o2 c p S λ k o=>W (.bl k) o
 sound:=by intro X r f N g e p S W A G E H;obtain⟨i,J⟩:=lv2 G;obtain⟨i,I⟩:=lv2 i;refine Lf E λ l j n m O K h=>?_;refine an6 h λ v z u B C D=>?_;have e:j=o1:=ZU v;subst e;have e:n=o2:=ZU z;subst e;refine Th ((a.sound A i B H).mono λ x o q=>(b.sound A I C q).mono λ y L q=>(iC A.hu q).mono λ d s ⟨k,e,w⟩=>%[k,e,w.1|λ F=>(c.sound A J D (w.2 F)).mono λ t M q=>(iC A.hu q).mono λ d s ⟨c,e,w⟩=>by subst e;exact w]) (iB u)
def Te.ch2(a:Ex Ω)(o1:CmpOp)(b:Ex Ω)(o2:CmpOp)(c:Ex Ω):Te Ω where
 lev:=max (max a.lev b.lev) c.lev
 chk f N g e:=cm2 e λ l j n m r=>(j==o1)&&((n==o2)&&(okE r&&(a.chk f N g l&&(b.chk f N g m&&c.chk f N g r))))
 wp o S W:=WP a o1 b o2 c o S W
 sound:=by intro X r f N g e o S W A E C F;obtain⟨i,H⟩:=lv2 E;obtain⟨i,G⟩:=lv2 i;refine Lf C λ l j n m O I h=>?_;refine an6 h λ s u p v z B=>?_;have e:j=o1:=ZU s;subst e;have e:n=o2:=ZU u;subst e;refine Rw ((a.sound A i v F).mono λ x J q=>(b.sound A G z q).mono λ y K q=>(iC A.hu q).mono λ d L ⟨k,e,w⟩=>%[k,e,w.1|λ D=>(c.sound A H B (w.2 D)).mono λ t M q=>iC A.hu q]) (iB p)
def adt(a:Ex Ω):Te Ω where
 lev:=a.lev
 chk b N g e:=VD e&&a.chk b N g e
 wp h S W:=a.wp h S λ d f=>onB d λ c=>W c f
 sound:=by intro X r b N g e h S W A l k m;refine an2 k λ i j=>?_;refine aax ((a.sound A l j m).mono λ d f q=>?_) (Pn i _);exact rN q λ _ q=>%[_,rfl|q]
def adu(t:Te Ω):Te Ω where
 lev:=t.lev
 chk b N f e:=match e with | .UnaryOp .Not a _=>t.chk b N f a | _=>false
 wp g S W:=t.wp g S λ c h=>W (!c) h
 sound:=by
  intro X r b N f e g S W A i d j
  cases e with
  | UnaryOp o a k=>
    cases o with
    | Not=>exact aaf (t.sound A i d j)
    | _=>exact fE d
  | _=>exact fE d
def adz(t:Te Ω):Bt Ω where
 lev:=t.lev
 chk b N f c:=match c with | [e]=>t.chk b N f e | _=>false
 wpA d S W:=t.wp d S W
 wpO d S W:=t.wp d S W
 ne:=by
  intro b N f c a;match c,a with
  | [e],_=>exact%[_,_|rfl]
  | [],a=>exact fE a
  | _::_::_,a=>exact fE a
 soundA:=by
  intro X r b N f c d S W i A g a h;match c,a with
  | [e],a=>exact tw_and1 (t.sound A g a h)
  | [],a=>exact fE a
  | _::_::_,a=>exact fE a
 soundO:=by
  intro X r b N f c d S W i A g a h;match c,a with
  | [e],a=>exact tw_or1 (t.sound A g a h)
  | [],a=>exact fE a
  | _::_::_,a=>exact fE a
def adw(t:Te Ω)(r:Bt Ω):Bt Ω where
 lev:=max t.lev r.lev
 chk f N j d:=match d with | e::d=>t.chk f N j e&&r.chk f N j d | _=>false
 wpA h S W:=t.wp h S λ c g=>(c=true->r.wpA h g W)/\(c=false->W false g)
 wpO h S W:=t.wp h S λ c g=>(c=true->W true g)/\(c=false->r.wpO h g W)
 ne:=by
  intro f N j d a;match d,a with
  | _::_,_=>exact%[_,_|rfl]
  | [],a=>exact fE a
 soundA:=by
  intro X v f N j d h S W u A n a o;obtain⟨p,s⟩:=lv2 n;match d,a with
  | e::d,a=>refine an2 a λ l i=>?_;obtain⟨b,k,rfl⟩:=r.ne i;exact tw_and (Ts.mono (t.sound A p l o) λ c g q=>%[λ m=>r.soundA A s i (q.1 m)|q.2])
  | [],a=>exact fE a
 soundO:=by
  intro X v f N j d h S W u A n a o;obtain⟨p,s⟩:=lv2 n;match d,a with
  | e::d,a=>refine an2 a λ l i=>?_;obtain⟨b,k,rfl⟩:=r.ne i;exact tw_or (Ts.mono (t.sound A p l o) λ c g q=>%[q.1|λ m=>r.soundO A s i (q.2 m)])
  | [],a=>exact fE a
def adD(l:Bt Ω):Te Ω where
 lev:=l.lev
 chk a N d e:=match e with | .BoolOp .And c _=>l.chk a N d c | _=>false
 wp f S W:=l.wpA f S W
 sound:=by
  intro X r a N d e f S W A g b h
  cases e with
  | BoolOp o c i=>
    cases o with
    | And=>exact(l.soundA A g b h).ts
    | _=>exact fE b
  | _=>exact fE b
def adM(l:Bt Ω):Te Ω where
 lev:=l.lev
 chk a N d e:=match e with | .BoolOp .Or c _=>l.chk a N d c | _=>false
 wp f S W:=l.wpO f S W
 sound:=by
  intro X r a N d e f S W A g b h
  cases e with
  | BoolOp o c i=>
    cases o with
    | Or=>exact(l.soundO A g b h).ts
    | _=>exact fE b
  | _=>exact fE b
def ado(t:Ex Ω):Bo Ω where
 lev:=t.lev
 chk b N f c:=match c with | [e]=>t.chk b N f e | _=>false
 wpA d S W:=t.wp d S W
 wpO d S W:=t.wp d S W
 ne:=by
  intro b N f c a;match c,a with
  | [e],_=>exact%[_,_|rfl]
  | [],a=>exact fE a
  | _::_::_,a=>exact fE a
 soundA:=by
  intro X r b N f c d S W i A g a h;match c,a with
  | [e],a=>exact Qg (t.sound A g a h)
  | [],a=>exact fE a
  | _::_::_,a=>exact fE a
 soundO:=by
  intro X r b N f c d S W i A g a h;match c,a with
  | [e],a=>exact Qg (t.sound A g a h)
  | [],a=>exact fE a
  | _::_::_,a=>exact fE a
def adk(t:Ex Ω)(r:Bo Ω):Bo Ω where
 lev:=max t.lev r.lev
 chk g N k f:=match f with | e::f=>t.chk g N k e&&r.chk g N k f | _=>false
 wpA i S W:=t.wp i S λ d h=>onB d λ c=>(c=true->r.wpA i h W)/\(c=false->W (.bl false) h)
 wpO i S W:=t.wp i S λ d h=>onB d λ c=>(c=true->W (.bl true) h)/\(c=false->r.wpO i h W)
 ne:=by
  intro g N k f a;match f,a with
  | _::_,_=>exact%[_,_|rfl]
  | [],a=>exact fE a
 soundA:=by
  intro X w g N k f i S W v A o a p;obtain⟨s,u⟩:=lv2 o;match f,a with
  | e::f,a=>refine an2 a λ m j=>?_;obtain⟨b,l,rfl⟩:=r.ne j;refine aaF ((t.sound A s m p).mono λ d h q=>?_);exact rN q λ _ q=>%[_,rfl,λ n=>r.soundA A u j (q.1 n)|q.2]
  | [],a=>exact fE a
 soundO:=by
  intro X w g N k f i S W v A o a p;obtain⟨s,u⟩:=lv2 o;match f,a with
  | e::f,a=>refine an2 a λ m j=>?_;obtain⟨b,l,rfl⟩:=r.ne j;refine acu ((t.sound A s m p).mono λ d h q=>?_);exact rN q λ _ q=>%[_,rfl,q.1|λ n=>r.soundO A u j (q.2 n)]
  | [],a=>exact fE a
def adp(l:Bo Ω):Ex Ω where
 lev:=l.lev
 chk a N d e:=match e with | .BoolOp .And c _=>l.chk a N d c | _=>false
 wp f S W:=l.wpA f S W
 sound:=by
  intro X r a N d e f S W A g b h
  cases e with
  | BoolOp o c i=>
    cases o with
    | And=>exact l.soundA A g b h
    | _=>exact fE b
  | _=>exact fE b
def ael(l:Bo Ω):Ex Ω where
 lev:=l.lev
 chk a N d e:=match e with | .BoolOp .Or c _=>l.chk a N d c | _=>false
 wp f S W:=l.wpO f S W
 sound:=by
  intro X r a N d e f S W A g b h
  cases e with
  | BoolOp o c i=>
    cases o with
    | Or=>exact l.soundO A g b h
    | _=>exact fE b
  | _=>exact fE b
def ad2(a:Ex Ω):Ex Ω where
 lev:=a.lev
 chk f N i e:=match e with | .UnaryOp .Not b _=>a.chk f N i b | _=>false
 wp j S W:=a.wp j S λ d h=>onB d λ c=>W (.bl (!c)) h
 sound:=by
  intro X r f N i e j S W A k g l
  cases e with
  | UnaryOp o b m=>
    cases o with
    | Not=>refine aaP ((a.sound A k g l).mono λ d h q=>?_);exact rN q λ _ q=>%[_,rfl|q]
    | _=>exact fE g
  | _=>exact fE g
def adA(a:Ex Ω):Ex Ω where
 lev:=a.lev
 chk f N i e:=match e with | .UnaryOp .USub b _=>a.chk f N i b | _=>false
 wp j S W:=a.wp j S λ d h=>onI d λ c=>W (.int (-c)) h
 sound:=by
  intro X r f N i e j S W A k g l
  cases e with
  | UnaryOp o b m=>
    cases o with
    | USub=>refine Z5 ((a.sound A k g l).mono λ d h q=>?_);exact tu q λ _ q=>%[_,rfl|q]
    | _=>exact fE g
  | _=>exact fE g
def gf:Ar Ω where
 lev:=0
 chk _ _ _ b:=match b with | []=>true | _=>false
 wp _ S W:=W [] S
 plain:=by
  intro c N e b a;match b,a with
  | [],_=>rfl
  | _::_,a=>exact fE a
 sound:=by
  intro X r c N e b f S W A _ a d;match b,a with
  | [],_=>exact gr d
  | _::_,a=>exact fE a
def fJ(a:Ex Ω)(r:Ar Ω):Ar Ω where
 lev:=max a.lev r.lev
 chk f N g c:=match c with | e::c=>okE e&&(a.chk f N g e&&r.chk f N g c) | _=>false
 wp j S W:=a.wp j S λ d k=>r.wp j k λ n m=>W (d::n) m
 plain:=by
  intro f N g c b;match c,b with
  | e::c,b=>refine an3 b λ h l i=>?_;rw[ij,h,r.plain i];rfl
  | [],b=>exact fE b
 sound:=by
  intro X u f N g c j S W A o b p;obtain⟨s,t⟩:=lv2 o;match c,b with
  | e::c,b=>refine an3 b λ h l i=>?_;exact cH ((a.sound A s l p).mono λ d k q=>r.sound A t i q) (aJ h _ _)
  | [],b=>exact fE b
def Hh(as:Ar Ω):Ex Ω where
 lev:=as.lev
 chk a N f e:=match e with | .Tuple c _ _=>as.chk a N f c | _=>false
 wp g S W:=as.wp g S λ b h=>b.length<=1000000/\W (.tup b) h
 sound:=by
  intro X r a N f e g S W A i d j
  cases e with
  | Tuple c k l=>exact aat (as.sound A i d j)
  | _=>exact fE d
def adh(as:Ar Ω):Ex Ω where
 lev:=as.lev
 chk a N f e:=match e with | .List c _=>as.chk a N f c | _=>false
 wp g S W:=as.wp g S λ b h=>b.length<=1000000/\W (.lst b) h
 sound:=by
  intro X r a N f e g S W A i d j
  cases e with
  | List c k=>exact aa3 (as.sound A i d j)
  | _=>exact fE d
def Ex.own(as:Ar Ω):Ex Ω where
 lev:=as.lev
 chk a N g e:=match e with | .List d _=>as.chk a N g d | _=>false
 wp h S W:=as.wp h S λ c b=>c.length<=1000000/\W (.loc b.length) (b++[c])
 sound:=by
  intro X r a N g e h S W A i f j
  cases e with
  | List d k=>exact YX (as.sound A i f j)
  | _=>exact fE f
def vy(a b:Ex Ω):Ex Ω where
 lev:=max a.lev b.lev
 chk c N d e:=match e with | .Subscript l r _=>okE r&&(a.chk c N d l&&b.chk c N d r) | _=>false
 wp f S W:=a.wp f S λ x g=>b.wp f g λ y h=>Uw x y h W
 sound:=by
  intro X r c N d e f S W A n i o;obtain⟨p,s⟩:=lv2 n
  cases e with
  | Subscript l u t=>refine an3 i λ j k m=>?_;exact abS ((a.sound A p k o).mono λ x g q=>(b.sound A s m q).mono λ y h q=>Xv q) (nP j)
  | _=>exact fE i
set_option genInjectivity false in
structure Po(Ω:Wd) where
 lev:Nat
 chk:Bool->List Str->Nm->Option Expr->Bool
 wp:Gam->Store->(Option Int->%[|4])->Prop
 sound:∀{X:Cx}{r:Nat}{top:Bool}{N:ae7}{nm:Nm}{e:Option Expr}{Γ:Gam}{S:Store}{W:Option Int->%[|4]},%[|23]->lev<=r->chk top N nm e=true->wp Γ S W->PoD X Γ S e W
def Po.no:Po Ω where
 lev:=0
 chk _ _ _ e:=match e with | none=>true | _=>false
 wp _ S W:=W none S
 sound:=by
  intro X r c N f e g S W A d a b
  cases e with
  | none=>exact acK b
  | some e=>exact fE a
def Po.so(a:Ex Ω):Po Ω where
 lev:=a.lev
 chk b N g e:=match e with | some e=>a.chk b N g e | _=>false
 wp h S W:=a.wp h S λ d c=>onI d λ i=>W (some i) c
 sound:=by
  intro X r b N g e h S W A j f k
  cases e with
  | some e=>refine ac8 ((a.sound A j f k).mono λ d c q=>?_);exact tu q λ _ q=>%[_,rfl|q]
  | none=>exact fE f
def PoD.mono(h:PoD X b S e W)(k:∀c S',W c S'->a c S'):PoD X b S e a:=by
 cases e with
 | none=>exact k _ _ h
 | some e=>exact Ev.mono h λ d f ⟨i,e,w⟩=>%[i,e|k _ _ w]
def adE(a:Ex Ω)(lo hi:Po Ω):Ex Ω where
 lev:=max a.lev (max lo.lev hi.lev)
 chk b N d e:=match e with | .Subscript l (.Slice x y none _) _=>a.chk b N d l&&(lo.chk b N d x&&hi.chk b N d y) | _=>false
 wp f S W:=a.wp f S λ x i=>lo.wp f i λ l j=>hi.wp f j λ h k=>VJ x l h k W
 sound:=by
  intro X r b N d e f S W A p c s;obtain⟨t,g⟩:=lv2 p;obtain⟨g,u⟩:=lv2 g
  cases e with
  | Subscript l w v=>
    cases w with
    | Slice x y z B=>
      cases z with
      | none=>refine an3 c λ m n o=>?_;exact SM ((a.sound A t m s).mono λ x i q=>PoD.mono (lo.sound A g n q) λ l j q=>PoD.mono (hi.sound A u o q) λ h k q=>Yu q)
      | some _=>exact fE c
    | _=>exact fE c
  | _=>exact fE c
def sy{x:Str}{k n:Nat}{F:Ct}(C:Callee Ω.P Ω.w Ω.K Ω.mg Ω.base x k n F)(as:Ar Ω):Ex Ω where
 lev:=max k as.lev
 chk c N g e:=cO e λ y b=>xT b λ a i=>(y==x)&&(glb g x&&(okN x&&as.chk c N g (a::i)))
 wp m S W:=as.wp m S λ h q=>h.length=n/\F h q W
 sound:=by
  intro X r c N g e m S W A w v z;obtain⟨B,D⟩:=lv2 w;refine aX v λ y p b H d=>?_;refine nR d λ a i f=>?_;refine an4 f λ s t u j=>?_;have e:y=x:=ZU s;subst e;have l:=as.plain j;rw[ij]at l;refine an2 l λ E G=>?_;have o:Callee X.prog X.w X.K X.mg X.base y k n F:=by rw[A.p,A.w,A.k,A.g,A.b];exact C
  exact Yz o (A.room.mono B) (as.sound A D j z) (A.glb t) (jg u).1 (aJ E _ _) (vY G _ _)
set_option genInjectivity false in
structure Bf where
 x:Str
 id:String
 boot:bootBuiltins x=some (.builtin id)
 wp:List D->Store->WD->Prop
 sound:∀{X:Cx}{ds:List D}{S:Store}{W:WD},X.calm=true->Room 0 X.A->wp ds S W->gU X (.builtin id) ds S W
def Hg(b:Bf)(hm:Ω.mg b.x=none)(as:Ar Ω):Ex Ω where
 lev:=as.lev
 chk d N h e:=cO e λ y c=>xT c λ a k=>(y==b.x)&&(glb h b.x&&(okN b.x&&as.chk d N h (a::k)))
 wp o S W:=as.wp o S λ j i=>b.wp j i W
 sound:=by intro X r d N h e o S W A v u w;refine aX u λ y p c B f=>?_;refine nR f λ a k g=>?_;refine an4 g λ s t l m=>?_;have e:y=b.x:=ZU s;subst e;have n:=as.plain m;rw[ij]at n;refine an2 n λ x z=>?_;exact Tz (EvA.mono (as.sound A v m w) λ j i q=>b.sound A.calm (A.room.mono (dr _)) q) (by rw[A.g];exact hm) b.boot (A.glb t) (jg l).2.2 (jg l).1 (aJ x _ _) (vY z _ _)
set_option genInjectivity false in
structure Bc where
 x:Str
 id:String
 boot:bootBuiltins x=some (.type id)
 wp:List D->Store->WD->Prop
 sound:∀{X:Cx}{ds:List D}{S:Store}{W:WD},X.calm=true->Room 0 X.A->wp ds S W->gU X (.type id) ds S W
def adi(b:Bc)(hm:Ω.mg b.x=none)(as:Ar Ω):Ex Ω where
 lev:=as.lev
 chk d N h e:=cO e λ y c=>xT c λ a k=>(y==b.x)&&(glb h b.x&&(okN b.x&&as.chk d N h (a::k)))
 wp o S W:=as.wp o S λ j i=>b.wp j i W
 sound:=by intro X r d N h e o S W A v u w;refine aX u λ y p c B f=>?_;refine nR f λ a k g=>?_;refine an4 g λ s t l m=>?_;have e:y=b.x:=ZU s;subst e;have n:=as.plain m;rw[ij]at n;refine an2 n λ x z=>?_;exact Vz (EvA.mono (as.sound A v m w) λ j i q=>b.sound A.calm (A.room.mono (dr _)) q) (by rw[A.g];exact hm) b.boot (A.glb t) (jg l).2.2 (jg l).1 (aJ x _ _) (vY z _ _)
def adO(hm:Ω.mg "isinstance"=none)(a:Ex Ω)(T:Ty)(hT:Ω.mg T.nm=none):Ex Ω where
 lev:=a.lev
 chk i N j e:=cO e λ y m=>two2 m λ b c=>anB (nameV c) λ t=>(y==("isinstance":Str))&&(glb j "isinstance"&&((t==T.nm)&&(glb j T.nm&&(okE b&&a.chk i N j b))))
 wp n S W:=a.wp n S λ d l=>W (.bl (isD T d)) l
 sound:=by intro X r i N j e n S W A z k C;refine aX k λ y p m D f=>?_;refine two2_ind f λ b c g=>?_;obtain⟨t,B,h⟩:=bz g;obtain⟨q,rfl⟩:=jX B;have k:=h;{skip;refine an6 k λ o s u v w x=>?_;have e:y="isinstance":=ZU o;subst e;have e:t=T.nm:=ZU u;subst e;exact ZS (Tn:=T.id) ((a.sound A z x C).mono λ d l q=>by rw[aaH];exact q) T.isT T.boot (by rw[A.g];exact hm) (by rw[A.g];exact hT) (A.glb s) (A.glb v) T.ok.2 T.ok.1 (aJ w _ _) (aJ (e:=.Name T.nm q) rfl [] _)}
end RF
namespace RF
open PySem PySem.Spec L2 DL
open PyProof.Rows
variable{cap:List (Option Nat)}{Γ:Gam}
inductive Tg where
 | nm(i:Nat) | tup(is:ae3)
def setAll:Gam->List Nat->List D->Gam
 | Γ,i::is,d::ds=>setAll (Γ.set i (some d)) is ds
 | Γ,_,_=>Γ
def Tg.wp:Tg->D->Gam->(Gam->Prop)->Prop
 | .nm i,d,Γ,W=>W (Γ.set i (some d))
 | .tup is,.tup ds,Γ,W=>ds.length=is.length/\W (setAll Γ is ds)
 | .tup _,_,_,_=>False
def Tg.slots:Tg->List Nat
 | .nm i=>[i]
 | .tup is=>is
def CP(top:Bool)(N:ae7)(nm:Nm)(i:Nat)(e:Expr):Bool:=match e with | .Name x _=>(N[i]? ==some x)&&lcl top nm x | _=>false
def jf(top:Bool)(N:ae7)(nm:Nm):List Nat->List Expr->Bool
 | [],[]=>true
 | i::is,e::es=>CP top N nm i e&&jf top N nm is es
 | _,_=>false
def Tg.chk(t:Tg)(top:Bool)(N:ae7)(nm:Nm)(e:Expr):Bool:=match t with
 | .nm i=>CP top N nm i e
 | .tup is=>match e with | .Tuple es _ _=>jf top N nm is es | _=>false
section
variable{Ω:Wd}{X:Cx}{r:Nat}{top:Bool}{N:List Str}{nm:Nm}
def Q9(A:%[|23])(b:CP top N nm i e=true)(hw:W (c.set i (some d)) S):BdW X e d c S W:=by
 cases e with
 | Name x j=>refine an2 b λ a f=>?_;have a:N[i]? =some x:=ZU a;obtain⟨g,h⟩:=A.lcl f;exact Zf i hw (by rw[A.n];exact A.nd) (by rw[A.n];exact a) g h
 | _=>exact fE b
def Fl(h:jf top N nm (i::is) es=true):∃x p es',es=.Name x p::es'/\CP top N nm i (.Name x p)=true/\jf top N nm is es'=true:=by
 cases es with
 | nil=>exact(y6 h).elim
 | cons e es=>
   refine an2 h λ a b=>?_
   cases e with
   | Name x p=>exact%[x,p,es,rfl,a|b]
   | _=>exact(y6 a).elim
def J4(h:jf top N nm [] es=true):es=[]:=by
 cases es with
 | nil=>rfl
 | cons e es=>exact(y6 h).elim
theorem Rh(A:%[|23]):∀{is:ae3}{es:af1}{ds:List D}{a:Gam},jf top N nm is es=true->ds.length=is.length->W (setAll a is ds) S->Fe X es ds a S W
 | [],es,ds,a,hc,hl,hw=>by
   have e:=J4 hc;subst e;have e:ds=[]:=by simpa using hl
   subst e;exact YK hw
 | i::is,es,ds,a,hc,hl,hw=>by
   obtain⟨x,p,b,rfl,c,f⟩:=Fl hc
   cases ds with
   | nil=>simp at hl
   | cons d ds=>exact Wg (Q9 A c (Rh A f (by simpa using hl) hw)) rfl
theorem Ld:∀{is:ae3}{es:af1},jf top N nm is es=true->∀env:Env,(assignEach es env).length=is.length/\(assignEach es env).findIdx? (·.1)=none
 | [],es,hc,env=>by have e:=J4 hc;subst e;exact%[rfl|rfl]
 | i::is,es,hc,env=>by obtain⟨x,p,c,rfl,f,d⟩:=Fl hc;obtain⟨a,b⟩:=Ld d env;have e:assignEach (.Name x p::c) env=(false,assign (.Name x p) env)::assignEach c env:=rfl;rw[e];refine%[by simp[a]|?_];rw[List.findIdx?_cons,b];rfl
def Tg.sound(A:%[|23]){t:Tg}(c:t.chk top N nm e=true)(hw:t.wp d g λ Γ'=>W Γ' S):BdW X e d g S W:=by
 cases t with
 | nm i=>exact Q9 A c hw
 | tup f=>
   cases e with
   | Tuple l k m=>
     have c:jf top N nm f l=true:=c
     cases d with
     | tup h=>obtain⟨j,hw⟩:h.length=f.length/\W (setAll g f h) S:=hw;obtain⟨a,b⟩:=Ld c X.env;exact aa7 (Rh A c j hw) A.calm (a.trans j.symm) b
     | _=>exact hw.elim
   | _=>exact fE c
end
theorem Sub.setAll:∀{is:ae3}{ds:List D}{Γ':Gam},Sub a Γ'->(∀i∈is,a[i]? =some none)->Sub a (RF.setAll Γ' is ds)
 | [],ds,Γ',h,_=>by cases ds<;>exact h
 | i::is,[],Γ',h,_=>h
 | i::is,d::ds,Γ',h,hi=>show Sub a (RF.setAll (Γ'.set i (some d)) is ds)from Sub.setAll (Γ':=Γ'.set i (some d)) (h.set i (some d) (hi i x6)) λ j b=>hi j (x4 _ b)
def QS{i:Nat}(h:cap[i]? =some none):(capt cap Γ)[i]? =some none:=by unfold capt;rw[y8,h];rfl
set_option genInjectivity false in
structure Itb(Ω:Wd) where
 lev:Nat
 chk:Bool->List Str->Nm->Expr->Expr->Bool
 wp:Gam->Store->(List D->%[|4])->Prop
 sound:∀{X:Cx}{r:Nat}{top:Bool}{N:ae7}{nm:Nm}{tg e:Expr}{Γ:Gam}{S:Store}{W:List D->%[|4]},%[|23]->lev<=r->chk top N nm tg e=true->wp Γ S W->ItW X Γ S tg e W
def aaV(h:Ev X Γ S e λ d S1=>match d with | .lst ds=>W ds S1 | .tup ds=>W ds S1 | _=>False):ItW X Γ S C e W:=by
 intro j s F H O I l B;refine thn (h j s F H O I l B) λ u s1 n=>?_;obtain⟨v,t,c,y,x,d,S1,w,k,i,r⟩:=n
 cases r with
 | @lst a E ds f q=>
   cases y;obtain⟨g,A,p,z⟩:=c.list f.sq;refine kq p.isList ?_;refine%[s1.heap.objs.size,[s1.heap.objs.size],_,_,t,rfl,c.kept (t':=s1.toks) λ b o e=>bE _ e,qY a _,%[_,c9 _ rfl,rfl|rfl],λ b m=>?_,x,ds,S1,w,k,i|t8 f q];have e:b=s1.heap.objs.size:=by simpa using m
   subst e;exact c.fpOk (y9 _) (c.hok.fresh (y9 _))
 | @tup a E ds f q=>
   cases y;obtain⟨g,A,p,z⟩:=c.tuple f.sq;refine hH (show s1.heap.IsTuple a g.toArray from p) ?_;refine%[s1.heap.objs.size,[s1.heap.objs.size],_,_,t,rfl,c.kept (t':=s1.toks) λ b o e=>bE _ e,wg a _,%[_,c9 _ rfl,rfl|rfl],λ b m=>?_,x,ds,S1,w,k,i|wu f q];have e:b=s1.heap.objs.size:=by simpa using m
   subst e;exact c.fpOk (y9 _) (c.hok.fresh (y9 _))
 | _=>exact w.elim
variable{Ω:Wd}
def adn(a:Ex Ω):Itb Ω where
 lev:=a.lev
 chk b N f _ e:=a.chk b N f e
 wp g S W:=a.wp g S λ d c=>match d with | .lst ds=>W ds c | .tup ds=>W ds c | _=>False
 sound:=by intro X r b N f k e g S W A i h j;exact aaV (a.sound A i h j)
def adm(hm:Ω.mg "range"=none)(a:Ex Ω):Itb Ω where
 lev:=a.lev
 chk g N i _ e:=cO e λ y l=>cM l λ b=>(y==("range":Str))&&(glb i "range"&&(okE b&&a.chk g N i b))
 wp m S W:=a.wp m S λ d k=>onI d λ j=>(-(2 ^ 62)<=j/\j<2 ^ 62)/\W (upTo 0 j.toNat) k
 sound:=by intro X r g N i x e m S W A u h v;refine aX h λ y p l w c=>?_;refine bK c λ b f=>?_;have h:=f;{skip;refine an4 h λ n o s t=>?_;have e:y="range":=ZU n;subst e;refine PN ((a.sound A u t v).mono λ d k q=>?_) (by rw[A.g];exact hm) (A.glb o) (aJ s [] _);exact tu q λ _ q=>%[_,rfl,q.1.1,q.1.2|q.2]}
def adJ(hm:Ω.mg "range"=none)(a b:Ex Ω):Itb Ω where
 lev:=max a.lev b.lev
 chk c N h _ e:=cO e λ y t=>two2 t λ l r=>(y==("range":Str))&&(glb h "range"&&((okE l&&okE r)&&(a.chk c N h l&&b.chk c N h r)))
 wp n S W:=a.wp n S λ d o=>b.wp n o λ k s=>match d,k with | .int i,.int j=>(-(2 ^ 62)<=i/\i<2 ^ 62/\ -(2 ^ 62)<=j/\j<2 ^ 62)/\W (upTo i (j-i).toNat) s | _,_=>False
 sound:=by intro X r c N h K e n S W A E m F;obtain⟨G,H⟩:=lv2 E;refine aX m λ y p t I f=>?_;refine two2_ind f λ l J g=>?_;have m:=g;{skip;refine an4 m λ v w x z=>?_;refine an2 x λ B u=>?_;refine an2 z λ C D=>?_;have e:y="range":=ZU v;subst e;refine QM ((a.sound A G C F).mono λ d o q=>(b.sound A H D q).mono λ k s q=>?_) (by rw[A.g];exact hm) (A.glb w) (by rw[aJ B,aJ u];rfl) (aJ u [] _);cases d<;>first | exact q.elim | (cases k<;>first | exact%[_,_,rfl,rfl,q.1|q.2] | exact q.elim)}
set_option genInjectivity false in
structure Cd(Ω:Wd) where
 lev:Nat
 chk:Bool->List Str->Nm->List Expr->Bool
 wp:Gam->Store->(Bool->%[|4])->Prop
 sound:∀{X:Cx}{r:Nat}{top:Bool}{N:ae7}{nm:Nm}{es:af1}{Γ:Gam}{S:Store}{W:Bool->%[|4]},%[|23]->lev<=r->chk top N nm es=true->wp Γ S W->TsA X Γ S es W
def adl:Cd Ω where
 lev:=0
 chk _ _ _ a:=match a with | []=>true | _=>false
 wp _ S W:=W true S
 sound:=by
  intro X r d N f a g S W A e b c;match a,b with
  | [],_=>exact c
  | _::_,b=>exact fE b
def Cd.so(t:Te Ω):Cd Ω where
 lev:=t.lev
 chk b N d c:=match c with | [e]=>t.chk b N d e | _=>false
 wp f S W:=t.wp f S W
 sound:=by
  intro X r b N d c f S W A g a h;match c,a with
  | [e],a=>exact abZ (t.sound A g a h)
  | [],a=>exact fE a
  | _::_::_,a=>exact fE a
@[irreducible] noncomputable def sX(cap:ae9)(Γ:Gam)(elt:Ex Ω)(tg:Tg)(cd:Cd Ω)(W:WD)(ds:List D)(C0:%[|4])(S1:Store):Prop:=
  ds.length<=1000000/\∃c:Nat->List D->%[|4],c 0 [] S1/\(∀i a b,c i a b->C0 b)/\
   (∀i d a b,%[|28]->c i a b->tg.wp d (capt cap Γ) λ e=>cd.wp e b λ g f=>(g=true->elt.wp e f λ y h=>c (i+1) (a++[y]) h)/\(g=false->c (i+1) a f))/\
   ∀a b,c ds.length a b->W (.lst a) b\/W (.loc b.length) (b++[a])
abbrev rM(cap:ae9)(Γ:Gam)(elt:Ex Ω)(tg:Tg)(cd:Cd Ω)(W:WD)(ds:List D)(S1:Store):Prop:=sX cap Γ elt tg cd W ds (λ _=>True) S1
def GQ{cd:Cd Ω}(h:ds.length<=1000000/\∃Pv:Nat->List D->%[|4],Pv 0 [] b/\(∀i acc S',Pv i acc S'->C0 S')/\
 (∀i d acc S',%[|28]->Pv i acc S'->c.wp d (capt cap Γ) λ Γ2=>cd.wp Γ2 S' λ ok S3=>(ok=true->a.wp Γ2 S3 λ y S4=>Pv (i+1) (acc++[y]) S4)/\(ok=false->Pv (i+1) acc S3))/\
 ∀acc S',Pv ds.length acc S'->W (.lst acc) S'\/W (.loc S'.length) (S'++[acc])):sX cap Γ a c cd W ds C0 b:=by unfold sX;exact h
def jK{cd:Cd Ω}(h:ds.length<=1000000/\∃Pv:Nat->List D->%[|4],Pv 0 [] b/\
 (∀i d acc S',%[|28]->Pv i acc S'->c.wp d (capt cap Γ) λ Γ2=>cd.wp Γ2 S' λ ok S3=>(ok=true->a.wp Γ2 S3 λ y S4=>Pv (i+1) (acc++[y]) S4)/\(ok=false->Pv (i+1) acc S3))/\
 ∀acc S',Pv ds.length acc S'->W (.lst acc) S'):rM cap Γ a c cd W ds b:=by obtain⟨e,Pv,f,j,g⟩:=h;exact GQ %[e,Pv,f,λ _ _ _ _=>trivial,j|λ acc S' q=>.inl (g acc S' q)]
def lcP(e:Expr):Option {x:Expr×Expr×Expr×List Expr×Scope×Pos // e=.ListComp x.1 [%[x.2.1,x.2.2.1,x.2.2.2.1|0]] x.2.2.2.2.1 x.2.2.2.2.2}:=match e with
 | .ListComp x [⟨t,i,cs,0⟩] sc p=>some %[(x,t,i,cs,sc,p)|rfl]
 | _=>none
def acn(N':ae7)(cap:ae9)(elt:Ex Ω)(tg:Tg)(it:Itb Ω)(cd:Cd Ω)(top:Bool)(N:ae7)(nm:Nm)(x t i:Expr)(cs:af1)(sc:Scope):Bool:=(sc.kind==.function)&&(yC sc.names&&(freeOk nm sc.names&&((sc.names.all λ y=>!(y.2==.local)||(sc.names.lookup y.1==some .local))&&(b8 N nm N' sc.names cap N'&&
 (okE i&&((tg.slots.all λ j=>cap[j]? ==some none)&&(decide N'.Nodup&&(it.chk top N nm t i&&(tg.chk false N' sc.names t&&(cd.chk false N' sc.names cs&&elt.chk false N' sc.names x))))))))))
def xq(N':ae7)(cap:ae9)(elt:Ex Ω)(tg:Tg)(it:Itb Ω)(cd:Cd Ω)(top:Bool)(N:ae7)(nm:Nm)(e:Expr):Bool:=anB (lcP e) λ z=>acn N' cap elt tg it cd top N nm z.1.1 z.1.2.1 z.1.2.2.1 z.1.2.2.2.1 z.1.2.2.2.2.1
def wK{cd:Cd Ω}(h:xq a cap b f g cd top N nm e=true):
 ∃x t i cs sc pos,e=.ListComp x [%[t,i,cs|0]] sc pos/\sc.kind=.function/\yC sc.names=true/\freeOk nm sc.names=true/\(∀y∈sc.names,y.2=.local->sc.names.lookup y.1=some .local)/\b8 N nm a sc.names cap a=true/\okE i=true/\(f.slots.all λ j=>cap[j]? ==some none)=true/\a.Nodup/\g.chk top N nm t i=true/\f.chk false a sc.names t=true/\cd.chk false a sc.names cs=true/\b.chk false a sc.names x=true:=by obtain⟨⟨⟨x,t,i,cs,sc,p⟩,k⟩,_,c⟩:=bz h;refine an9 c λ l m n o q r s u c=>?_;refine an3 c λ v d c=>?_;exact%[x,t,i,cs,sc,p,k,ZU l,m,n,λ y w e=>by simpa[e]using List.all_eq_true.mp o y w,q,r,s,of_decide_eq_true u,v,d|bD c]
section
variable{X:Cx}{r:Nat}{top:Bool}{N:List Str}{nm:Nm}
def Am(A:%[|23])(h:nm.lookup x=some .cell\/nm.lookup x=some .free):X.env.scope.names.lookup x=some .cell\/X.env.scope.names.lookup x=some .free:=by rcases h with h | h;{rcases A.look x _ h with q | ⟨q,_⟩;{exact .inl q};{exact nomatch q}};{rcases A.look x _ h with q | ⟨_,q⟩;{exact .inr q};{exact .inl q}}
def zO(A:%[|23]){names:Nm}(h:freeOk nm names=true):freeOk X.env.scope.names names=true:=by unfold freeOk;refine gp.mpr λ y a=>?_;by_cases e:y.2=.free;{have:=Am A (qe h y a e);rcases this with q | q<;>simp[q]};{simp[e]}
theorem nY(A:%[|23]){a:Nm}:∀{b:ae9}{t:ae7},b8 N nm c a b t=true->b8 X.N X.env.scope.names c a b t=true
 | [],[],_=>rfl
 | [],_::_,h=>by simp[b8]at h
 | none::_,[],h=>by simp[b8]at h
 | some _::_,[],h=>by simp[b8]at h
 | none::r,_::t,h=>by simp only[b8]at h ⊢;exact nY A h
 | some j::r,x::t,h=>by simp only[b8,eL,i6,pd]at h ⊢;exact%[%[%[by rw[A.n];exact h.1.1.1|Am A h.1.1.2]|h.1.2]|nY A h.2]
theorem aaw(A:%[|23])(d:a.kind=.function)(nd:c.Nodup):At Ω (iQ X a c C s H ex cl) r false c a.names where
 cd:=λ h=>nomatch h
 fr:=λ h=>nomatch h
 p:=A.p
 w:=A.w
 k:=A.k
 g:=A.g
 b:=A.b
 room:=A.room
 xe:=A.xe
 calm:=A.calm
 n:=rfl
 nd:=nd
 kind:=d
 look:=by intro x k h;show(relabel a X.env).names.lookup x=some k\/_;rw[nT,gD,h];rcases uU X.env x k with q | ⟨e,f⟩;{exact .inl (ei some q)};{refine .inr %[e|?_];show(relabel a X.env).names.lookup x=some .cell;rw[nT,gD,h];exact ei some f}
 fn:=λ x h=>by show(a.names.lookup x==some .cell)=true;rw[h];rfl
def wH(A:%[|23]){cd:Cd Ω}(le:e.lev<=r)(R:cd.lev<=r)(p:m.kind=.function)(nd:g.Nodup)(hs:(u.slots.all λ j=>f[j]? ==some none)=true)
 (P:u.chk false g m.names t=true)(E:cd.chk false g m.names cs=true)(I:e.chk false g m.names x=true)(h:sX f v e u cd W ds C0 F):CT X m g f v x t cs W ds C0 F:=by
 unfold sX at h;obtain⟨Q,n,S,T,V,U⟩:=h;refine%[Q,n,S,T,λ i d b w L O C s H ex cl=>?_|U];have B:=aaw A (C:=C) (s:=s) (H:=H) (ex:=ex) (cl:=cl) p nd;have J:∀j∈u.slots,(capt f v)[j]? =some none:=λ j M=>QS (by have:=gp.mp hs j M;exact ZU this);have base:=V i d b w L O;have G:∀a,(cd.wp a w λ l k=>(l=true->e.wp a k λ y o=>n (i+1) (b++[y]) o)/\(l=false->n (i+1) b k))->
  TsA (iQ X m g C s H ex cl) a w cs λ l k=>(l=true->Ev (iQ X m g C s H ex cl) a k x λ y o=>n (i+1) (b++[y]) o)/\(l=false->n (i+1) b k):=by
  intro a q;have:=cd.sound B R E q;match cs,this with
  | [],this=>exact%[λ p=>e.sound B le I (this.1 p)|this.2]
  | [c],this=>exact Ts.mono this λ l k z=>%[λ p=>e.sound B le I (z.1 p)|z.2]
  | _::_::_,this=>exact this.elim
 refine Tg.sound B (W:=λ a K=>Sub (capt f v) a/\TsA (iQ X m g C s H ex cl) a K cs λ l k=>(l=true->Ev (iQ X m g C s H ex cl) a k x λ y o=>n (i+1) (b++[y]) o)/\(l=false->n (i+1) b k)) P ?_
 cases u with
 | nm j=>exact%[(Sub.refl _).set j _ (J j (by simp[Tg.slots]))|G _ base]
 | tup Z=>
   cases d with
   | tup Y=>exact%[base.1,Sub.setAll (Sub.refl _) J|G _ base.2]
   | _=>exact base.elim
end
def ade(N':ae7)(cap:ae9)(elt:Ex Ω)(tg:Tg)(it:Itb Ω)(cd:Cd Ω):Ex Ω where
 lev:=max elt.lev (max it.lev cd.lev)
 chk a N l e:=xq N' cap elt tg it cd a N l e
 wp g S W:=it.wp g S λ j h=>rM cap g elt tg cd W j h
 sound:=by intro X r a N l e g S W A z y B;obtain⟨C,f⟩:=lv2 z;obtain⟨f,D⟩:=lv2 f;obtain⟨x,t,i,F,G,E,rfl,k,m,n,o,p,s,u,v,w,b,c,d⟩:=wK y;exact W2 N' cap (adV (ItW.mono (it.sound A f w B) λ j h q=>wH A C D k v u b c d q)) A.xe A.calm k m (zO A n) o (nY A p) (rR s _)
end RF
namespace RF
open PySem PySem.Spec L2 DL
open PyProof.Rows
variable{Ω:Wd}
def zB(h:noC e=true)(t:Expr)(l:Nat)(env:Env):swapsWithSole [t] e l env=pure false:=by unfold swapsWithSole;exact iD h (some t) l env
set_option genInjectivity false in
structure Sm(Ω:Wd) where
 lev:Nat
 chk:Bool->List Str->Nm->Stmt->Bool
 wp:Gam->Store->DL.Fin->Prop
 sound:∀{X:Cx}{r:Nat}{top:Bool}{N:ae7}{nm:Nm}{st:Stmt}{Γ:Gam}{S:Store}{W:DL.Fin},%[|23]->lev<=r->chk top N nm st=true->wp Γ S W->Rn X Γ S st W
set_option genInjectivity false in
structure Bl(Ω:Wd) where
 lev:Nat
 chk:Bool->List Str->Nm->List Stmt->Bool
 wp:Gam->Store->DL.Fin->Prop
 sound:∀{X:Cx}{r:Nat}{top:Bool}{N:ae7}{nm:Nm}{sts:List Stmt}{Γ:Gam}{S:Store}{W:DL.Fin},%[|23]->lev<=r->chk top N nm sts=true->wp Γ S W->Rns X Γ S sts W
def gB:Bl Ω where
 lev:=0
 chk _ _ _ a:=match a with | []=>true | _=>false
 wp c S W:=W.nx c S
 sound:=by
  intro X r e N g a c S W A f b d;match a,b with
  | [],_=>exact aa8 d
  | _::_,b=>exact fE b
def fM(s:Sm Ω)(b:Bl Ω):Bl Ω where
 lev:=max s.lev b.lev
 chk c N e a:=match a with | st::a=>s.chk c N e st&&b.chk c N e a | _=>false
 wp h S W:=s.wp h S {W with nx:=λ f g=>b.wp f g W}
 sound:=by
  intro X r c N e a h S W A k d l;obtain⟨m,n⟩:=lv2 k;match a,d with
  | st::a,d=>refine an2 d λ i j=>?_;exact Yq (Rn.mono (s.sound A m i l) (λ G g q=>b.sound A n j q) (λ _ _ q=>q) (λ _ _ q=>q) λ _ _ q=>q)
  | [],d=>exact fE d
def Ac(a:Ex Ω):Sm Ω where
 lev:=a.lev
 chk b N f d:=match d with | .Return (some e) _=>a.chk b N f e | _=>false
 wp g S W:=a.wp g S W.rt
 sound:=by
  intro X r b N f d g S W A h c i
  cases d with
  | Return o j=>
    cases o with
    | some e=>exact acx (a.sound A h c i)
    | none=>exact fE c
  | _=>exact fE c
def adg(a:Ex Ω):Sm Ω where
 lev:=a.lev
 chk b N g c:=match c with | .Expr e _=>noC e&&a.chk b N g e | _=>false
 wp d S W:=a.wp d S λ _ h=>W.nx d h
 sound:=by
  intro X r b N g c d S W A k f l
  cases c with
  | Expr e m=>refine an2 f λ i j=>?_;exact ZV (a.sound A k j l) (iD i _ _ _)
  | _=>exact fE f
def S9(c:Te Ω)(a b:Bl Ω):Sm Ω where
 lev:=max c.lev (max a.lev b.lev)
 chk d N e j:=match j with | .If t m n _=>c.chk d N e t&&(a.chk d N e m&&b.chk d N e n) | _=>false
 wp f S W:=c.wp f S λ k g=>(k=true->a.wp f g W)/\(k=false->b.wp f g W)
 sound:=by
  intro X r d N e j f S W A u l v;obtain⟨w,i⟩:=lv2 u;obtain⟨i,x⟩:=lv2 i
  cases j with
  | If t m n y=>refine an3 l λ o p s=>?_;exact acY (Ts.mono (c.sound A w o v) λ k g q=>%[λ h=>a.sound A i p (q.1 h)|λ h=>b.sound A x s (q.2 h)])
  | _=>exact fE l
def u5(i:Nat)(a:Ex Ω):Sm Ω where
 lev:=a.lev
 chk b N g j:=setB j λ x e=>(N[i]? ==some x)&&(lcl b g x&&(noC e&&a.chk b N g e))
 wp h S W:=a.wp h S λ d k=>W.nx (h.set i (some d)) k
 sound:=by intro X r b N g j h S W A p f q;refine Gi f λ x v e u c=>?_;have f:=c;{refine an4 f λ l m n o=>?_;obtain⟨s,t⟩:=A.lcl m;exact Wy i (a.sound A p o q) (by rw[A.n];exact A.nd) (by rw[A.n];exact ZU l) s (iD n _ _ _) t}
def adW(i:Nat)(N':ae7)(cap:ae9)(elt:Ex Ω)(tg:Tg)(it:Itb Ω)(cd:Cd Ω):Sm Ω where
 lev:=max elt.lev (max it.lev cd.lev)
 chk b N u I:=setB I λ x e=>(N[i]? ==some x)&&(lcl b u x&&(b&&(xq N' cap elt tg it cd b N u e)))
 wp g S W:=it.wp g S λ y w=>rM cap g elt tg cd (λ d J=>W.nx (g.set i (some d)) J) y w
 sound := by
  intro X r b N u I g S W A C o D;refine Gi o λ x p e H o=>?_
  . refine an4 o λ U V k0 a=>?_;obtain⟨E,F⟩:=A.lcl V;have z:X.N[i]? =some x:=by rw[A.n];exact ZU U
    have G:X.N.Nodup:=by rw[A.n];exact A.nd
    obtain⟨le,Y⟩:=lv2 C;obtain⟨li,Z⟩:=lv2 Y;obtain⟨v,t,s,h,c,pos,rfl,B,K,L,M,O,P,Q,R,T,j,l,m⟩:=wK a;{by_cases f:(X.env.blockKind==.function&&X.env.kindOf x==some .local&&p.line==(Expr.ListComp v [%[t,s,h|0]] c pos).pos.line&& !(c.names.any λ(n,k)=>n==x&&(k==.local||k==.cell)))=true;{refine Rx i N' cap (adV (ItW.mono (it.sound A li T D) λ y w q=>wH A le Z B R Q j l m q)) G z E ?_ F A.xe A.calm B K (zO A L) M (nY A O) (rR P _);{show(pure (X.env.blockKind==.function&&X.env.kindOf x==some .local&&p.line==(Expr.ListComp v [%[t,s,h|0]] c pos).pos.line&& !(c.names.any λ(n,k)=>n==x&&(k==.local||k==.cell))):Sem Bool)=pure true;rw[f]}};{have f:_=false:=Bool.eq_false_iff.mpr f;refine Wy i ((ade N' cap elt tg it cd).sound A C a D) G z E ?_ F;show(pure (X.env.blockKind==.function&&X.env.kindOf x==some .local&&p.line==(Expr.ListComp v [%[t,s,h|0]] c pos).pos.line&& !(c.names.any λ(n,k)=>n==x&&(k==.local||k==.cell))):Sem Bool)=pure false;rw[f]}}
def adF(o i a:Ex Ω):Sm Ω where
 lev:=max a.lev (max o.lev i.lev)
 chk f N l B:=ixB B λ x y e=>noC e&&(okE y&&(a.chk f N l e&&(o.chk f N l x&&i.chk f N l y)))
 wp h S W:=a.wp h S λ d u=>o.wp h u λ x w=>i.wp h w λ y m=>match x,y with | .loc k,.int n=>∃g j,m[k]? =some g/\ixN g.length n=some j/\W.nx h (m.set k (g.set j d)) | _,_=>False
 sound:=by intro X r f N l B h S W A H s I;obtain⟨J,t⟩:=lv2 H;obtain⟨t,K⟩:=lv2 t;refine sZ s λ x y p e z s=>?_;{refine an5 s λ C D E F G=>?_;refine X7 ((a.sound A J E I).mono λ d u q=>(o.sound A t F q).mono λ x w q=>(i.sound A K G q).mono λ y m q=>?_) ?_ (zB C _ _ _) ?_ rfl;{cases x<;>first | exact q.elim | (cases y<;>first | exact q.elim | (obtain⟨g,j,a,b,c⟩:=q;exact%[_,_,g,j,rfl,rfl,a,b|c]))};{intro v;cases y<;>first | rfl | exact(y6 D).elim};{rfl}}
def Vp(h:Ev X l S e λ d S1=>BdW X b d l S1 W.nx)(hs:swapsWithSole [b] e f.line X.env=pure false)(hw:swappedStores [b] e X.env=pure none)(h1:(assignEach [b] X.env).map (·.2)=[assign b X.env]):Rn X l S (.Assign [b] e f) W:=by intro a s m H O I c r;refine wpAny_Assign_stores (thn (h a s m H O I c r) λ u w j=>?_) hs hw;obtain⟨v,n,o,t,p,d,S1,x,i,k,g⟩:=j;rw[h1];show wpAny _ _ (assign b X.env u) _ _ _;refine thn (x a w m n p v u o (c.mono i) k g t) λ _ y ⟨σ',H',I',q⟩=>%[σ',H',I'|QN.pre i q]
def acj:Expr->Bool
 | .Tuple .. =>false
 | e=>noC e
def ad3(t:ae3)(a:Ex Ω):Sm Ω where
 lev:=a.lev
 chk c N l v:=anB (aaX v) λ z=>cM z.1 λ i=>zm i&&(acj z.2&&((Tg.tup t).chk c N l i&&a.chk c N l z.2))
 wp m S W:=a.wp m S λ d o=>(Tg.tup t).wp d m λ n=>W.nx n o
 sound:=by
  intro X r c N l v m S W A y h C;obtain⟨⟨D,e⟩,b,f⟩:=bz h;clear h;obtain⟨u,b⟩:=W3 b;subst b;obtain⟨i,b,g⟩:=fG f;clear f;have b:D=[i]:=b;subst b;refine an2 g λ B h=>?_;clear g;obtain⟨E,k,p,b⟩:=mV B;subst b
  . refine an3 h λ s w x=>?_;have j:noC e=true:=by cases e<;>first | rfl | exact(y6 s).elim
    refine Vp ((a.sound A y x C).mono λ d o q=>Tg.sound A (W:=W.nx) w q) (zB j _ _ _) ?_ rfl;cases e<;>first | rfl | exact(y6 s).elim
@[irreducible] noncomputable def kO(Γ:Gam)(tg:Tg)(body:Bl Ω)(W:DL.Fin)(ds:List D)(S1:Store):Prop:=
  ∃b:Nat->Gam->%[|4],b 0 Γ S1/\(∀i d a c,%[|28]->b i a c->tg.wp d a λ e=>body.wp e c {W with nx:=b (i+1),ct:=b (i+1),bk:=W.nx})/\(∀a c,b ds.length a c->W.nx a c)
def qg{a:Bl Ω}(h:∃Pv:Nat->Gam->%[|4],Pv 0 e b/\(∀i d Γ' S',%[|28]->Pv i Γ' S'->c.wp d Γ' λ Γ2=>a.wp Γ2 S' {W with nx:=Pv (i+1),ct:=Pv (i+1),bk:=W.nx})/\(∀Γ' S',Pv ds.length Γ' S'->W.nx Γ' S')):kO e c a W ds b:=by unfold kO;exact h
def adq(tg:Tg)(it:Itb Ω)(body:Bl Ω):Sm Ω where
 lev:=max it.lev body.lev
 chk a N e n:=frB n λ t i b=>okE i&&(tg.chk a N e t&&(it.chk a N e t i&&body.chk a N e b))
 wp h S W:=it.wp h S λ m k=>kO h tg body W m k
 sound:=by intro X r a N e n h S W A x g z;obtain⟨B,C⟩:=lv2 x;refine xr g λ t i b F g=>?_;{refine an4 g λ p s u v=>?_;refine ace (ItW.mono (it.sound A B u z) λ m k q=>?_) (by rw[A.xe];exact me) A.calm (rR p _);unfold kO at q;obtain⟨f,D,G,E⟩:=q;refine%[f,D,λ i d j o w y=>BdW.mono (Tg.sound A (W:=λ c l=>body.wp c l {W with nx:=f (i+1),ct:=f (i+1),bk:=W.nx}) s (G i d j o w y)) λ c l q=>body.sound A C v q|E]}
def WR(N ps:ae7)(sm:Stmt)(k:Nat)(body:Bl Ω):Bool:=
 ((aY sm).kind==.function)&&(!(aY sm).isCoroutine&&(!(aY sm).isGenerator&&(decide N.Nodup&&(decide (N.take ps.length=ps)&&((ps.all λ x=>(aY sm).names.lookup x==some .local||(aY sm).names.lookup x==some .cell)&&
   (((aY sm).names.all λ y=>!(y.2==.free))&&(Nat.ble body.lev k&&body.chk true N (aY sm).names (dI sm))))))))
def ack(m:Ω.cd=none)(l:Fun Ω.K x b c f g)(a:Bl Ω)(I:WR N ps c k a=true)
 (O:∀(ds:List D)(S:Store)(W:WD),F ds S W->ds.length=ps.length->a.wp (ds.map some++List.replicate (N.length-ds.length) none) S {nx:=λ _ S1=>W .non S1,rt:=W}):FnOk Ω.P Ω.w Ω.K Ω.mg Ω.base CX0 (k+1) f g ps (spC Ω.K ps.length F):=by refine an9 I λ o t u v w z B C G=>?_;have i:N.Nodup:=ck v;have j:FnScope N ps (aY c):=%[ZU o,nt t,nt u,i,ck w,λ x L=>by have:=gp.mp z x L;simpa using this|λ y M e=>by have:=List.all_eq_true.mp B y M;simp[e]at this];refine ab4 l j λ n A d s H E ds S W _ K J h=>?_;refine a.sound (r:=k) (top:=true) (N:=N) (nm:=(aY c).names) %[rfl,rfl,rfl,rfl,rfl,K,rfl,rfl,rfl,i,j.kind,λ x P h=>.inl h,λ _ _=>rfl,λ _ p q=>(nomatch (m.symm.trans q))|λ _=>%[rfl,rfl|rfl]] (Nat.le_of_ble_eq_true C) G (O ds S W h J)
def callee(d:Fun Ω.K x a g f c)(h:FnOk Ω.P Ω.w Ω.K Ω.mg Ω.base CX0 k f c ps (spC Ω.K n F))(e:Ω.mg x=some (.ref f))(b:Binds Ω.K c ps []):Callee Ω.P Ω.w Ω.K Ω.mg Ω.base x k n F:=%[f,c,ps,h,e,d.kp|b]
end RF
namespace RF
open PySem PySem.Spec L2 DL
open PyProof.Rows
def dB:Bf where
 x:="len"
 id:="len"
 boot:=%[|9]
 wp a S W:=match a with
  | [.tup a]=>W (.int a.length) S
  | [.lst a]=>W (.int a.length) S
  | [.loc k]=>∃a,S[k]? =some a/\W (.int a.length) S
  | _=>False
 sound:=by intro X a S W d e h;split at h;{exact aau h};{exact aay h};{obtain⟨a,b,c⟩:=h;exact aah b c};{exact h.elim}
def jh:Bf where
 x:="all"
 id:="all"
 boot:=%[|9]
 wp a S W:=match a with
  | [.lst a]=>∃b:List Bool,a=b.map .bl/\W (.bl (b.all id)) S
  | _=>False
 sound:=by intro X a S W c d h;split at h;{obtain⟨b,rfl,h⟩:=h;exact k_all h c};{exact h.elim}
def abi:Bf where
 x:="abs"
 id:="abs"
 boot:=%[|9]
 wp a S W:=match a with
  | [.int i]=>W (.int (if i<0 then-i else i)) S
  | _=>False
 sound:=by intro X a S W d e h;split at h;{refine eE Tc λ O H f c r=>?_;obtain⟨v,rfl,b⟩:=gh r;cases b;exact%[_,rfl|Hc h c (.int _)]};{exact h.elim}
def Wn{K}(r:Reps K O H vs [d,e]):∃v w,vs=[v,w]/\Rep K O H v d/\Rep K O H w e:=by cases r with| cons a t=>cases t with| cons b t=>cases t;exact%[_,_,rfl,a|b]
def acX:Bf where
 x:="min"
 id:="min"
 boot:=%[|9]
 wp a S W:=match a with
  | [.int i,.int j]=>W (.int (if j<i then j else i)) S
  | _=>False
 sound:=by intro X a S W b f h;split at h;{refine eE (QQ b) λ O H g e r=>?_;obtain⟨v,w,rfl,c,d⟩:=Wn r;cases c;cases d;exact%[_,_,rfl|Hc h e (.int _)]};{exact h.elim}
def acR:Bf where
 x:="max"
 id:="max"
 boot:=%[|9]
 wp a S W:=match a with
  | [.int i,.int j]=>W (.int (if j>i then j else i)) S
  | _=>False
 sound:=by intro X a S W b f h;split at h;{refine eE (Pq b) λ O H g e r=>?_;obtain⟨v,w,rfl,c,d⟩:=Wn r;cases c;cases d;exact%[_,_,rfl|Hc h e (.int _)]};{exact h.elim}
def bL:Bc where
 x:="tuple"
 id:="tuple"
 boot:=%[|9]
 wp a S W:=match a with
  | [.lst a]=>W (.tup a) S
  | [.loc k]=>∃a,S[k]? =some a/\W (.tup a) S
  | _=>False
 sound:=by intro X a S W d e h;split at h;{exact abw h};{obtain⟨a,b,c⟩:=h;exact abD b c};{exact h.elim}
def acW:Bc where
 x:="int"
 id:="int"
 boot:=%[|9]
 wp c S W:=match c with
  | [.int i]=>W (.int i) S
  | [.bl k]=>W (.int (if k then 1 else 0)) S
  | _=>False
 sound:=by intro X c S W e f h;split at h;{refine eE zR λ O H d b r=>?_;obtain⟨v,rfl,a⟩:=gh r;cases a;exact .inl %[_,rfl|Hc h b (.int _)]};{refine eE zR λ O H d b r=>?_;obtain⟨v,rfl,a⟩:=gh r;cases a;exact .inr %[_,rfl|Hc h b (.int _)]};{exact h.elim}
section
variable{X:Cx}{Γ:Gam}{S:Store}{e:Expr}{pos:Pos}
def Y6(h:Ev X Γ S e λ d S1=>match d with | .lst ds=>W (ds.mapIdx λ i d=>.tup [.int i,d]) S1 | .tup ds=>W (ds.mapIdx λ i d=>.tup [.int i,d]) S1 | _=>False)(hm:X.mg "enumerate"=none)(hg:Gl X "enumerate")(hs:starEach [e] X.env=[%[|42]]):
 ItW X Γ S (.Tuple l k tp) (.Call (.Name "enumerate" p) [e] [] pos) W:=by
 intro t s σ H O I E st;refine Call_ (cj I hg hm boot_enumerate (dV (thn (rW h.pe Ek hs pos t s σ H (λ V y=>∃v,V=[v]/\QG X.K O H (λ d S1=>match d with | .lst ds=>W (ds.mapIdx λ i d=>.tup [.int i,d]) S1 | .tup ds=>W (ds.mapIdx λ i d=>.tup [.int i,d]) S1 | _=>False) v y) I %[O,E,st|λ v y q=>%[v,rfl|q]]) λ us f L=>?_) hs rfl));obtain⟨V,H1,z,r1,v,ev,T,d,S1,w,x,r,Q⟩:=L;subst ev;obtain⟨u,rfl,U⟩:=vals1 r1
 cases Q with
 | @lst a R ds m P=>cases U;obtain⟨g,rv,N,B⟩:=z.list m.sq;refine call_enumerate_list N.isList λ h' A K _ kp=>J9 (Wt X.prog X.w X.K) z A K kp %[T,_,S1,w,x,r|uB _ λ Y y j=>%[R,(m.conv j).sq|P.conv j]]
 | @tup a R ds m P=>
   cases U;obtain⟨g,rv,N,B⟩:=z.tuple m.sq;obtain⟨⟨c,C,Z,sl⟩,hl,G,n,J⟩:=N;replace G:c=%[|10]:=G;replace J:Z=.seq g.toArray n:=J;subst G J;refine callType_new F.called_enumerate %[|1] (F.typeCall_enumerate_1 _) (F.newCall_enumerate_1 _) (λ M=>F.args_object_init_2 M _) F.entry_enumerate_new (Qx a g.toArray n C sl) %[hl|?_];have B:(f.heap.push {cls:=.type "tuple_iterator",data:=.fields #[.ref a,.int 0 0]}).objs.size=f.heap.objs.size+1:=fx ..;show _/\_;rw[B];have A:IsEnum ((f.heap.push {cls:=.type "tuple_iterator",data:=.fields #[.ref a,.int 0 0]}).push {cls:=.type "enumerate",data:=.fields #[.none,.bool false,.ref f.heap.objs.size,rawInt 0,.none,.none]}) (f.heap.objs.size+1) f.heap.objs.size 0 .none:=by have:=c9 (f.heap.push {cls:=.type "tuple_iterator",data:=.fields #[.ref a,.int 0 0]}) (o:={cls:=.type "enumerate",data:=.fields #[.none,.bool false,.ref f.heap.objs.size,rawInt 0,.none,.none]}) rfl;rw[B]at this;exact this
   have K:Heap.IsTupleIter ((f.heap.push {cls:=.type "tuple_iterator",data:=.fields #[.ref a,.int 0 0]}).push {cls:=.type "enumerate",data:=.fields #[.none,.bool false,.ref f.heap.objs.size,rawInt 0,.none,.none]}) f.heap.objs.size a 0:=
    %[_,bE _ (c9 _ rfl),rfl|rfl];exact%[%[_,A|rfl]|J9 (Mx X.prog X.w X.K) z A K (λ b o e=>bE _ (bE _ e)) %[T,_,S1,w,x,r|uB _ λ Y y j=>%[R,(m.conv j).sq|P.conv j]]]
 | _=>exact w.elim
end
variable{Ω:Wd}
def adG(hm:Ω.mg "enumerate"=none)(a:Ex Ω):Itb Ω where
 lev:=a.lev
 chk h N l o e:=zm o&&cO e λ y n=>cM n λ b=>(y==("enumerate":Str))&&(glb l "enumerate"&&(okE b&&a.chk h N l b))
 wp q S W:=a.wp q S λ d m=>match d with | .lst ds=>W (ds.mapIdx λ i d=>.tup [.int i,d]) m | .tup ds=>W (ds.mapIdx λ i d=>.tup [.int i,d]) m | _=>False
 sound:=by intro X r h N l o e q S W A x j z;refine an2 j λ s c=>?_;obtain⟨D,k,C,rfl⟩:=mV s;refine aX c λ y p n B f=>?_;refine bK f λ b g=>?_;have j:=g;{refine an4 j λ t u v w=>?_;have e:=ZU t;subst e;exact Y6 (a.sound A x w z) (by rw[A.g];exact hm) (A.glb u) (aJ v [] _)}
def aed(hm:Ω.mg "zip"=none)(a b:Ex Ω):Itb Ω where
 lev:=max a.lev b.lev
 chk c N j u e:=zm u&&cO e λ y i=>two2 i λ l r=>(y==("zip":Str))&&(glb j "zip"&&((okE l&&okE r)&&(a.chk c N j l&&b.chk c N j r)))
 wp o S W:=a.wp o S λ d s=>b.wp o s λ m t=>match d,m with | .tup ds,.tup i=>W (List.zipWith (λ x y=>.tup [x,y]) ds i) t | _,_=>False
 sound:=by intro X r c N j u e o S W A H n I;obtain⟨J,K⟩:=lv2 H;refine an2 n λ v f=>?_;obtain⟨Q,k,P,rfl⟩:=mV v;refine aX f λ y p i L g=>?_;refine two2_ind g λ M O h=>?_;have n:=h;{refine an4 n λ w z B C=>?_;refine an2 B λ D E=>?_;refine an2 C λ F G=>?_;have e:=ZU w;subst e;refine VN ((a.sound A J F I).mono λ d s q=>(b.sound A K G q).mono λ m t q=>?_) (by rw[A.g];exact hm) (A.glb z) (aJ D _ _) (aJ E [] _);cases d<;>first | exact q.elim | (cases m<;>first | exact%[_,_,rfl,rfl|q] | exact q.elim)}
end RF
namespace RF
def ff{P:Prop}(h:false=true):P:=(y6 h).elim
def tf{P:Prop}(h:true=false):P:=(y6 h.symm).elim
open PySem PySem.Spec L2 DL
open PyProof.Rows
abbrev Cal(Ω:Wd)(x:Str)(k n:Nat)(F:Ct):Prop:=Callee Ω.P Ω.w Ω.K Ω.mg Ω.base x k n F
abbrev Ok(Ω:Wd)(k:Nat)(f:Addr)(fd:FuncData)(ps:ae7)(F:Ct):Prop:=FnOk Ω.P Ω.w Ω.K Ω.mg Ω.base CX0 k f fd ps (spC Ω.K ps.length F)
def wC:Ct:=λ c S W=>∃a,c=[.lst (List.map .int a)]/\a.length<=63/\(∀b,W (.bl true) b)/\S=[]
def aaG{K}{ns:ae0}(f:ns.length<=63)(c:SqL K H a (ns.map V.int)):spC K 1 wC [.ref a] H (λ v _=>v=.bl true) E:=by refine%[%[[]|[]],[.lst (ns.map .int)],[],λ d _=>d=.bl true,rfl,.cons (.lst (xs:=ns.map V.int) ?_ (adB ns)) .nil,?_,%[ns,rfl,f,λ _=>rfl|rfl]|λ v g q=>?_];{rcases c with h | h;{exact .inl ⟨λ z=>by rcases z with z | z<;>exact absurd (show a∈([]:List Addr)from z) (by simp),h⟩};{exact .inr (.inr h)}};{exact%[iA,rfl,λ k a b e=>by simp at e,λ k a b e=>by simp at e,λ a h=>absurd (show a∈([]:List Addr)from h) (by simp)|λ a h=>absurd (show a∈([]:List Addr)from h) (by simp)]};{obtain⟨i,d,j,w,_,_,r⟩:=q;subst w;cases r;rfl}
def walk{l:PySem.W.OpenLaw}{K:Params->PySem.W.Frag}(p:l.most=some 63)(c:d.params.defaults=[])(r:Room lev callerA)
 (m:∀(w:World)(h:Heap),e w h->(K w.params).In h)
 (F:∀(w:World)(mg:ae8)(g:Addr)(h:Heap),(K w.params).In h->h.Ns mainGlobals mg->mg d.name=some (.ref g)->
  ∃fd:FuncData,(∀(s:ae4)(u:Value),BindsTo s fd %[[u]|[]] [(x,u)])/\∀base:Heap,(K w.params).In base->base.Ns mainGlobals mg->FnOk l.prog w (K w.params) mg base CX0 lev g fd [x] (spC (K w.params) 1 wC)):
 PySem.W.WalkO q b i e l.row.toRowW d [] (λ f vs=>PySem.call f vs):=
 L2.walk_of (n:=63) (k:=lev) (x:=x) (CX:=λ _=>CX0) (sp:=λ w=>spC (K w.params) 1 wC) p %[|1] c r m F (λ _ _ a t o _ j=>aaG o j) λ _ _ _ _ _ z=>z
def Tg.mono{t:Tg}(h:t.wp d b W)(k:∀G,W G->a G):t.wp d b a:=by
 cases t with
 | nm i=>exact k _ h
 | tup e=>
   cases d with
   | tup c=>exact%[h.1|k _ h.2]
   | _=>exact h.elim
section
variable{Ω:Wd}{cap:List (Option Nat)}{Γ:Gam}{elt:Ex Ω}{tg:Tg}{cd:Cd Ω}{W:WD}{ds:List D}{S1:Store}
def fZ(f:D->D)(hz:ds.length<=1000000)(h:∀(i:Nat)(d:D),%[|28]->∀Q:WD,Q (f d) S1->tg.wp d (capt cap Γ) λ Γ2=>elt.wp Γ2 S1 Q)(w:W (.lst (ds.map f)) S1):rM cap Γ elt tg (adl (Ω:=Ω)) W ds S1:=by refine jK %[hz,λ i a b=>a=(ds.take i).map f/\b=S1,%[rfl|rfl],?_|?_];{rintro i d a b c ⟨rfl,rfl⟩;refine Tg.mono (h i d c (λ y e=>(ds.take i).map f++[y]=(ds.take (i+1)).map f/\e=b) %[?_|rfl]) λ G q=>%[λ _=>q|λ z=>tf z];rw[aH c,cf];rfl};{rintro a b ⟨rfl,rfl⟩;rw[cS];exact w}
def qU(P:Nat->D->Prop)(Q:%[|4])(hz:ds.length<=1000000)(m:Q S1)(h:∀(i:Nat)(d:D)(S':Store),%[|28]->Q S'->∀R:WD,(∀y S4,P i y->Q S4->R y S4)->tg.wp d (capt cap Γ) λ Γ2=>elt.wp Γ2 S' R)
 (w:∀(ys:List D)(S':Store),ys.length=ds.length->(∀i y,ys[i]? =some y->P i y)->Q S'->W (.lst ys) S'):rM cap Γ elt tg (adl (Ω:=Ω)) W ds S1:=by
 refine jK %[hz,λ i a S'=>(a.length=i/\∀j y,a[j]? =some y->P j y)/\Q S',%[%[rfl|λ j y e=>by simp at e]|m],?_|λ a S' h=>w a S' h.1.1 h.1.2 h.2];rintro i d a S' f ⟨⟨k,c⟩,q⟩;refine Tg.mono (h i d S' f q (λ y S4=>((a++[y]).length=i+1/\∀j b,(a++[y])[j]? =some b->P j b)/\Q S4) λ y S4 l n=>%[%[by simp[k]|λ j b e=>?_]|n]) λ G q=>%[λ _=>q|λ z=>tf z];by_cases g:j<a.length;{rw[x9 g]at e;exact c j b e}
 . rw[da %[|0]]at e;have:j-a.length=0:=by have:=(z0.mp e).1;simp at this;omega
   rw[this]at e;simp at e;subst e;have:j=i:=%[|0]
   rw[this];exact l
end
def bT(h:A):(true=true->A)/\(true=false->B):=%[λ _=>h|λ z=>tf z]
def bF(h:B):(false=true->A)/\(false=false->B):=%[λ z=>ff z|λ _=>h]
def dT(h:B):(true=false->A)/\(true=true->B):=%[λ z=>tf z|λ _=>h]
variable{K:PySem.W.Frag}{O O':Own}{H:Hp}{ds:List D}{W:WD}{Γ:Gam}{S:Store}{i:Int}
def dY(h:∀a,¬O.has a->¬O'.has a)(n:aA d=true)(r:Rep K O H v d):Rep K O' H v d:=
 Rep.rec (motive_1:=λ v d _=>aA d=true->Rep K O' H v d) (motive_2:=λ g f _=>aa f=true->Reps K O' H g f) (λ _=>.non) (λ b _=>.bl b) (λ i _=>.int i) (λ x _=>.str x) (λ h1 _ c n=>.tup %[h _ h1.1|h1.2] (c n)) (λ h1 _ c n=>.lst (h1.imp (λ q=>%[h _ q.1|q.2]) id) (c n)) (λ _ n=>by cases n) (λ _ _ n=>by cases n) (λ h1 e _=>.dic (h _ h1) e) (λ _=>.nil) (λ _ _ i j n=>.cons (i (bD n).1) (j (bD n).2)) r n
def gq(h:∀a,¬O.has a->¬O'.has a)(n:aa ds=true)(r:Reps K O H vs ds):Reps K O' H vs ds:=
 r.ind (P:=λ vs ds=>aa ds=true->Reps K O' H vs ds) (λ _=>.nil) (λ r _ i n=>.cons (dY h (bD n).1 r) (i (bD n).2)) n
def TF(h:∀a,¬O.has a->¬O'.has a)(n:aa ds=true)(r:Kps K O H vs ds):Kps K O' H vs ds:=by
 revert n
 induction r with
 | nil=>exact λ _=>.nil
 | cons r t b=>intro n;simp only[aa,aA,eL]at n;exact .cons (dY h n.1.2.1 r) (b n.2)
def Dt(h:∀a,¬O.has a->¬O'.has a)(n:aa ds=true)(r:Kcs K O H vs ds):Kcs K O' H vs ds:=by
 revert n
 induction r with
 | nil=>exact λ _=>.nil
 | cons e c d r t b=>intro n;simp only[aa,aA,eL]at n;exact .cons e (dY h n.1.1 c) d (dY h n.1.2.1 r) (b n.2)
def Ub(h:∀a,¬O.has a->¬O'.has a)(n:aa ds=true)(r:Kos K O H vs ds):Kos K O' H vs ds:=by
 revert n
 induction r with
 | nil=>exact λ _=>.nil
 | cons e c r t b=>intro n;simp only[aa,aA,eL]at n;exact .cons e c (dY h n.1.2.1 r) (b n.2)
def vG(h:∀a,¬O.has a->¬O'.has a)(n:aa ds=true)(b:DOb K O H a ds):DOb K O' H a ds:=by
 cases b with
 | t i e r=>exact .t i e (TF h n r)
 | c d z e r=>exact .c d z e (Dt h n r)
 | o d z e r=>exact .o d z e (Ub h n r)
 | m d j f e r=>subst f;exact .m d j rfl e (Dt h (by simpa[aa,aA]using n) r)
 | p s z b l c y q k e f g=>exact .p s z b l c y q k e f (g.imp id λ⟨g1,x,g2,g3,g4⟩=>%[g1,x,g2,h _ g3|g4])
def flat(S:Store):Prop:=∀l∈S,aa l=true
def j8(h:a∈adr (A.take n)):a∈adr A:=by obtain⟨x,b,rfl⟩:=bS.mp h;exact bS.mpr %[x,iN b|rfl]
def iy{J:List (List D)}(st:Step O O' H l)(ok:StOk K O' l (S'++J))(E:O.A.length<=S'.length)(p:flat S'):
 Step O %[O'.A.take S'.length|O'.B] H l/\StOk K %[O'.A.take S'.length|O'.B] l S'/\(∀b,¬O'.has b->¬(%[O'.A.take S'.length|O'.B]:Own).has b)/\∀j a,S'.length<=j->∀{q:Bool},O'.A[j]? =some (a,q)->¬(%[O'.A.take S'.length|O'.B]:Own).has a:=by
 obtain⟨N,s,t⟩:=st.ext;have o:O'.A.length=S'.length+J.length:=by have:=ok.len;simpa using this
 have e:∀b,¬O'.has b->¬(%[O'.A.take S'.length|O'.B]:Own).has b:=λ b g z=>g (z.imp j8 id);have x:(adr (O'.A.take S'.length)).Nodup:=by show(List.map _ (List.take _ _)).Nodup;rw[lS];exact ok.nd.sublist (mN _ _)
 refine%[%[st.kept,st.dom,%[N.take (S'.length-O.A.length),by show O'.A.take S'.length=_;rw[s,List.take_append,db %[|0]]|λ b g=>t b (j8 g)]|st.hid],%[x,by simp[o],λ k b f n d=>?_,λ k b f n d=>?_,λ b g=>ok.apart b (j8 g)|ok.hidden],e|λ j a C q r z=>?_];{have h:k<S'.length:=(z0.mp d).1;have c:(O'.A.take S'.length)[k]? =some (b,false):=n;rw[eR,ca h]at c;obtain⟨A,w,y⟩:=ok.obj k b f c (by rw[x9 h];exact d);exact%[A,w|gq e (p f (y4 d)) y]};{have h:k<S'.length:=(z0.mp d).1;have c:(O'.A.take S'.length)[k]? =some (b,true):=n;rw[eR,ca h]at c;exact vG e (p f (y4 d)) (ok.dob k b f c (by rw[x9 h];exact d))};{rcases z with z | z;{obtain⟨⟨B,F⟩,v,rfl⟩:=bS.mp z;obtain⟨i,m⟩:=cw v;rw[eR]at m;split at m;{rename_i u;exact xf ok.nd m r %[|0] rfl};{cases m}};{exact ok.apart a (bU r) z}}
def Frz(n:Nat)(W:WD):WD:=λ d c=>W d c\/∃b a,d=.loc a.length/\c=a++[b]/\n<=a.length/\aa b=true/\flat a/\W (.lst b) a
def QG.frz(y:O.A.length=n)(q:QG K O H (Frz n W) v g):QG K O H W v g:=by obtain⟨l,d,m,w,k,b,r⟩:=q;rcases w with w | ⟨i,h,rfl,rfl,x,p,o,w⟩;{exact%[l,d,m,w,k,b|r]};{obtain⟨e,c,f,t⟩:=iy k b %[|0] o;obtain⟨a,rfl,j⟩:=cV r;obtain⟨z,s,u⟩:=b.obj h.length a i j (by simp);exact%[_,.lst i,h,w,e,c|.lst (.inl %[t _ a (y9 _) j|.inl s]) (gq f p u)]}
def Yr{W}(h:Rns X Γ S b {W with rt:=Frz S.length W.rt}):Rns X Γ S b W:=λ a s j H O I c e=>
 thn (h a s j H O I c e) λ f k q=>by
  cases f with
  | next=>exact q
  | brk=>exact q
  | cont=>exact q
  | ret u=>obtain⟨v,d,g,i,r,q⟩:=q;exact%[v,d,g,i,r|QG.frz e.len q]
variable{Ω:Wd}
def Bl.frz(b:Bl Ω):Bl Ω where
 lev:=b.lev
 chk:=b.chk
 wp a S W:=b.wp a S {W with rt:=Frz S.length W.rt}
 sound:=by intro X r g N h f a S W A d c e;exact Yr (b.sound A d c e)
def hand(W:WD)(ds:List D)(S:Store):Prop:=W (.lst ds) S\/W (.loc S.length) (S++[ds])
def mZ(h:hand W ds S)(b:aa ds=true)(a:flat S):Frz S.length W (.loc S.length) (S++[ds]):=by rcases h with h | h;{exact .inr %[ds,S,rfl,rfl,y9 _,b,a|h]};{exact .inl h}
def Rq(h:Ev X Γ S o λ x S1=>∃k,x=.loc k/\Ev X Γ S1 e λ d S2=>∃ds,S2[k]? =some ds/\ds.length<1000000/\W .non (S2.set k (ds++[d])))
 (l:attributeBase o "append" X.env (eval o X.env)=eval o X.env)(hs:starEach [e] X.env=[%[|42]])(m:(f.endLine==g.line)=true):Ev X Γ S (.Call (.Attribute o "append" f) [e] [] g) W:=by
 intro b s C H O I c N;have K:∀(n:Own)(x:D)(v:V)(j:Hp)(S1:Store),(∃k,x=.loc k)->StOk X.K n j S1->Rep X.K n j v x->tyV X.K "list" v j:=by
  rintro n x v j S1 ⟨k,rfl⟩ R r;obtain⟨a,rfl,p⟩:=cV r;have hl:k<S1.length:=by rw[<-R.len];exact(z0.mp p).1
  obtain⟨P,L,_⟩:=R.obj k a S1[k] p (y3 hl);exact .inl %[rfl,P|SqL.of L]
 have hA:PA X [e] (λ C H Q=>∃O Γ S F,EnvOk X.K O H C Γ/\%[|13]/\Ev X Γ S e F/\∀v E,QG X.K O H F v E->Q [v] E):=by rintro M b s C H Q I ⟨O,Γ,S,F,c,N,G,k⟩;rw[hs];show wpAny _ _ (spliced (%[|42]::backTo M (starEach [] X.env))) _ _ s;refine eI (thn (G b s C H O I c N) λ u s1 J=>?_);obtain⟨v,j,Y,r1,q⟩:=J;exact f8 %[[v],j,Y,.cons r1 .nil|k v j q]
 refine Mt (T:="list") mM PySem.F.slot_list_append PySem.F.type_list_append zQ (h.pe) hA l (by rw[hs];rfl) m hs rfl b s C H _ I %[O,c,N|λ v E q=>?_];obtain⟨n,x,S1,⟨k,rfl,G⟩,A,t,i⟩:=q;refine%[K n _ v E S1 %[k|rfl] t i,n,Γ,S1,_,c.mono A,t,G|λ v2 H2 q2=>?_];obtain⟨Z,d,S2,⟨ds,hk,hz,w⟩,B,y,z⟩:=q2;have r:=i.mono B;obtain⟨a,rfl,p⟩:=cV r;obtain⟨P,L,U⟩:=y.obj k a ds p hk;exact%[a,P,v2,rfl,rfl,L,by rw[U.length];exact v3 hz %[|1],Z,.non,_,w,(A.trans B).trans (Step.put (bU p) _),y.put p (U.append (.cons z .nil))|.non]
def nameE:Expr->Bool
 | .Name .. =>true
 | _=>false
def fK(h:nameE x=true):attributeBase x name env (eval x env)=eval x env:=by cases x<;>first | rfl | exact ff h
def abv(o a:Ex Ω):Ex Ω where
 lev:=max o.lev a.lev
 chk b N h e:=pM e λ x m p n q=>cM n λ y=>(m==("append":Str))&&(nameE x&&((p.endLine==q.line)&&(okE y&&(o.chk b N h x&&a.chk b N h y))))
 wp i S W:=o.wp i S λ x j=>onL x λ k=>a.wp i j λ d l=>∃c,l[k]? =some c/\c.length<1000000/\W .non (l.set k (c++[d]))
 sound:=by intro X r b N h e i S W A B f C;obtain⟨D,E⟩:=lv2 B;refine iJ f λ x m p n q g=>?_;refine bK g λ y f=>?_;refine an6 f λ s t u v w z=>?_;have e:=ZU s;subst e;refine Rq ((o.sound A D w C).mono λ x j q=>?_) ?_ (aJ v [] _) u;{exact tB q λ _ q=>%[_,rfl|a.sound A E z q]};{exact fK t}
def Y8{W}(h:∃(Pv:Nat->Gam->%[|4]) (m0:Nat),Pv m0 Γ S/\∀m Γ' S',Pv m Γ' S'->
 Ts X Γ' S' c λ k S1=>(k=true->Rns X Γ' S1 l {W with nx:=λ G T=>∃m',m'<m/\Pv m' G T,ct:=λ G T=>∃m',m'<m/\Pv m' G T,bk:=W.nx})/\(k=false->W.nx Γ' S1))
 (Y:PassesOwn %[|5] X.A X.env X.xe):Rn X Γ S (.While c l [] Q) W:=by
 intro i s σ H O I K ok;obtain⟨Pv,m0,p0,z⟩:=h;refine wpAny_While (codeAny_whileLoop (λ n s'=>∃B C E Γ' S',Inv X i B C s'/\Pv n Γ' S'/\Step O E H C/\StOk X.K E C S'/\EnvOk X.K E C B Γ') ?_ m0 %[σ,H,O,Γ,S,I,p0,Step.refl _ _,ok|K]);rintro n s1 ⟨w,Z,O1,A,S1,I1,p1,j,N,e⟩;refine k9 Y (thn (z n A S1 p1 i s1 w Z O1 I1 e N) λ b s2 M=>?_);obtain⟨R,U,V,S2,w2,a,y⟩:=M
 cases b with
 | true=>
   rw[ca rfl];refine k9 Y (thn (w2.1 rfl i s2 w R V U (e.mono a) y) λ f s3 D=>?_)
   cases f with
   | next=>obtain⟨d,o,p,F,u,J,⟨m',L,P⟩,t,r,g⟩:=D;exact%[m',L,d,o,F,u,J,p,P,(j.trans a).trans t,r|g]
   | cont=>obtain⟨d,o,p,F,u,J,⟨m',L,P⟩,t,r,g⟩:=D;exact%[m',L,d,o,F,u,J,p,P,(j.trans a).trans t,r|g]
   | brk=>obtain⟨d,o,p,q⟩:=D;exact%[d,o,p|QN.pre (j.trans a) q]
   | ret v=>obtain⟨x,d,o,p,r3,q⟩:=D;exact%[x,d,o,p,r3|QG.pre (j.trans a) q]
 | false=>rw[bP y6];exact wpAny_execs_nil %[w,R,U,V,A,S2,w2.2 rfl,j.trans a,y|e.mono a]
@[irreducible] noncomputable def rE(c:Te Ω)(body:Bl Ω)(Γ:Gam)(S:Store)(W:DL.Fin):Prop:=∃(d:Nat->Gam->%[|4]) (g:Nat),d g Γ S/\∀m a e,d m a e->
 c.wp a e λ k f=>(k=true->body.wp a f {W with nx:=λ G T=>∃b,b<m/\d b G T,ct:=λ G T=>∃b,b<m/\d b G T,bk:=W.nx})/\(k=false->W.nx a f)
def Ul{a:Bl Ω}{W}(h:∃(Pv:Nat->Gam->%[|4]) (m0:Nat),Pv m0 Γ S/\∀m Γ' S',Pv m Γ' S'->
 c.wp Γ' S' λ k S1=>(k=true->a.wp Γ' S1 {W with nx:=λ G T=>∃m',m'<m/\Pv m' G T,ct:=λ G T=>∃m',m'<m/\Pv m' G T,bk:=W.nx})/\(k=false->W.nx Γ' S1)):rE c a Γ S W:=by unfold rE;exact h
def adS(c:Te Ω)(body:Bl Ω):Sm Ω where
 lev:=max c.lev body.lev
 chk a N f i:=match i with | .While t b [] _=>c.chk a N f t&&body.chk a N f b | _=>false
 wp j S W:=rE c body j S W
 sound:=by intro X r a N f i j S W A v e h;obtain⟨w,x⟩:=lv2 v;split at e;{refine an2 e λ o s=>?_;unfold rE at h;obtain⟨l,y,z,d⟩:=h;exact Y8 %[l,y,z|λ m g n p=>Ts.mono (c.sound A w o (d m g n p)) λ k B q=>%[λ u=>body.sound A x s (q.1 u)|q.2]] (by rw[A.xe];exact me)};{exact ff e}
def Sm.never:Sm Ω where
 lev:=0
 chk _ _ _ st:=match st with | .Raise _ _ _=>true | _=>false
 wp _ _ _:=False
 sound:=λ _ _ _ h=>h.elim
def bh(S:Store)(x:List D):(S++[x])[S.length]? =some x:=by simp
def cg(S:Store)(x y:List D):(S++[x]).set S.length y=S++[y]:=by simp
def bR{b c:Type}{xs:List b}{f}{i:Nat}{e:c}(h:(xs.map f)[i]? =some e):∃x,xs[i]? =some x/\e=f x:=by
 rw[y8]at h
 cases a:xs[i]? with
 | none=>rw[a]at h;cases h
 | some x=>rw[a]at h;cases h;exact%[x,rfl|rfl]
def jF{b c:Type}{xs:List b}{f}{i}{e:c}(h:(xs.mapIdx f)[i]? =some e):∃x,xs[i]? =some x/\e=f i x:=by
 rw[iL]at h
 cases a:xs[i]? with
 | none=>rw[a]at h;cases h
 | some x=>rw[a]at h;cases h;exact%[x,rfl|rfl]
def mO{j:Type}{xs:List j}{enc}(f:j->D)(hz:xs.length<=1000000)(h:∀(i:Nat)(x:j),xs[i]? =some x->∀Q:WD,Q (f x) b->l.wp (enc x) (capt c Γ) λ Γ2=>e.wp Γ2 b Q)
 (w:W (.lst (xs.map f)) b):rM c Γ e l (adl (Ω:=Ω)) W (xs.map enc) b:=by refine jK %[by rw[y7];exact hz,λ i a g=>a=(xs.take i).map f/\g=b,%[rfl|rfl],?_|?_];{rintro i d a g n ⟨rfl,rfl⟩;obtain⟨x,k,rfl⟩:=bR n;refine Tg.mono (h i x k (λ y m=>(xs.take i).map f++[y]=(xs.take (i+1)).map f/\m=g) %[?_|rfl]) λ G q=>%[λ _=>q|λ z=>tf z];rw[aH k,cf];rfl};{rintro a g ⟨rfl,rfl⟩;rw[y7,cS];exact w}
def wM1(h:L2.CMul i j)(p:P):L2.CMul i j/\P:=%[h|p]
def wM2(h:L2.CPow i j)(p:P):L2.CPow i j/\P:=%[h|p]
def wM3(h:0<i/\i<j)(p:P):(0<i/\i<j)/\P:=%[h|p]
def wM4(h:0<i)(p:P):0<i/\P:=%[h|p]
def wM5{a:Type}{l:List a}(h:l.length<=1000000)(p:P):l.length<=1000000/\P:=%[h|p]
def wM7{k j:Nat}{Q:List D->Nat->Prop}(h:S[k]? =some ds)(g:L2.ixN ds.length n=some j)(q:Q ds j):∃ds j,S[k]? =some ds/\L2.ixN ds.length n=some j/\Q ds j:=%[ds,j,h,g|q]
def wM8{k:Nat}{Q:List D->D->Prop}(h:S[k]? =some ds)(g:L2.atI ds n=some d)(q:Q ds d):∃ds d,S[k]? =some ds/\L2.atI ds n=some d/\Q ds d:=%[ds,d,h,g|q]
def wM9{Q:D->Prop}(g:L2.atI ds n=some d)(q:Q d):∃d,L2.atI ds n=some d/\Q d:=%[d,g|q]
end RF
namespace RF
open PySem PySem.Spec L2 DL
open PyProof.Rows
section
variable{prog:Program}{w:World}{A:Around}{E:%[|25]}{s:Shared}
def ltF(fin:Bool):%[|8]->%[|8]->Bool
 | x::xs,y::ys=>if x=y then ltF fin xs ys else decide (x<y)
 | _,_=>fin
def ltI(xs ys:ae0):Bool:=ltF (decide (xs.length<ys.length)) xs ys
def XX(h:Q (decide (a<b)) s):wpAny %[|6] A (oneLt' c (.int a t) (.int b u)) Q E s:=by
 cases c with
 | true=>exact oneLt_int h
 | false=>exact PySem.W.kat_one _ _ (wpAny_lt_int h)
def gM(h:Heap)(v:Value)(ns:ae0):Prop:=∃b o a k,v=.ref b/\h.get? b=some o/\o.cls=%[|10]/\o.data=.seq a k/\IntsAre a.toList ns
end
def uI(k:Nat)(ds:List D):Option D->Option D
 | some (.loc j)=>if j=k then some (.lst ds)else some (.loc j)
 | o=>o
def atTop(Γ:Gam):Prop:=∀(i:Nat)(d:D),Γ[i]? =some (some d)->aA d=true\/∃j,d=.loc j
def ZF(n:Nat)(W:Gam->%[|4]):Gam->%[|4]:=λ c d=>W c d\/∃b a,d=a++[b]/\n<=a.length/\aa b=true/\flat a/\atTop c/\W (c.map (uI a.length b)) a
def QN.frz{K}(P:O.A.length=n)(q:QN K O H (ZF n W) σ u):QN K O H W σ u:=by
 obtain⟨b,C,D,w,B,m,r⟩:=q;rcases w with w | ⟨x,c,rfl,N,F,E,G,w⟩;{exact%[b,C,D,w,B,m|r]}
 . obtain ⟨t,s,g,L⟩:=iy B m %[|0] E;have J:b.A.length=c.length+1:=by have:=m.len;simpa using this
   refine%[%[b.A.take c.length|b.B],_,c,w,t,s|%[by rw[y7];exact r.len|λ i d e=>?_]]
   . rw [y8] at e
     cases k:C[i]? with
     | none=>rw[k]at e;cases e
     | some o=>
       rw[k]at e
       cases o with
       | none=>cases e
       | some h=>
         obtain⟨v,p,A⟩:=r.at_ i h k;rcases G i h k with z | ⟨j,rfl⟩
         . have f:h=d:=by
            cases h with
            | loc j=>simp[aA]at z
            | _=>simpa[uI]using e
           subst f;exact%[v,p|dY g z A]
         . obtain⟨a,rfl,l⟩:=cV A;by_cases y:j=c.length
           . subst y;have f:d=.lst x:=by simpa[uI]using e.symm
             subst f;obtain⟨Q,I,M⟩:=m.obj c.length a x l (by simp);exact%[_,p|.lst (.inl %[L _ a (y9 _) l|.inl I]) (gq g F M)]
           . have f:d=.loc j:=by simpa[uI,y]using e.symm
             subst f;refine%[_,p|.loc ?_];have:j<b.A.length:=(z0.mp l).1;show(b.A.take c.length)[j]? =some (a,false);rw[eR,ca %[|0]];exact l
section
variable{Ω:Wd}
def ad4(b:Bl Ω):Bl Ω where
 lev:=b.lev
 chk:=b.chk
 wp g S W:=b.wp g S {W with nx:=ZF S.length W.nx}
 sound:=by
  intro X r m N n l g S W A j i k a s d H O I c e;refine thn (b.sound A j i k a s d H O I c e) λ f o q=>?_
  cases f with
  | next=>obtain⟨d,h,I,q⟩:=q;exact%[d,h,I|QN.frz e.len q]
  | brk=>exact q
  | cont=>exact q
  | ret u=>exact q
end
def Nj{K}{k:Nat}(h:O.A[k]? =some (a,false)):rQ K (Itl K a) O H (λ S=>S[k]? =some ds) ds:=by intro l g w u s n i;have m:l.A[k]? =some (a,false):=u.lc k _ h;obtain⟨b,q,r⟩:=s.obj k a ds m n;have c:SqL K g a b:=SqL.of q;refine%[λ d o=>?_|λ p=>%[b,c|by rw[r.length];exact nV p.symm]];obtain⟨v,f,t⟩:=r.get o;refine%[%[b,v,c|f]|λ x j y=>?_];obtain⟨e,y⟩:=y;subst e;have e:=y b c;rw[f]at e;cases e;exact%[fW.refl _|t]
abbrev itC(W:List D->%[|4]->%[|4]):WD:=λ d b=>match d with
 | .lst a=>W a (λ _=>True) b
 | .tup a=>W a (λ _=>True) b
 | .loc k=>∃a,b[k]? =some a/\W a (λ S=>S[k]? =some a) b
 | _=>False
def aap(h:Ev X G S e (itC W)):ItC X G S M e W:=by
 intro n s N H O I y L;refine thn (h n s N H O I y L) λ u s1 z=>?_;obtain⟨v,r,c,A,t,d,x,w,j,f,B⟩:=z
 cases B with
 | @lst a F l g q=>
   cases A;obtain⟨i,E,p,C⟩:=c.list g.sq;refine kq p.isList ?_;refine%[s1.heap.objs.size,[s1.heap.objs.size],_,_,r,rfl,c.kept (t':=s1.toks) λ b o e=>bE _ e,qY a _,%[_,c9 _ rfl,rfl|rfl],λ b m=>?_,t,l,_,x,w,j,f|uV (t8 g q)];have e:b=s1.heap.objs.size:=by simpa using m
   subst e;exact c.fpOk (y9 _) (c.hok.fresh (y9 _))
 | @tup a F l g q=>
   cases A;obtain⟨i,E,p,C⟩:=c.tuple g.sq;refine hH (show s1.heap.IsTuple a i.toArray from p) ?_;refine%[s1.heap.objs.size,[s1.heap.objs.size],_,_,r,rfl,c.kept (t':=s1.toks) λ b o e=>bE _ e,wg a _,%[_,c9 _ rfl,rfl|rfl],λ b m=>?_,t,l,_,x,w,j,f|uV (wu g q)];have e:b=s1.heap.objs.size:=by simpa using m
   subst e;exact c.fpOk (y9 _) (c.hok.fresh (y9 _))
 | @loc a k g=>
   cases A;obtain⟨l,J,w⟩:=w;obtain⟨F,K,q⟩:=f.obj k a l g J;obtain⟨i,E,p,C⟩:=c.list (SqL.of K);refine kq p.isList ?_;refine%[s1.heap.objs.size,[s1.heap.objs.size],_,_,r,rfl,c.kept (t':=s1.toks) λ b o e=>bE _ e,qY a _,%[_,c9 _ rfl,rfl|rfl],λ b m=>?_,t,l,_,x,w,j,f|Nj g];have e:b=s1.heap.objs.size:=by simpa using m
   subst e;exact c.fpOk (y9 _) (c.hok.fresh (y9 _))
 | _=>exact w.elim
def PB(h:ItC X n S N iter λ ds C S1=>∃Pv:Nat->Gam->%[|4],Pv 0 n S1/\(∀i Γ' S',Pv i Γ' S'->C S')/\
 (∀i d Γ' S',%[|28]->Pv i Γ' S'->BdW X N d Γ' S' λ Γ2 S2=>Rns X Γ2 S2 j {W with nx:=Pv (i+1),ct:=Pv (i+1),bk:=W.nx})/\(∀Γ' S',Pv ds.length Γ' S'->W.nx Γ' S'))
 (hp:PassesOwn %[|5] X.A X.env X.xe)(hc:X.calm=true)(hs:∀x,foldedSetIterable iter X.env x=pure x):Rn X n S (.For N iter j [] ac) W:=by
 intro g s o H O I l ok;let WI:List D->%[|4]->%[|4]:=λ ds C S1=>∃Pv:Nat->Gam->%[|4],Pv 0 n S1/\(∀i Γ' S',Pv i Γ' S'->C S')/\
     (∀i d Γ' S',%[|28]->Pv i Γ' S'->BdW X N d Γ' S' λ Γ2 S2=>Rns X Γ2 S2 j {W with nx:=Pv (i+1),ct:=Pv (i+1),bk:=W.nx})/\(∀Γ' S',Pv ds.length Γ' S'->W.nx Γ' S');have hI:PI X N iter (λ o H R=>∃O,EnvOk X.K O H o n/\%[|13]/\∀J c,QIc X.K O H WI J c->R J c):=λ g s o H R I U=>by obtain⟨O,l,V,k⟩:=U;refine thn (h g s o H O I l V) λ _ _ q=>thn q λ _ _ q2=>?_;obtain⟨it,fp,tn,J,c,e1,e2,e3,e4,e5,e6⟩:=q2;exact%[it,fp,tn,J,c,e1,e2,e3,e4,e5|k J c e6]
 have hG:PG X N (λ v o H Q=>∃O d n S t,EnvOk X.K O H o n/\%[|13]/\Rep X.K O H v d/\BdW X N d n S t/\∀a c,QN X.K O H t a c->Q a c):=λ g s o H v u Q I ru U=>by obtain⟨O,d,n,S,t,l,V,r,b,k⟩:=U;refine thn (b g s o H O v u I l V r ru) λ _ _ q2=>?_;obtain⟨a,c,w,q⟩:=q2;exact%[a,c,w|k a c q]
 have hB:PSs X j (λ D o H=>∃O n S t,EnvOk X.K O H o n/\%[|13]/\Rns X n S j t/\(∀a c,QN X.K O H t.nx a c->D.nx a c)/\(∀v c,QG X.K O H t.rt v c->D.rt v c)/\(∀a c,QN X.K O H t.bk a c->D.bk a c)/\∀a c,QN X.K O H t.ct a c->D.ct a c):=
  λ g s o H D I U=>by
   obtain⟨O,n,S,t,l,V,b,k1,k2,k3,k4⟩:=U;refine thn (b g s o H O I l V) λ f s' q=>?_
   cases f with
   | next=>obtain⟨a,c,w,q⟩:=q;exact%[a,c,w|k1 a c q]
   | brk=>obtain⟨a,c,w,q⟩:=q;exact%[a,c,w|k3 a c q]
   | cont=>obtain⟨a,c,w,q⟩:=q;exact%[a,c,w|k4 a c q]
   | ret u=>obtain⟨v,a,c,w,r,q⟩:=q;exact%[v,a,c,w,r|k2 v c q]
 refine RD hp hc hI hG hB hs g s o H _ I %[O,l,ok|λ J H1 q=>?_];obtain⟨Z,ds,C,S1,⟨Pv,p0,pC,pt,pe⟩,A,aa,yl⟩:=q;refine%[λ i m a c=>m=ds.length-i/\i<=ds.length/\∃F Γ' S',Pv i Γ' S'/\Step Z F H1 c/\StOk X.K F c S'/\EnvOk X.K F c a Γ',%[ds.length,by simp,dr _,Z,n,S1,p0,Step.refl _ _,aa|l.mono A]|?_];rintro i m ag H2 ⟨rfl,hi,O2,Γ2,S2,p2,L,G,E⟩;obtain⟨y1,y2⟩:=yl O2 H2 S2 L.conv G (pC _ _ _ p2) i;by_cases z:i<ds.length;{obtain⟨go,yy⟩:=y1 ds[i] (y3 z);refine .inr %[go,λ a c=>i+1<=ds.length/\∃F Γ' S',Pv (i+1) Γ' S'/\Step Z F H1 c/\StOk X.K F c S'/\EnvOk X.K F c a Γ',λ a c q=>%[ds.length-(i+1),%[|0],rfl,q.1|q.2]|λ x H3 y=>?_];obtain⟨sm,rx⟩:=yy x H3 y;have Y:=Step.same (O:=O2) sm;refine%[O2,ds[i],Γ2,S2,_,E.mono Y,G.same sm,rx,pt i ds[i] Γ2 S2 (y3 z) p2|λ ah H4 q4=>?_];obtain⟨O4,ae,S4,w4,ad,ab,T⟩:=q4;have B:=(L.trans Y).trans ad;refine%[O4,ae,S4,_,T,ab,w4,?_,?_,?_|?_];{rintro af H5 ⟨O5,P,S5,w5,M,K,p⟩;exact%[z,O5,P,S5,w5,B.trans M,K|p]};{exact λ v c q=>QG.pre (A.trans B) q};{exact λ a c q=>QN.pre (A.trans B) q};{rintro af H5 ⟨O5,P,S5,w5,M,K,p⟩;exact%[z,O5,P,S5,w5,B.trans M,K|p]}}
 . have e:i=ds.length:=%[|0]
   subst e;exact .inl %[y2 rfl,O2,Γ2,S2,pe Γ2 S2 p2,A.trans L,G|E]
section
variable{Ω:Wd}
@[irreducible] noncomputable def aa2(Γ:Gam)(tg:Tg)(body:Bl Ω)(W:DL.Fin)(k:Nat)(ds:List D)(S1:Store):Prop:=
  ∃c:Nat->Gam->%[|4],c 0 Γ S1/\(∀i a b,c i a b->b[k]? =some ds)/\(∀i d a b,%[|28]->c i a b->tg.wp d a λ e=>body.wp e b {W with nx:=c (i+1),ct:=c (i+1),bk:=W.nx})/\(∀a b,c ds.length a b->W.nx a b)
def adx(tg:Tg)(it:Ex Ω)(body:Bl Ω):Sm Ω where
 lev:=max it.lev body.lev
 chk h N u w:=frB w λ t i b=>okE i&&(tg.chk h N u t&&(it.chk h N u i&&body.chk h N u b))
 wp n S W:=it.wp n S λ d l=>match d with
  | .lst a=>kO n tg body W a l
  | .tup a=>kO n tg body W a l
  | .loc k=>∃a,l[k]? =some a/\aa2 n tg body W k a l
  | _=>False
 sound:=by
  intro X r h N u w n S W A F v H;obtain⟨I,J⟩:=lv2 F;refine xr v λ t i b L v=>?_
  . refine an4 v λ x y z B=>?_;have g:∀(c:Nat->Gam->%[|4])(a:List D),(∀i d e j,a[i]? =some d->c i e j->tg.wp d e λ f=>body.wp f j {W with nx:=c (i+1),ct:=c (i+1),bk:=W.nx})->∀i d e j,a[i]? =some d->c i e j->BdW X t d e j λ f s=>Rns X f s b {W with nx:=c (i+1),ct:=c (i+1),bk:=W.nx}:=
     λ c a m i d e j C G=>BdW.mono (Tg.sound A (W:=λ f s=>body.wp f s {W with nx:=c (i+1),ct:=c (i+1),bk:=W.nx}) y (m i d e j C G)) λ f s q=>body.sound A J B q;refine PB (aap (Ev.mono (it.sound A I z H) λ d l q=>?_)) (by rw[A.xe];exact me) A.calm (rR x _)
    cases d with
    | lst a=>have q:kO n tg body W a l:=q;unfold kO at q;obtain⟨c,o,m,p⟩:=q;exact%[c,o,λ _ _ _ _=>trivial,g c a m|p]
    | tup a=>have q:kO n tg body W a l:=q;unfold kO at q;obtain⟨c,o,m,p⟩:=q;exact%[c,o,λ _ _ _ _=>trivial,g c a m|p]
    | loc k=>obtain⟨a,E,q⟩:=q;unfold aa2 at q;obtain⟨c,o,K,m,p⟩:=q;exact%[a,E,c,o,K,g c a m|p]
    | _=>exact(show False from q).elim
end
def XJ{m:Gam}{g}{j:Type}{xs:List j}{enc}(f:j->D)(hz:xs.length<=1000000)(o:C0 b)(h:∀(i:Nat)(x:j),xs[i]? =some x->∀Q:WD,Q (f x) b->l.wp (enc x) (capt e m) λ Γ2=>g.wp Γ2 b Q)
 (w:W (.lst (xs.map f)) b\/W (.loc b.length) (b++[xs.map f])):sX e m g l (adl (Ω:=Ω)) W (xs.map enc) C0 b:=by refine GQ %[by rw[y7];exact hz,λ i a c=>a=(xs.take i).map f/\c=b,%[rfl|rfl],λ i a c q=>by rw[q.2];exact o,?_|?_];{rintro i d a c p ⟨rfl,rfl⟩;obtain⟨x,k,rfl⟩:=bR p;refine Tg.mono (h i x k (λ y n=>(xs.take i).map f++[y]=(xs.take (i+1)).map f/\n=c) %[?_|rfl]) λ G q=>%[λ _=>q|λ z=>tf z];rw[aH k,cf];rfl};{rintro a c ⟨rfl,rfl⟩;rw[y7,cS];exact w}
variable{ds:List D}
def jU(S:Store):D->Option (List D)
 | .lst ds=>some ds
 | .loc k=>S[k]?
 | _=>none
def putL(own:Bool)(W:WD)(ds:List D)(S:Store):Prop:=match own with
 | true=>W (.loc S.length) (S++[ds])
 | false=>W (.lst ds) S
section
variable{X:Cx}{S:Store}{W:WD}
def CW{pins:Pins}{s:ae4}{σ:DL.St}(st:%[|13])(r:Rep X.K O H v d)(h:jU S d=some ds):∃a xs,v=.ref a/\SqL X.K H a xs/\Reps X.K O H xs ds:=by
 cases r with
 | @lst a xs _ b c=>cases h;exact%[a,xs,rfl,b.sq|c]
 | @loc a k b=>obtain⟨xs,e,c⟩:=st.obj k a ds b h;exact%[a,xs,rfl,SqL.of e|c]
 | _=>cases h
def Ss{K}(w:putL a W ds S)(st:StOk K O H S)(h:H p=none)(r:Reps K O H xs ds):QG K O H W (.ref p) (upd H p (.lst xs)):=by
 cases a with
 | true=>exact G9 w st h r
 | false=>exact jb w st h r
def ZZ(N:jU S x=some ds)(P:jU S y=some es)(hz:ds.length+es.length<=1000000)(w:putL j W (ds++es) S):fV X .Add x y S W:=by
 intro pins s σ H O v w' u u' I o U V Y Z;obtain⟨a,xs,rfl,K,k⟩:=CW (pins:=pins) (s:=s) (σ:=σ) o U N;obtain⟨b,ys,rfl,L,l⟩:=CW (pins:=pins) (s:=s) (σ:=σ) o V P;cases Y;cases Z;obtain⟨d,C,R,_⟩:=I.list K;obtain⟨c,E,T,_⟩:=I.list L;obtain⟨⟨F,G,q,sl⟩,n,B,r,M,t⟩:=id R;obtain⟨⟨p,i,h,m⟩,Q,g,e,A,f⟩:=id T;simp only at r t e f;subst r t e f;have z:d.length+c.length<=sizeLine:=by rw[<-C.length,<-E.length,k.length,l.length];exact small hz
 refine nN %[_,B|rfl] %[_,g|rfl] noFill_list_add seq_list_add PySem.F.slot_list_add PySem.F.entry_list_add (PySem.F.args_list_add_2 _ _)
  (list_addW a b d.toArray c.toArray n Q G i sl m (by simpa using z)) %[B,g|?_];have J:d.toArray++c.toArray=(d++c).toArray:=by simp
 rw[J];exact%[%[|11],_,I.lnew (t':=s.toks) (C.append E) (by rw[x8,k.length,l.length];exact small hz),rfl|Ss w o I.fresh (k.append l)]
def aaj(J:jU S x=some ds)(V: -(2 ^ 63)<=k/\k<2 ^ 63)(hz:ds.length*k.toNat<=1000000)(w:putL d W (List.replicate k.toNat ds).flatten S):fV X .Mult x (.int k) S W:=by
 intro pins s σ H O v w' u Z I q M N P Q;obtain⟨a,xs,rfl,E,f⟩:=CW (pins:=pins) (s:=s) (σ:=σ) q M J;cases N;cases P;obtain⟨t,rfl⟩:=Q;obtain⟨b,r,L,_⟩:=I.list E;obtain⟨⟨A,j,i,p⟩,n,c,l,G,o⟩:=id L;simp only at l o;subst l o;have K:b.length=ds.length:=by rw[<-r.length,f.length]
 have y:b.length*k.toNat<=1000000:=by rw[K];exact hz
 have Y:(1000000:Nat)<=sizeLine:=%[|1]
 refine nE (T:="list") (U:="int") %[|1] %[_,c|rfl] (λ R=>typeIs_int R k t) PySem.noFill_list_mul F.fills_int_mul oj PySem.repeat_list F.slot_int_index.lookup
  (ky oj (typeIs_int s k t) F.entry_int_rmul (F.args_int_rmul_2 _ _) (PySem.lm_int_rmul_list_any k t a b.toArray n j p) %[c,rfl,%[_,c|rfl]|?_]);refine ky F.slot_list_mul %[_,c|rfl] F.entry_list_mul (F.args_list_mul_2 _ _) (PySem.lm_list_mul_any a b.toArray n j p k t ?_ ?_ ?_) %[c|?_]
 . have z:Builtin.List.listFitsIndex k=true:=by unfold Builtin.List.listFitsIndex;rw[cb %[|0],cb %[|0]];rfl
   rw[z];decide
 {rw[x5];omega};{rw[x5];unfold Builtin.List.listTooLong;rw[gE];omega}
 . have B:(List.replicate (if b.toArray.isEmpty=true then 0 else k.toNat) b.toArray).foldl (λ g h=>g++h) #[]=(List.replicate k.toNat b).flatten.toArray:=by
    have C:∀m:Nat,(List.replicate m b.toArray).foldl (λ g h=>g++h) #[]=(List.replicate m b).flatten.toArray:=λ m=>by have:=foldl_rep b m [];rw[List.nil_append]at this;exact this
    rw[C];by_cases e:b=[];{subst e;simp}
    . have:b.toArray.isEmpty=false:=by simpa using e
      rw[this];rfl
   rw[B];exact%[%[|11],_,I.lnew (t':=s.toks) (r.rep _) (by rw[len_rep,f.length,oi];exact small hz),rfl|Ss w q I.fresh (Reps.rep f _)]
def aa6{ns:ae0}(w:W (.int ns.sum) S)(p:X.calm=true):gU X (.builtin "sum") [.tup (ns.map .int)] S W:=by
 intro l s Q H O N M I E r C;obtain⟨v,rfl,B⟩:=gh r;obtain⟨u,rfl,i⟩:=vals1 C;obtain⟨a,P,rfl,n,y⟩:=dj B;cases i;obtain⟨g,D,x,J⟩:=I.tuple n.sq;have m:=y.ints;subst m;have k:IntsAre g ns:=intsAre_of D;obtain⟨c,j⟩:=k.allInts.items;have h:s.heap.IsTuple a g.toArray:=x;rw[j]at h;have f:a<s.heap.objs.size:=by obtain⟨_,e,_⟩:=h;exact c8 e
 refine call_sum_walkG (hH h ?_);refine%[_,_,_,_,_,_,numAt c,rfl,Walks.tuple (A:=X.A.in1) (I.ok.hd p) _ a (cm f) (intItems c),%[%[_,c9 _ rfl,rfl|rfl]|h.push _],(λ b d=>?_),(λ _ _=>intItems_at)|λ G L K t=>?_];{show b<(s.heap.push _).objs.size;rw[fx];rcases cr.mp d with rfl | d;{exact jI _};{rcases cr.mp d with rfl | d;{exact gz f};{cases d}}}
 . have e:preSum (numAt c) (intItems c).size=ns.sum:=by rw[show(intItems c).size=c.size by simp[intItems],preSum_eq,db (by simp),<-nums_intItems,<-j];exact ei List.sum k.numsOf
   rw[e];refine%[.int _,H,I.kept (λ b o q=>t b o (λ z=>?_) (bE _ q)),%[_|rfl]|Hc w E (.int _)];have F:b=s.heap.objs.size:=by simpa using z
   exact absurd (c8 q) (by rw[F];exact hY _)
end
def Dc:Bf where
 x:="sum"
 id:="sum"
 boot:=%[|9]
 wp a S W:=match a with
  | [.lst a]=>∃b:%[|8],a=b.map .int/\W (.int b.sum) S
  | [.tup a]=>∃b:%[|8],a=b.map .int/\W (.int b.sum) S
  | _=>False
 sound:=by intro X a S W c e h;split at h;{obtain⟨d,rfl,h⟩:=h;exact ab1 h c};{obtain⟨d,rfl,h⟩:=h;exact aa6 h c};{exact h.elim}
def G8(own:Bool)(op:Operator)(x y:D)(S:Store)(W:WD):Prop:=match op with
 | .Add=>∃a b,jU S x=some a/\jU S y=some b/\a.length+b.length<=1000000/\putL own W (a++b) S
 | .Mult=>∃a k,jU S x=some a/\y=.int k/\(-(2 ^ 63)<=k/\k<2 ^ 63)/\a.length*k.toNat<=1000000/\putL own W (List.replicate k.toNat a).flatten S
 | _=>False
def QZ(h:G8 d op x y S W):fV X op x y S W:=by unfold G8 at h;split at h;{obtain⟨e,i,a,f,b,c⟩:=h;exact ZZ a f b c};{obtain⟨e,k,a,rfl,b,c,g⟩:=h;exact aaj a b c g};{exact h.elim}
section
variable{Ω:Wd}
def ady(own:Bool)(op:Operator)(a b:Ex Ω):Ex Ω where
 lev:=max a.lev b.lev
 chk c N d e:=match e with | .BinOp l o r _=>(o==op)&&(a.chk c N d l&&b.chk c N d r) | _=>false
 wp f S W:=a.wp f S λ x g=>b.wp f g λ y h=>G8 own op x y h W
 sound:=by
  intro X r c N d e f S W A n i p;obtain⟨s,t⟩:=lv2 n
  cases e with
  | BinOp l o v u=>refine an3 i λ j k m=>?_;have e:o=op:=ZU j;subst e;exact wL ((a.sound A s k p).mono λ x g q=>(b.sound A t m q).mono λ y h q=>QZ q)
  | _=>exact fE i
def adH(a b:Ex Ω):Ex Ω where
 lev:=max a.lev b.lev
 chk c N f e:=match e with | .BinOp l o r _=>(o==.FloorDiv)&&(a.chk c N f l&&b.chk c N f r) | _=>false
 wp h S W:=a.wp h S λ x k=>b.wp h k λ y m=>match x,y with
  | .int i,.int j=>(0<j/\j<1000000000000000000000000000000000000000000000000000000000000)/\W (.int (i/j)) m
  | _,_=>False
 sound:=by
  intro X r c N f e h S W A s hc t;obtain⟨u,v⟩:=lv2 s
  cases e with
  | BinOp l o z w=>
    refine an3 hc λ n p d=>?_;have e:o=.FloorDiv:=ZU n;subst e;refine wL ((a.sound A u p t).mono λ x k q=>(b.sound A v d q).mono λ y m q=>?_);split at q
    . rename_i i j;refine jL (C:=λ _ j=>0<j/\j<1000000000000000000000000000000000000000000000000000000000000) (g:=λ i j=>i/j) (opI λ i j _ _ _ _ _ hc q=>?_) q.1 q.2;have n:(0:Int)<j:=hc.1;have p:j<1000000000000000000000000000000000000000000000000000000000000:=hc.2;refine floordiv_int %[|0] (by rw[Int.fdiv_eq_ediv_of_nonneg i %[|0]];exact q) (.inl (PyProof.noPylong_of_log2 ?_));have d:j.natAbs<2 ^ 200:=%[|0]
      have:j.natAbs.log2<200:=(Nat.log2_lt %[|0]).mpr d;omega
    {exact q.elim}
  | _=>exact fE hc
end
end RF
namespace RF
open PySem PySem.Spec L2 DL
open PyProof.Rows
def lL(n:Nat)(J:List (List D)):Option D->Option D
 | some (.loc j)=>if j<n then some (.loc j)else(J[j-n]?).map .lst
 | o=>o
def GK(n:Nat)(W:Gam->%[|4]):Gam->%[|4]:=λ b c=>W b c\/∃J a,c=a++J/\n<=a.length/\flat J/\flat a/\atTop b/\W (b.map (lL a.length J)) a
def aee{K}(Q:O.A.length=n)(q:QN K O H (GK n W) σ y):QN K O H W σ y:=by
 obtain⟨z,D,E,w,C,t,r⟩:=q;rcases w with w | ⟨J,f,rfl,P,G,F,I,w⟩;{exact%[z,D,E,w,C,t|r]}
 . obtain ⟨x,u,c,M⟩:=iy C t %[|0] F;refine%[_,_,f,w,x,u|%[by rw[y7];exact r.len|λ i d e=>?_]];rw[y8]at e
   cases h:D[i]? with
   | none=>rw[h]at e;cases e
   | some o=>
     rw[h]at e
     cases o with
     | none=>cases e
     | some g=>
       obtain⟨v,s,B⟩:=r.at_ i g h;rcases I i g h with A | ⟨j,rfl⟩
       . have b:g=d:=by
          cases g with
          | loc j=>simp[aA]at A
          | _=>simpa[lL]using e
         subst b;exact%[v,s|dY c A B]
       . obtain⟨a,rfl,p⟩:=cV B;by_cases l:j<f.length
         . have b:d=.loc j:=by simpa[lL,l]using e.symm
           subst b;refine%[_,s|.loc ?_];show(z.A.take f.length)[j]? =some (a,false);rw[eR,ca l];exact p
         . cases k:J[j-f.length]? with
           | none=>simp[lL,l,k]at e
           | some m=>
             have b:d=.lst m:=by simpa[lL,l,k]using e.symm
             subst b;obtain⟨R,L,N⟩:=t.obj j a m p (by rw[da %[|0]];exact k);exact%[_,s|.lst (.inl %[M j a %[|0] p|.inl L]) (gq c (G m (y4 k)) N)]
def Drp(n:Nat)(W:WD):WD:=λ d b=>W d b\/∃J a,b=a++J/\n<=a.length/\aA d=true/\flat a/\W d a
def QG.drp{K}(o:O.A.length=n)(q:QG K O H (Drp n W) v e):QG K O H W v e:=by obtain⟨h,d,j,w,g,f,r⟩:=q;rcases w with w | ⟨J,i,rfl,m,l,k,w⟩;{exact%[h,d,j,w,g,f|r]};{obtain⟨b,a,c,p⟩:=iy g f %[|0] k;exact%[_,d,i,w,b,a|dY c l r]}
section
variable{Ω:Wd}
def Bl.fza(b:Bl Ω):Bl Ω where
 lev:=b.lev
 chk:=b.chk
 wp g S W:=b.wp g S {W with nx:=GK S.length W.nx}
 sound:=by
  intro X r m N n l g S W A j i k a s d H O I c e;refine thn (b.sound A j i k a s d H O I c e) λ f o q=>?_
  cases f with
  | next=>obtain⟨d,h,I,q⟩:=q;exact%[d,h,I|aee e.len q]
  | brk=>exact q
  | cont=>exact q
  | ret u=>exact q
def Bl.drp(b:Bl Ω):Bl Ω where
 lev:=b.lev
 chk:=b.chk
 wp g S W:=b.wp g S {W with rt:=Drp S.length W.rt}
 sound:=by
  intro X r n N p m g S W A k j l a s o H O I c e;refine thn (b.sound A k j l a s o H O I c e) λ f t q=>?_
  cases f with
  | next=>exact q
  | brk=>exact q
  | cont=>exact q
  | ret u=>obtain⟨v,d,h,i,r,q⟩:=q;exact%[v,d,h,i,r|QG.drp e.len q]
end
def Wv(op:Operator)(n:Int)(d:D)(k:Int->Prop):Prop:=match op,d with
 | .Add,.int m=>k (n+m)
 | .Sub,.int m=>k (n-m)
 | .Mult,.int m=>CMul n m/\k (n*m)
 | _,_=>False
def abR(B:(op==.Add||(op==.Sub||op==.Mult))=true)(i:Nat)(D:o[i]? =some (some (.int n)))(h:Ev X o S e λ d S1=>Wv op n d λ z=>W.nx (o.set i (some (.int z))) S1)(u:X.N.Nodup)(hi:X.N[i]? =some x)(C:Loc X.env.scope x)
 (A:X.fn x=true\/%[|52]):Rn X o S (.AugAssign (.Name x m) op e F) W:=by
 intro f s p H O I c E;obtain⟨v,t,r⟩:=c.at_ i (.int n) D;cases r;have l:∀(k:Own)(S1:Store)(j:Hp)(z:Int),Step O k H j->StOk X.K k j S1->W.nx (o.set i (some (.int z))) S1->QN X.K O H W.nx (p.set i (some (.int z))) j:=λ k S1 j z a b w=>%[k,_,S1,w,a,b|(c.mono a).set (.int z) i]
 cases op with
 | Add=>
   refine Hm u hi C h.pe Yt A f s p H _ I %[.int n,t,O,c,E|λ y j q=>?_];obtain⟨k,d,S1,w,a,b,g⟩:=q;cases g<;>first | exact(show False from w).elim | skip
   exact%[n,_,rfl,rfl|l k S1 j _ a b w]
 | Sub=>
   refine Hm u hi C h.pe Y5 A f s p H _ I %[.int n,t,O,c,E|λ y j q=>?_];obtain⟨k,d,S1,w,a,b,g⟩:=q;cases g<;>first | exact(show False from w).elim | skip
   exact%[n,_,rfl,rfl|l k S1 j _ a b w]
 | Mult=>
   refine Hm u hi C h.pe Yd A f s p H _ I %[.int n,t,O,c,E|λ y j q=>?_];obtain⟨k,d,S1,w,a,b,g⟩:=q;cases g<;>first | exact(show False from w).elim | skip
   exact%[n,_,rfl,rfl,w.1|l k S1 j _ a b w.2]
 | _=>exact absurd B %[|1]
section
variable{Ω:Wd}
def aej(i:Nat)(op:Operator)(a:Ex Ω):Sm Ω where
 lev:=a.lev
 chk c N m s:=anB (aa4 s) λ z=>anB (nameV z.1) λ x=>(z.2.1==op)&&((z.2.1==.Add||(z.2.1==.Sub||z.2.1==.Mult))&&((N[i]? ==some x)&&(lcl c m x&&a.chk c N m z.2.2)))
 wp h S W:=match h[i]? with
  | some (some (.int n))=>a.wp h S λ d u=>Wv op n d λ z=>W.nx (h.set i (some (.int z))) u
  | _=>False
 sound:=by intro X r c N m s h S W A C g k;obtain⟨⟨t,o,e⟩,b,f⟩:=bz g;clear g;obtain⟨q,b⟩:=Zc b;subst b;obtain⟨x,b,g⟩:=bz f;clear f;obtain⟨p,b⟩:=jX b;have b:t=.Name x p:=b;subst b;{refine an5 g λ v j w y B=>?_;obtain⟨D,E⟩:=A.lcl y;have e:=ZU v;subst e;split at k;{rename_i n l;exact abR j i l (a.sound A C B k) (by rw[A.n];exact A.nd) (by rw[A.n];exact ZU w) D E};{exact k.elim}}
end
variable{v:Value}{c:Int × %[|8]}{b:Addr}{ns:%[|8]}{n:Nat}{Q:Bool -> Shared -> Prop}
def cB(h:Heap)(v:Value)(c:af8):Prop:=
 ∃b o k a u,v=.ref b/\h.get? b=some o/\o.cls=%[|10]/\o.data=.seq #[.int c.1 a,u] k/\gM h u c.2
def cB.keep(k:∀b o,h.get? b=some o->o.cls=%[|10]->h'.get? b=some o)(q:cB h v c):cB h' v c:=by obtain⟨b,o,n,t,u,f,g,a,i,e,s,w,r,j,l,d,m,p⟩:=q;exact%[b,o,n,t,u,f,k _ _ g a,a,i,e,s,w,r,j,k _ _ l d,d,m|p]
section
variable{prog:Program}{w:World}{A:Around}{E:%[|25]}{s:Shared}
theorem oO:∀{vs:ae5}{ns:ae0},IntsAre vs ns->ItemsAre (intKind prog w) ns vs
 | _,_,.nil=>.nil
 | _,_,.cons n t r=>.cons (intKind_is _ _ _ _) (oO r)
def Gn(g:gM h (.ref b) ns):IsTupleKey (intKind prog w) h ns b:=by obtain⟨j,o,i,k,e,a,c,d,f⟩:=g;cases e;exact%[o,i,k,a,c,d|oO f]
def Jc:∀{vs:ae5}{ns a:ae0},IntsAre vs ns->IntsAre vs a->ns=a:=by
 intro vs ns a h
 induction h generalizing a with
 | nil=>intro q;cases q;rfl
 | cons _ _ r b=>intro q;cases q with| cons _ _ c=>rw[b c]
def EY(x:gM h v ns)(y:gM h v g):ns=g:=by obtain⟨b,o,t,k,rfl,i,r,l,m⟩:=x;obtain⟨q,n,p,s,e,a,j,c,d⟩:=y;cases e;obtain rfl:o=n:=cc (i.symm.trans a);have f:=l.symm.trans c;injection f with f _;subst f;exact Jc m d
def hC(prog:af4)(w:World)(c:af8):Int:=reduceHash (Builtin.Tuple.tupleHashOf [(intKind prog w).hash c.1,tupleKeyHash (intKind prog w) c.2])
def Ad{Q}(y:A.units+5<cLine)(q:cB s.heap v c)(h:Q (hC prog w c) {s with toks:=s.toks+(c.2.length+3)}):wpAny %[|6] A (pyHash v) Q E s:=by
 obtain⟨a,o,n,t,u,rfl,p,j,r,g⟩:=q;have i:s.TypeIs (.ref a) "tuple":=%[o,p|j];have k:∀b,u=.ref b->IsTupleKey (intKind prog w) s.heap c.2 b:=λ b e=>Gn (e▸g);obtain⟨b,_,_,_,rfl,_⟩:=id g;have k:=k b rfl;unfold pyHash;first | unfold pyHashByItsType | skip
 first | refine b0 (wpAny_cRoomFor_or (.inr %[|0]) ?_) | skip
 refine b0 (gT i kr.lookup ?_);show wpAny _ _ (if(some (Value.builtin "tuple.__hash__")==some Value.none)=true then _ else _) Q E s;rw[bP (by rw[beq_builtin_none];exact y6)];refine b0 (gT i kr.lookup ?_);show wpAny _ _ (callSpecialIfBoundUnlessNone? (.ref a) "__hash__" _>>=_) Q E s;refine b0 (wpAny_callSpecialIfBoundUnlessNone?_slot i kr (dA kr i F.entry_tuple_hash ?_ (F.args_tuple_hash_1 _)));show wpAny _ _ (Builtin.Tuple.tupleItemsOf (.ref a)>>=_) _ _ s;refine b0 (wpAny_tupleItemsOf p r ?_);refine b0 ?_;rw[<-iE];refine gu _
  (λ d (f:Array Int) m=>∃n,m={s with toks:=s.toks+n}/\((d=[.int c.1 t,.ref b]/\f=#[]/\n=0)\/(d=[.ref b]/\f=#[(intKind prog w).hash c.1]/\n=1)\/(d=[]/\n=c.2.length+2/\f=#[(intKind prog w).hash c.1,tupleKeyHash (intKind prog w) c.2])))
  _ ?_ ?_ _ _ %[0,rfl|.inl %[rfl,rfl|rfl]]
 . rintro x d f m ⟨n,rfl,⟨e,rfl,rfl⟩ | ⟨e,rfl,rfl⟩ | ⟨e,rfl,rfl⟩⟩
   . cases e;refine b0 ((intKind prog w).pyHash (intKind_is _ _ _ _) ?_);first
      | exact b9 %[1,rfl|.inr (.inl %[rfl,rfl|rfl])]
      | exact b0 (b9 (b9 %[1,rfl|.inr (.inl %[rfl,rfl|rfl])]))
   . cases e;refine b0 (wpAny_pyHash_tuple (knd:=intKind prog w) ?_ k ?_);{show A.units+1<cLine;omega}
     . first
       | exact b9 %[1+(c.2.length+1),by simp[Nat.add_assoc]|.inr (.inr %[rfl,%[|0]|rfl])]
       | exact b0 (b9 (b9 %[1+(c.2.length+1),by simp[Nat.add_assoc]|.inr (.inr %[rfl,%[|0]|rfl])]))
   {cases e}
 {rintro f m ⟨n,rfl,⟨e,rfl,rfl⟩ | ⟨e,rfl,rfl⟩ | ⟨e,rfl,rfl⟩⟩;{cases e};{cases e};show wpAny _ _ (retInt (Builtin.Tuple.tupleHashOf [(intKind prog w).hash c.1,tupleKeyHash (intKind prog w) c.2])) _ _ _;refine wpAny_ret_mkInt ?_;show wpAny _ _ (if(decide (-(2:Int) ^ 63<=Builtin.Tuple.tupleHashOf _)&&decide (Builtin.Tuple.tupleHashOf _<2 ^ 63))=true then _ else _) Q E _;unfold hC reduceHash at h;split;{rename_i l;rw[ca l]at h;exact b9 h};{rename_i l;rw[bP l]at h;exact b0 (k6 (b9 h))}}
def U6{Q}(b:A.units+5<cLine)(a:cB s.heap v c)(h:∀n,Q (hC prog w c) {s with toks:=s.toks+n}):wpAny %[|6] A (pyHash v) Q E s:=Ad b a (h _)
def qN(j:gM h (.ref b) ns):∃o xs k,h.get? b=some o/\o.cls=%[|10]/\o.data=.seq xs k/\∀v∈xs.toList,∃i t,v=Value.int i t:=by obtain⟨m,o,xs,k,e,a,c,d,f⟩:=j;cases e;refine%[o,xs,k,a,c,d|λ v l=>?_];obtain⟨i,g⟩:=cw l;obtain⟨t,e⟩:=IntsAre.int_at f i v g;exact%[_,t|e]
def RK(q:gM s.heap (.ref b) ns)(h:Q true s):wpAny %[|6] A (eqIsQuiet (n+1) (.ref b)) Q E s:=by obtain⟨o,x,k,j,l,m,p⟩:=qN q;have g:s.TypeIs (.ref b) "tuple":=%[o,j|l];unfold eqIsQuiet;refine b0 (gT g F.slot_tuple_eq.lookup ?_);show wpAny _ _ (isInstance (.ref b) %[|10]>>=_) _ _ s;refine b0 (gt g nw ?_);simp only[fF,cy,ef];refine b0 (fy j m ?_);refine b0 ?_;show wpAny _ _ (forIn x _ _) _ _ s;rw[<-iE];refine gu _ (λ c r f=>r.1=none/\f=s/\∀v∈c,∃i t,v=Value.int i t) _ ?_ ?_ _ _ %[rfl,rfl|p];{rintro v c r f ⟨d,rfl,a⟩;obtain⟨i,t,rfl⟩:=a v x6;rw[eqIsQuiet_byValue _ (by rfl)];refine b0 (b9 ?_);simp only[fF,cy,ef];exact b9 %[rfl,rfl|λ u e=>a u (x4 _ e)]};{rintro⟨y,z⟩ f ⟨d,rfl,_⟩;simp only at d;subst d;exact b9 h}
def pW(y:cB s.heap (.ref b) c)(h:Q true s):wpAny %[|6] A (eqIsQuiet (n+2) (.ref b)) Q E s:=by obtain⟨a,o,k,q,u,e,p,t,x,d⟩:=y;cases e;obtain⟨l,_,_,_,rfl,_⟩:=id d;have m:s.TypeIs (.ref b) "tuple":=%[o,p|t];unfold eqIsQuiet;refine b0 (gT m F.slot_tuple_eq.lookup ?_);show wpAny _ _ (isInstance (.ref b) %[|10]>>=_) _ _ s;refine b0 (gt m nw ?_);simp only[fF,cy,ef];refine b0 (fy p x ?_);refine b0 ?_;show wpAny _ _ (forIn #[Value.int c.1 q,.ref l] _ _) _ _ s;rw[<-iE];refine gu _ (λ g r j=>r.1=none/\j=s/\∀v∈g,v=Value.int c.1 q\/v=.ref l) _ ?_ ?_ _ _ %[rfl,rfl|by simp];{rintro v g r j ⟨i,rfl,f⟩;rcases f v x6 with rfl | rfl;{rw[eqIsQuiet_byValue _ (by rfl)];refine b0 (b9 ?_);simp only[fF,cy,ef];exact b9 %[rfl,rfl|λ u d=>f u (x4 _ d)]};{refine b0 (RK d ?_);simp only[fF,cy,ef];exact b9 %[rfl,rfl|λ u d=>f u (x4 _ d)]}};{rintro⟨z,B⟩ j ⟨i,rfl,_⟩;simp only at i;subst i;exact b9 h}
def K3(n:Nat)(i:Int)(t:Tok):hashByValue n (.int i t)=pure true:=by cases n<;>rfl
def Y4(q:gM s.heap (.ref b) ns)(h:Q true s):wpAny %[|6] A (hashByValue (n+1) (.ref b)) Q E s:=by obtain⟨o,x,k,g,l,m,p⟩:=qN q;have j:s.TypeIs (.ref b) "tuple":=%[o,g|l];unfold hashByValue;refine b0 (gT j kr.lookup ?_);show wpAny _ _ (seqItems? (.ref b)>>=_) _ _ s;refine b0 (fy g m ?_);refine b0 ?_;show wpAny _ _ (forIn x _ _) _ _ s;rw[<-iE];refine gu _ (λ c r f=>r.1=none/\f=s/\∀v∈c,∃i t,v=Value.int i t) _ ?_ ?_ _ _ %[rfl,rfl|p];{rintro v c r f ⟨d,rfl,a⟩;obtain⟨i,t,rfl⟩:=a v x6;rw[K3];refine b0 (b9 ?_);simp only[fF,cy,ef];exact b9 %[rfl,rfl|λ u e=>a u (x4 _ e)]};{rintro⟨y,z⟩ f ⟨d,rfl,_⟩;simp only at d;subst d;exact b9 h}
def Xn(y:cB s.heap (.ref b) c)(h:Q true s):wpAny %[|6] A (hashByValue (n+2) (.ref b)) Q E s:=by obtain⟨a,o,k,p,u,e,m,t,x,d⟩:=y;cases e;obtain⟨l,_,_,_,rfl,_⟩:=id d;have q:s.TypeIs (.ref b) "tuple":=%[o,m|t];unfold hashByValue;refine b0 (gT q kr.lookup ?_);show wpAny _ _ (seqItems? (.ref b)>>=_) _ _ s;refine b0 (fy m x ?_);refine b0 ?_;show wpAny _ _ (forIn #[Value.int c.1 p,.ref l] _ _) _ _ s;rw[<-iE];refine gu _ (λ g r j=>r.1=none/\j=s/\∀v∈g,v=Value.int c.1 p\/v=.ref l) _ ?_ ?_ _ _ %[rfl,rfl|by simp];{rintro v g r j ⟨i,rfl,f⟩;rcases f v x6 with rfl | rfl;{rw[K3];refine b0 (b9 ?_);simp only[fF,cy,ef];exact b9 %[rfl,rfl|λ u d=>f u (x4 _ d)]};{refine b0 (Y4 d ?_);simp only[fF,cy,ef];exact b9 %[rfl,rfl|λ u d=>f u (x4 _ d)]}};{rintro⟨z,B⟩ j ⟨i,rfl,_⟩;simp only at i;subst i;exact b9 h}
def K6(n:Nat)(i:Int)(t:Tok):ofAClassStatement n (.int i t)=pure false:=by cases n<;>rfl
def Xk(q:gM s.heap (.ref b) ns)(h:Q false s):wpAny %[|6] A (ofAClassStatement (n+1) (.ref b)) Q E s:=by obtain⟨o,x,k,g,l,m,p⟩:=qN q;have j:s.TypeIs (.ref b) "tuple":=%[o,g|l];unfold ofAClassStatement;refine b0 (kB j ?_);show wpAny _ _ ((pure true:Sem Bool)>>=_) _ _ s;refine b0 (b9 ?_);simp only[fF,cy,ef];refine b0 (fy g m ?_);refine b0 ?_;show wpAny _ _ (forIn x _ _) _ _ s;rw[<-iE];refine gu _ (λ c r f=>r.1=none/\f=s/\∀v∈c,∃i t,v=Value.int i t) _ ?_ ?_ _ _ %[rfl,rfl|p];{rintro v c r f ⟨d,rfl,a⟩;obtain⟨i,t,rfl⟩:=a v x6;rw[K6];refine b0 (b9 ?_);simp only[cy,ef];exact b9 %[rfl,rfl|λ u e=>a u (x4 _ e)]};{rintro⟨y,z⟩ f ⟨d,rfl,_⟩;simp only at d;subst d;exact b9 h}
def Kp(y:cB s.heap (.ref b) c)(h:Q false s):wpAny %[|6] A (ofAClassStatement (n+2) (.ref b)) Q E s:=by obtain⟨a,o,k,p,u,e,m,t,x,d⟩:=y;cases e;obtain⟨l,_,_,_,rfl,_⟩:=id d;have q:s.TypeIs (.ref b) "tuple":=%[o,m|t];unfold ofAClassStatement;refine b0 (kB q ?_);show wpAny _ _ ((pure true:Sem Bool)>>=_) _ _ s;refine b0 (b9 ?_);simp only[fF,cy,ef];refine b0 (fy m x ?_);refine b0 ?_;show wpAny _ _ (forIn #[Value.int c.1 p,.ref l] _ _) _ _ s;rw[<-iE];refine gu _ (λ g r j=>r.1=none/\j=s/\∀v∈g,v=Value.int c.1 p\/v=.ref l) _ ?_ ?_ _ _ %[rfl,rfl|by simp];{rintro v g r j ⟨i,rfl,f⟩;rcases f v x6 with rfl | rfl;{rw[K6];refine b0 (b9 ?_);simp only[cy,ef];exact b9 %[rfl,rfl|λ u d=>f u (x4 _ d)]};{refine b0 (Xk d ?_);simp only[cy,ef];exact b9 %[rfl,rfl|λ u d=>f u (x4 _ d)]}};{rintro⟨z,B⟩ j ⟨i,rfl,_⟩;simp only at i;subst i;exact b9 h}
def V5(n:cB s.heap x c)(p:∀y∈ys,∃d,cB s.heap y d)(h:Q false s):wpAny %[|6] A (searchCouldBeSeen x ys) Q E s:=by have i:=n;obtain⟨a,_,_,_,_,rfl,_⟩:=n;unfold searchCouldBeSeen;refine b0 ?_;refine gu _ (λ e r j=>r.1=none/\j=s/\∀v∈e,∃d,cB s.heap v d) _ ?_ ?_ _ _ %[rfl,rfl|p];{rintro v e r j ⟨k,rfl,f⟩;obtain⟨d,m⟩:=f v x6;have g:=m;obtain⟨b,_,_,_,_,rfl,_⟩:=m;have o:∀v∈e,∃d,cB j.heap v d:=λ u l=>f u (x4 _ l);dsimp only;split;{exact b9 %[rfl,rfl|o]};{refine b0 (pW i ?_);simp only[fF,cy,ef];refine b0 (pW g ?_);simp only[fF,cy,ef];refine b0 (Kp i ?_);simp only[cy,ef];refine b0 (Kp g ?_);simp only[cy,ef];exact b9 %[rfl,rfl|o]}};{rintro⟨q,t⟩ j ⟨k,rfl,_⟩;simp only at k;subst k;exact b9 h}
def FQ(g:A.units<cLine)(d:gM s.heap u ns)(e:gM s.heap v f):SeqAt.EqAt A s u v (decide (ns=f)):=by intro c w E Q h;obtain⟨a,_,_,_,rfl,_⟩:=id d;obtain⟨b,_,_,_,rfl,_⟩:=id e;exact wpAny_eqBool_tuple (knd:=intKind c w) g (Gn d) (Gn e) h
def Do(J:A.units+2<cLine)(G:cB s.heap u c)(H:cB s.heap v d):SeqAt.EqAt A s u v (decide (c=d)):=by
 obtain⟨a,o,k,n,u,rfl,y,F,x,g⟩:=G;obtain⟨B,z,I,f,w,rfl,i,t,h,l⟩:=H;by_cases e:a=B;{subst e;obtain rfl:o=z:=cc (y.symm.trans i);have p:=x.symm.trans h;injection p with p _;have q:[Value.int c.1 n,u]=[Value.int d.1 f,w]:=ei Array.toList p;injection q with e3 e4;injection e3 with e3 _;injection e4 with e4 _;subst e4;obtain⟨b,_,_,_,rfl,_⟩:=id g;have C:c.2=d.2:=EY g l;have D:c=d:=ll e3 C;rw[cb D];exact mh _}
 . have m:=SeqAt.RcAt.tuples (A:=A) (s:=s) (e:=λ j=>if j=0 then decide (c.1=d.1)else decide (c.2=d.2)) %[o,y,F,k|x] %[z,i,t,I|h] %[|0] (λ j r E=>by
    match j,r,E with
    | 0,_,_=>have:=SeqAt.EqAt.int_int (A:=A.in1) (s:=s) c.1 n d.1 f;rw[show(c.1==d.1)=decide (c.1=d.1)from by rw[gg];simp]at this;exact this
    | 1,_,_=>exact FQ (by show A.units+1<_;omega) g l
    | j+2,r,_=>exact absurd r (by simp));have q:((List.range (min #[Value.int c.1 n,u].size #[Value.int d.1 f,w].size)).all (λ j=>if j=0 then decide (c.1=d.1)else decide (c.2=d.2))&&#[Value.int c.1 n,u].size==#[Value.int d.1 f,w].size)=decide (c=d):=by rw[gg];simp[ke,Prod.ext_iff]
   rw[q]at m;exact SeqAt.EqAt.of_refs e m
end
end RF
namespace RF
open PySem PySem.Spec L2 DL
open PyProof.Rows
abbrev tbl(led:Bool)(ps:ae3):SetTable:={mask:=7,place:=ps.toArray,dummies:=#[],finger:=0,led:=led,moves:=0,plain:=true}
section
variable{prog:Program}{w:World}{A:Around}{E:%[|25]}{s:Shared}
def Vk(h:Q true s):wpAny M A (isSame (.ref b) (.ref b)) Q E s:=by unfold isSame;dsimp only;rw[ca (f7 b)];exact b9 h
end
section
variable{prog:Program}{w:World}{A:Around}{R:Result -> Shared -> Prop}{I:Addr}{fp wr:List Addr}{G:Array GenState -> Array GenState -> Prop}{n:Nat}{P:Nat -> Value -> Prop}{St:Nat -> Shared -> Prop}
def V1(W:WalksS prog w A.in1 I fp wr G n P St)(S:Addr)(l:S∉fp)(g:Nat->Heap->Prop)
 (a:∀i h h',g i h->(∀b o,b∉wr->h.get? b=some o->h'.get? b=some o)->g i h')
 (hadd:∀i v(s:ae4)(Q:ag2)(E:ae2),i<n->P i v->g i s.heap->(∀b h' tk,Heap.SameBut S s.heap h'->g (i+1) h'->Q b {s with heap:=h',toks:=s.toks+tk})->wpAny %[|6] A.in1 (setAdd S v) Q E s):
 ∀ (k i:Nat)(s:ae4),n-i=k->i<=n->St i s->g i s.heap->
   (∀s',Moved (S::wr) G s s'->g n s'.heap->R (.ok (.ret .none)) s')->
   codeAny %[|6] A (.builtin "set.update.loop" %[[.ref S,.ref I]|[]]) R s:=by
 have D:S∉wr:=λ h=>l (W.sub _ h);have c:∀b∈wr,b∈S::wr:=λ b m=>x4 _ m;intro k
 induction k with
 | zero=>
   intro i s J H f u t;have z:i=n:=%[|0]
   subst z;refine i7 F.entry_set_update_loop ?_;rw[i0 F.plain_set_update_loop _];show wpAny _ A.in1 (pyNext (.ref I)>>=_) _ _ s;refine b0 (W.done s _ _ f λ s' p=>?_);show wpAny _ A.in1 (ret Value.none) _ _ s';exact b9 (t s' (p.mono c) (a _ _ _ u p.heap))
 | succ k K=>
   intro i s J H f u t;have d:i<n:=%[|0]
   refine i7 F.entry_set_update_loop ?_;rw[i0 F.plain_set_update_loop _];show wpAny _ A.in1 (pyNext (.ref I)>>=_) _ _ s;refine b0 (W.item i s _ _ d f λ v s' C r p=>?_);have x:=a _ _ _ u p.heap;show wpAny _ A.in1 (holding [v] (setAdd S v)>>=_) _ _ s';refine b0 (eu (hadd i v s' _ _ d C x λ b h' tk hsb y=>?_));refine b9 %[nh F.plain_set_update_loop _|K (i+1) _ %[|0] d (W.frame _ s' _ _ r (fI _ _) λ b m o e=>?_) y λ B q j=>?_];{rw[hsb.2 b (λ h:b=S=>l (by rw[<-h];exact m))];exact e};{refine t B (Moved.trans W.gtrans ((p.mono c).then_heap (fI _ _) λ b o m e=>?_) q) j;rw[hsb.2 b (λ h:b=S=>m (by rw[h];exact x6))];exact e}
end
section
variable{prog:Program}{w:World}{A:Around}{E:%[|25]}{s:Shared}
abbrev aG(w:World):Bool:=!%[|46]
def qO(a:Value)
 (h:Q₁ %[|11] {s with heap:=s.heap.push {cls:=.type "set",dict:=none,data:=.set #[] 0 (.fresh 0 0 (aG w))}}):
 codeAny %[|6] A (.call (.builtin "set.__new__") %[[.type "set",a]|[]]) (wants Q₁ E) s:=by refine codeAny_of_tree ?_;show wpAny _ A.in1 (do checkBuiltinCall "set.__new__" %[[.type "set",a]|[]];again (.builtin "set.__new__" %[[.type "set",a]|[]])) _ _ s;refine b0 (wpAny_of_eq (F.newCall_set_1 a) (b9 %[nh F.plain_set_new _|i7 F.entry_set_new ?_]));rw[i0 F.plain_set_new _];unfold Builtin.«set.__new__» Builtin.Frozenset.newClass;have b:=sub_set_self;obtain⟨c,g,d,f,e⟩:=s;dsimp only;wp_walk;refine hV (b9 ?_);dsimp only;simp only[newObj];refine b0 (wpAny_alloc (b9 ?_));exact b9 h
end
def xO:entryFor table "set.__iter__"=some Builtin.«frozenset.__iter__»:=
 entryFor_alias (id':="frozenset.__iter__") (by kernel_rfl) rfl %[|9] (by kernel_rfl)
def bH:Slot "set_iterator" "__next__" "set_iterator.__next__":=
 .of (owner:="set_iterator") (n:="__next__") (by rw[typeLookup_type,builtinLookup_eq_fast];kernel_rfl) %[|9] %[|9] %[|9]
  (by first | exact .inl %[|9] | exact .inr %[|9]) (by rw[isSubtype_type];kernel_rfl)
def fP:entryFor table "set_iterator.__next__"=some Builtin.«set_iterator.__next__»:=entryFor_of_tree (by kernel_rfl)
def iZ:Manifest.owners.lookup (String.ofList ['r','o','t','a','r','e','t','i','_','t','e','s'].reverse)=some Manifest.sig_set_iterator:=by kernel_rfl
def eZ(a:Value):argsOk "set_iterator.__next__" %[[a]|[]]:=by unfold argsOk;rw[signature?_of (id:="set_iterator.__next__") (n:=['_','_','t','x','e','n','_','_']) (o:=['r','o','t','a','r','e','t','i','_','t','e','s']) (by kernel_rfl) iZ];kernel_rfl
def fX:Slot "set_iterator" "__iter__" "set_iterator.__iter__":=
 .of (owner:="set_iterator") (n:="__iter__") (by rw[typeLookup_type,builtinLookup_eq_fast];kernel_rfl) %[|9] %[|9] %[|9]
  (by first | exact .inl %[|9] | exact .inr %[|9]) (by rw[isSubtype_type];kernel_rfl)
def lr:entryFor table "set_iterator.__iter__"=some Builtin.«dict_keyiterator.__iter__»:=
 entryFor_alias (id':="dict_keyiterator.__iter__") (by kernel_rfl) rfl %[|9] (by kernel_rfl)
def jW(a:Value):argsOk "set_iterator.__iter__" %[[a]|[]]:=by unfold argsOk;rw[signature?_of (id:="set_iterator.__iter__") (n:=['_','_','r','e','t','i','_','_']) (o:=['r','o','t','a','r','e','t','i','_','t','e','s']) (by kernel_rfl) iZ];kernel_rfl
def slotAt(ps:ae3):Nat->Nat
 | 0=>0
 | i+1=>ps.getD i 0+1
def fL(w:World)(a:Addr)(ep:Nat)(es:List (Int×Value)):Array (Int×Value):=
 if %[|46]=true then pickOrder (w.params.setOrder a ep) es.toArray else es.toArray
abbrev dG(w:World)(ps:ae3)(S:Addr)(n ep i:Nat):Obj:={cls:=.type "set_iterator",dict:=none,data:=.fields #[rawInt (if %[|46]=true then 0 else slotAt ps i:Nat),rawInt (i:Nat),.ref S,rawInt (n:Nat),rawInt (ep:Nat)],slots:=#[]}
section
variable{prog:Program}{w:World}{A:Around}{E:%[|25]}{s:Shared}
def nG(a:s.heap.get? I=some (dG w ps S n ep i)):s.TypeIs (.ref I) "set_iterator":=%[_,a|rfl]
def oh{h:Heap}(a:h.get? I=some {cls:=.type "set_iterator",dict:=none,data:=.fields vs,slots:=#[]}):
 (h.update I (Obj.mapFields (·.setIfInBounds k x))).get? I=some {cls:=.type "set_iterator",dict:=none,data:=.fields (vs.setIfInBounds k x),slots:=#[]}:=fS _ a rfl
end
theorem Hr(fin:Bool):∀ns:%[|8],ltF fin ns ns=fin
 | []=>rfl
 | n::ns=>by unfold ltF;rw[ca rfl];exact Hr fin ns
def Ej(ns:ae0):ltI ns ns=false:=by unfold ltI;rw[Hr];simp
def ltC(c d:af8):Bool:=if c.1=d.1 then ltI c.2 d.2 else decide (c.1<d.1)
section
variable{prog:Program}{w:World}{A:Around}{E:%[|25]}{s:Shared}
def Xc(T:gM s.heap (.ref a) ns)(U:gM s.heap (.ref b) m)(h:P (.done (.ret (.bool (ltI ns m)))) s):
 wpAny %[|6] A (Builtin.«tuple.__lt__» %[[.ref a,.ref b]|[]]) P E s:=by
 obtain⟨Y,oa,B,na,e,J,S,G,p⟩:=T;cases e;obtain⟨Z,X,C,nb,e,t,F,H,q⟩:=U;cases e;have D:s.TypeIs (.ref b) "tuple":=%[X,t|F];show wpAny _ _ (isInstance (.ref b) %[|10]>>=_) _ _ s;refine b0 (gt D nw ?_);simp only[fF,cy,ef];refine b0 (wpAny_tupleItemsOf J G ?_);refine b0 (wpAny_tupleItemsOf t H ?_);refine b0 ?_;have V:B.size=ns.length:=by rw[<-eW];exact p.length
 have W:C.size=m.length:=by rw[<-eW];exact q.length
 refine gu _
  (λ j r z=>r.1=none/\z=s/\∃f d g i,j=List.zip g i/\IntsAre g f/\IntsAre i d/\ltF (decide (ns.length<m.length)) f d=ltI ns m)
  _ ?_ ?_ _ _ %[rfl,rfl,ns,m,B.toList,C.toList,rfl,p,q|rfl]
 . rintro⟨u,v⟩ j r z ⟨K,rfl,f,d,g,i,n,k,l,c⟩
   cases k with
   | nil=>simp at n
   | @cons L t1 Q O x=>
     cases l with
     | nil=>simp at n
     | @cons M t2 R N y=>simp only[oC,List.cons.injEq,Prod.mk.injEq]at n;obtain⟨⟨rfl,rfl⟩,rfl⟩:=n;refine b0 (nk ?_);unfold ltF at c;by_cases I:L=M;{subst I;rw[f7];simp only[fF,cy,ef];rw[ca rfl]at c;exact b9 %[rfl,rfl,_,_,_,_,rfl,x,y|c]};{rw[bP I]at c;rw[show(L==M)=false from by simpa using I];simp only[Bool.not_false,gX];rw[<-c]at h;refine b0 (k6 ?_);refine b0 (show wpAny _ _ (compareOp .Lt _ _) _ _ _ from wpAny_lt_int ?_);exact b0 (b9 (b9 (b9 h)))}
 . rintro⟨r1,r2⟩ z ⟨K,rfl,f,d,g,i,n,k,l,c⟩;simp only at K;subst K;refine b9 ?_;have o:decide (B.size<C.size)=ltI ns m:=by
    rw[<-c,V,W]
    cases k with
    | nil=>rfl
    | cons _ _ _=>
      cases l with
      | nil=>rfl
      | cons _ _ _=>simp at n
   show P (.done (.ret (.bool (decide (B.size<C.size))))) z;rw[o];exact h
def OD(m:A.units<cLine)(i:gM s.heap u ns)(j:gM s.heap v k)(h:Q (.bool (ltI ns k)) s):wpAny %[|6] A (compareOp .Lt u v) Q E s:=by
 obtain⟨a,l,_,_,rfl,d,c,_⟩:=id i;obtain⟨b,n,_,_,rfl,g,f,_⟩:=id j;exact wpAny_richCompare_same_room (op:=.Lt) %[l,d|c] %[n,g|f] F.slot_tuple_lt
  (dA F.slot_tuple_lt %[l,d|c] F.entry_tuple_lt (Xc i j %[_,rfl,(λ e=>nomatch e)|h]) (F.args_tuple_lt_2 _ _)) m
def aal(C:A.units+2<cLine)(r:cB s.heap v c)(hw:cB s.heap u d)(h:Q (ltC c d) s):wpAny %[|6] A (keyLt' (tuples' b) v u) Q E s:=by obtain⟨a,o,k,t,x,rfl,q,B,p,m⟩:=r;obtain⟨z,F,D,l,y,rfl,j,n,i,f⟩:=hw;refine PySem.W.kat_lt q p j i ?_;show PySem.W.KatLex prog w A b _ Q [(Value.int c.1 t,Value.int d.1 l),(x,y)] 0 s;refine PySem.W.kat_cons (nk ?_);unfold ltC at h;by_cases e:c.1=d.1;{rw[e,f7];rw[ca e]at h;refine PySem.W.kat_yes (PySem.W.kat_cons (FQ %[|0] m f prog w _ _ ?_));by_cases g:c.2=d.2;{rw[cb g];refine PySem.W.kat_yes (PySem.W.kat_nil ?_);rw[g,Ej]at h;exact h};{rw[cE g];refine PySem.W.kat_no ?_;rw[show(b&&0+1==0)=false from by cases b<;>rfl];exact PySem.W.kat_one _ _ (OD %[|0] m f h)}};{rw[show(c.1==d.1)=false from by simpa using e];rw[bP e]at h;exact PySem.W.kat_no (XX h)}
end
theorem zY(a:f=true->g=false):∀{ns b:ae0},ltF f ns b=true->ltF g b ns=false
 | [],[],h=>by unfold ltF at h ⊢;exact a h
 | [],_::_,h=>by unfold ltF at h ⊢;exact a h
 | _::_,[],h=>by unfold ltF at h ⊢;exact a h
 | n ::ns,m::b,h=>by unfold ltF at h ⊢;by_cases e:n=m;{rw[ca e]at h;rw[ca e.symm];exact zY a h};{rw[bP e]at h;rw[bP (λ z=>e z.symm)];have:=ck h;exact cE %[|0]}
def P0(h:ltI ns a=true):ltI a ns=false:=by unfold ltI at h ⊢;exact zY (λ b=>cE (by have:=ck b;omega)) h
def RL:∀{ns c:ae0},(ns.length<c.length->f=true)->(c.length<ns.length->g=true)->ltF f ns c=false->ltF g c ns=false->ns=c:=by
 intro ns
 induction ns with
 | nil=>
   intro c j k h d
   cases c with
   | nil=>rfl
   | cons=>unfold ltF at h;rw[j (by simp)]at h;cases h
 | cons n ns l=>
   intro c j k i d
   cases c with
   | nil=>unfold ltF at d;rw[k (by simp)]at d;cases d
   | cons m c=>unfold ltF at i d;by_cases e:n=m;{rw[ca e]at i;rw[ca e.symm]at d;rw[e,l (λ z=>j (by simpa using z)) (λ z=>k (by simpa using z)) i d]};{rw[bP e]at i;rw[bP (λ z=>e z.symm)]at d;have a:=fe i;have b:=fe d;omega}
def Af(h1:ltI ns a=false)(h2:ltI a ns=false):ns=a:=by unfold ltI at h1 h2;exact RL (λ h=>cb h) (λ h=>cb h) h1 h2
def PQ(h:ltC c d=true):ltC d c=false:=by unfold ltC at h ⊢;by_cases e:c.1=d.1;{rw[ca e]at h;rw[ca e.symm];exact P0 h};{rw[bP e]at h;rw[bP (λ z=>e z.symm)];have:=ck h;exact cE %[|0]}
def RC(h1:ltC c d=false)(h2:ltC d c=false):c=d:=by unfold ltC at h1 h2;by_cases e:c.1=d.1;{rw[ca e]at h1;rw[ca e.symm]at h2;exact ll e (Af h1 h2)};{rw[bP e]at h1;rw[bP (λ z=>e z.symm)]at h2;have a:=fe h1;have b:=fe h2;exact absurd %[|0] e}
def lJ{α:Type}(f:α->%[|15]):List α->List α
 | [x,y]=>if f y=f x then[x]else if ltC (f y) (f x)=true then[y,x]else[x,y]
 | xs=>xs
def cD(c:af8):D:=.tup [.int c.1,.tup (c.2.map .int)]
section
variable{X:Cx}
def gK{σ:DL.St}(I:%[|3])(r:Rep X.K O H y (cD c))(E:RelV y u):cB s.heap u c:=by unfold cD at r;obtain⟨a,Q,rfl,p,B⟩:=dj r;cases E;obtain⟨P,F,⟨o,x,z,n,A⟩,N⟩:=I.tuple p.sq;cases B with| cons C G=>cases G with| cons D J=>cases J;cases F with| cons i k=>cases k with| cons j l=>cases l;cases C;obtain⟨K,rfl⟩:=i;obtain⟨M,L,rfl,b,g⟩:=dj D;cases j;obtain⟨t,h,⟨w,d,e,v,f⟩,q⟩:=I.tuple b.sq;have m:=g.ints;subst m;exact%[a,o,n,K,_,rfl,x,z,A,_,w,_,v,rfl,d,e,f|intsAre_of h]
end
section
variable{Ω:Wd}
def aef(a:Ex Ω):Te Ω where
 lev:=a.lev
 chk n N C e:=VD e&&a.chk n N C e
 wp D S W:=a.wp D S λ d o=>∃b,vw o d=.lst b/\(d=.lst b\/∃k,d=.loc k/\o[k]? =some b)/\b.length<=1000000/\W (!b.isEmpty) o
 sound:=by
  intro X r n N C e D S W A Q L T;refine an2 L λ J K=>?_;intro f s E H O I q st;refine isTrue_plain (thn (a.sound A Q K T f s E H O I q st) λ u s3 v=>?_) (Pn J _ _);obtain⟨z,y,B,r3,F,d,G,⟨b,_,M,hz,wc⟩,x,m,g⟩:=v;have c:∀(p:Addr)(i:List V),z=.ref p->SqL X.K y p i->i.length=b.length->wpAny %[|5] X.A (truthy u) (TP X f E (QT X.K O H W)) X.xe s3:=by
   rintro p i rfl R l;cases r3;obtain⟨h,rv,Z,Y⟩:=B.list R;have j:h.length=b.length:=by rw[<-rv.length,l]
   refine wpAny_truthy_list Z.isList (by rw[x5];omega) ?_;have e:(!h.toArray.isEmpty)= !b.isEmpty:=by
    cases h with
    | nil=>cases b with
      | nil=>rfl
      | cons _ _=>simp at j
    | cons _ _=>cases b with
      | nil=>simp at j
      | cons _ _=>rfl
   rw[e];exact%[y,B.tok _,F,G,wc,x|m]
  rcases M with rfl | ⟨k,rfl,P⟩;{obtain⟨p,i,rfl,t,w⟩:=d7 g;exact c p i rfl t.sq w.length};{obtain⟨p,rfl,t⟩:=cV g;obtain⟨i,U,w⟩:=m.obj k p _ t P;exact c p i rfl (SqL.of U) w.length}
end
section
variable{X:Cx}
def Nt{K}(r:Reps K O H vs ds)(n:Nat):Reps K O H (vs.eraseIdx n) (ds.eraseIdx n):=by
 revert n;refine r.ind (P:=λ vs ds=>∀n:Nat,Reps K O H (vs.eraseIdx n) (ds.eraseIdx n)) (λ _=>.nil) λ a t b n=>?_
 cases n with
 | zero=>exact t
 | succ n=>exact .cons a (b n)
def RN{id}(slot:Slot "list" name id)(L:typeOf (.builtin id)=pure (.type "method_descriptor"))(hm:MtM X id r)(K:∀{x:V}{vs:List V}{H:Hp}{Q R:VK},r x vs H Q->(∀v H',Q v H'->R v H')->r x vs H R)
 (h:Ev X j S o λ x S1=>∃k,x=.loc k/\EvA X j S1 (e::es) λ ds S2=>∃ds0,S2[k]? =some ds0/\∀(O:Own)(H:Hp)(a:Addr)(xs vs:List V),O.A[k]? =some (a,false)->H a=some (.lst xs)->Reps X.K O H xs ds0->Reps X.K O H vs ds->StOk X.K O H S2->r (.ref a) vs H (QG X.K O H W))
 (m:attributeBase o name X.env (eval o X.env)=eval o X.env)
 (u:((backTo b (starEach (e::es) X.env)).all (λ x=>!x.1)&&(backToKw b (keywordEach [] X.env)).all (λ x=>x.1.isSome)
  &&decide ((e::es).length+([]:List Keyword).length+(if([]:List Keyword).isEmpty then 0 else 1)<30))=true)
 (n:(g.endLine==b.line)=true)(hs:starEach (e::es) X.env=%[|42]::%[|33])(f:(backTo b %[|33]).any (·.1)=false):Ev X j S (.Call (.Attribute o name g) (e::es) [] b) W:=by
 intro c s F H O I d P;have y:∀(p:Own)(x:D)(v:V)(l:Hp)(S1:Store),(∃k,x=.loc k)->StOk X.K p l S1->Rep X.K p l v x->tyV X.K "list" v l:=by
  rintro p x v l S1 ⟨k,rfl⟩ U r;obtain⟨a,rfl,t⟩:=cV r;have hl:k<S1.length:=by rw[<-U.len];exact(z0.mp t).1
  obtain⟨xs,M,_⟩:=U.obj k a S1[k] t (y3 hl);exact .inl %[rfl,xs|SqL.of M]
 have hA:PA X (e::es) (λ F H Q=>∃O j S G,EnvOk X.K O H F j/\%[|13]/\EvA X j S (e::es) G/\∀vs H',QA X.K O H G vs H'->Q vs H'):=by rintro N c s F H Q I ⟨O,j,S,G,d,P,J,k⟩;exact thn (J N c s F H O I d P) λ us s1 ⟨vs,l,I1,r1,q⟩=>%[vs,l,I1,r1|k vs l q]
 refine Mt (T:="list") mM slot L hm (h.pe) hA m u n hs f c s F H _ I %[O,d,P|λ v H' q=>?_];obtain⟨p,x,S1,⟨k,rfl,J⟩,C,z,i⟩:=q;refine%[y p _ v H' S1 %[k|rfl] z i,p,j,S1,_,d.mono C,z,J|λ vs Y q2=>?_];obtain⟨Z,ds,S2,⟨ds0,hk,w⟩,E,A,B⟩:=q2;have r':=i.mono E;obtain⟨a,rfl,t⟩:=cV r';obtain⟨xs,M,q1⟩:=A.obj k a ds0 t hk;exact K (w Z Y a xs vs t M q1 B A) λ v' H3 q3=>q3.pre (C.trans E)
def Jz(h:Ff x vs H Q)(k:∀v H',Q v H'->a v H'):Ff x vs H a:=by obtain⟨l,n,i,j,y,b,c,d,e,f,g,m,q⟩:=h;exact%[l,n,i,j,y,b,c,d,e,f,g,m|k _ _ q]
end
section
variable{Ω:Wd}
def Zx(h:okE e=true):((backTo a (starEach [e] env)).all (λ x=>!x.1)&&(backToKw a (keywordEach [] env)).all (λ x=>x.1.isSome)
 &&decide ([e].length+([]:List Keyword).length+(if([]:List Keyword).isEmpty then 0 else 1)<30))=true:=by rw[aJ h [] env];rfl
def ad8(o a:Ex Ω):Ex Ω where
 lev:=max o.lev a.lev
 chk c N s e:=pM e λ x m p es q=>cM es λ y=>(m==("pop":Str))&&(nameE x&&((p.endLine==q.line)&&(okE y&&(o.chk c N s x&&a.chk c N s y))))
 wp B S W:=o.wp B S λ x C=>onL x λ k=>a.wp B C λ d h=>∃(i:Nat) (b:List D) (y:D),d=.int i/\h[k]? =some b/\b[i]? =some y/\b.length<=1000000/\W y (h.set k (b.eraseIdx i))
 sound:=by intro X r c N s e B S W A Q f T;obtain⟨Y,Z⟩:=lv2 Q;refine iJ f λ x m p es q f=>?_;refine bK (l:=es) f λ y f=>?_;refine an6 f λ G I J j K L=>?_;have e:=ZU G;subst e;refine RN F.slot_list_pop F.type_list_pop UT Jz ((o.sound A Y K T).mono λ x C q=>?_) ?_ (Zx j) J (aJ j _ _) rfl;{refine tB q λ k q=>?_;refine%[_,rfl|cH ((a.sound A Z L q).mono λ d h q=>gr ?_) (aJ j _ _)];obtain⟨i,b,y,rfl,P,M,hz,w⟩:=q;refine%[b,P|λ O H a g vs n U z u st=>?_];cases u with| cons r1 t=>cases t;cases r1;obtain⟨v,E,u⟩:=z.get M;have R:i<g.length:=(z0.mp E).1;have V:g.length=b.length:=z.length;refine%[a,g,_,i,v,rfl,rfl,U,%[|0],%[|0],?_,E,O,y,_,w,Step.put (bU n) _,st.put n (Nt z i)|u.mono (Step.put (bU n) _)];unfold seqIndex?;rw[bP (show ¬(i:Int)<0 by omega)];show(if(decide (0<=(i:Int))&&decide ((i:Int)<(g.length:Int)))=true then some (i:Int).toNat else none)=some i;rw[cb (show 0<=(i:Int) by omega),cb (show(i:Int)<(g.length:Int) by omega)];rfl};{exact fK I}
end
def Eo(l:Addr)(items:af0)(n:Nat)(b:Addr)(a:af0)(o:Nat)(c:af7)(f:af2)(m:¬(!items.isEmpty&&Builtin.List.listTooLong (items.size+a.size))=true)(hc1:items.size<=sizeLine)(e:items.size+a.size<=sizeLine+1):
 Meets (Builtin.«list.extend» %[[.ref l,.ref b]|[]]) (λ _ R s=>s.heap.get? l=some {cls:=%[|16],dict:=none,data:=.seq items n,slots:=#[]}/\s.heap.get? b=some {cls:=%[|16],dict:=c,data:=.seq a o,slots:=f}/\R (.ok (.ret Value.none)) {s with heap:=s.heap.update l (Obj.mapSeq λ x=>x++a),toks:=s.toks}):=
 .of_wp λ j w A R s h=>by
  obtain⟨v,g,d,z,y⟩:=s;obtain⟨i,k,h⟩:=h;have p:=AutoSeq1.idx_int;have q:=AutoSeq1.sub_tuple_tuple;have r:=AutoSeq1.sub_list_list;have t:=AutoSeq1.sub_tuple_list;have u:=AutoSeq1.sub_list_tuple;
  have hz':(items++a).size<=sizeLine+1:=by rw[Array.size_append];exact e
  wp_walk using(wpAny_updateSeq i rfl (hz:=hc1) (_hz':=hz')),dE i,dE k;exact%[_,rfl|h]
def M7(K:ae1):V->List V->Hp->VK->Prop:=λ x d H Q=>∃l b a c,x=.ref l/\d=[.ref b]/\H l=some (.lst a)/\SqL K H b c/\a.length+c.length<=sizeLine/\Q .non (upd H l (.lst (a++c)))
def NQ{K}(h:M7 K x vs H Q)(k:∀v H',Q v H'->a v H'):M7 K x vs H a:=by obtain⟨l,b,i,j,c,d,e,f,g,q⟩:=h;exact%[l,b,i,j,c,d,e,f,g|k _ _ q]
section
variable{X:Cx}
def N6:MtM X "list.extend" (M7 X.K):=by
 intro y s U H x P v O Q I J G h;obtain⟨l,b,R,T,rfl,rfl,t,B,L,q⟩:=h;cases J;obtain⟨u,rfl,E⟩:=G.one;cases E;obtain⟨z,c,n,r,K,e⟩:=I.lstM t;obtain⟨a,A,D,S⟩:=I.list B;obtain⟨⟨p,j,i,o⟩,C,k,f,w,g⟩:=id D;simp only at f g;subst f g;have M:=r.length;have N:=A.length;have m:c.toArray.size+a.toArray.size<=sizeLine:=by rw[x5,x5];omega
 have d:¬(!c.toArray.isEmpty&&Builtin.List.listTooLong (c.toArray.size+a.toArray.size))=true:=by rw[Vy m,Bool.and_false];exact y6
 refine ky F.slot_list_extend %[_,e|rfl] F.entry_list_extend (F.args_list_extend_2 _ _)
  (Eo l c.toArray n b a.toArray C j o d (by rw[x5];omega) %[|0]) %[e,k|?_];refine%[.non,_,I.lset (its':=c++a) t e (by simp) (r.append A) ?_,rfl|q];rw[x8];omega
end
section
variable{Ω:Wd}
def adT(o a:Ex Ω):Ex Ω where
 lev:=max o.lev a.lev
 chk f N C e:=pM e λ x m p es q=>cM es λ y=>(m==("extend":Str))&&(nameE x&&((p.endLine==q.line)&&(okE y&&(o.chk f N C x&&a.chk f N C y))))
 wp G S W:=o.wp G S λ x I=>onL x λ k=>a.wp G I λ d i=>∃g es,i[k]? =some g/\jU i d=some es/\g.length+es.length<=1000000/\W .non (i.set k (g++es))
 sound :=by
  intro X r f N C e G S W A Z h hw;obtain⟨l1,l2⟩:=lv2 Z;refine iJ h λ x m p es q h=>?_;refine bK (l:=es) h λ y h=>?_;refine an6 h λ P Q R s T U=>?_;have e:=ZU P;subst e;refine RN F.slot_list_extend F.type_list_extend N6 NQ ((o.sound A l1 T hw).mono λ x I q=>?_) ?_ (Zx s) R (aJ s _ _) rfl
  . refine tB q λ k q=>?_;refine%[_,rfl|cH ((a.sound A l2 U q).mono λ d i q=>gr ?_) (aJ s _ _)];obtain⟨g,es,Y,u,hz,w⟩:=q;refine%[g,Y|λ O H a xs vs J hx K rv M=>?_]
    cases rv with
    | cons E t=>
      cases t;have B:∀v,Rep X.K O H v d->∃b c,v=.ref b/\SqL X.K H b c/\Reps X.K O H c es:=by
       intro v E
       cases E with
       | @lst b c _ n D=>cases u;exact%[b,c,rfl,n.sq|D]
       | @loc b j n=>obtain⟨c,z,D⟩:=M.obj j b es n u;exact%[b,c,rfl,SqL.of z|D]
       | _=>cases u
      obtain⟨b,c,rfl,V,L⟩:=B _ E;refine%[a,b,xs,c,rfl,rfl,hx,V,by rw[K.length,L.length];exact small hz,O,.non,_,w,Step.put (bU J) _,?_|.non];exact M.put J (K.append L)
  {exact fK Q}
end
end RF
namespace XE
open PySem PySem.Spec L2 DL RF
open PyProof.Rows
abbrev WX:=Str->%[|4]
variable{Ω:Wd}
end XE
set_option maxHeartbeats 400000
set_option maxHeartbeats 1000000
namespace XE
open PySem PySem.Spec L2 DL RF
open PyProof.Rows
variable{Ω:Wd}
end XE
namespace RF
open PySem PySem.Spec L2 DL
open PyProof.Rows
section
variable{Ω:Wd}
def unl(ns:ae0):Nat:=(firstMet (λ i=>ns.getD i 0) ns.length).length
def DK(C:X.calm=true)(m:ns.length+1<scanBound)(p:jU S d=some (ns.map .int))(w:W (.int (unl ns)) S)
 {pins:Pins}{σ:DL.St}(I:%[|3])(st:%[|13])(r':Rep X.K O H v d)(h:RelV v u):
 wpAny %[|5] X.A (call (.type "set") [u]) (λ u1 s1=>wpAny %[|5] X.A (call (.builtin "len") [u1]) (EP X pins σ (QG X.K O H W)) X.xe s1) X.xe s:=by
 obtain⟨a,P,rfl,y,x⟩:=CW (pins:=pins) (s:=s) (σ:=σ) (X:=X) st r' p;cases h;obtain⟨its,i,z,K⟩:=I.list y;have j:P=ns.map V.int:=x.ints;have q:IntsAre its ns:=by
  rw[j]at i;clear z K y x j w m p
  induction ns generalizing its with
  | nil=>cases i;exact .nil
  | cons n ns L=>cases i with| cons M N=>obtain⟨t,rfl⟩:=M;constructor;exact L _ N
 have r:its.length=ns.length:=IntsAre.length q;refine call_set_list (items:=its.toArray) (ns:=ns) (I.ok.hd C) z.isList (by simpa using q) (by rw[x5,r];exact m) λ k tk l F=>?_;have B:its.toArray.size=ns.length:=by rw[x5,r]
 rw[B]at l;obtain⟨o,R,Q,t,J,f,c,_,_,g,E,G⟩:=l;have A:Inv X pins σ H {s with heap:=k,toks:=tk}:=I.kept (t':=tk) λ b o e=>F b o (c8 e) e;refine call_len_set (s:={s with heap:=k,toks:=tk}) J f c E (by unfold scanBound at g;omega) ?_;rw[G];exact%[.int _,H,A.tok _,%[_|rfl]|Hc w st (.int _)]
def Ex.lset(hm:Ω.mg "len"=none)(hm2:Ω.mg "set"=none)(a:Ex Ω):Ex Ω where
 lev:=a.lev
 chk l N m e:=cO e λ y G=>cM G λ c=>cO c λ z F=>cM F λ b=>(y=="len")&&((z=="set")&&(glb m "len"&&(glb m "set"&&(okE b&&a.chk l N m b))))
 wp K S W:=a.wp K S λ d o=>∃n:%[|8],jU o d=some (n.map .int)/\n.length+1<scanBound/\W (.int (unl n)) o
 sound:=by intro X r l N m e K S W A hl w hw;refine aX w λ y p G D f=>?_;refine bK f λ c g=>?_;refine aX g λ z p' F j h=>?_;refine bK h λ b w=>?_;refine an6 w λ U V Y Z J h6=>?_;have R:=ZU U;have T:=ZU V;subst R T;intro i s σ H O I t st;refine g9 (cj I (A.glb Y) (by rw[A.g];exact hm) (show bootBuiltins "len"=some (.builtin "len")from %[|9]) ?_ %[|1] %[|1]);refine gS ?_ rfl rfl;show wpAny _ _ (spliced ((false,eval _ X.env)::backTo D (starEach [] X.env))) _ _ s;refine eI ?_;refine g9 (cj I (A.glb Z) (by rw[A.g];exact hm2) (show bootBuiltins "set"=some (.type "set")from %[|9]) ?_ %[|1] %[|1]);refine dV ?_ (aJ J _ _) rfl;rw[aJ J [] X.env];show wpAny _ _ (spliced ((false,eval b X.env)::backTo j (starEach [] X.env))) _ _ s;refine eI (thn (a.sound A hl h6 hw i s σ H O I t st) λ u s1 B=>?_);obtain⟨v,H1,L,r1,O1,x,o,hb,E,C,k⟩:=B;obtain⟨n,M,P,Q⟩:=hb;refine f8 ?_;refine thn (DK A.calm P M Q L C k r1) λ u2 s2 q=>?_;refine f8 ?_;exact thn q λ _ _ q=>fc E q
end
end RF
namespace XE
open PySem PySem.Spec L2 DL RF
open PyProof.Rows
variable{Ω:Wd}
end XE
namespace RF
open PySem PySem.Spec L2 DL
open PyProof.Rows
variable{Ω:Wd}
end RF
namespace RF
open PySem PySem.Spec L2 DL
open PyProof.Rows
variable{Ω:Wd}
def Qi(a b:Addr)(xs ys:af0):
 Meets (Builtin.«zip.__new__» %[[.type "zip",.ref a,.ref b]|[]]) (λ _ R s=>s.heap.IsTuple a xs/\s.heap.IsList b ys/\
  R (.ok (.ret (.ref (zh s.heap "tuple_iterator" "list_iterator" a b).objs.size))) {s with heap:=zhz s.heap "tuple_iterator" "list_iterator" a b}):=
 .of_wp λ i w A R s h=>by obtain⟨c,g,d,j,f⟩:=s;obtain⟨k,l,h⟩:=h;have e:=sub_zip;have m:Heap.IsTuple (Shared.heap %[c,g,d,j|f]) a xs:=k;have n:Heap.IsList (Shared.heap %[c.push {cls:=.type "tuple_iterator",data:=.fields #[.ref a,.int 0 0]},g,d,j|f]) b ys:=Heap.IsList.push l _;wp_walk using wpAny_pyIter_tuple m,wpAny_pyIter_list n;exact%[_,rfl|h]
def U5(h:Ev X n S e1 λ d S1=>Ev X n S1 c λ d' S2=>∃ds es,d=.tup ds/\d'=.lst es/\W (List.zipWith (λ x y=>.tup [x,y]) ds es) S2)(Q:X.mg "zip"=none)(P:Gl X "zip")
 (hs:starEach [e1,c] X.env=(false,eval e1 X.env)::starEach [c] X.env)(f:starEach [c] X.env=[(false,eval c X.env)]):
 ItW X n S (.Tuple e k tp) (.Call (.Name "zip" p) [e1,c] [] j) W:=by
 intro i s σ H O I q st;have N:EvA X n S [e1,c] λ J S2=>∃ds es,J=[.tup ds,.lst es]/\W (List.zipWith (λ x y=>.tup [x,y]) ds es) S2:=
  cH (h.mono λ d S1 m=>cH (m.mono λ d' S2 ⟨ds,es,a,b,w⟩=>gr %[ds,es,by rw[a,b]|w]) f) hs;refine Call_ (cj I P Q boot_zip (dV (thn (N j i s σ H O I q st) λ us s1 r=>?_) hs (by rw[f];rfl)));obtain⟨vs,H1,o,r1,L,J,S1,⟨ds,es,M,w⟩,G,z,C⟩:=r;subst M;cases C with| cons ra B=>cases B with| cons B rc=>cases rc;obtain⟨u,u2,rfl,ru,E⟩:=vals2 r1;obtain⟨a,xs,rfl,m,Z⟩:=dj ra;obtain⟨b,ys,rfl,K,q2⟩:=d7 B;cases ru;cases E;obtain⟨t,rv,Y,hz⟩:=o.tuple m.sq;obtain⟨g,aa,A,R⟩:=o.list K.sq;obtain⟨z4,T,p2,p3,U,V,kp⟩:=zip_parts s1.heap "tuple_iterator" "list_iterator" a b;refine callType_new F.called_zip %[|1] (F.typeCall_zip_2 _ _) (F.newCall_zip_2 _ _) (λ v=>F.args_object_init_3 v _ _) F.entry_zip_new (Qi a b t.toArray g.toArray) %[Y,A.isList|?_];show _/\_;rw[z4];refine%[%[_,T|rfl]|R4 (Mx X.prog X.w X.K) (Wt X.prog X.w X.K) o %[_,U,rfl|rfl] %[_,V,rfl|rfl] %[L,_,S1,w,G,z|wZ _ _ λ O' H' l=>%[xs,ys,(m.conv l).sq,Z.conv l,(K.conv l).sq|q2.conv l]]]
def ad5(hm:Ω.mg "zip"=none)(a b:Ex Ω):Itb Ω where
 lev:=max a.lev b.lev
 chk c N h t e:=zm t&&cO e λ y f=>two2 f λ l r=>(y==("zip":Str))&&(glb h "zip"&&((okE l&&okE r)&&(a.chk c N h l&&b.chk c N h r)))
 wp m S W:=a.wp m S λ d o=>b.wp m o λ i s=>match d,i with | .tup ds,.lst f=>W (List.zipWith (λ x y=>.tup [x,y]) ds f) s | _,_=>False
 sound:=by intro X r c N h t e m S W A G g I;obtain⟨J,K⟩:=lv2 G;refine an2 g λ H j=>?_;clear g;obtain⟨f,n,O,u⟩:=mV H;subst u;refine aX j λ y p f L k=>?_;refine two2_ind k λ l M g=>?_;{refine an4 g λ v w z B=>?_;refine an2 z λ C D=>?_;refine an2 B λ E F=>?_;have e:=ZU v;subst e;refine U5 ((a.sound A J E I).mono λ d o q=>(b.sound A K F q).mono λ i s q=>?_) (by rw[A.g];exact hm) (A.glb w) (aJ C _ _) (aJ D [] _);cases d<;>first | exact q.elim | (cases i<;>first | exact%[_,_,rfl,rfl|q] | exact q.elim)}
end RF
namespace RF
open PySem PySem.Spec L2 DL
open PyProof.Rows
variable{Ω:Wd}
def Bl.never:Bl Ω where
 lev:=0
 chk _ _ _ _:=true
 wp _ _ _:=False
 sound:=by intro X r c N f b g S W A e d a;exact a.elim
end RF
namespace RF
open PySem PySem.Spec L2 DL
open PyProof.Rows
variable{Ω:Wd}
end RF
namespace RF
open PySem PySem.Spec L2 DL
open PyProof.Rows
variable{K:PySem.W.Frag}{O:Own}{H:Hp}
abbrev Kd:=List (%[|8]×D)
def encK(kv:%[|8]×D):D:=.tup [.tup (kv.1.map .int),kv.2]
def aC{α:Type}[DecidableEq α](kvs:List (α×D))(ns:α):Option D:=(kvs.find? λ kv=>decide (kv.1=ns)).map (·.2)
def putD{α:Type}[DecidableEq α](kvs:List (α×D))(ns:α)(d:D):List (α×D):=if(kvs.any λ kv=>decide (kv.1=ns))=true then kvs.map λ kv=>if kv.1=ns then(kv.1,d)else kv else kvs++[(ns,d)]
def uQ(h:eG a=eG b):a=b:=by
 unfold eG at h
 induction a generalizing b with
 | nil=>cases b with | nil=>rfl | cons=>cases h
 | cons x a c=>
   cases b with
   | nil=>cases h
   | cons y b=>have h:=gv h;rw[Sum.inl.inj h.1,c h.2]
def Zh(ns:ae0):(eG ns).map kV=ns.map V.int:=by unfold eG;rw[de];rfl
inductive KR(K:ae1)(O:Own)(H:Hp):List (List Key×V)->Kd->Prop
 | nil:KR K O H [] []
 | cons{ns:ae0}{v:V}{d:D}{kvs:List (List Key×V)}{ds:Kd}(r:Rep K O H v d)(t:KR K O H kvs ds):KR K O H ((eG ns,v)::kvs) ((ns,d)::ds)
theorem lR:∀{a b:ae0},a.map D.int=b.map D.int->a=b
 | [],[],_=>rfl
 | [],_::_,h=>by cases h
 | _::_,[],h=>by cases h
 | x::a,y::b,h=>by have h:=gv h;rw[D.int.inj h.1,lR h.2]
theorem sE:∀{kvs:List (List Key×V)}{ds:Kd},Kps K O H kvs (ds.map encK)->KR K O H kvs ds
 | _,[],h=>by cases h;exact .nil
 | _,(ns,d)::ds,h=>by have h:Kps K O H _ (.tup [.tup (ns.map .int),d]::ds.map encK):=h;generalize hx:ns.map D.int=x at h;cases h with| cons r t=>rw[lR hx];exact .cons r (sE t)
def _root_.DL.DOb.flt{ds:Kd}(b:DOb K O H a (ds.map encK)):∃kvs,H a=some (.dT kvs)/\Kps K O H kvs (ds.map encK):=by
 cases b with
 | t kvs e r=>exact%[kvs,e|r]
 | c i n e r=>
   cases ds with
   | nil=>cases r;exact absurd rfl n
   | cons kv ds=>have r:Kcs K O H i (.tup [.tup (kv.1.map .int),kv.2]::ds.map encK):=r;generalize hx:D.tup (kv.1.map D.int)=x at r;cases r with| cons f A B r t=>rw[<-hx]at f;have d:=D.tup.inj f;rcases j:kv.1 with _ | ⟨v,_ | ⟨w,l⟩⟩;{rw[j]at d;cases d};{rw[j]at d;cases d};{rw[j]at d;have s:=(gv (gv d).2).1;cases s}
 | o i n e r=>
   cases ds with
   | nil=>cases r;exact absurd rfl n
   | cons kv ds=>have r:Kos K O H i (.tup [.tup (kv.1.map .int),kv.2]::ds.map encK):=r;generalize hx:D.tup (kv.1.map D.int)=x at r;cases r with| @cons c _ _ _ _ _ _ f _ _ _=>rw[<-hx]at f;cases c<;>cases f
 | m i u h e r=>
   cases ds with
   | nil=>cases h
   | cons kv ds=>cases h
 | p y n b l c z q k e h g=>
   cases ds with
   | nil=>cases h
   | cons kv ds=>cases h
def _root_.DL.DOb.typ{pins:Pins}{σ:DL.St}(b:DOb X.K O H a ds)(k:Abv X.K a)(I:%[|3]):
 s.TypeIs (.ref a) "dict"/\(∀b,Value.ref a=.ref b->∃ob,s.heap.get? b=some ob/\ob.dict=none)/\(a==sysModules)=false:=by
 cases b with
 | t h e r=>exact Z7 I (.inr %[h|.inl e])
 | c g n e r=>obtain⟨⟨_,f,_,o,i,j,d,h4,_⟩,_,_⟩:=(show aW X.prog X.w H s.heap a (.ext (Va a g))from I.hok a _ e);refine%[%[o,d|h4.1],λ b q=>?_|f];cases q;exact%[o,d|h4.2.1]
 | o g n e r=>obtain⟨⟨_,f,_,o,i,j,d,h4,_⟩,_,_⟩:=(show aW X.prog X.w H s.heap a (.ext (mj a g))from I.hok a _ e);refine%[%[o,d|h4.1],λ b q=>?_|f];cases q;exact%[o,d|h4.2.1]
 | m g l f e r=>obtain⟨⟨_,f,_,o,i,d,h4,_⟩,_,_⟩:=(show aW X.prog X.w H s.heap a (.ext (cG a g))from I.hok a _ e);refine%[%[o,d|h4.1],λ b q=>?_|f];cases q;exact%[o,d|h4.2.1]
 | p _ n=>exact absurd k n
def KR.kps(h:KR K O H kvs ds):Kps K O H kvs (ds.map encK):=by
 induction h with
 | nil=>exact .nil
 | cons r t a=>exact .cons r a
def KR.length(h:KR K O H kvs ds):kvs.length=ds.length:=by
 induction h with
 | nil=>rfl
 | cons r t a=>simp[a]
def KR.look(h:KR K O H kvs ds)(ns:ae0):(aC ds ns=none/\gW kvs (eG ns)=none)\/∃d v,aC ds ns=some d/\gW kvs (eG ns)=some v/\Rep K O H v d:=by
 induction h with
 | nil=>exact .inl %[rfl|rfl]
 | @cons a v d kvs ds r t c=>
   by_cases e:a=ns;{subst e;exact .inr %[d,v,by simp[aC],oE rfl|r]}
   . have b:aC ((a,d)::ds) ns=aC ds ns:=by simp[aC,eM,e]
     rw[b,m5 (λ z=>e (uQ z))];exact c
def KR.any(h:KR K O H kvs ds)(ns:ae0):(kvs.any λ kv=>decide (kv.1=eG ns))=ds.any λ kv=>decide (kv.1=ns):=by
 induction h with
 | nil=>rfl
 | @cons b v d kvs ds r t a=>rw[ii,ii,a];congr 1;by_cases e:b=ns;{subst e;simp};{rw[cE (λ z=>e (uQ z)),cE e]}
def KR.put(h:KR K O H kvs ds)(ns:ae0)(r:Rep K O H v d):KR K O H (putK kvs (eG ns) v) (putD ds ns d):=by
 unfold putK putD;rw[h.any ns];split
 . rename_i a;clear a
   induction h with
   | nil=>exact .nil
   | @cons f i g kvs ds c t b=>rw[cn,cn];by_cases e:f=ns;{subst e;rw[ca rfl,ca rfl];exact .cons r b};{rw[bP (λ z=>e (uQ z)),bP e];exact .cons c b}
 . rename_i a;clear a
   induction h with
   | nil=>exact .cons r .nil
   | cons c t b=>exact .cons c b
section
variable{X:Cx}{Γ:Gam}{S:Store}{W:WD}{pos:Pos}
def YB(h:W %[|22] (S++[[]])):Ev X Γ S (.Dict [] [] pos) W:=by intro d s g H O I f e;have b:=I.hok.fresh (y9 s.heap.objs.size);refine wpAny_Dict_empty %[%[|11],_,I.laid (a:=s.heap.objs.size) (o:=.dT []) (t':=s.toks) (λ _ _ q=>bE _ q) (y9 _) (GP s.heap I.big),rfl|?_];exact%[O.more s.heap.objs.size true,%[|22],S++[[]],h,Step.own b _ true,e.ownD b .nil|.dlo (by show(O.A++[(s.heap.objs.size,true)])[S.length]? =some (s.heap.objs.size,true);rw[<-e.len];simp) λ c o q=>c8 (I.kIn c o q)]
def acV(X:Cx)(e:Expr):TE:=λ d H Q=>∃O c S b,EnvOk X.K O H d c/\%[|13]/\Ev X c S e b/\∀v a,QG X.K O H b v a->Q v a
def Up(e:Expr):PE X e (acV X e):=by rintro a s d H Q I ⟨O,g,S,f,b,c,h,k⟩;exact thn (h a s d H O I b c) λ _ _ q=>PX q k
def mz(r:Rep K O H v (.tup (ns.map .int))):∃b,v=.ref b/\H b=some (.tup ((eG ns).map kV)):=by obtain⟨b,a,rfl,h,q⟩:=dj r;rw[Zh,<-q.ints];exact%[b,rfl|h.2]
def aag(G:X.A.units+1<cLine)(hs:Eu e)
 (h:Ev X Γ S o λ x S1=>∃k,x=.dlo k/\Ev X Γ S1 e λ y S2=>∃ns kvs d,y=.tup (List.map .int ns)/\S2[k]? =some (List.map encK kvs)/\aC kvs ns=some d/\W d S2):Ev X Γ S (.Subscript o e pos) W:=by intro g s Q H O I c P;refine YC G h.pe (Up e) hs g s Q H _ I %[O,c,P|λ v R q=>?_];obtain⟨A,x,S1,⟨k,rfl,E⟩,l,t,i⟩:=q;obtain⟨a,rfl,C,_⟩:=dM i;refine%[A,Γ,S1,_,c.mono l,t,E|λ y T L=>?_];obtain⟨u,V,S2,⟨ns,kvs,d,rfl,F,n,w⟩,m,f,j⟩:=L;have r:u.A[k]? =some (a,true):=m.conv.lc k _ C;obtain⟨K,B,M⟩:=(f.dob k a _ r F).flt;have J:=sE M;obtain⟨b,rfl,D⟩:=mz j;rcases J.look ns with⟨p,z⟩ | ⟨U,v,p,z,N⟩;{rw[p]at n;cases n};{rw[p]at n;cases n;refine%[a,v,rfl,?_,u,d,S2,w,l.trans m,f|N];have:=lZ.t B D;rw[z]at this;exact this}
def KR.isSome(h:KR K O H kvs ds)(ns:ae0):(gW kvs (eG ns)).isSome=(aC ds ns).isSome:=by rcases h.look ns with⟨a,b⟩ | ⟨d,v,a,b,_⟩<;>rw[a,b]<;>rfl
def Wu{kvs:Kd}{W}(q:%[|36])(i:S[k]? =some (kvs.map encK))(w:W (aC kvs ns).isSome S):cA X .In (.tup (ns.map .int)) (.dlo k) S (asB W):=by intro c s y H O v x u t I d m n o p;obtain⟨b,rfl,h⟩:=mz m;obtain⟨a,rfl,g,_⟩:=dM n;cases p;obtain⟨j,f,l⟩:=(d.dob k a _ g i).flt;refine ac2 %[|0] I (lZ.t f h) o λ r e=>%[.bl _,H,e,rfl|Hc %[_,rfl|?_] d (.bl _)];rw[(sE l).isSome];exact w
def Uy{kvs:Kd}{W}(q:%[|36])(i:S[k]? =some (kvs.map encK))(w:W (!(aC kvs ns).isSome) S):cA X .NotIn (.tup (ns.map .int)) (.dlo k) S (asB W):=by intro c s y H O v x u t I d m n o p;obtain⟨b,rfl,h⟩:=mz m;obtain⟨a,rfl,g,_⟩:=dM n;cases p;obtain⟨j,f,l⟩:=(d.dob k a _ g i).flt;refine Zt %[|0] I (lZ.t f h) o λ r e=>%[.bl _,H,e,rfl|Hc %[_,rfl|?_] d (.bl _)];rw[(sE l).isSome];exact w
def abt{W}(P:X.A.units+1<cLine)(hs:swapsWith e (some (.Subscript o i l)) pos.line X.env=pure false)
 (h:Ev X Γ S e λ d S1=>Ev X Γ S1 o λ x S2=>Ev X Γ S2 i λ y S3=>∃k ns kvs,x=.dlo k/\y=.tup (List.map .int ns)/\S3[k]? =some (List.map encK kvs)/\kvs.length<1000000/\W.nx Γ (S3.set k ((putD kvs ns d).map encK))):Rn X Γ S (.Assign [.Subscript o i l] e pos) W:=by
 intro n s V H O I c U;refine W9 P (Up o) (Up i) h.pe hs n s V H _ I %[O,c,U|λ v Y q=>?_];obtain⟨D,d,S1,G,f,A,p⟩:=q;refine%[D,Γ,S1,_,c.mono f,A,G|λ x Z q=>?_];obtain⟨E,dx,S2,J,g,B,r⟩:=q;refine%[E,Γ,S2,_,(c.mono f).mono g,B,J|λ y H3 q=>?_];obtain⟨F,dy,S3,⟨k,ns,kvs,rfl,rfl,M,hz,w⟩,j,m,t⟩:=q;have T:=r.mono j;obtain⟨a,rfl,u,_⟩:=dM T;obtain⟨z,K,Q⟩:=(m.dob k a _ u M).flt;have C:=sE Q;obtain⟨b,rfl,L⟩:=mz t;have N:z.length<sizeLine:=by rw[C.length,ib];omega
 have R:=(p.mono g).mono j;refine%[a,_,rfl,Fw.t K L N,F,Γ,_,w,((f.trans g).trans j).trans (Step.put (bU u) _),m.putD u (C.put ns R).kps|(((c.mono f).mono g).mono j).mono (Step.put (bU u) _)]
end
section
variable{Ω:Wd}
def adX:Ex Ω where
 lev:=0
 chk b N f e:=match e with | .Dict [] [] _=>true | _=>false
 wp i S W:=W %[|22] (S++[[]])
 sound:=by
  intro X r b N f e i S W A j a c
  cases e with
  | Dict d h g=>
    match d,h,a with
    | [],[],_=>exact YB c
    | [],_::_,a=>exact fE a
    | _::_,_,a=>exact fE a
  | _=>exact fE a
def CN(y:D)(S:Store)(k:Nat)(W:Kd->%[|8]->Prop):Prop:=∃b a,y=.tup (List.map .int b)/\S[k]? =some (List.map encK a)/\W a b
def aek(o a:Ex Ω):Ex Ω where
 lev:=max o.lev a.lev
 chk c N g e:=match e with | .Subscript l r _=>okE r&&(o.chk c N g l&&a.chk c N g r) | _=>false
 wp i S W:=o.wp i S λ x j=>onD x λ k=>a.wp i j λ y f=>CN y f k λ b h=>∃d,aC b h=some d/\W d f
 sound:=by
  intro X r c N g e i S W A t m u;obtain⟨v,z⟩:=lv2 t
  cases e with
  | Subscript l C B=>refine an3 m λ n p s=>?_;refine aag (by have:=A.hu;omega) (nP n) ((o.sound A v p u).mono λ x j q=>?_);refine fB q λ k q=>?_;exact%[k,rfl|(a.sound A z s q).mono λ y f ⟨h,b,e1,e2,d,e3,w⟩=>%[h,b,d,e1,e2,e3|w]]
  | _=>exact fE m
def adY(o i a:Ex Ω):Sm Ω where
 lev:=max a.lev (max o.lev i.lev)
 chk c N g u:=ixB u λ x y e=>noC e&&(okE y&&(a.chk c N g e&&(o.chk c N g x&&i.chk c N g y)))
 wp f S W:=a.wp f S λ d n=>o.wp f n λ x s=>i.wp f s λ y h=>onD x λ k=>CN y h k λ b m=>b.length<1000000/\W.nx f (h.set k ((putD b m d).map encK))
 sound:=by intro X r c N g u f S W A G j H;obtain⟨I,l⟩:=lv2 G;obtain⟨l,J⟩:=lv2 l;refine sZ j λ x y p e t j=>?_;refine an5 j λ C K D E F=>?_;refine abt (by have:=A.hu;omega) ?_ ((a.sound A I D H).mono λ d n q=>(o.sound A l E q).mono λ x s q=>(i.sound A J F q).mono λ y h q=>?_);{exact iD C _ _ _};{refine fB q λ k q=>?_;obtain⟨m,b,v,z,B,w⟩:=q;exact%[k,m,b,rfl,v,z,B|w]}
def Te.din(no:Bool)(a o:Ex Ω):Te Ω where
 lev:=max a.lev o.lev
 chk c N g e:=cm1 e λ l p r=>(p==(if no then CmpOp.NotIn else CmpOp.In))&&(okE r&&(a.chk c N g l&&o.chk c N g r))
 wp i S W:=a.wp i S λ y j=>o.wp i j λ x d=>onD x λ k=>CN y d k λ b h=>W (if no then !(aC b h).isSome else(aC b h).isSome) d
 sound:=by
  intro X r c N g e i S W A z v B;obtain⟨C,D⟩:=lv2 z;refine sH v λ l F G E f=>?_;refine an4 f λ s n t u=>?_;have e:=ZU s;subst e;refine Rz ((a.sound A C t B).mono λ y j q=>(o.sound A D u q).mono λ x d q=>?_) (iB n);refine fB q λ k q=>?_;obtain⟨h,b,rfl,m,w⟩:=q
  cases no with
  | false=>exact Wu A.hu m w
  | true=>exact Uy A.hu m w
end
end RF
namespace RF
open PySem PySem.Spec L2 DL
open PyProof.Rows
section
variable{Ω:Wd}
def At.isLocal(A:%[|23])(h:(nm.lookup x==some .local)=true):%[|52]:=by have e:nm.lookup x=some .local:=ZU h;rcases A.look x _ e with q | ⟨q,_⟩;{exact q};{exact nomatch q}
def Yv{E D}(z:env.scope.kind=.function)(B:env.scope.names.lookup x=some .local)(C:env.scope.names.lookup y=some .local)(A:(m.line==i.line)=true)(g:(x==y)=false)(v:okE b=true)(t:okE a=true)(hz:foldedForSure 8 a=false)(k:constantsAlone 8 a=false):
 swappedStores [.Tuple [.Name x i,.Name y m] E G] (.Tuple [a,b] D F) env=pure (some [x,y]):=by
 have n:env.blockKind=.function:=by unfold Env.blockKind;rw[z];rfl
 have o:env.kindOf x=some .local:=B;have p:env.kindOf y=some .local:=C;have q:∀f:Expr->Bool,(∀c,okE c=true->f c=false)->List.any [a,b] f=false:=λ f h=>by simp[h a t,h b v]
 have r:([Expr.Name x i,Expr.Name y m].filterMap fun
  | .Name id pos=>if env.kindOf id==some .local&&pos.line==i.line then some id else none
  | _=>none)=[x,y]:=by simp only[i9,List.filterMap_nil,o,p,A,f7,Bool.and_self,gX]
 have j:(y==x)=false:=by cases h:(y==x)with | false=>rfl | true=>rw[ZU h]at g;rw[f7]at g;cases g
 have s:([x,y].eraseDups).length=2:=by simp[List.eraseDups_cons,j,g]
 unfold swappedStores;show(if(!(true||_)||_||(env.blockKind !=.function))=true then _ else _)=_;rw[n];show(if(List.any [a,b] _)=true then _ else _)=_;refine(bP (λ h=>y6 ((q _ λ c w=>by cases c<;>first | rfl | exact ff w).symm.trans h))).trans ?_;have e:∀l:List Str,l=[x,y]->∀c d:Bool,c=false->d=false->∀(u:Sem PUnit),(if((l.length !=2)||(l.eraseDups.length !=l.length))=true then(pure none:Sem (Option (List Str)))else if c=true then pure none else if d=true then(u>>=λ _=>pure (some l))else pure (some l))=pure (some [x,y]):=by rintro l rfl c d rfl rfl u;rw[s];rfl
 exact e _ r _ _ (by show((foldedForSure 8 a)&&_)=false;rw[hz];rfl) (by show((constantsAlone 8 a)&&_)=false;rw[k];rfl) _
def UW(e:Expr)(k:List Expr->Bool):Bool:=anB (tupP e) λ z=>k z.1.1
@[elab_as_elim] theorem Gb{a:Expr->Prop}(h:UW e k=true)(g:∀es n p,k es=true->a (.Tuple es n p)):a e:=by obtain⟨z,_,h⟩:=bz h;rw[z.2];exact g _ _ _ h
def nmB(e:Expr)(k:Str->Pos->Bool):Bool:=anB (nameP e) λ z=>k z.1.1 z.1.2
@[elab_as_elim] theorem Le{a:Expr->Prop}(h:nmB e k=true)(g:∀x p,k x p=true->a (.Name x p)):a e:=by obtain⟨z,_,h⟩:=bz h;rw[z.2];exact g _ _ h
def aby(st:Stmt)(k:Expr->Expr->Bool):Bool:=anB (Mf st) λ z=>cM z.1.1 λ t=>k t z.1.2.1
@[elab_as_elim] theorem Ux{a:Stmt->Prop}{st}(h:aby st k=true)(g:∀t e p,k t e=true->a (.Assign [t] e p)):a st:=by obtain⟨z,_,h⟩:=bz h;obtain⟨t,e,h⟩:=fG h;rw[z.2,e];exact g _ _ _ h
def Sm.par(i j:Nat)(as:Ar Ω):Sm Ω where
 lev:=as.lev
 chk u N v T:=aby T λ l r=>UW l λ xs=>two2 xs λ x y=>nmB x λ x p=>nmB y λ y q=>UW r λ es=>two2 es λ a b=>(N[i]? ==some x)&&((N[j]? ==some y)&&((v.lookup x==some .local)&&((v.lookup y==some .local)&&((q.line==p.line)&&(!(x==y)&&(okE b&&(okE a&&(!(foldedForSure 8 a)&&(!(constantsAlone 8 a)&&as.chk u N v [a,b])))))))))
 wp G S W:=as.wp G S λ J z=>match J with | [d1,d2]=>W.nx ((G.set i (some d1)).set j (some d2)) z | _=>False
 sound:=by
  intro X r u N v T G S W A hl d hw;refine Ux d λ l r' R d=>?_;refine Gb (e:=l) d λ xs kt pt d=>?_;refine two2_ind (l:=xs) d λ x y d=>?_;refine Le (e:=x) d λ x p d=>?_;refine Le (e:=y) d λ y q d=>?_;refine Gb (e:=r') d λ es k t d=>?_;refine two2_ind (l:=es) d λ a b d=>?_;refine an5 d λ V Y K L d=>?_;refine an6 d λ Z M h7 B h9 d=>?_;refine an2 d λ C h8=>?_;have Q:∀{c:Bool},(!c)=true->c=false:=λ{c} h=>by cases c<;>first | rfl | exact ff h
  have f:(x==y)=false:=by cases h:(x==y)with | false=>rfl | true=>rw[h]at M;exact ff M
  have P:X.N[i]? =some x:=by rw[A.n];exact ZU V
  have E:X.N[j]? =some y:=by rw[A.n];exact ZU Y
  have D:i≠j:=λ e=>by subst e;rw[P]at E;cases E;rw[f7]at f;cases f
  intro m s σ H O I g ok;refine aaW A.calm (by rw[A.n];exact A.nd) P E D (A.isLocal K) (A.isLocal L) ((as.sound A hl h8 hw).pa) (Yv A.kind (A.isLocal K) (A.isLocal L) Z f h7 B (Q h9) (Q C)) rfl m s σ H _ I %[O,g,ok|λ vs H1 qa=>?_];obtain⟨U,J,z,w,o,F,n⟩:=qa;split at w;{cases n with| cons r1 t=>cases t with| cons r2 t=>cases t;exact%[_,_,rfl,U,_,z,w,o,F|((g.mono o).set r1 i).set r2 j]};{exact w.elim}
end
abbrev Kc:=List (%[|15]×D)
def encC(kv:%[|15]×D):D:=.tup [cD kv.1,kv.2]
def aba(h:cD c=cD d):c=d:=by unfold cD at h;have h:=D.tup.inj h;have a:=D.int.inj (gv h).1;have b:=D.tup.inj (gv (gv h).2).1;exact ll a (lR b)
def Fx(x:cB h v c)(y:cB h v d):c=d:=by obtain⟨b,o,k,s,u,rfl,p,z,n,q⟩:=x;obtain⟨w,r,A,j,t,e,g,m,f,i⟩:=y;cases e;obtain rfl:o=r:=cc (p.symm.trans g);have a:=n.symm.trans f;injection a with a _;have l:[Value.int c.1 s,u]=[Value.int d.1 j,t]:=ei Array.toList a;injection l with e3 e4;injection e3 with e3 _;injection e4 with e4 _;subst e4;exact ll e3 (EY q i)
def Og{es ep}(x:cB h v c)(z:h.get? d=some o)(y:o.data=.dict es ep)(hs:Heap.SameBut d h h'):cB h' v c:=by
 obtain⟨b,a,n,C,u,m,p,q,f,l,B,e,A,r,s,t,g,w⟩:=x;have k:∀(b:Addr)(a:Obj)(e:af0)(n:Nat),h.get? b=some a->a.data=.seq e n->h'.get? b=some a:=λ b a e n i j=>by refine(hs.2 b ?_).trans i;rintro rfl;obtain rfl:a=o:=cc (i.symm.trans z);rw[y]at j;exact nomatch j
 exact%[b,a,n,C,u,m,k _ _ _ _ p f,q,f,l,B,e,A,r,k _ _ _ _ s g,t,g|w]
def cI(prog:af4)(w:World):HeapKind prog w %[|15] where
 is h c a:=cB h (.ref a) c
 hash:=hC0
 draws c:=c.2.length+3
 room A:=A.units+5<cLine
 inj d e:=Fx d e
 keeps x ho hd hs:=Og x ho hd hs
 pyHash f hk h:=Ad f hk h
 eqBool:=λ{A E s x y a b Q} f d e h=>Do %[|0] d e prog w E Q h
 quiet hk h:=pW (n:=6) hk h
section
variable{K:PySem.W.Frag}{O:Own}{H:Hp}
def _root_.DL.Kcs.inv{kcs:Kc}(r:Kcs K O H ys ((kv::kcs).map encC)):∃b u v ys',ys=(kv.1,b,u)::ys'/\Rep K O H (.ref b) (cD kv.1)/\RelV v u/\Rep K O H v kv.2/\Kcs K O H ys' (kcs.map encC):=by have r:Kcs K O H ys (.tup [cD kv.1,kv.2]::kcs.map encC):=r;generalize hx:cD kv.1=x at r;cases r with| @cons c b u v _ _ ys' _ e f g a t=>subst hx;have e:=aba (d:=c) e;subst e;exact%[b,u,v,ys',rfl,f,g,a|t]
def _root_.DL.Kcs.length{kcs:Kc}(r:Kcs K O H ys (kcs.map encC)):ys.length=kcs.length:=by
 induction kcs generalizing ys with
 | nil=>cases r;rfl
 | cons d kcs a=>obtain⟨b,u,v,c,rfl,_,_,_,t⟩:=r.inv;rw[dS,dS,a t]
def _root_.DL.Kcs.look{kcs:Kc}(r:Kcs K O H ys (kcs.map encC))(c:af8):(aC kcs c=none/\atKey ys c=none)\/∃d b u v,aC kcs c=some d/\atKey ys c=some (b,u)/\RelV v u/\Rep K O H v d:=by
 induction kcs generalizing ys with
 | nil=>cases r;exact .inl %[rfl|rfl]
 | cons kv kcs h=>
   obtain⟨b,u,v,a,rfl,k,j,i,t⟩:=r.inv;by_cases e:kv.1=c;{exact .inr %[kv.2,b,u,v,by simp[aC,e],by simp[atKey,e],j|i]}
   . have f:aC (kv::kcs) c=aC kcs c:=by simp[aC,eM,e]
     have g:atKey ((kv.1,b,u)::a) c=atKey a c:=by simp[atKey,eM,e]
     rw[f,g];exact h t
def vD{b}[DecidableEq b](kcs:List (b×D))(c:b):(kcs.any %[|39])=(aC kcs c).isSome:=by
 induction kcs with
 | nil=>rfl
 | cons a l d=>unfold aC at d ⊢;rw[ii,eM,d];cases decide (a.1=c)<;>rfl
def _root_.DL.Kcs.put{kcs:Kc}(r:Kcs K O H ys (kcs.map encC))(q:Rep K O H (.ref b) (cD c))(p:RelV v u)(o:Rep K O H v d):Kcs K O H (storedH ys c b u) ((putD kcs c d).map encC):=by
 have e:(kcs.any %[|39])=(atKey ys c).isSome:=by rw[vD];rcases r.look c with⟨h,n⟩ | ⟨d,b,u,v,h,n,_⟩<;>rw[h,n]<;>rfl
 unfold putD storedH;rw[e];split
 . rename_i l;clear e l
   induction kcs generalizing ys with
   | nil=>cases r;exact .nil
   | cons kv kcs j=>
     obtain⟨i,k,s,m,rfl,a,g,f,t⟩:=r.inv;rw[cn,cn,cn];by_cases e:kv.1=c
     . have h:putAt c u (kv.1,i,k)=(kv.1,i,u):=by unfold putAt;rw[ca e]
       rw[h,ca e];exact .cons rfl a p o (j t)
     . have h:putAt c u (kv.1,i,k)=(kv.1,i,k):=by unfold putAt;rw[bP e]
       rw[h,bP e];exact .cons rfl a g f (j t)
 . rename_i l;clear e l
   induction kcs generalizing ys with
   | nil=>cases r;exact .cons rfl q p o .nil
   | cons kv kcs j=>obtain⟨i,k,s,m,rfl,a,g,f,t⟩:=r.inv;exact .cons rfl a g f (j t)
def Zq{pins:Pins}{σ:DL.St}(I:%[|3]){kcs:Kc}(r:Kcs X.K O H ys (kcs.map encC)):∀x∈ys,cB s.heap (.ref x.2.1) x.1:=by
 induction kcs generalizing ys with
 | nil=>cases r;intro x a;cases a
 | cons f kcs c=>obtain⟨b,u,v,e,rfl,d,h,g,t⟩:=r.inv;intro x a;rcases cr.mp a with rfl | a;{exact gK I d rfl};{exact c t x a}
def jH(r:Rep K O H v (.tup ds)):∃b,v=.ref b:=by cases r;exact%[_|rfl]
def Ng(ys:Cy)(c:af8)(b:Addr)(u:Value):(storedH ys c b u).length<=ys.length+1:=by unfold storedH;split<;>simp
end
def qT(hi:Int)(n:Nat):List D:=%[|18].map λ(k:Nat)=>D.int (hi-(k:Int))
section
variable{prog:Program}{w:World}{A:Around}{E:%[|25]}{s:Shared}
def Hj(a b:Int):Builtin.Range.rangeSize a b (-1)=((a-b).toNat:Nat):=by unfold Builtin.Range.rangeSize;rw[bP %[|1],show(-(-1:Int))=1 from rfl,Int.ediv_one];split<;>omega
def Qc(e: -(2 ^ 62)<=a)(c:a<2 ^ 62)(f: -(2 ^ 62)<=b)(d:b<2 ^ 62):Builtin.Range.small a b (-1)=true:=by unfold Builtin.Range.small;rw[Hj];simp only[Builtin.Range.rangeFitsLong,eL,i6,gE,pd,show ¬((-1:Int)>0) by decide,ef];omega
end
theorem gw:∀{vs:ae5}{ns:ae0},IntsAre vs ns->Vals (ns.map V.int) vs
 | _,_,.nil=>.nil
 | _,_,.cons n t r=>.cons %[t|rfl] (gw r)
section
variable{X:Cx}
def ab0{pins:Pins}{σ:DL.St}(U:%[|36])(I:%[|3])(R:Sn X.K H v x)(S:Sn X.K H C (.lst ds))(P:RelV v u)(Q:RelV C B)(L:aR ds<=50):
 ∃(l:Addr) (its:ae5) (e:Value->Bool),B=.ref l/\PlainL s.heap l its.toArray/\its.length=ds.length/\its.length<=sizeLine/\(∀y,y∈its.toArray->SeqAt.EqAt X.A.in1 s y u (e y))/\∀(i:Nat)(y:Value)(d:D),its[i]? =some y->%[|28]->e y=eqD d x:=by
 classical
 cases S with
 | @lst a Y _ K A=>
   cases Q;obtain⟨its,z,O,N⟩:=I.list K;let e:Value->Bool:=λ y=>decide (∃(b:V) (d:D),RelV b y/\Sn X.K H b d/\eqD d x=true);have E:∀(y:Value)(b:V)(d:D),RelV b y->Sn X.K H b d->e y=eqD d x:=by
    intro y b d k m
    cases f:eqD d x with
    | true=>exact cb %[b,d,k,m|f]
    | false=>refine cE ?_;rintro⟨W,T,q,r,j⟩;have p:=q.inj k;subst p;have:=pU I r m;subst this;rw[f]at j;cases j
   have g:∀(i:Nat)(y:Value)(d:D),its[i]? =some y->%[|28]->e y=eqD d x/\SeqAt.EqAt X.A.in1 s y u (eqD d x):=by intro i y d o f;obtain⟨b,t,m⟩:=A.get f;obtain⟨Z,n,k⟩:=nq z t;rw[o]at n;cases n;exact%[E y b d k m|Nh 50 d x (cK (nF f) L) I m R k P (by show X.A.units+1+50<cLine;omega)]
   have c:its.length=ds.length:=by rw[<-z.length,A.length]
   refine%[a,its,e,rfl,O,c,by rw[<-z.length];exact N,λ y M=>?_|λ i y d h J=>(g i y d h J).1];have w:y∈its:=by simpa using M
   obtain⟨i,o⟩:=cw w;obtain⟨d,f⟩:∃d,%[|28]:=%[_|y3 (by rw[<-c];exact(z0.mp o).1)];obtain⟨F,G⟩:=g i y d o f;rw[F];exact G
def Z4(X:Cx):V->List V->Hp->VK->Prop:=λ x b H Q=>∃(w:V) (d:D) (a:List D) (j:Nat) (y:D),b=[w]/\Sn X.K H x (.lst a)/\Sn X.K H w d/\aR a<=50/\a[j]? =some y/\eqD y d=true/\(∀(m:Nat)(z:D),m<j->a[m]? =some z->eqD z d=false)/\Q (.int j) H
def Ur(L:%[|36]):MtM X "list.index" (Z4 X):=by
 intro C s Z H x Y v W Q I R P h;obtain⟨w,d,E,j,y,rfl,U,S,F,t,M,K,q⟩:=h;obtain⟨u,rfl,O⟩:=P.one;obtain⟨l,a,e,rfl,N,c,k,G,b⟩:=ab0 L I S U O R F;obtain⟨⟨D,V,o,T⟩,n,A,p,r,B⟩:=N;simp only at p r B;subst p r B;have f:j<a.length:=by rw[c];exact(z0.mp t).1
 refine ky PySem.F.slot_list_index %[_,A|rfl] PySem.F.entry_list_index (PySem.F.args_list_index_2 _ _)
  (SeqAt.list_indexAt l a.toArray n _ T u e j (by simpa using f) (by have:sizeLine<2 ^ 63-1:=%[|1];omega) ?_ ?_) %[A,G|%[.int j,H,I.tok _,%[_|rfl]|q]];{rw[b j _ y (by simp) t];exact M}
 . intro m J g;have i:m<a.length:=by simpa using J
   obtain⟨z,k⟩:∃z,E[m]? =some z:=%[_|y3 %[|0]];rw[b m _ z (by simp[i]) k];exact K m z g k
end
abbrev Ko:=List (Option Int×D)
def cL(kv:Option Int×D):D:=.tup [oD kv.1,kv.2]
def aaR(h:oD a=oD b):a=b:=by cases a<;>cases b;{rfl};{exact nomatch h};{exact nomatch h};{exact ei some (D.int.inj h)}
def eX(h:isO k v=true):(∃i t,k=some i/\v=.int i t)\/(k=none/\v=.none):=by unfold isO at h;split at h;{exact .inl %[_,_,by rw[ck h]|rfl]};{exact .inr %[rfl|rfl]};{exact nomatch h}
section
variable{prog:Program}{w:World}{A:Around}{E:%[|25]}{s:Shared}
def Qs(h:Q 4238894112 {s with toks:=s.toks+1}):wpAny %[|6] A (pyHash .none) Q E s:=by
 have a:∀x:String,¬(some (Value.builtin x)==some Value.none)=true:=λ x=>by rw[beq_builtin_none];exact y6
 show wpAny _ _ (pyHashByItsType .none) Q E s;unfold pyHashByItsType;refine b0 ?_;rw[cRoomFor,bP %[|1]];refine b9 (b0 (gT (typeIs_none s) lp.lookup ?_));dsimp only;rw[bP (a _)];refine b0 (gT (typeIs_none s) lp.lookup ?_);refine(show wpAny _ _ (callSpecialIfBoundUnlessNone? .none "__hash__" _>>=_) Q E s from b0 (wpAny_callSpecialIfBoundUnlessNone?_slot (typeIs_none s) lp ?_));refine dA lp (typeIs_none s) F.entry_NoneType_hash ?_ (F.args_NoneType_hash_1 _);refine(show wpAny _ _ (do ret (<-mkInt 4238894112)) _ _ s from wpAny_ret_mkInt ?_);show wpAny _ _ (if(decide (-(2:Int) ^ 63<=4238894112)&&decide ((4238894112:Int)<2 ^ 63))=true then _ else _) Q E _;rw[ca %[|1]];exact b9 h
end
def fD(prog:af4)(w:World):PySem.KeyKind prog w (Option Int) where
 is:=isO
 hash:=hO0
 inj v a b ha hb:=by rcases eX ha with⟨i,t,rfl,rfl⟩ | ⟨rfl,rfl⟩<;>rcases eX hb with⟨j,u,rfl,e⟩ | ⟨rfl,e⟩;{injection e with e;rw[e]};{exact nomatch e};{exact nomatch e};{rfl}
 byValue k v h:=by rcases eX h with⟨i,t,rfl,rfl⟩ | ⟨rfl,rfl⟩<;>rfl
 pyHash hv h:=by rcases eX hv with⟨i,t,rfl,rfl⟩ | ⟨rfl,rfl⟩;{exact wpAny_pyHash_int h};{exact Qs h}
 eqBool hu hv h:=by
  rcases eX hu with⟨i,t,rfl,rfl⟩ | ⟨rfl,rfl⟩<;>rcases eX hv with⟨j,u,rfl,rfl⟩ | ⟨rfl,rfl⟩
  . refine nk ?_;have e:decide (some i=some j)=(i==j):=by by_cases q:i=j<;>simp[q]
    rw[e]at h;exact h
  {exact SeqAt.EqAt.int_none i t _ _ _ _ h};{exact SeqAt.EqAt.none_int j u _ _ _ _ h};{exact mh _ _ _ _ _ h}
 «strs» k x t v h:=by rcases eX h with⟨i,u,_,e⟩ | ⟨_,e⟩<;>exact nomatch e
def Qd(h:OEs es ys):Pairs (fD P w) es ys/\∀e∈es,∃k,(fD P w).is k e.key=true/\e.hash=(fD P w).hash k:=by
 induction h with
 | nil=>exact%[.nil|λ e h=>nomatch h]
 | cons i h q t ih=>refine%[.cons i q ih.1|λ e a=>?_];rcases cr.mp a with rfl | a;{exact%[_,i|h]};{exact ih.2 e a}
def aaA{ys:Oy}(p:Pairs (fD P w) es ys):(∀e∈es,∃k,(fD P w).is k e.key=true/\e.hash=(fD P w).hash k)->OEs es ys:=by
 induction p with
 | nil=>exact λ _=>.nil
 | cons i q t f=>intro h;obtain⟨k,b,c⟩:=h _ x6;have a:=(fD P w).inj _ _ _ b i;subst a;exact .cons i c q (f λ e d=>h e (x4 _ d))
section
variable{K:PySem.W.Frag}{O:Own}{H:Hp}
def _root_.DL.Kos.inv{a:Ko}(r:Kos K O H ys ((kv::a).map cL)):∃u v ys',ys=(kv.1,u)::ys'/\RelV v u/\Rep K O H v kv.2/\Kos K O H ys' (a.map cL):=by have r:Kos K O H ys (.tup [oD kv.1,kv.2]::a.map cL):=r;generalize hx:oD kv.1=x at r;cases r with| @cons c u v _ _ ys' _ e d b t=>rw[<-hx]at e;have e:=aaR e;rw[e];exact%[u,v,ys',rfl,d,b|t]
def _root_.DL.Kos.length{a:Ko}(r:Kos K O H ys (a.map cL)):ys.length=a.length:=by
 induction a generalizing ys with
 | nil=>cases r;rfl
 | cons d a b=>obtain⟨u,v,c,rfl,_,_,t⟩:=r.inv;rw[dS,dS,b t]
def _root_.DL.Kos.any{a:Ko}(r:Kos K O H ys (a.map cL))(c:af5):(ys.any %[|39])=a.any %[|39]:=by
 induction a generalizing ys with
 | nil=>cases r;rfl
 | cons kv a b=>obtain⟨u,v,d,rfl,f,e,t⟩:=r.inv;rw[ii,ii,b t]
def _root_.DL.Kos.put{a:Ko}(r:Kos K O H ys (a.map cL))(k:RelV v u)(j:Rep K O H v d):Kos K O H (stored ys c u) ((putD a c d).map cL):=by
 unfold putD stored;rw[r.any c];split
 . rename_i h;clear h
   induction a generalizing ys with
   | nil=>cases r;exact .nil
   | cons kv a g=>obtain⟨l,m,i,rfl,f,b,t⟩:=r.inv;rw[cn,cn,cn];by_cases e:kv.1=c;{rw[ca e,ca e];exact .cons rfl k j (g t)};{rw[bP e,bP e];exact .cons rfl f b (g t)}
 . rename_i h;clear h
   induction a generalizing ys with
   | nil=>cases r;exact .cons rfl k j .nil
   | cons kv a g=>obtain⟨l,m,i,rfl,f,b,t⟩:=r.inv;exact .cons rfl f b (g t)
def Qw{ys:Oy}:stored ys c u≠[]:=by
 unfold stored;split
 . rename_i h
   cases ys with
   | nil=>cases h
   | cons y ys=>exact λ z=>nomatch z
 {exact λ z=>by have:=ei List.length z;simp at this}
def G5{pins:Pins}{σ:DL.St}(I:%[|3]){d:Ko}(b:DOb X.K O H a (d.map cL)):
 (a==sysModules)=false/\Mut (H a)/\∃ys,Kos X.K O H ys (d.map cL)/\s.heap.DictOf (fD X.prog X.w) a ys/\ys.length<=sizeLine:=by
 cases b with
 | t j e r=>
   have C:d=[]/\j=[]:=by
    cases d with
    | nil=>cases r;exact%[rfl|rfl]
    | cons kv d=>have r:Kps X.K O H j (.tup [oD kv.1,kv.2]::d.map cL):=r;generalize hx:oD kv.1=x at r;cases r with| cons r t=>rcases kv with⟨_ | _,_⟩<;>exact nomatch hx
   obtain⟨rfl,rfl⟩:=C;obtain⟨z,f,N,D,o,u,v,y,A,B,h,J⟩:=(show aW X.prog X.w H s.heap a (.dT [])from I.hok a _ e);cases D;have h:u.toList=[]:=h;have i:u=#[]:=Array.toList_eq_nil_iff.mp h;subst i;exact%[f,by rw[e];trivial,[],.nil,%[o,#[],v,y,A,B,(λ e i=>by simp at i),.nil|iA]|dr _]
 | c ys n e r=>
   cases d with
   | nil=>cases r;exact absurd rfl n
   | cons kv d=>have r:Kcs X.K O H ys (.tup [oD kv.1,kv.2]::d.map cL):=r;generalize hx:oD kv.1=x at r;cases r with| cons E L M r t=>rw[<-hx]at E;rcases kv with⟨_ | _,_⟩<;>exact nomatch E
 | o ys n e r=>obtain⟨⟨F,f,C,o,u,v,y,A,B,h⟩,_,_⟩:=(show aW X.prog X.w H s.heap a (.ext (mj a ys))from I.hok a _ e);have pk:=Qd (P:=X.prog) (w:=X.w) h;exact%[f,by rw[e];trivial,ys,r,%[o,u,v,y,A,B,λ e i=>pk.2 e (by simpa using i),pk.1|C]|F]
 | m ys G f e r=>
   cases d with
   | nil=>cases f
   | cons kv d=>cases f
 | p K n b l c z q k e f g=>
   cases d with
   | nil=>cases f
   | cons kv d=>cases f
def Zk(d:h.DictOf (fD P w) a ys)(hz:ys.length<=sizeLine)(m:(a==sysModules)=false):mj a ys h:=by obtain⟨o,c,b,f,g,i,j,k,l⟩:=d;exact%[hz,m,l,o,c,b,f,g,i|aaA k λ e n=>j e (by simpa using n)]
def aa0(d:mj a ys h):aW P w H h a (.ext (mj a ys)):=by refine%[d,?_|λ f g q k=>?_];{obtain⟨_,_,_,o,_,_,e,_⟩:=d;exact%[o|e]};{obtain⟨z,y,n,o,c,b,e,r⟩:=q;exact%[z,y,n,o,c,b,k o e|r]}
def La(r:Rep K O H v (oD c))(a:RelV v u):isO c u=true:=by
 cases c with
 | none=>cases r;cases a;rfl
 | some i=>cases r;obtain⟨t,rfl⟩:=a;simp[isO]
end
section
variable{X:Cx}{Γ:Gam}{S:Store}{W:WD}{pos:Pos}
def abh{W}(hs:swapsWith e (some (.Subscript o i n)) pos.line X.env=pure false)
 (h:Ev X Γ S e λ d S1=>Ev X Γ S1 o λ x S2=>Ev X Γ S2 i λ y S3=>∃k c kvs,x=.dlo k/\y=oD c/\S3[k]? =some (List.map cL kvs)/\kvs.length<1000000/\W.nx Γ (S3.set k ((putD kvs c d).map cL))):Rn X Γ S (.Assign [.Subscript o i n] e pos) W:=by intro f s C H O I g st;refine n3 (thn (h f s C H O I g st) λ r s1 b=>?_) hs;obtain⟨v,Q,T,rv,q⟩:=b;obtain⟨V,d,S1,h1,j,G,t⟩:=q;refine thn (h1 f s1 C Q V T (g.mono j) G) λ u s2 b=>?_;obtain⟨x,R,U,rx,q⟩:=b;obtain⟨Y,dx,S2,h2,l,J,z⟩:=q;refine thn (h2 f s2 C R Y U ((g.mono j).mono l) J) λ iv s3 b=>?_;obtain⟨y,H3,M,ry,q⟩:=b;obtain⟨O3,dy,S3,⟨k,c,kvs,rfl,rfl,hk,hz,w⟩,m,p,A⟩:=q;have K:=z.mono m;obtain⟨a,rfl,E,_⟩:=dM K;obtain rfl:u=Value.ref a:=rx;obtain⟨hd,mu,B,P,Z,hz'⟩:=G5 M (p.dob k a _ E hk);have rd:=(t.mono l).mono m;have hl:=stored_length_le B c r;have aa:=P.length;refine wpAny_setItem_pairs (hsz:=hz') (La A ry) Z λ h' D F=>?_;have N:mj a (stored B c r) h':=Zk D (by rw[ib];omega) hd;obtain⟨_,_,_,q,_,_,hq,_⟩:=id N;have L:=Step.put (O:=O3) (H:=H3) (bU E) (.ext (mj a (stored B c r)));refine%[C,upd H3 a (.ext (mj a (stored B c r))),jJ M mu F %[q|hq] (aa0 N),O3,Γ,_,w,((j.trans l).trans m).trans L,p.putO E (.o _ Qw aQ ((P.put rv rd).conv L.conv))|(((g.mono j).mono l).mono m).mono L]
end
section
variable{Ω:Wd}
def Wo(y:D)(S:Store)(k:Nat)(W:Ko->Option Int->Prop):Prop:=∃c a,y=oD c/\S[k]? =some (List.map cL a)/\W a c
def aeg(o i a:Ex Ω):Sm Ω where
 lev:=max a.lev (max o.lev i.lev)
 chk f N h u:=ixB u λ x y e=>noC e&&(okE y&&(a.chk f N h e&&(o.chk f N h x&&i.chk f N h y)))
 wp g S W:=a.wp g S λ d n=>o.wp g n λ x s=>i.wp g s λ y j=>onD x λ k=>Wo y j k λ b c=>b.length<1000000/\W.nx g (j.set k ((putD b c d).map cL))
 sound:=by intro X r f N h u g S W A G l H;obtain⟨I,m⟩:=lv2 G;obtain⟨m,J⟩:=lv2 m;refine sZ l λ x y p e t l=>?_;refine an5 l λ C L D E F=>?_;refine abh ?_ ((a.sound A I D H).mono λ d n q=>(o.sound A m E q).mono λ x s q=>(i.sound A J F q).mono λ y j q=>?_);{exact iD C _ _ _};{refine fB q λ k q=>?_;obtain⟨K,b,v,z,B,w⟩:=q;exact%[k,K,b,rfl,v,z,B|w]}
end
theorem zr:∀(l:ae5)(ns:ae0),l.length=ns.length->(∀(j:Nat)(v:Value),l[j]? =some v->∃(n:Int) (t:Tok),ns[j]? =some n/\v=Value.int n t)->IntsAre l ns
 | [],[],_,_=>.nil
 | [],_::_,h,_=>nomatch h
 | _::_,[],h,_=>nomatch h
 | v::l,n::ns,h,k=>by obtain⟨m,t,e,rfl⟩:=k 0 v rfl;cases e;exact .cons n t (zr l ns (ic h) λ j v e=>k (j+1) v e)
def upI(n:Nat):%[|8]:=%[|18].map λ(i:Nat)=>(0:Int)+(i:Int)
def acy(n:Nat):DL.upTo 0 n=(upI n).map D.int:=by unfold DL.upTo upI;rw[de];rfl
def zU(j:Int)(h:0<=j):Builtin.Range.rangeSize 0 j 1=(j.toNat:Nat):=by rw[rangeSize_one];split<;>omega
def M3(h:0<=j)(h':j<1000000):Builtin.Range.small 0 j 1=true:=by
 unfold Builtin.Range.small;rw[zU j h];by_cases a:j<=0
 . have:j=0:=%[|0]
   subst this;rfl
 {simp only[Builtin.Range.rangeFitsLong,eL,i6,gE,pd,a,ef,show((1:Int)>0)from %[|1],gX];omega}
section
variable{X:Cx}{Γ:Gam}{S:Store}{W:WD}{pos:Pos}
def Yo(A:X.calm=true)(h:Ev X Γ S a λ d S1=>∃j:Int,d=.int j/\0<=j/\j<1000000/\(W (.lst (DL.upTo 0 j.toNat)) S1\/W (.loc S1.length) (S1++[DL.upTo 0 j.toNat])))(hm:X.mg "range"=none)(C:X.mg "list"=none)(Z:Gl X "range")(B:Gl X "list")(hs:starEach [a] X.env=[(false,eval a X.env)])
 (l:starEach [.Call (.Name "range" p) [a] [] pos] X.env=[(false,eval (.Call (.Name "range" p) [a] [] pos) X.env)]):Ev X Γ S (.Call (.Name "list" p2) [.Call (.Name "range" p) [a] [] pos] [] f) W:=by
 intro c s N H O I y st;refine Call_ (cj I B C (show bootBuiltins "list"=some %[|16]from %[|9]) (dV ?_ l rfl));rw[show backTo f (starEach [.Call (.Name "range" p) [a] [] pos] X.env)=[(false,eval (.Call (.Name "range" p) [a] [] pos) X.env)]from by rw[l];rfl];refine eI ?_;have U:EvA X Γ S [a] λ J S1=>∃j:Int,J=[.int j]/\0<=j/\j<1000000/\(W (.lst (DL.upTo 0 j.toNat)) S1\/W (.loc S1.length) (S1++[DL.upTo 0 j.toNat])):=
  cH (h.mono λ d S1 ⟨j,e,u,z,w⟩=>gr %[j,by rw[e],u,z|w]) hs;refine Call_ (cj I Z hm boot_range (dV (thn (U pos c s N H O I y st) λ us n D=>?_) hs rfl));obtain⟨vs,G,P,r1,q1⟩:=D;obtain⟨R,J,S1,⟨j,rfl,u,z,w⟩,F,m,E⟩:=q1
 cases E with
 | cons ra rb=>
   cases rb;cases ra
   cases r1 with
   | cons r rr=>
     cases rr;obtain⟨t,rfl⟩:=r;refine call_range_1 (f8 ?_);have x:Inv X c N G {n with heap:=n.heap.push {cls:=.type "range",data:=.fields #[.int 0 n.toks,.int j t,.int 1 (n.toks+1)]},toks:=n.toks+1+1}:=P.kept λ b o e=>bE _ e;refine call_list_range (x.ok.hd A) (IsRange.new ..) (M3 u z) (zU j u) %[|0] λ h' tk g T kp k its=>?_;have L:=x.hok.fresh (y9 _);have Y:IntsAre g.toList (upI j.toNat):=zr _ _ (by have:=its.1;simp[upI];exact this) λ i v e=>by
      have K:g[i]? =some v:=by simpa using e
      obtain⟨t,rfl⟩:=its.2 i v K;have hi:i<j.toNat:=by rw[<-its.1];exact(m4.mp K).1
      exact%[_,t,by unfold upI;rw[y8,oy hi];rfl|by rw[Int.mul_one]]
     have zl:((upI j.toNat).map V.int).length<=sizeLine:=by simp[upI,ib];omega
     have Q:=x.laid (t':=tk) (o:=.lst ((upI j.toNat).map V.int)) (λ b ob q=>kp b ob q) (y9 _) %[zl,g.toList,T,gw Y|by simpa using k];have M:Reps X.K R G ((upI j.toNat).map V.int) (DL.upTo 0 j.toNat):=by rw[acy];exact adB _
     refine fc F %[.ref _,_,Q,rfl|?_];rcases w with w | w;{exact jb w m L M};{exact G9 w m L M}
end
section
variable{Ω:Wd}
def adP(hm:Ω.mg "range"=none)(hm2:Ω.mg "list"=none)(a:Ex Ω):Ex Ω where
 lev:=a.lev
 chk h N k e:=cO e λ z t=>(z==("list":Str))&&cM t λ s=>cO s λ y c=>(y==("range":Str))&&cM c λ b=>(glb k "list"&&(glb k "range"&&(okE b&&a.chk h N k b)))
 wp v S W:=a.wp v S λ d i=>onI d λ j=>(0<=j/\j<1000000)/\(W (.lst (DL.upTo 0 j.toNat)) i\/W (.loc i.length) (i++[DL.upTo 0 j.toNat]))
 sound:=by intro X r h N k e v S W A G m H;refine aX m λ z J t I f=>?_;refine an2 f λ B n=>?_;clear f;refine bK n λ s o=>?_;refine aX o λ y p c u g=>?_;refine an2 g λ C m=>?_;clear g;refine bK m λ b x=>?_;refine an4 x λ l D E F=>?_;have e:=ZU B;subst e;have w:=ZU C;subst w;refine Yo A.calm ((a.sound A G F H).mono λ d i q=>?_) (by rw[A.g];exact hm) (by rw[A.g];exact hm2) (A.glb D) (A.glb l) (aJ E [] _) rfl;exact tu q λ _ q=>%[_,rfl,q.1.1,q.1.2|q.2]
end
section
variable{X:Cx}{Γ:Gam}{S:Store}{W:WD}{pos:Pos}
def _root_.DL.Kos.val{K}{a:Ko}(r:Kos K O H ys (a.map cL))(h:aC a c=some d):∃u v,valueAt ys c=some u/\RelV v u/\Rep K O H v d:=by
 induction a generalizing ys with
 | nil=>cases h
 | cons kv a i=>
   obtain⟨u,v,b,rfl,k,j,t⟩:=r.inv;by_cases e:kv.1=c
   . have f:aC (kv::a) c=some kv.2:=by simp[aC,e]
     rw[f]at h;cases h;exact%[u,v,by simp[valueAt,e],k|j]
   . have f:aC (kv::a) c=aC a c:=by simp[aC,eM,e]
     have g:valueAt ((kv.1,u)::b) c=valueAt b c:=by simp[valueAt,eM,e]
     rw[f]at h;rw[g];exact i t h
def aa1(hs:Eu e)
 (h:Ev X Γ S o λ x S1=>∃k,x=.dlo k/\Ev X Γ S1 e λ y S2=>∃c kvs d,y=oD c/\S2[k]? =some (List.map cL kvs)/\aC kvs c=some d/\W d S2):Ev X Γ S (.Subscript o e pos) W:=by intro b s B H O I g Y;refine yX md.lookup hs (thn (h b s B H O I g Y) λ u V f=>?_);obtain⟨x,C,E,T,q⟩:=f;obtain⟨F,xd,S1,⟨k,rfl,M⟩,m,r,j⟩:=q;obtain⟨a,rfl,J,_⟩:=dM j;obtain rfl:u=Value.ref a:=T;refine thn (M b V B C F E (g.mono m) r) λ iv s2 f=>?_;obtain⟨y,D,t,U,P⟩:=f;obtain⟨z,yd,S2,⟨c,kvs,d,rfl,hs,K,w⟩,n,i,l⟩:=P;have p:z.A[k]? =some (a,true):=n.conv.lc k _ J;obtain⟨L,mu,ys,N,A,Z⟩:=G5 t (i.dob k a _ p hs);obtain⟨u',v,G,R,Q⟩:=N.val K;exact%[A.typeIs|wpAny_getItem_of (La l U) A.mapOf G %[v,D,t.tok _,R,z,_,S2,w,m.trans n,i|Q]]
end
section
variable{Ω:Wd}
def ad6(o a:Ex Ω):Ex Ω where
 lev:=max o.lev a.lev
 chk f N h e:=match e with | .Subscript l r _=>okE r&&(o.chk f N h l&&a.chk f N h r) | _=>false
 wp i S W:=o.wp i S λ x j=>onD x λ k=>a.wp i j λ y g=>Wo y g k λ b c=>∃d,aC b c=some d/\W d g
 sound:=by
  intro X r f N h e i S W A t m u;obtain⟨v,z⟩:=lv2 t
  cases e with
  | Subscript l C B=>refine an3 m λ n p s=>?_;refine aa1 (nP n) ((o.sound A v p u).mono λ x j q=>?_);refine fB q λ k q=>?_;exact%[k,rfl|(a.sound A z s q).mono λ y g ⟨ns,b,e1,e2,d,e3,w⟩=>%[ns,b,d,e1,e2,e3|w]]
  | _=>exact fE m
end
def lq:Bool->Nat->D
 | true,k=>.dlo k
 | false,k=>.loc k
def OwQ(n:Nat)(W:WD):WD:=λ d b=>W d b\/∃(q:Bool) (J:List (List D)) (a:Store) (k:Nat) (c:List D),d=lq q k/\b=a++J/\n<=a.length/\a.length<=k/\b[k]? =some c/\aa c=true/\flat a/\W (lq q a.length) (a++[c])
def QG.owq{K}(hn:O.A.length=n)(q:QG K O H (OwQ n W) v S):QG K O H W v S:=by
 obtain⟨f,d,Y,w,R,o,r⟩:=q;rcases w with w | ⟨q,J,c,k,E,rfl,rfl,hl,hk,U,T,L,w⟩;{exact%[f,d,Y,w,R,o|r]}
 . obtain⟨a,rfl,u,hq⟩:∃a,v=.ref a/\f.A[k]? =some (a,q)/\(q=true->Abv K a):=by cases q;{cases r;exact%[_,rfl,by assumption|λ z=>nomatch z]};{cases r;exact%[_,rfl,by assumption|λ _=>by assumption]}
   . obtain⟨s,_,_,na⟩:=iy R o %[|0] L;have M:=na k a %[|0] u;have X:(f.A.take c.length).length=c.length:=by have:=o.len;simp at this ⊢;omega
     have t:∀b,¬f.has b->¬(%[f.A.take c.length++[(a,q)]|f.B]:Own).has b:=λ b i z=>i (z.imp (λ z=>by rw[cT]at z;rcases cq.mp z with z | z;{exact j8 z};{rw[show b=a from by simpa using z];exact bU u}) id);have B:∀(j:Nat),j<c.length->(f.A.take c.length++[(a,q)])[j]? =f.A[j]?:=λ j A=>by rw[x9 %[|0],eR,ca A]
     have m:(f.A.take c.length++[(a,q)])[c.length]? =some (a,q):=by rw[da %[|0],X];simp
     have C:∀(j:Nat)(l:List D),(c++[E])[j]? =some l->(j<c.length/\c[j]? =some l)\/(j=c.length/\l=E):=λ j l e=>by rcases Nat.lt_trichotomy j c.length with h | h | h;{rw[x9 h]at e;exact .inl %[h|e]};{subst h;rw[da (y9 _)]at e;simp at e;exact .inr %[rfl|e.symm]};{rw[kf %[|14]]at e;cases e}
     refine%[%[f.A.take c.length++[(a,q)]|f.B],lq q c.length,c++[E],w,%[s.kept,s.dom,?_|s.hid],%[?_,by simp[X],λ j b l g p=>?_,λ j b l g p=>?_,λ b i=>?_|o.hidden]|by cases q with | false=>exact .loc m | true=>exact .dlo m (hq rfl)];{obtain⟨N,F,Z⟩:=s.ext;obtain⟨N',G,I⟩:=R.ext;have F:f.A.take c.length=O.A++N:=F;refine%[N++[(a,q)],by show f.A.take c.length++[(a,q)]=_;rw[F,ci]|λ b i=>?_];rw[cT]at i;rcases cq.mp i with i | i;{exact Z b i};{rw[show b=a from by simpa using i];rw[G,da %[|0]]at u;exact I a (bU u)}};{show(adr (f.A.take c.length++[(a,q)])).Nodup;rw[cT,i5];refine%[?_,by simp[adr]|λ x P y Q=>?_];{show(List.map _ (List.take _ _)).Nodup;rw[lS];exact o.nd.sublist (mN _ _)};{rw[show y=a from by simpa using Q];exact λ z=>M (.inl (z▸P))}};{rcases C j l p with⟨A,p⟩ | ⟨rfl,rfl⟩;{have g:(f.A.take c.length++[(a,q)])[j]? =some (b,false):=g;rw[B j A]at g;obtain⟨ys,Q,r'⟩:=o.obj j b l g (by rw[x9 A];exact p);exact%[ys,Q|gq t (L l (y4 p)) r']};{have g:(f.A.take c.length++[(a,q)])[c.length]? =some (b,false):=g;rw[m]at g;cases g;obtain⟨xs,P,q1⟩:=o.obj k a l u U;exact%[xs,P|gq t T q1]}};{rcases C j l p with⟨A,p⟩ | ⟨rfl,rfl⟩;{have g:(f.A.take c.length++[(a,q)])[j]? =some (b,true):=g;rw[B j A]at g;exact vG t (L l (y4 p)) (o.dob j b l g (by rw[x9 A];exact p))};{have g:(f.A.take c.length++[(a,q)])[c.length]? =some (b,true):=g;rw[m]at g;cases g;exact vG t T (o.dob k a l u U)}};{have i:b∈adr (f.A.take c.length++[(a,q)]):=i;rw[cT]at i;rcases cq.mp i with i | i;{exact o.apart b (j8 i)};{rw[show b=a from by simpa using i];exact o.apart a (bU u)}}
section
variable{Ω:Wd}
def Bl.owq(b:Bl Ω):Bl Ω where
 lev:=b.lev
 chk:=b.chk
 wp g S W:=b.wp g S {W with rt:=OwQ S.length W.rt}
 sound:=by
  intro X r n N p m g S W A k j l a s o H O I c e;refine thn (b.sound A k j l a s o H O I c e) λ f t q=>?_
  cases f with
  | next=>exact q
  | brk=>exact q
  | cont=>exact q
  | ret u=>obtain⟨v,d,h,i,r,q⟩:=q;exact%[v,d,h,i,r|QG.owq e.len q]
end
def dnI(hi:Int)(n:Nat):%[|8]:=%[|18].map λ(k:Nat)=>hi-(k:Int)
def acr(hi:Int)(n:Nat):qT hi n=(dnI hi n).map D.int:=by unfold qT dnI;rw[de];rfl
section
variable{X:Cx}{Γ:Gam}{S:Store}{W:WD}{pos:Pos}
def Uo (B:X.calm=true)(h:Ev X Γ S a λ d S1=>Ev X Γ S1 b λ d' S2=>Ev X Γ S2 c λ d'' S3=>∃i j:Int,d=.int i/\d'=.int j/\d''=.int (-1)/\(-(2 ^ 62)<=i/\i<2 ^ 62/\ -(2 ^ 62)<=j/\j<2 ^ 62/\i-j<=1000000)/\W (.lst (qT i (i-j).toNat)) S3)(hm:X.mg "range"=none)(D:X.mg "list"=none)(hg:Gl X "range")(C:Gl X "list")
 (hs:starEach [a,b,c] X.env=(false,eval a X.env)::starEach [b,c] X.env)(n:starEach [b,c] X.env=(false,eval b X.env)::starEach [c] X.env)(u:starEach [c] X.env=[(false,eval c X.env)])
 (x:starEach [.Call (.Name "range" p) [a,b,c] [] pos] X.env=[(false,eval (.Call (.Name "range" p) [a,b,c] [] pos) X.env)]):Ev X Γ S (.Call (.Name "list" p2) [.Call (.Name "range" p) [a,b,c] [] pos] [] g) W:=by
 intro f s U H O I A st;refine Call_ (cj I C D (show bootBuiltins "list"=some %[|16]from %[|9]) (dV ?_ x rfl));rw[show backTo g (starEach [.Call (.Name "range" p) [a,b,c] [] pos] X.env)=[(false,eval (.Call (.Name "range" p) [a,b,c] [] pos) X.env)]from by rw[x];rfl];refine eI ?_;have hA:EvA X Γ S [a,b,c] λ R S3=>∃i j:Int,R=[.int i,.int j,.int (-1)]/\(-(2 ^ 62)<=i/\i<2 ^ 62/\ -(2 ^ 62)<=j/\j<2 ^ 62/\i-j<=1000000)/\W (.lst (qT i (i-j).toNat)) S3:=
  cH (h.mono λ d S1 h1=>cH (h1.mono λ d' S2 h2=>cH (h2.mono λ d'' S3 ⟨i,j,e1,e2,e3,hb,w⟩=>gr %[i,j,by rw[e1,e2,e3],hb|w]) u) n) hs;refine Call_ (cj I hg hm boot_range (dV (thn (hA pos f s U H O I A st) λ us M E=>?_) hs (by rw[n,u];rfl)));obtain⟨vs,Q,Y,r1,q1⟩:=E;obtain⟨O1,R,S1,⟨i,j,rfl,⟨b1,b2,b3,b4,b5⟩,w⟩,N,F,L⟩:=q1
 cases L with
 | cons ra J =>
   cases J with
   | cons J K=>
     cases K with
     | cons K rd=>
       cases rd;cases ra;cases J;cases K
       cases r1 with
       | cons r y=>
         cases y with
         | cons r' y=>
           cases y with
           | cons G y=>
             cases y;obtain⟨t,rfl⟩:=r;obtain⟨t',rfl⟩:=r';obtain⟨P,rfl⟩:=G;refine call_range_3 %[|1] (f8 ?_) (.inl (PyProof.noPylong_small %[|1]));have z:Inv X f U Q {M with heap:=M.heap.push {cls:=.type "range",data:=.fields #[.int i t,.int j t',.int (-1) P]},toks:=M.toks}:=Y.kept λ b o e=>bE _ e;refine call_list_range (z.ok.hd B) (IsRange.new ..) (Qc b1 b2 b3 b4) (Hj i j) %[|0] λ h' tk l c' kp m its=>?_;have hp:=z.hok.fresh (y9 _);have hI:IntsAre l.toList (dnI i (i-j).toNat):=zr _ _ (by have:=its.1;simp[dnI];exact this) λ k v e=>by
              have T:l[k]? =some v:=by simpa using e
              obtain⟨t,rfl⟩:=its.2 k v T;have hi:k<(i-j).toNat:=by rw[<-its.1];exact(m4.mp T).1
              exact%[_,t,by unfold dnI;rw[y8,oy hi];rfl|by congr 1;show i+(k:Int)*(-1)=i-(k:Int);omega]
             have zl:((dnI i (i-j).toNat).map V.int).length<=sizeLine:=by simp[dnI,ib];omega
             have Z:=z.laid (t':=tk) (o:=.lst ((dnI i (i-j).toNat).map V.int)) (λ b ob q=>kp b ob q) (y9 _) %[zl,l.toList,c',gw hI|by simpa using m];have rp:Reps X.K O1 Q ((dnI i (i-j).toNat).map V.int) (qT i (i-j).toNat):=by rw[acr];exact adB _
             exact fc N %[.ref _,_,Z,rfl|jb w F hp rp]
end
section
variable{Ω:Wd}
def ad9(hm:Ω.mg "range"=none)(hm2:Ω.mg "list"=none)(a b c:Ex Ω):Ex Ω where
 lev:=max a.lev (max b.lev c.lev)
 chk g N h e:=cO e λ z es=>cM es λ e1=>cO e1 λ y es2=>xT es2 λ l m=>two2 m λ r q=>(z==("list":Str))&&((y==("range":Str))&&(glb h "list"&&(glb h "range"&&(okE l&&(okE r&&(okE q&&(a.chk g N h l&&(b.chk g N h r&&c.chk g N h q))))))))
 wp n S W:=a.wp n S λ d v=>b.wp n v λ o w=>c.wp n w λ k x=>k=.int (-1)/\match d,o with | .int i,.int j=>(-(2 ^ 62)<=i/\i<2 ^ 62/\ -(2 ^ 62)<=j/\j<2 ^ 62/\i-j<=1000000)/\W (.lst (qT i (i-j).toNat)) x | _,_=>False
 sound:=by intro X r g N h e n S W A M f O;obtain⟨P,u⟩:=lv2 M;obtain⟨u,Q⟩:=lv2 u;refine aX f λ z T es B f=>?_;refine bK (l:=es) f λ e1 f=>?_;refine aX (e:=e1) f λ y p es2 R f=>?_;refine nR (l:=es2) f λ l m f=>?_;refine two2_ind (l:=m) f λ V U f=>?_;refine an5 f λ E F s G f=>?_;refine an6 f λ H I t J K L=>?_;have e:=ZU E;subst e;have C:=ZU F;subst C;refine Uo A.calm ((a.sound A P J O).mono λ d v q=>(b.sound A u K q).mono λ o w q=>(c.sound A Q L q).mono λ k x q=>?_) (by rw[A.g];exact hm) (by rw[A.g];exact hm2) (A.glb G) (A.glb s) (aJ H _ _) (aJ I _ _) (aJ t [] _) rfl;obtain⟨D,q⟩:=q;cases d<;>first | exact q.elim | (cases o<;>first | exact%[_,_,rfl,rfl,D,q.1|q.2] | exact q.elim)
end
section
variable{X:Cx}
def OJ(hu:%[|36])(h:Ev X l S o λ x S1=>∃k,x=.loc k/\Ev X l S1 e λ d S2=>∃ds,S2[k]? =some ds/\bW ds=true/\okD (vw S2 d)=true/\aR ds<=50/\∃(j:Nat) (y:D),ds[j]? =some y/\eqD y (vw S2 d)=true/\(∀(m:Nat)(z:D),m<j->ds[m]? =some z->eqD z (vw S2 d)=false)/\W (.int j) S2)
 (n:attributeBase o "index" X.env (eval o X.env)=eval o X.env)(hs:starEach [e] X.env=[%[|42]])(p:(f.endLine==g.line)=true):Ev X l S (.Call (.Attribute o "index" f) [e] [] g) W:=by
 intro b s E H O I c M;have hA:PA X [e] (λ E H Q=>∃O l S G,EnvOk X.K O H E l/\%[|13]/\Ev X l S e G/\∀v F,QG X.K O H G v F->Q [v] F):=by rintro L b s E H Q I ⟨O,l,S,G,c,M,J,k⟩;rw[hs];show wpAny _ _ (spliced (%[|42]::backTo L (starEach [] X.env))) _ _ s;refine eI (thn (J b s E H O I c M) λ u s1 K=>?_);obtain⟨v,N,U,r1,q⟩:=K;exact f8 %[[v],N,U,.cons r1 .nil|k v N q]
 refine Mt (T:="list") mM PySem.F.slot_list_index PySem.F.type_list_index (Ur hu) (h.pe) hA n (by rw[hs];rfl) p hs rfl b s E H _ I %[O,c,M|λ v F q=>?_];obtain⟨V,x,S1,⟨k,rfl,J⟩,B,r,i⟩:=q;refine%[?_,V,l,S1,_,c.mono B,r,J|λ v2 H2 q2=>?_]
 . obtain⟨a,rfl,R⟩:=cV i;have hl:k<S1.length:=by rw[<-r.len];exact(z0.mp R).1
   obtain⟨xs,hx,_⟩:=r.obj k a S1[k] R (y3 hl);exact .inl %[rfl,xs|SqL.of hx]
 . obtain⟨Y,d,S2,⟨ds,Z,g1,g2,g3,j,y,hj,hy,hn,w⟩,C,t,A⟩:=q2;have P:vw S2 (.loc k)=.lst ds:=by simp only[vw,Z]
   exact%[v2,_,ds,j,y,rfl,by rw[<-P];exact iR (x:=.loc k) t (i.mono C) (by rw[P];exact g1),iR t A g2,g3,hj,hy,hn,Y,_,S2,w,B.trans C,t|.int _]
end
section
variable{Ω:Wd}
def adU(o a:Ex Ω):Ex Ω where
 lev:=max o.lev a.lev
 chk b N h e:=pM e λ x m p es q=>cM es λ y=>(m==("index":Str))&&(nameE x&&((p.endLine==q.line)&&(okE y&&(o.chk b N h x&&a.chk b N h y))))
 wp i S W:=o.wp i S λ x n=>onL x λ k=>a.wp i n λ d c=>∃f,c[k]? =some f/\bW f=true/\okD (vw c d)=true/\aR f<=50/\∃(j:Nat) (y:D),f[j]? =some y/\eqD y (vw c d)=true/\(∀(m:Nat)(z:D),m<j->f[m]? =some z->eqD z (vw c d)=false)/\W (.int j) c
 sound:=by intro X r b N h e i S W A C g E;obtain⟨F,G⟩:=lv2 C;refine iJ g λ x m p es q g=>?_;refine bK (l:=es) g λ y g=>?_;refine an6 g λ s t u v w B=>?_;have e:=ZU s;subst e;refine OJ A.hu ((o.sound A F w E).mono λ x n q=>?_) ?_ (aJ v [] _) u;{exact tB q λ _ q=>%[_,rfl|a.sound A G B q]};{exact fK t}
end
open PySem PySem.W PyProof.Rows
section
variable{N:Nat}{lt:Nat -> Nat -> Bool}
def bG(N:Nat)(lt:ag6){α:Type}:KasT α->(α->Prop)->Prop
 | .ret a,R=>R a
 | .ask i j k,R=>i<N/\j<N/\bG N lt (k (lt i j)) R
theorem bG.bind{R:c->Prop}:∀t:KasT b,bG N lt t (λ a=>bG N lt (f a) R)->bG N lt (t.bind f) R
 | .ret _,h=>h
 | .ask i j k,h=>%[h.1,h.2.1|bG.bind (k (lt i j)) h.2.2]
theorem bG.wp{I:Shared->Prop}(d:∀i j C s,i<N->j<N->I s->(∀s',I s'->C (lt i j) s')->b i j C s):
 ∀(t:KasT c){R:c->Prop}{Q:c->Shared->Prop}(s:ae4),bG N lt t R->I s->(∀a s',R a->I s'->Q a s')->t.kasWp b Q s
 | .ret a,_,_,s,h,i,q=>q a s h i
 | .ask x y k,_,_,s,h,i,q=>d x y _ s h.1 h.2.1 i λ s' e=>bG.wp d (k (lt x y)) s' h.2.2 e q
structure LtOk(N:Nat)(lt:ag6):Prop where
 tot:∀i j,i<N->j<N->i≠j->lt i j=false->lt j i=true
 tr:∀i j k,i<N->j<N->k<N->lt i j=true->lt j k=true->lt i k=true
structure Pm(N:Nat)(p:Array Nat):Prop where
 sz:p.size=N
 lt:∀a,a<N->p.getD a 0<N
 inj:∀a b,a<N->b<N->p.getD a 0=p.getD b 0->a=b
def Srt(lt:ag6)(p:Array Nat)(m:Nat):Prop:=∀a b,a<b->b<m->lt (p.getD a 0) (p.getD b 0)=true
def Dsc(lt:ag6)(p:Array Nat)(m:Nat):Prop:=∀a b,a<b->b<m->lt (p.getD b 0) (p.getD a 0)=true
theorem Hu(L:LtOk N lt)(P:Pm N p):∀(f n:Nat),1<=n->n+f=N->Srt lt p n->∀{R:Nat->Prop},(∀m,n<=m->m<=N->Srt lt p m->(m<N->lt (p.getD m 0) (p.getD (m-1) 0)=true)->R m)->bG N lt (kas_asc p f n) R
 | 0,n,h1,h2,h3,R,q=>q n (y9 _) %[|0] h3 λ z=>by omega
 | f + 1,n,h1,h2,h3,R,q=>by
   refine%[P.lt n %[|0],P.lt (n-1) %[|0]|?_];show bG N lt (if lt (p.getD n 0) (p.getD (n-1) 0)=true then .ret n else kas_asc p f (n+1)) R;split;{rename_i g;exact q n (y9 _) %[|0] h3 λ _=>g}
   . rename_i g;have h:lt (p.getD (n-1) 0) (p.getD n 0)=true:=L.tot _ _ (P.lt n %[|0]) (P.lt (n-1) %[|0]) (λ e=>by have:=P.inj _ _ %[|0] %[|0] e;omega) (by simpa using g);refine Hu L P f (n+1) %[|0] %[|0] (λ a b c r=>?_) λ m o i j k=>q m %[|0] i j k;by_cases d:b<n;{exact h3 a b c d}
     . obtain rfl:b=n:=%[|0]
       by_cases l:a=b-1;{rw[l];exact h};{exact L.tr _ _ _ (P.lt a %[|0]) (P.lt _ %[|0]) (P.lt b %[|0]) (h3 a (b-1) %[|0] %[|0]) h}
theorem Kh(L:LtOk N lt)(P:Pm N p):∀(f n:Nat),2<=n->n+f=N->Dsc lt p n->∀{R:Array Nat×Nat×Nat->Prop},(∀m,2<=m->m<=N->Dsc lt p m->R (p,m,0))->bG N lt (kas_desc f p n 0) R
 | 0,n,h1,h2,h3,R,q=>q n h1 %[|0] h3
 | f + 1,n,h1,h2,h3,R,q=>by
   refine%[P.lt n %[|0],P.lt (n-1) %[|0]|?_];show bG N lt (if lt (p.getD n 0) (p.getD (n-1) 0)=true then(if 0>0 then kas_desc f (kas_rev p (n-(0+1)) n) (n+1) 0 else kas_desc f p (n+1) 0)else .ask (p.getD (n-1) 0) (p.getD n 0) λ d=>if d=true then .ret (p,n,0)else kas_desc f p (n+1) (0+1)) R;split
   . rename_i c;rw[bP %[|0]];refine Kh L P f (n+1) %[|0] %[|0] (λ a b g k=>?_) q;by_cases h:b<n;{exact h3 a b g h}
     . obtain rfl:b=n:=%[|0]
       by_cases i:a=b-1;{rw[i];exact c};{exact L.tr _ _ _ (P.lt b %[|0]) (P.lt _ %[|0]) (P.lt a %[|0]) c (h3 a (b-1) %[|0] %[|0])}
   {rename_i j;have c:lt (p.getD (n-1) 0) (p.getD n 0)=true:=L.tot _ _ (P.lt n %[|0]) (P.lt (n-1) %[|0]) (λ e=>by have:=P.inj _ _ %[|0] %[|0] e;omega) (by simpa using j);refine%[P.lt (n-1) %[|0],P.lt n %[|0]|?_];show bG N lt (if lt (p.getD (n-1) 0) (p.getD n 0)=true then .ret (p,n,0)else kas_desc f p (n+1) (0+1)) R;rw[ca c];exact q n h1 %[|0] h3}
def qu(h:m<=p.size)(a:Nat):(kas_rev p 0 m).getD a 0=if a<m then p.getD (m-1-a) 0 else p.getD a 0:=by rw[fg,fg,fg];unfold kas_rev;rw[getElem?_mirror_all h];by_cases b:a<m;{rw[ca %[dr _|b],ca b,mr]};{rw[bP (λ z=>b z.2),bP b]}
def Pm.rev(P:Pm N p)(h:m<=N):Pm N (kas_rev p 0 m):=by
 have d:m<=p.size:=by rw[P.sz];exact h
 refine%[by unfold kas_rev;rw[mirror_size,P.sz],λ a c=>?_|λ a b c f e=>?_];{rw[qu d];split;{exact P.lt _ %[|0]};{exact P.lt _ c}};{rw[qu d,qu d]at e;split at e<;>split at e;{have:=P.inj _ _ %[|0] %[|0] e;omega};{have:=P.inj _ _ %[|0] %[|0] e;omega};{have:=P.inj _ _ %[|0] %[|0] e;omega};{exact P.inj _ _ c f e}}
def Dsc.rev(P:Pm N p)(h:m<=N)(d:Dsc lt p m):Srt lt (kas_rev p 0 m) m:=λ a b e f=>by
 have c:m<=p.size:=by rw[P.sz];exact h
 rw[qu c,qu c,ca %[|0],ca f];exact d _ _ %[|0] %[|0]
def Ti(L:LtOk N lt)(h2:2<=N)(P:Pm N p)(q:∀m p',1<=m->m<=N->Pm N p'->Srt lt p' m->R (m,p')):bG N lt (kas_count N p) R:=by
 refine bG.bind _ (Hu L P (N-1) 1 (y9 _) %[|0] (λ a b h v=>by omega) λ n i j d l=>?_);show bG N lt (if(n==N)=true then .ret (n,p)else if n>1 then .ask (p.getD 0 0) (p.getD (n-1) 0) λ c=>if c=true then .ret (n,p)else kas_descPart n N (kas_rev p 0 n)else kas_descPart n N p) R;split;{exact q n p i j P d}
 . rename_i f;have e:n<N:=by
    have:n≠N:=by simpa using f
    omega
   split;{refine%[P.lt 0 %[|0],P.lt (n-1) %[|0]|?_];show bG N lt (if lt (p.getD 0 0) (p.getD (n-1) 0)=true then .ret (n,p)else kas_descPart n N (kas_rev p 0 n)) R;rw[ca (d 0 (n-1) %[|0] %[|0])];exact q n p i j P d}
   . obtain rfl:n=1:=%[|0]
     have k:Dsc lt p 2:=λ a b o w=>by
      obtain rfl:b=1:=%[|0]
      obtain rfl:a=0:=%[|0]
      exact l e
     refine bG.bind _ (Kh L P (N-(1+1)) (1+1) %[|0] %[|0] k λ m y g t=>?_);show bG N lt (if 0>0 then _ else kas_tail3 m N p) R;rw[bP %[|0]];refine bG.bind _ (Hu L (P.rev g) (N-m) m %[|0] %[|0] (Dsc.rev P g t) λ u x r s _=>?_);exact q u _ %[|0] r (P.rev g) s
theorem vo(L:LtOk N lt)(P:Pm N p)(b:k<N)(hs:Srt lt p k):∀(f l r:Nat),l<=r->r<=k->r-l<=f->(∀a,a<l->lt (p.getD a 0) (p.getD k 0)=true)->(∀a,r<=a->a<k->lt (p.getD k 0) (p.getD a 0)=true)->
 ∀{R:Nat->Prop},(∀l',l'<=k->(∀a,a<l'->lt (p.getD a 0) (p.getD k 0)=true)->(∀a,l'<=a->a<k->lt (p.getD k 0) (p.getD a 0)=true)->R l')->bG N lt (kas_place p k f l r) R
 | 0,l,r,h1,h2,h3,h4,h5,R,q=>q l %[|0] h4 λ a h d=>h5 a %[|0] d
 | f + 1,l,r,h1,h2,h3,h4,h5,R,q=>by show bG N lt (if l≥r then .ret l else .ask (p.getD k 0) (p.getD ((l+r)/2) 0) λ c=>if c=true then kas_place p k f l ((l+r)/2)else kas_place p k f ((l+r)/2+1) r) R;split;{exact q l %[|0] h4 λ a h d=>h5 a %[|0] d};{refine%[P.lt k b,P.lt ((l+r)/2) %[|0]|?_];show bG N lt (if lt (p.getD k 0) (p.getD ((l+r)/2) 0)=true then kas_place p k f l ((l+r)/2)else kas_place p k f ((l+r)/2+1) r) R;split;{rename_i g;refine vo L P b hs f l ((l+r)/2) %[|0] %[|0] %[|0] h4 (λ a h d=>?_) q;by_cases e:a=(l+r)/2;{rw[e];exact g};{exact L.tr _ _ _ (P.lt k b) (P.lt _ %[|0]) (P.lt a %[|0]) g (hs _ _ %[|0] d)}};{rename_i g;have i:lt (p.getD ((l+r)/2) 0) (p.getD k 0)=true:=L.tot _ _ (P.lt k b) (P.lt _ %[|0]) (λ e=>by have:=P.inj _ _ b %[|0] e;omega) (by simpa using g);refine vo L P b hs f ((l+r)/2+1) r %[|0] %[|0] %[|0] (λ a h=>?_) h5 q;by_cases e:a=(l+r)/2;{rw[e];exact i};{exact L.tr _ _ _ (P.lt a %[|0]) (P.lt _ %[|0]) (P.lt k b) (hs _ _ %[|0] %[|0]) i}}}
def ZG(c:k<p.size)(d:l<=k)(a:Nat):(a=l/\(bubble p k (k-l)).getD a 0=p.getD k 0)\/(l<a/\a<=k/\(bubble p k (k-l)).getD a 0=p.getD (a-1) 0)\/((a<l\/k<a)/\(bubble p k (k-l)).getD a 0=p.getD a 0):=by rw[fg,fg,fg,fg,getElem?_bubble c (k-l) %[|0]];by_cases b:a=l;{exact .inl %[b|by rw[ca %[|0]]]};{by_cases h2:l<a/\a<=k;{exact .inr (.inl %[h2.1,h2.2|by rw[bP %[|0],ca %[|0]]])};{exact .inr (.inr %[%[|0]|by rw[bP %[|0],bP %[|0]]])}}
theorem RB(L:LtOk N lt):∀(f:Nat)(p:Array Nat)(k:Nat),Pm N p->1<=k->k+f=N->Srt lt p k->∀{R:Array Nat->Prop},(∀p',Pm N p'->Srt lt p' N->R p')->bG N lt (kas_bin f p k) R
 | 0,p,k,P,h1,h2,h3,R,q=>q p P (by rw[<-h2];exact h3)
 | f+1,p,k,P,h1,h2,h3,R,q=>by
   have i:k<N:=%[|0]
   refine bG.bind _ (vo L P i h3 k 0 k (dr _) (y9 _) %[|0] (λ a z=>by omega) (λ a z y=>by omega) λ l o r s=>?_);have h:k<p.size:=by rw[P.sz];exact i
   have c:=ZG h o;have n:Pm N (bubble p k (k-l)):=by refine%[by rw[bubble_size,P.sz],λ a t=>?_|λ a b t v e=>?_];{rcases c a with⟨_,e⟩ | ⟨_,_,e⟩ | ⟨_,e⟩<;>rw[e]<;>exact P.lt _ %[|0]};{rcases c a with⟨_,d⟩ | ⟨_,_,d⟩ | ⟨_,d⟩<;>rcases c b with⟨_,g⟩ | ⟨_,_,g⟩ | ⟨_,g⟩<;>(rw[d,g]at e;have:=P.inj _ _ %[|0] %[|0] e;omega)}
   refine RB L f (bubble p k (k-l)) (k+1) n %[|0] %[|0] (λ a b u v=>?_) q;rcases c a with⟨j,d⟩ | ⟨j,w,d⟩ | ⟨j,d⟩<;>rcases c b with⟨m,g⟩ | ⟨m,x,g⟩ | ⟨m,g⟩<;>rw[d,g]<;>
    first | (exfalso;omega) | exact s _ %[|0] %[|0] | exact r _ %[|0] | exact h3 _ _ %[|0] %[|0]
def Sx:Pm N (List.toArray (List.range N)):=by
 have c:∀a,a<N->(List.toArray (List.range N)).getD a 0=a:=λ a d=>by rw[fg];simp[d]
 exact%[by simp,λ a d=>by rw[c a d];exact d|λ a b d f e=>by rw[c a d,c b f]at e;exact e]
def Yk(L:LtOk N lt)(h2:2<=N):bG N lt (kas_sort N) λ p=>Pm N p/\Srt lt p N:=by
 refine bG.bind _ (Ti L h2 Sx λ m a d g P b=>?_);show bG N lt (if m<N then kas_bin (N-max m 1) a (max m 1)else .ret a) _;have e:max m 1=m:=%[|0]
 rw[e];split;{exact RB L _ _ _ P d %[|0] b λ a c f=>%[c|f]}
 . obtain rfl:m=N:=%[|0]
   exact%[P|b]
end
end RF
namespace XE
open PySem PySem.Spec L2 DL RF
open PyProof.Rows
variable{Ω:Wd}
end XE
set_option maxHeartbeats 4000000
namespace XE
open PySem PySem.Spec L2 DL RF
open PyProof.Rows
variable{Ω:Wd}
end XE
namespace RF
open PySem PySem.Spec L2 DL
open PyProof.Rows
section
variable{P:Program}{w:World}{A:Around}{E:%[|25]}{s:Shared}{d a:Addr}{ys:Cy}{c:Int × %[|8]}
inductive CelM(P:af4)(w:World)(h:Heap)(d:Addr)(ys:Cy):Prop
 | mk(o:Obj)(es:Array DictEntry)(g1:h.get? d=some o)(g2:o.ExactDict)(g3:o.data=.dict es ys.length)(g4:es.toList=ys.map (entryOfKey (cI P w)))(g5:∀x∈ys,cB h (.ref x.2.1) x.1)(g6:(ys.map (·.1)).Nodup):CelM P w h d ys
def CelM.of(x:CelM P w h d ys):h.DictOfH (cI P w) d ys:=by obtain⟨o,a,b,c,e,f,g,i⟩:=x;exact%[o,a,_,b,c,e,f,g|i]
def Ky(K:A.units+5<cLine)(q:cB s.heap (.ref a) c)(J:CelM P w s.heap d ys)(hz:ys.length<=sizeLine)
 (t:∀h' tk,CelM P w h' d (storedH ys c a v)->Heap.SameBut d s.heap h'->Q () {s with heap:=h',toks:=tk}):wpAny (model P w) A (dictSet d (.ref a) v) Q E s:=by
 obtain⟨o,H,h,C,f,r,I,n⟩:=J;have room:(cI P w).room A:=K;have k:(cI P w).is s.heap c a:=q;have i:∀x∈ys,(cI P w).is s.heap x.1 x.2.1:=I;unfold dictSet;try with_reducible refine eu ?_
 refine b0 ((cI P w).pyHash room k ?_);unfold dictSetHashed;try with_reducible refine eu ?_
 refine b0 (wpAny_dictFind_heap (knd:=cI P w) (s:={s with toks:=s.toks+(cI P w).draws c}) room k h f r i n (λ b=>?_) λ j p m=>?_)
 . have G:=atKey_none_of_get b;have B:storedH ys c a v=ys++[(c,a,v)]:=storedH_new G a v;have F:c∉ys.map (·.1):=not_mem_keys_of_get b;rw[B]at t;have z:(ys++[(c,a,v)]).length=ys.length+1:=by simp
   refine b0 (k6 (wpAny_updateDictKeys (hz:=by have e:=size_of_entries r;omega) (s:={s with toks:=s.toks+(cI P w).draws c}) h f (t _ _ %[_,_,fS _ h (Obj.isFreed_of_dict (Obj.data_mapDictKeys f _)),C.mapDictKeys _,by rw[z];exact Obj.data_mapDictKeys f _,?_,λ x g=>?_|?_] (ej ..))));{simp[r,entryOfKey]};{rcases cq.mp g with g | g;{exact(cI P w).keeps (i x g) h f (ej ..)};{rw[bX.mp g];exact(cI P w).keeps k h f (ej ..)}};{rw[cf,i5];refine%[n,by simp|λ x g y u e=>?_];rw[cn,l0,bX]at u;rw[e,u]at g;exact F g}
 . have D:=atKey_of_get n m;have B:storedH ys c a v=ys.map (putAt c v):=storedH_old D a v;rw[B]at t;have z:(ys.map (putAt c v)).length=ys.length:=by simp
   refine b0 (k6 (b0 (wpAny_updateDict (s:={s with toks:=s.toks+(cI P w).draws c}) h f (wpAny_point (t _ _ %[_,_,fS _ h (Obj.isFreed_of_dict (Obj.data_mapDict f _)),C.mapDict _,by rw[z];exact Obj.data_mapDict f _,?_,λ x g=>?_|?_] (ej ..))))));{have:=modify_map_putAt (entryOfKey (cI P w)) (λ e:DictEntry=>{e with val:=v}) c v (λ _ _=>rfl) n m;rw[<-r]at this;obtain⟨l⟩:=H;simpa using this};{obtain⟨y,u,rfl⟩:=bS.mp g;unfold putAt;split<;>exact(cI P w).keeps (i y u) h f (ej ..)};{rw[keys_map_putAt];exact n}
def Zn(g:A.in1.units+5<cLine)(b:cB s.heap (.ref a) c)(e:CelM P w s.heap d ys)(hz:ys.length<=sizeLine)
 (f:∀h' tk,CelM P w h' d (storedH ys c a v)->Heap.SameBut d s.heap h'->Q () {s with heap:=h',toks:=tk}):wpAny (model P w) A (setItem (.ref d) (.ref a) v) Q E s:=by
 have T:=e.of.typeIs;unfold setItem;try with_reducible refine eu ?_
 refine b0 (wpAny_sequenceKey T %[|1] (b0 (wpAny_callSpecial?_slot (name:=Str.ofString "__setitem__") T slot_dict_setitem (dA slot_dict_setitem T entry_dict_setitem ?_ (args_dict_setitem _ _ _)))));show wpAny _ _ (Builtin.Dict.notOrdered "__setitem__" %[[.ref d,.ref a,v]|[]]>>=_) _ _ s;refine b0 (ny T ?_);show wpAny _ _ (dictSet d (.ref a) v>>=_) _ _ s;exact b0 (Ky g b e hz λ h' tk x y=>b9 %[.none,rfl|b9 (f h' tk x y)])
variable{it:Addr}{i ep:Nat}{ok ov:Value}{es:Array DictEntry}{od:Obj}{e:DictEntry}
def Ys(q:s.heap.get? d=some od)(p:od.data=.dict es ep)(f:IsItemIter s.heap it d i es.size ep ok ov)(J:es[i]? =some e)
 (M:∀h',IsItemIterOut h' it d (i+1) es.size ep e.key e.val s.heap.objs.size->h'.get? s.heap.objs.size=some {cls:=%[|10],data:=.seq #[e.key,e.val]}->h'.objs.size=%[|27]->
  (∀b o,b≠it->%[|32])->Q (some %[|11]) %[|20]):
 wpAny (model P w) A (pyNext (.ref it)) Q E s:=by
 obtain⟨a,g,j,l,k⟩:=s;have T:Shared.TypeIs %[a,g,j,l|k] (.ref it) "dict_itemiterator":=%[_,f|rfl];have N:i<es.size:=(m4.mp J).1;have r:Builtin.Dict_items.ownsTuple "dict_itemiterator"=true:=%[|1]
 unfold pyNext;refine b0 (ko (wpAny_callSpecial?_slot (name:=Str.ofString "__next__") T gd (dA gd T F.entry_dict_itemiterator_next ?_ (F.args_dict_itemiterator_next_1 _))));refine b0 (b9 (b0 (b0 ?_)));refine b0 (iO T (b9 (b0 (l9 f rfl ?_))));simp only[r,gX];show wpAny _ _ (if(Value.ref d==Value.none)=true then _ else _) _ _ %[a,g,j,l|k];rw[bP (show ¬((Value.ref d==Value.none)=true)from y6)];refine b0 (b9 (b0 (gI q p ?_)));rw[bP (by simp)];refine b0 (b9 (b0 (kg q p ?_)));rw[bP (by simp)];refine b9 ?_;simp only[show ¬((i:Int)<0)from %[|0],ef,dk,J];refine b0 ?_;refine b0 (iO T (b9 (b0 (ng T ?_))));show wpAny _ _ (setField (.ref it) 3 (rawInt ((i:Int)+1))>>=_) _ _ %[a,g,j,l|k];refine b0 (fw f (by simp) λ h t s1=>?_);have s1:Heap.SameBut it a h:=s1;have t:IsItemIter h it d (i+1) es.size ep ok ov:=by
  have L:((i+1:Nat):Int)=(i:Int)+1:=%[|0]
  unfold IsItemIter;rw[L];simpa[rawInt]using t
 have I:Shared.TypeIs %[h,g,j,l|k] (.ref it) "dict_itemiterator":=%[_,t|rfl];refine b0 (eu (b0 (ng I (b0 (ng I ?_)))));show wpAny _ _ (Builtin.Dict_items.pairFromOwner (.ref it) 6 e.key e.val) _ _ %[h,g,j,l|k];unfold Builtin.Dict_items.pairFromOwner;refine b0 (wpAny_newTuple ?_);have m:IsItemIter (h.push {cls:=%[|10],data:=.seq #[e.key,e.val]}) it d (i+1) es.size ep ok ov:=bE _ t;generalize q2:h.push {cls:=%[|10],data:=.seq #[e.key,e.val]}=h2 at m;have H:h.objs.size=a.objs.size:=s1.1;have G:it<a.objs.size:=c8 f;have R:h2.get? a.objs.size=some {cls:=%[|10],data:=.seq #[e.key,e.val]}:=by rw[<-q2,<-H];exact c9 _ rfl
 have S:h2.objs.size=a.objs.size+1:=by rw[<-q2,fx,H]
 have O:∀b o,b≠it->a.get? b=some o->h2.get? b=some o:=λ b o c x=>by rw[<-q2];exact bE _ (s1.extBut b o c x)
 show wpAny _ _ (Builtin.Dict_items.ownedTupleIsFree (.ref it)>>=_) _ _ %[h2,g,j,l|k];rw[H];unfold Builtin.Dict_items.ownedTupleIsFree;refine b0 (b0 (fi m rfl (x:=.none) rfl (b9 ?_)));simp only[gX];refine b0 (fi m rfl (x:=ok) rfl (b0 (fi m rfl (x:=ov) rfl ?_)));refine b0 (fw m (by simp) λ B u s3=>?_);have s3:Heap.SameBut it h2 B:=s3;have u:IsItemIter B it d (i+1) es.size ep e.key ov:=u;refine b0 (fw u (by simp) λ C v s4=>?_);have s4:Heap.SameBut it B C:=s4;have v:IsItemIter C it d (i+1) es.size ep e.key e.val:=v;refine b0 (fw v (by simp) λ D y s5=>?_);have s5:Heap.SameBut it C D:=s5;have y:IsItemIterOut D it d (i+1) es.size ep e.key e.val a.objs.size:=y;refine b0 (fw y (by simp) λ n z s6=>?_);have s6:Heap.SameBut it D n:=s6;have z:IsItemIterOut n it d (i+1) es.size ep e.key e.val a.objs.size:=z;have K:∀b o,b≠it->h2.get? b=some o->n.get? b=some o:=λ b o c x=>s6.extBut b o c (s5.extBut b o c (s4.extBut b o c (s3.extBut b o c x)));refine b0 (wpAny_letGo (b9 (b9 %[_,rfl|b9 (M n z (K _ _ (g7 G) R) ?_ λ b o c x=>K b o c (O b o c x))])));show n.objs.size=a.objs.size+1;rw[s6.1,s5.1,s4.1,s3.1,S]
def aab(hh:A.handled=none)(f:s.heap.get? d=some od)(e:od.data=.dict es ep)(c:IsItemIter s.heap it d i es.size ep ok ov)(j:es.size<=i)
 (h:∀h',Heap.ExtBut it s.heap h'->Q none %[|20]):wpAny (model P w) A (pyNext (.ref it)) Q E s:=by
 have T:s.TypeIs (.ref it) "dict_itemiterator":=%[_,c|rfl];have g:Builtin.Dict_items.ownsTuple "dict_itemiterator"=true:=%[|1]
 unfold pyNext;refine b0 (ko (wpAny_callSpecial?_slot (name:=Str.ofString "__next__") T gd (dA gd T F.entry_dict_itemiterator_next ?_ (F.args_dict_itemiterator_next_1 _))));refine b0 (b9 (b0 (b0 ?_)));refine b0 (iO T (b9 (b0 (l9 c rfl ?_))));simp only[g,gX];show wpAny _ _ (if(Value.ref d==Value.none)=true then _ else _) _ _ s;rw[bP (show ¬((Value.ref d==Value.none)=true)from y6)];refine b0 (b9 (b0 (gI f e ?_)));rw[bP (by simp)];refine b0 (b9 (b0 (kg f e ?_)));rw[bP (by simp)];refine b9 ?_;simp only[show ¬((i:Int)<0)from %[|0],ef,dk,gx j];refine b0 ?_;refine b0 (iO T (b9 ?_));show wpAny _ _ (setField (.ref it) 2 .none>>=_) _ _ s;refine b0 (jS c rfl (by simp) ?_);show wpAny _ _ (newExc (.type "StopIteration") []>>=_) _ _ _;refine b0 ?_;simp only[newExc,newTuple];refine b0 (dQ (b0 (m:=firstArgMember _ _) (wpAny_of_eq (a:=Value.none) (by first | rfl | (simp only[firstArgMember];rfl)) (dQ ?_ (by size_fits)))) (by size_fits));simp only[raiseNew];refine b0 (wpAny_handled ?_);rw[show A.in1.handled=none from hh];refine b0 (b9 (wpAny_throw ?_));refine b0 (gt (T:="StopIteration") (b:=true) %[_,c9 _ rfl|rfl] isSubtype_stop ?_);exact b9 (h _ (((ej ..).extBut.push _).push _))
end
variable{o:Expr}
def yK:entryFor table "dict_itemiterator.__iter__"=some Builtin.«dict_keyiterator.__iter__»:=entryFor_alias (id':="dict_keyiterator.__iter__") (by kernel_rfl) rfl %[|9] (by kernel_rfl)
def bkV:Value->V
 | .bool b=>.bl b
 | .int i _=>.int i
 | .str x _=>.str x
 | .bytes b _=>.byt b
 | .float b _=>.flt b
 | .ref a=>.ref a
 | .type n=>.ty n
 | _=>.non
def Lj(h:L2.RelV v u):v=bkV u:=by cases v<;>first | (have h:u=_:=h;subst h;rfl) | (obtain⟨t,rfl⟩:=h;rfl)
def Vr(h:L2.RelV v u)(h':L2.RelV a u):v=a:=(Lj h).trans (Lj h').symm
section
variable{P:Program}{w:World}{A:Around}{E:%[|25]}{s:Shared}{d v:Addr}{ep:Nat}{es:Array DictEntry}{od:Obj}
def Jb(a:(d==sysModules)=false):MeetsIn P w (Builtin.«dict.items» %[[.ref d]|[]]) (λ _ R s=>s.TypeIs (.ref d) "dict"/\R (.ok (.ret %[|11])) {s with heap:=s.heap.push {cls:=.type "dict_items",data:=.fields #[.ref d]}}):=
 .of_wp λ A R s ⟨T,h⟩=>by unfold Builtin.«dict.items»;refine b0 ?_;unfold Builtin.Dict.noArgs;refine b0 (ny T ?_);show wpAny _ _ (pure d) _ _ s;refine b9 ?_;show wpAny _ _ (Builtin.Dict.showsAll d>>=_) _ _ s;unfold Builtin.Dict.showsAll;rw[bP (by rw[a];exact y6)];exact b0 (b9 (b0 (dQ (b9 %[_,rfl|h]))))
def Oa(g:s.heap.IsItemsView v d)(b:s.heap.get? d=some od)(a:od.data=.dict es ep)
 (h:Q %[|11] {s with heap:=s.heap.push {cls:=.type "dict_itemiterator",data:=.fields #[.none,.bool false,.ref d,.int 0 0,.int es.size 0,.int ep 0,.none,.none]}}):
 wpAny (model P w) A (pyIter (.ref v)) Q E s:=by
 obtain⟨j,f,i,e⟩:=id g;have c:Builtin.Dict_items.ownsTuple "dict_itemiterator"=true:=%[|1]
 refine kR g.typeIs F.slot_dict_items_iter (dA F.slot_dict_items_iter g.typeIs F.entry_dict_items_iter ?_ (F.args_dict_items_iter_1 _));unfold Builtin.«dict_items.__iter__»;refine b0 (b9 (b0 ?_));unfold Builtin.Dict_items.dictOf;refine b0 (fi f e (x:=.ref d) rfl (b9 (b0 ?_)));unfold Builtin.Dict_items.newIterator;refine b0 (gI b a (b0 (kg b a ?_)));simp only[c,gX];refine dQ (b9 %[_,rfl,"dict_itemiterator",_,%[_,c9 _ rfl|rfl],gd.lookup|?_]) (by simp only[sizeOk,Builtin.Dict_items.ownedTupleFields,x5,x8,dS,List.length_nil,ib];omega);simpa[rawInt,Builtin.Dict_items.ownedTupleFields]using h
end
section
variable{P:Program}{w:World}{K:PySem.W.Frag}
def Itm(a:Addr)(n:Nat):It:=
 %[λ i H=>∃d c b u v,H a=some (.ext (cG a d))/\d.length=n/\d[i]? =some (c,b,u)/\RelV v u,
  λ i H x e=>∃p b u v,H p=none/\(∀d,H a=some (.ext (cG a d))->∃c,d[i]? =some (c,b,u))/\RelV v u/\e=upd H p (.tup [.ref b,v])/\x=.ref p|
  λ i H=>∃d,H a=some (.ext (cG a d))/\d.length=n/\n<=i]
theorem Mm{aa}(a l:Addr)(n:Nat):Turn P w K (.Tuple A k aa) (Itm a n) [l] l (λ i h=>∃ok ov,IsItemIter h l a i n n ok ov) where
 mem:=by simp
 obj:=λ i h m b p=>by obtain⟨ok,ov,V⟩:=m;rw[bX.mp p];exact%[_,V|λ v z=>nomatch z]
 keep:=λ i h h' m k=>let ⟨ok,ov,V⟩:=m;%[ok,ov|k l (by simp) _ V]
 item:=by
  intro X S Z hK hc i g s σ H E I M m W;obtain⟨ys,c,b,u,v,Q,D,Y,ru⟩:=W;obtain⟨⟨_,_,_,o,G,J,B,r,L⟩,_,_⟩:=(show aW X.prog X.w H s.heap a (.ext (cG a ys))from I.hok a _ Q);obtain⟨ok,ov,d⟩:=m;have f:G.size=n:=by rw[<-eW,L,y7,D]
  have q:G[i]? =some %[hC0 c,.ref b|u]:=by rw[<-ge,L,y8,Y];rfl
  have uq:∀j,H a=some (.ext (cG a j))->∃O,j[i]? =some (O,b,u):=λ j R=>by
   obtain⟨⟨_,_,_,o',ab,k1,_,N,k4⟩,_,_⟩:=(show aW X.prog X.w H s.heap a (.ext (cG a j))from I.hok a _ R);obtain rfl:o=o':=cc (J.symm.trans k1);rw[r]at N;injection N with N _;subst N;rw[<-ge,k4,y8]at q
   cases e:j[i]? with
   | none=>rw[e]at q;cases q
   | some y=>rw[e]at q;obtain⟨O,b',u'⟩:=y;have q:=cc q;injection q with _ hx1 hx2;injection hx1 with hx1;subst hx1 hx2;exact%[O|rfl]
  rw[D]at r;subst S Z;refine Ys (ok:=ok) (ov:=ov) J r (by rw[f];exact d) q λ h' ho hT hz hk=>%[_,rfl|wpAny_letOwnedTupleGo_items ho λ B C sb=>?_];have I1:Inv X g σ H {s with heap:=B}:=sJ (ch:=[l]) (t:=s.toks) I M λ b o p q'=>(sb.2 b (λ z=>p (by simp[z]))).trans (hk b o (λ z=>p (by simp[z])) q');have hp:H s.heap.objs.size=none:=I.hok.fresh (y9 _);have x:l<s.heap.objs.size:=c8 d;have U:B.get? s.heap.objs.size=some {cls:=%[|10],data:=.seq #[.ref b,u]}:=(sb.2 _ (g7 x)).trans hT;have I2:Inv X g σ (upd H s.heap.objs.size (.tup [.ref b,v])) {s with heap:=B}:=uY I I1 (y9 _) %[by show 2<=sizeLine;decide,[.ref b,u],.cons rfl (.cons ru .nil),_,U,rfl,_|rfl];refine%[%[|11],_,I2,rfl,%[_,b,u,v,hp,uq,ru,rfl|rfl],%[_,_|by rw[f]at C;exact C]|λ b' p=>?_];rw[bX.mp p,az (cm x)];exact(M l (by simp)).1
 done:=by
  intro X S Z hK hc i g s σ H E I M m W;obtain⟨ys,Q,D,Y⟩:=W;obtain⟨⟨_,_,_,o,G,J,B,r,L⟩,_,_⟩:=(show aW X.prog X.w H s.heap a (.ext (cG a ys))from I.hok a _ Q);obtain⟨ok,ov,d⟩:=m;have f:G.size=n:=by rw[<-eW,L,y7,D]
  rw[D]at r;subst S Z;obtain⟨f0,f1,f2,f3,f4,f5⟩:=M l (by simp);exact aab (ok:=ok) (ov:=ov) (I.ok.hd hc) J r (by rw[f];exact d) (by rw[f];exact Y) λ h' ext=>%[rfl|I.turned (t':=s.toks) (λ b o p e=>ext b o p e) f0 f1 f3 f4 f5]
 self:=λ _ _ _ _ _ m h=>by obtain⟨ok,ov,d⟩:=m;have T:Shared.TypeIs _ (.ref l) "dict_itemiterator":=%[_,d|rfl];refine kR T F.slot_dict_itemiterator_iter (dA F.slot_dict_itemiterator_iter T yK ?_ (F.args_dict_itemiterator_iter_1 _));show wpAny _ _ (ret (.ref l)) _ _ _;exact b9 %[_,rfl,"dict_itemiterator",_,T,gd.lookup|h]
end
section
variable{K:PySem.W.Frag}{O:Own}{H:Hp}
inductive CelG(X:Cx)(O:Own)(H:Hp)(s:ae4)(a:Addr)(kcs:Kc):Prop
 | mk(lo:(a==sysModules)=false)(mu:Mut (H a))(ys:Cy)(eH:H a=some (.ext (cG a ys)))(kc:Kcs X.K O H ys (kcs.map encC))(m:CelM X.prog X.w s.heap a ys)(hz:ys.length<=sizeLine):CelG X O H s a kcs
def nU{pins:Pins}{σ:DL.St}(I:%[|3])(b:DOb X.K O H a (.non::kcs.map encC)):
 CelG X O H s a kcs:=by
 cases b with
 | t y e r=>cases r
 | c f n e r=>cases r
 | o f n e r=>cases r
 | m f A d e r=>obtain⟨_,rfl⟩:=gv d;obtain⟨⟨x,d,w,o,h,i,j,u,v⟩,_,_⟩:=(show aW X.prog X.w H s.heap a (.ext (cG a f))from I.hok a _ e);exact%[d,by rw[e];trivial,f,e,r,%[o,h,i,j,u,v,Zq I r|w]|x]
 | p B n b l c z q k e d g=>cases d
def rY(d:cG a ys h):aW P w H h a (.ext (cG a ys)):=by refine%[d,?_|λ c f q k=>?_];{obtain⟨_,_,_,o,_,e,_⟩:=d;exact%[o|e]};{obtain⟨z,y,n,o,b,e,r⟩:=q;exact%[z,y,n,o,b,k o e|r]}
def DX{k:Nat}{kcs:Kc}(h:O.A[k]? =some (a,true)):rQ K (Itm a kcs.length) O H (λ S=>S[k]? =some (.non::kcs.map encC)) (kcs.map encC):=by
 intro j s S' P M T i;have R:j.A[k]? =some (a,true):=P.lc k _ h;have U:=M.dob k a _ R T;obtain⟨f,e,r⟩:∃f,s a=some (.ext (cG a f))/\Kcs K j s f (kcs.map encC):=by
  cases U with
  | t Y e r=>cases r
  | c f n e r=>cases r
  | o f n e r=>cases r
  | m f d' w e r=>obtain⟨_,rfl⟩:=gv w;exact%[f,e|r]
  | p ps n b l c z q k e w g=>cases w
 have J:=r.length;have C:∀(kcs:Kc)(f:Cy),Kcs K j s f (kcs.map encC)->∀(i:Nat)(kv:%[|15]×D),kcs[i]? =some kv->∃b u v,f[i]? =some (kv.1,b,u)/\Rep K j s (.ref b) (cD kv.1)/\RelV v u/\Rep K j s v kv.2:=by
  intro kcs
  induction kcs with
  | nil=>intro f r i kv h;simp at h
  | cons X kcs W=>
    intro f r i kv h;obtain⟨b,u,v,G,rfl,rk,rv,rd,t⟩:=r.inv
    cases i with
    | zero=>cases h;exact%[b,u,v,rfl,rk,rv|rd]
    | succ i=>obtain⟨b,u,v,A,E⟩:=W G t i kv (by simpa using h);exact%[b,u,v,by simpa using A|E]
 refine%[λ d w=>?_|λ V=>%[f,e,J|by rw[V,y7];exact y9 _]];obtain⟨kv,F,rfl⟩:=bR w;obtain⟨b,u,v,A,E,I,Q⟩:=C kcs f r i kv F;refine%[%[f,kv.1,b,u,v,e,J,A|I]|λ x N y=>?_];obtain⟨p,b2,u2,v2,B,uq,r2,rfl,rfl⟩:=y;obtain⟨c2,L⟩:=uq f e;rw[A]at L;cases L;obtain rfl:=Vr I r2;have Z:¬j.has p:=λ z=>M.tracked z B;exact%[fW.fresh B _|.tup %[Z|aQ] (.cons (E.mono (Step.fresh B _)) (.cons (Q.mono (Step.fresh B _)) .nil))]
end
section
variable{X:Cx}{Γ:Gam}{S:Store}{W:WD}{pos:Pos}
def Vw(hu:%[|36])(m:M2 X o "get" r e f t)
 (h:Ev X Γ S o λ x S1=>∃k,x=.dlo k/\k<S1.length/\Ev X Γ S1 e λ y S2=>Ev X Γ S2 f λ z S3=>∃c kvs,y=cD c/\S3[k]? =some (.non::List.map encC kvs)/\W ((aC kvs c).getD z) S3):Ev X Γ S (.Call (.Attribute o "get" r) [e,f] [] t) W:=by intro j s Q H O I A st;refine wpAny_Call_method m.base m.few m.line PySem.F.plainAttrs_dict PySem.F.slot_dict_get PySem.F.type_dict_get (thn (h j s Q H O I A st) λ u s1 i=>?_);obtain⟨x,Y,T,rx,q⟩:=i;obtain⟨O1,xd,S1,⟨k,rfl,hk,he⟩,l,C,D⟩:=q;obtain⟨a,rfl,V,N⟩:=dM D;obtain rfl:u=Value.ref a:=rx;obtain⟨t1,t2,_⟩:=(C.dob k a S1[k] V (y3 hk)).typ N T;refine%[t1,t2|?_];rw[m.trees];refine Calls.callWith_builtin rfl (Calls.evalArgs_plain (eI (thn (he j s1 Q Y O1 T (A.mono l) C) λ iv s2 i=>?_)));obtain⟨y,Z,I2,ry,q2⟩:=i;obtain⟨O2,yd,S2,M,n,P,g⟩:=q2;refine eI (thn (M j s2 Q Z O2 I2 ((A.mono l).mono n) P) λ fv s3 i=>f8 ?_);obtain⟨z,R,F,rz,q3⟩:=i;obtain⟨G,zd,S3,⟨c,kvs,rfl,hs,w⟩,p,B,E⟩:=q3;have L:G.A[k]? =some (a,true):=p.conv.lc k _ (n.conv.lc k _ V);obtain⟨hd,mu,ys,_,kc,dm,hz⟩:=nU F (B.dob k a _ L hs);have U:=dm.of;have g:=g.mono p;obtain⟨b,rfl⟩:=jH g;obtain rfl:iv=Value.ref b:=ry;refine call_meetsIn PySem.F.slot_dict_get U.typeIs PySem.F.entry_dict_get (PySem.F.args_dict_get_3 _ _ _) (meetsH_dict_get_default (cI X.prog X.w) a b hd fv) %[by show X.A.units+1+5<cLine;omega,c,ys,gK F g rfl,U|?_];rcases kc.look c with⟨J,K⟩ | ⟨d,b',u',v,J,K,rv,rd⟩;{rw[J]at w;rw[K];exact%[z,R,F.tok _,rz,G,zd,S3,w,(l.trans n).trans p,B|E]};{rw[J]at w;rw[K];exact%[v,R,F.tok _,rv,G,d,S3,w,(l.trans n).trans p,B|rd]}
def aaZ(hu:%[|36])(hs:Eu e)
 (h:Ev X Γ S o λ x S1=>∃k,x=.dlo k/\Ev X Γ S1 e λ y S2=>∃c kvs d,y=cD c/\S2[k]? =some (.non::List.map encC kvs)/\aC kvs c=some d/\W d S2):Ev X Γ S (.Subscript o e pos) W:=by intro f s F H O I j st;refine yX md.lookup hs (thn (h f s F H O I j st) λ u s1 i=>?_);obtain⟨x,G,K,Z,q⟩:=i;obtain⟨L,xd,S1,⟨k,rfl,Q⟩,n,B,m⟩:=q;obtain⟨a,rfl,N,_⟩:=dM m;obtain rfl:u=Value.ref a:=Z;refine thn (Q f s1 F G L K (j.mono n) B) λ R s2 i=>?_;obtain⟨y,J,t,ry,U⟩:=i;obtain⟨C,yd,S2,⟨c,kvs,d,rfl,hs,r,w⟩,p,l,g⟩:=U;have A:C.A[k]? =some (a,true):=p.conv.lc k _ N;obtain⟨P,mu,ys,_,T,M,hz⟩:=nU t (l.dob k a _ A hs);have D:=M.of;obtain⟨b,rfl⟩:=jH g;obtain rfl:R=Value.ref b:=ry;rcases T.look c with⟨z,E⟩ | ⟨d',b',u',v,z,E,Y,V⟩;{rw[z]at r;cases r};{rw[z]at r;cases r;exact%[D.typeIs|wpAny_getItem_heap (by show X.A.units+1+5<cLine;omega) (gK t g rfl) D E %[v,J,t.tok _,Y,C,_,S2,w,n.trans p,l|V]]}
def aaE{W}(hu:%[|36])(hs:swapsWith e (some (.Subscript o i z)) pos.line X.env=pure false)
 (h:Ev X Γ S e λ d S1=>Ev X Γ S1 o λ x S2=>Ev X Γ S2 i λ y S3=>∃k c kvs,x=.dlo k/\y=cD c/\S3[k]? =some (.non::List.map encC kvs)/\kvs.length<1000000/\W.nx Γ (S3.set k (.non::(putD kvs c d).map encC))):Rn X Γ S (.Assign [.Subscript o i z] e pos) W:=by intro g s E H O I l st;refine n3 (thn (h g s E H O I l st) λ r s1 f=>?_) hs;obtain⟨v,V,Z,rv,q⟩:=f;obtain⟨O1,d,S1,h1,n,M,B⟩:=q;refine thn (h1 g s1 E V O1 Z (l.mono n) M) λ u s2 f=>?_;obtain⟨x,Y,I2,rx,q⟩:=f;obtain⟨O2,dx,S2,h2,p,N,C⟩:=q;refine thn (h2 g s2 E Y O2 I2 ((l.mono n).mono p) N) λ iv s3 f=>?_;obtain⟨y,H3,F,ry,q⟩:=f;obtain⟨O3,dy,S3,⟨k,c,kvs,rfl,rfl,hk,hz,w⟩,t,A,j⟩:=q;have P:=C.mono t;obtain⟨a,rfl,J,_⟩:=dM P;obtain rfl:u=Value.ref a:=rx;obtain⟨b,rfl⟩:=jH j;obtain rfl:iv=Value.ref b:=ry;obtain⟨hd,mu,D,_,U,R,L⟩:=nU F (A.dob k a _ J hk);have dd:=R.of;have rd:=(B.mono p).mono t;have hl:=Ng D c b r;have aa:=U.length;refine Zn (by show X.A.units+1+5<cLine;omega) (gK F j rfl) R L λ h' tk G K=>?_;obtain⟨q,es,T,g2,g3,g4,_,g5⟩:=G;have cd:cG a (storedH D c b r) h':=%[by rw[ib];omega,hd,g5,q,es,T,g2,g3|g4];have Q:=Step.put (O:=O3) (H:=H3) (bU J) (.ext (cG a (storedH D c b r)));refine%[E,upd H3 a (.ext (cG a (storedH D c b r))),jJ F mu K %[q|T] (rY cd),O3,Γ,_,w,((n.trans p).trans t).trans Q,A.putO J (.m _ _ rfl aQ ((U.put j rv rd).conv Q.conv))|(((l.mono n).mono p).mono t).mono Q]
end
section
variable{Ω:Wd}
def DW(y:D)(S:Store)(k:Nat)(W:Kc->%[|15]->Prop):Prop:=∃c a,y=cD c/\S[k]? =some (.non::List.map encC a)/\W a c
def ad7(o a:Ex Ω):Ex Ω where
 lev:=max o.lev a.lev
 chk f N h e:=match e with | .Subscript l r _=>okE r&&(o.chk f N h l&&a.chk f N h r) | _=>false
 wp i S W:=o.wp i S λ x j=>onD x λ k=>a.wp i j λ y g=>DW y g k λ b c=>∃d,aC b c=some d/\W d g
 sound:=by
  intro X r f N h e i S W A t m u;obtain⟨v,z⟩:=lv2 t
  cases e with
  | Subscript l C B=>refine an3 m λ n p s=>?_;refine aaZ A.hu (nP n) ((o.sound A v p u).mono λ x j q=>?_);refine fB q λ k q=>?_;exact%[k,rfl|(a.sound A z s q).mono λ y g ⟨ns,b,e1,e2,d,e3,w⟩=>%[ns,b,d,e1,e2,e3|w]]
  | _=>exact fE m
def adQ(o i a:Ex Ω):Sm Ω where
 lev:=max a.lev (max o.lev i.lev)
 chk f N h u:=ixB u λ x y e=>noC e&&(okE y&&(a.chk f N h e&&(o.chk f N h x&&i.chk f N h y)))
 wp g S W:=a.wp g S λ d n=>o.wp g n λ x s=>i.wp g s λ y j=>onD x λ k=>DW y j k λ b c=>b.length<1000000/\W.nx g (j.set k (.non::(putD b c d).map encC))
 sound:=by intro X r f N h u g S W A G l H;obtain⟨I,m⟩:=lv2 G;obtain⟨m,J⟩:=lv2 m;refine sZ l λ x y p e t l=>?_;{refine an5 l λ C L D E F=>?_;refine aaE A.hu ?_ ((a.sound A I D H).mono λ d n q=>(o.sound A m E q).mono λ x s q=>(i.sound A J F q).mono λ y j q=>?_);{exact iD C _ _ _};{refine fB q λ k q=>?_;obtain⟨K,b,v,z,B,w⟩:=q;exact%[k,K,b,rfl,v,z,B|w]}}
def adK(o a b:Ex Ω):Ex Ω where
 lev:=max o.lev (max a.lev b.lev)
 chk d N h e:=pM e λ x m p B q=>two2 B λ y z=>(m==("get":Str))&&(nameE x&&((p.endLine==q.line)&&(okE y&&(okE z&&(o.chk d N h x&&(a.chk d N h y&&b.chk d N h z))))))
 wp i S W:=o.wp i S λ x j=>onD x λ k=>k<j.length/\a.wp i j λ y v=>b.wp i v λ z l=>DW y l k λ f c=>W ((aC f c).getD z) l
 sound:=by intro X r d N h e i S W A K s L;obtain⟨M,u⟩:=lv2 K;obtain⟨u,O⟩:=lv2 u;refine iJ s λ x m p B q t=>?_;refine two2_ind t λ y z s=>?_;{refine an8 s λ D E F G n H I J=>?_;have e:=ZU D;subst e;have C:=aJ G;have g:=aJ n;refine Vw A.hu %[?_,by rw[C,g];rfl,F|by rw[C,g];rfl] ((o.sound A M H L).mono λ x j q=>?_);{exact fK E};{refine fB q λ k q=>?_;exact%[k,rfl,q.1|(a.sound A u I q.2).mono λ y v q=>(b.sound A O J q).mono λ z l ⟨ns,f,e1,e2,w⟩=>%[ns,f,e1,e2|w]]}}
end
def Z9{K}(s:StOk K O H S)(h:H p=none){o}(r:DOb K (O.more p true) (upd H p o) p ds):
 StOk K (O.more p true) (upd H p o) (S++[ds]):=by have i:=Step.own (O:=O) h o true;have l:=s.fresh_not h;refine%[v9 s.nd λ z=>l (.inl z),by simp[s.len],λ k a f c d=>?_,λ k a f c d=>?_,λ a j=>?_|λ b m=>i.dom b (s.hidden b m)];{rcases je c with c | ⟨rfl,e⟩;{have g:=(z0.mp c).1;rw[x9 (by rw[<-s.len];exact g)]at d;obtain⟨t,q,n⟩:=s.obj k a f c d;exact%[t,by rw[az (aL q h)];exact q|n.mono i]};{cases e}};{rcases je c with c | ⟨rfl,e⟩;{have g:=(z0.mp c).1;rw[x9 (by rw[<-s.len];exact g)]at d;exact(s.dob k a f c d).move i.conv λ o q=>by rw[az (aL q h)];exact q};{cases e;rw[da (by rw[s.len];exact y9 _),s.len,nX]at d;cases d;exact r}};{rw[cT]at j;rcases cq.mp j with z | z;{exact s.apart a z};{rw[bX.mp z];exact λ q=>l (.inr q)}}
def K4{h:Heap}(a:sysModules<h.objs.size):cG h.objs.size [] (h.push {cls:=.type "dict",data:=.dict #[]}):=
 %[dr _,ma.mpr (kA (cm a)),iA,_,#[],c9 _ rfl,%[rfl,rfl|rfl],rfl|rfl]
section
variable{X:Cx}{Γ:Gam}{S:Store}{W:WD}{pos:Pos}
def Yp(h:W %[|22] (S++[[.non]])):Ev X Γ S (.Dict [] [] pos) W:=by intro d s g H O I f e;have b:=I.hok.fresh (y9 s.heap.objs.size);refine wpAny_Dict_empty %[%[|11],_,I.laid (a:=s.heap.objs.size) (o:=.ext (cG s.heap.objs.size [])) (t':=s.toks) (λ _ _ q=>bE _ q) (y9 _) (rY (K4 I.big)),rfl|?_];exact%[O.more s.heap.objs.size true,%[|22],S++[[.non]],h,Step.own b _ true,Z9 e b (.m [] [] rfl aQ .nil)|.dlo (by show(O.A++[(s.heap.objs.size,true)])[S.length]? =some (s.heap.objs.size,true);rw[<-e.len];simp) λ c o q=>c8 (I.kIn c o q)]
def X4(hu:%[|36])(h:Ev X Γ (S++[[.non]]) L λ y S1=>Ev X Γ S1 P λ z S2=>∃c,y=cD c/\S2[S.length]? =some [.non]/\W %[|22] (S2.set S.length (.non::[((c,z):%[|15]×D)].map encC))):Ev X Γ S (.Dict [some L] [P] pos) W:=by
 intro e s G H O I l N;have J:=I.hok.fresh (y9 s.heap.objs.size);have R:Inv X e G (upd H s.heap.objs.size (.ext (cG s.heap.objs.size []))) {s with heap:=s.heap.push {cls:=.type "dict",data:=.dict #[]}}:=I.laid (a:=s.heap.objs.size) (o:=.ext (cG s.heap.objs.size [])) (t':=s.toks) (λ _ _ q=>bE _ q) (y9 _) (rY (K4 I.big));have i:=Step.own (O:=O) J (.ext (cG s.heap.objs.size [])) true;have E:StOk X.K (O.more s.heap.objs.size true) (upd H s.heap.objs.size (.ext (cG s.heap.objs.size []))) (S++[[.non]]):=Z9 N J (.m [] [] rfl aQ .nil);have r:(O.more s.heap.objs.size true).A[S.length]? =some (s.heap.objs.size,true):=by show(O.A++[(s.heap.objs.size,true)])[S.length]? =some (s.heap.objs.size,true);rw[<-N.len];simp
 have w:Abv X.K s.heap.objs.size:=λ c o q=>c8 (I.kIn c o q);refine wpAny_Dict_any rfl rfl (by simp) (show 1<=15 by decide) ?_;generalize s.heap.objs.size=p at*;refine evalPairs_cons (thn (h e _ G _ _ R (l.mono i) E) λ ku s1 f=>?_);obtain⟨kx,Q,T,rk,U,kd,S1,h1,j,C,t⟩:=f;refine b0 (thn (h1 e s1 G Q U T ((l.mono i).mono j) C) λ F s2 f=>?_);obtain⟨vx,H2,v,rv,O2,vd,S2,⟨c,rfl,hS,hw⟩,k,n,u⟩:=f;refine b0 (lP (b9 (evalPairs_nil ?_)));have d:O2.A[S.length]? =some (p,true):=k.conv.lc _ _ (j.conv.lc _ _ r);obtain⟨hd,mu,ys,eH,kc,Y,hz⟩:=nU (kcs:=[]) v (n.dob _ _ _ d hS);cases kc;have g:=t.mono k;obtain⟨b,rfl⟩:=jH g;obtain rfl:ku=Value.ref b:=rk;unfold storeAll;rw[mf];refine b0 (b0 (Ky (c:=c) %[|0] (gK v g rfl) Y hz λ h' tk x B=>b9 ?_));show wpAny _ _ (forIn [] _ _) _ _ _;rw[l8];refine b9 ?_;obtain⟨q,Z,K,g2,g3,g4,_,g5⟩:=x;have V:cG p (storedH [] c b F) h':=%[by rw[ib];show 1<=_;omega,hd,g5,q,Z,K,g2,g3|g4];have M:=Step.put (O:=O2) (H:=H2) (bU d) (.ext (cG p (storedH [] c b F)));exact%[.ref p,upd H2 p (.ext (cG p (storedH [] c b F))),jJ v mu B %[q|K] (rY V),rfl,O2,%[|22],_,hw,((i.trans j).trans k).trans M,n.putO d (.m _ _ rfl aQ ((Kcs.put (kcs:=[]) .nil g rv u).conv M.conv))|.dlo d w]
def Ut{W}(r:attributeBase o "items" X.env (eval o X.env)=eval o X.env)(N:(f.endLine==c.line)=true)
 (h:Ev X Γ S o λ d S1=>∃k kvs,d=.dlo k/\S1[k]? =some (.non::List.map encC kvs)/\W (kvs.map encC) (λ S=>S[k]? =some (.non::kvs.map encC)) S1):ItC X Γ S (.Tuple i n Z) (.Call (.Attribute o "items" f) [] [] c) W:=by
 intro m s σ H O I q U;refine wpAny_Call_method (T:="dict") (id:="dict.items") r rfl N F.plainAttrs_dict F.slot_dict_items F.type_dict_items (thn (h m s σ H O I q U) λ u s1 v=>?_);obtain⟨x,C,g,R,E,xd,S1,⟨k,kvs,rfl,M,w⟩,y,l,p⟩:=v;obtain⟨a,rfl,B,t⟩:=dM p;obtain rfl:u=Value.ref a:=R;have A:=l.dob k a _ B M;obtain⟨z,V,Y⟩:=A.typ t g;obtain⟨_,mu,ys,eH,Q,⟨oo,es,J,g2,K,L,_,_⟩,hz⟩:=nU g A;refine%[z,V|?_];show wpAny _ _ (callWith c (.builtin "dict.items") [.ref a] [] []) _ _ s1;refine method_meetsIn F.slot_dict_items F.entry_dict_items rfl (PySem.evalArgs_none %[rfl,z,F.args_dict_items_1 _,_,Jb Y,z|?_]);have G:es.size=ys.length:=by rw[<-eW,L,y7]
 refine Oa (d:=a) (es:=es) (ep:=ys.length) (od:=oo) %[_,c9 _ rfl,rfl|rfl] (bE _ J) K ?_;have P:=Q.length;rw[G,P];have j:s1.heap.objs.size<=(s1.heap.push {cls:=.type "dict_items",data:=.fields #[.ref a]}).objs.size:=by rw[fx];exact hZ _
 refine%[_,[(s1.heap.push {cls:=.type "dict_items",data:=.fields #[.ref a]}).objs.size],_,_,C,rfl,g.kept (t':=s1.toks) (λ b o e=>bE _ (bE _ e)),Mm a _ kvs.length,%[.none,.none|c9 _ rfl],λ b r=>?_,E,kvs.map encC,_,S1,w,y,l|DX B];rw[bX.mp r];exact g.fpOk j (g.hok.fresh j)
end
section
variable{Ω:Wd}
def adR:Ex Ω where
 lev:=0
 chk f N i e:=anB (LR e) λ z=>uK z.1 (uK z.2 true)
 wp l S W:=W %[|22] (S++[[.non]])
 sound:=by intro X r f N i e l S W A m d g;obtain⟨⟨h,k⟩,a,b⟩:=bz d;clear d;obtain⟨j,a⟩:=yE a;subst a;obtain⟨a,c⟩:=jE b;clear b;have a:h=[]:=a;subst a;obtain⟨a,d⟩:=jE c;clear c;have a:k=[]:=a;subst a;{exact Yp g}
def aeh(a b:Ex Ω):Ex Ω where
 lev:=max a.lev b.lev
 chk f N k e:=anB (LR e) λ z=>cM z.1 λ o=>anB o λ x=>cM z.2 λ y=>a.chk f N k x&&b.chk f N k y
 wp l S W:=a.wp l (S++[[.non]]) λ y m=>b.wp l m λ z n=>∃c,y=cD c/\n[S.length]? =some [.non]/\W %[|22] (n.set S.length (.non::[((c,z):%[|15]×D)].map encC))
 sound:=by intro X r f N k e l S W A t j u;obtain⟨w,B⟩:=lv2 t;obtain⟨⟨v,E⟩,d,g⟩:=bz j;clear j;obtain⟨C,d⟩:=yE d;subst d;obtain⟨o,d,h⟩:=fG g;clear g;have d:v=[o]:=d;subst d;obtain⟨x,d,i⟩:=bz h;clear h;subst d;obtain⟨y,d,j⟩:=fG i;clear i;have d:E=[y]:=d;subst d;{refine an2 j λ p s=>?_;exact X4 A.hu ((a.sound A w p u).mono λ y m q=>b.sound A B s q)}
@[irreducible] noncomputable def Mh(Γ:Gam)(tg:Tg)(body:Bl Ω)(W:DL.Fin)(k:Nat)(kvs:Kc)(S1:Store):Prop:=
  ∃c:Nat->Gam->%[|4],c 0 Γ S1/\(∀i a b,c i a b->b[k]? =some (.non::kvs.map encC))/\(∀i e a b,kvs[i]? =some e->c i a b->tg.wp (encC e) a λ d=>body.wp d b {W with nx:=c (i+1),ct:=c (i+1),bk:=W.nx})/\(∀a b,c kvs.length a b->W.nx a b)
def K1{a:Bl Ω}(h:∃Pv:Nat->Gam->%[|4],Pv 0 d b/\(∀i Γ' S',Pv i Γ' S'->S'[k]? =some (.non::kvs.map encC))/\(∀i kv Γ' S',kvs[i]? =some kv->Pv i Γ' S'->c.wp (encC kv) Γ' λ Γ2=>a.wp Γ2 S' {W with nx:=Pv (i+1),ct:=Pv (i+1),bk:=W.nx})/\(∀Γ' S',Pv kvs.length Γ' S'->W.nx Γ' S')):Mh d c a W k kvs b:=by unfold Mh;exact h
def adZ(tg:Tg)(o:Ex Ω)(body:Bl Ω):Sm Ω where
 lev:=max o.lev body.lev
 chk c N s H:=frB H λ t G b=>pM G λ x m p z q=>uK z (zm t&&((m==("items":Str))&&(nameE x&&((p.endLine==q.line)&&(tg.chk c N s t&&(o.chk c N s x&&body.chk c N s b))))))
 wp E S W:=o.wp E S λ d w=>match d with
  | .dlo k=>∃a,w[k]? =some (.non::List.map encC a)/\Mh E tg body W k a w
  | _=>False
 sound:=by
  intro X r c N s H E S W A R B U;obtain⟨Y,Z⟩:=lv2 R;refine xr B λ t G b aa C=>?_;refine iJ C λ x m p z q g=>?_;obtain⟨y,h⟩:=jE g;clear g;subst y;refine an2 h λ T B=>?_;clear h;obtain⟨z,n,tp,y⟩:=mV T;subst y
  . refine an6 B λ I J K L M O=>?_;have e:=ZU I;subst e;refine PB (Ut (fK J) K (Ev.mono (o.sound A Y M U) λ d w q=>?_)) (by rw[A.xe];exact me) A.calm (λ _=>rfl)
    cases d with
    | dlo k=>obtain⟨a,Q,q⟩:=q;unfold Mh at q;obtain⟨u,p0,pC,pt,pe⟩:=q;refine%[k,a,rfl,Q,u,p0,pC,λ i d f v P l=>?_|λ f v l=>pe f v (by rw[y7]at l;exact l)];obtain⟨V,D,rfl⟩:=bR P;exact BdW.mono (Tg.sound A (W:=λ j F=>body.wp j F {W with nx:=u (i+1),ct:=u (i+1),bk:=W.nx}) L (pt i V f v D l)) λ j F q=>body.sound A Z O q
    | _=>exact(show False from q).elim
end
end RF
namespace RF
open PySem PySem.Spec L2 DL
open PyProof.Rows
section
variable{P:Program}{w:World}{A:Around}{E:%[|25]}{s:Shared}{d it:Addr}{i ep:Nat}{es:Array DictEntry}{od:Obj}{e:DictEntry}
def Ua(f:s.heap.get? d=some od)(b:od.data=.dict es ep)(c:s.heap.IsKeyIter it d i es.size ep)(m:es[i]? =some e)
 (k:∀h',h'.IsKeyIter it d (i+1) es.size ep->Heap.SameBut it s.heap h'->Q (some e.key) %[|20]):wpAny (model P w) A (pyNext (.ref it)) Q E s:=by
 obtain⟨o,j,l,h⟩:=id c;have T:=c.typeIs;have g:Builtin.Dict_items.ownsTuple "dict_keyiterator"=false:=%[|1]
 unfold pyNext;refine b0 (ko (wpAny_callSpecial?_slot (name:=Str.ofString "__next__") T i4 (dA i4 T F.entry_dict_keyiterator_next ?_ (F.args_dict_keyiterator_next_1 _))));refine b0 (b9 (b0 (b0 ?_)));refine b0 (jp T (b9 (b0 (l9 j h ?_))));simp only[g,cy,ef];show wpAny _ _ (if(Value.ref d==Value.none)=true then _ else _) _ _ s;rw[bP (show ¬((Value.ref d==Value.none)=true)from y6)];refine b0 (b9 (b0 (gI f b ?_)));rw[bP (by simp)];refine b0 (b9 (b0 (kg f b ?_)));rw[bP (by simp)];refine b9 ?_;simp only[show ¬((i:Int)<0)from %[|0],ef,dk,m];refine b0 ?_;refine b0 (jp T (b9 (b0 (wpAny_isOneOf_keyiter T ?_))));show wpAny _ _ (setField (.ref it) 1 (rawInt ((i:Int)+1))>>=_) _ _ s;refine b0 (jS j h (by simp) ?_);have a:(s.heap.update it (Obj.mapFields (·.setIfInBounds 1 (rawInt ((i:Int)+1))))).IsKeyIter it d (i+1) es.size ep:=
  %[_,fS _ j (Obj.isFreed_of_fields (mn h _)),(Obj.cls_mapFields ..).trans l|by rw[mn h];simp[rawInt]];refine b0 (eu (b0 (wpAny_isOneOf_keyiter (s:={s with heap:=s.heap.update it (Obj.mapFields (·.setIfInBounds 1 (rawInt ((i:Int)+1))))}) a.typeIs ?_)));show wpAny _ _ (pure e.key) _ _ _;exact b9 (b9 %[_,rfl|b9 (k _ a (ej ..))])
def Xi(hh:A.handled=none)(f:s.heap.get? d=some od)(c:od.data=.dict es ep)(e:s.heap.IsKeyIter it d i es.size ep)(l:es.size<=i)
 (k:∀h',Heap.ExtBut it s.heap h'->Q none %[|20]):wpAny (model P w) A (pyNext (.ref it)) Q E s:=by
 obtain⟨o,j,n,h⟩:=id e;have T:=e.typeIs;have g:Builtin.Dict_items.ownsTuple "dict_keyiterator"=false:=%[|1]
 unfold pyNext;refine b0 (ko (wpAny_callSpecial?_slot (name:=Str.ofString "__next__") T i4 (dA i4 T F.entry_dict_keyiterator_next ?_ (F.args_dict_keyiterator_next_1 _))));refine b0 (b9 (b0 (b0 ?_)));refine b0 (jp T (b9 (b0 (l9 j h ?_))));simp only[g,cy,ef];show wpAny _ _ (if(Value.ref d==Value.none)=true then _ else _) _ _ s;rw[bP (show ¬((Value.ref d==Value.none)=true)from y6)];refine b0 (b9 (b0 (gI f c ?_)));rw[bP (by simp)];refine b0 (b9 (b0 (kg f c ?_)));rw[bP (by simp)];refine b9 ?_;simp only[show ¬((i:Int)<0)from %[|0],ef,dk,gx l];refine b0 ?_;refine b0 (jp T (b9 ?_));show wpAny _ _ (setField (.ref it) 0 .none>>=_) _ _ s;refine b0 (jS j h (by simp) ?_);show wpAny _ _ (newExc (.type "StopIteration") []>>=_) _ _ _;refine b0 ?_;simp only[newExc,newTuple];refine b0 (dQ (b0 (m:=firstArgMember _ _) (wpAny_of_eq (a:=Value.none) (by first | rfl | (simp only[firstArgMember];rfl)) (dQ ?_ (by size_fits)))) (by size_fits));simp only[raiseNew];refine b0 (wpAny_handled ?_);rw[show A.in1.handled=none from hh];refine b0 (b9 (wpAny_throw ?_));refine b0 (gt (T:="StopIteration") (b:=true) %[_,c9 _ rfl|rfl] isSubtype_stop ?_);exact b9 (k _ (((ej ..).extBut.push _).push _))
def QD(lo:(d==sysModules)=false)(a:s.heap.get? d=some od)(hc:od.ExactDict)(b:od.data=.dict es ep)
 (c:Q %[|11] {s with heap:=s.heap.push {cls:=.type "dict_keyiterator",data:=.fields #[.ref d,.int 0 0,.int es.size 0,.int ep 0]}}):wpAny (model P w) A (pyIter (.ref d)) Q E s:=by have T:s.TypeIs (.ref d) "dict":=%[od,a|hc.1];refine kR T F.slot_dict_iter (dA F.slot_dict_iter T F.entry_dict_iter ?_ (F.args_dict_iter_1 _));unfold Builtin.«dict.__iter__»;refine b0 ?_;unfold Builtin.Dict.dictSlotNone;refine b0 (ny T ?_);show wpAny _ _ (pure (Value.ref d)) _ _ s;refine b9 ?_;show wpAny _ _ (Builtin.Dict.showsAll d>>=_) _ _ s;unfold Builtin.Dict.showsAll;rw[bP (by rw[lo];exact y6)];refine b0 (b9 (b0 (gI a b (b0 (kg a b ?_)))));refine b0 (dQ (b9 %[_,rfl,"dict_keyiterator",_,%[_,c9 _ rfl|rfl],i4.lookup|?_]));simpa[rawInt]using c
def DEs(d:Addr)(es:Array DictEntry)(ep:Nat)(h:Heap):Prop:=∃o,h.get? d=some o/\o.ExactDict/\o.data=.dict es ep
theorem Qh(hh:A.handled=none)(I:Addr)(p:d≠I):Walks P w A I [I,d] [I] es.size (λ i v=>∃e,es[i]? =some e/\v=e.key) (λ i h=>h.IsKeyIter I d i es.size ep/\DEs d es ep h) where
 sub:=λ b c=>by simp at c;simp[c]
 frame:=λ _ _ _ st q=>%[st.1.at λ o e=>q I (by simp) o e|let ⟨o,a,k⟩:=st.2;%[o,q d (by simp) o a|k]]
 item:=λ i s Q E t st f=>by obtain⟨o,a,k,l⟩:=st.2;obtain⟨e,r⟩:∃e,es[i]? =some e:=%[es[i]|by simp[t]];exact Ua a l st.1 r λ m g j=>f e.key m s.toks %[e,r|rfl] %[g,o,j.extBut d o p a,k|l] λ b o c e=>j.extBut b o (λ h=>c (by simp[h])) e
 done:=λ s Q E st f=>by obtain⟨o,a,k,l⟩:=st.2;exact Xi hh a l st.1 (y9 _) λ m n=>f m s.toks λ b o c e=>n b o (λ h=>c (by simp[h])) e
 self:=λ _ _ _ _ st f=>wpAny_pyIter_keyiter st.1 f
theorem Wc(lo:(d==sysModules)=false):PySem.W.KdlSrc P w "dict" d d es.size (λ i v=>∃e,es[i]? =some e/\v=e.key) (DEs d es ep) where
 type:=λ _ ⟨o,g1,g2,_⟩=>%[o,g1|g2.1]
 there:=λ _ ⟨o,g1,_⟩=>%[c8 g1|c8 g1]
 keep:=λ _ _ ⟨o,g1,g2⟩ c=>%[o,c d (.inl rfl) o g1|g2]
 notList:=%[|1]
 notTuple:=%[|1]
 hint:=λ _ _ _ _ ⟨o,g1,g2,_⟩ a=>PySem.W.kdl_hint_dict %[o,g1|g2.1] a
 iter:=λ _ _ b ⟨o,g1,g2,g3⟩=>%[_,_,(λ _ _ a=>QD lo g1 g2 g3 a),Qh b _ (cm (c8 g1))|%[%[_,c9 _ rfl,rfl|rfl]|%[o,bE _ g1,g2|g3]]]
def El(hh:A.handled=none)(lo:(d==sysModules)=false)(p:DEs d es ep s.heap)(G:es.size<=sizeLine)
 (z:∀h' tk,(∀b o,%[|32])->s.heap.objs.size<=h'.objs.size->Q (es.toList.map (·.key)) {s with heap:=h',toks:=tk}):wpAny (model P w) A (collect (.ref d)) Q E s:=by
 have m:d<s.heap.objs.size:=let ⟨_,g,_⟩:=p;c8 g;have h:s.heap.objs.size≠d:=g7 m;unfold collect;refine b0 (wpAny_runValue (i7 F.entry_proto_collect ?_));rw[i0 F.plain_proto_collect _];show wpAny _ A.in1 (newList []>>=λ l=>again (.builtin "list.__iadd__" %[[l,.ref d]|[]])) _ _ s;refine b0 (dQ ?_);refine b9 %[nh mP _|i7 F.entry_list_iadd ?_];rw[i0 mP _];have B:%[|45].get? s.heap.objs.size=some %[|57]:=c9 _ rfl;show wpAny _ A.in1 (Builtin.List.listExtendWith %[|11] (.ref d) %[|11]) _ _ _;have k:DEs d es ep %[|45]:=let ⟨o,g1,g2⟩:=p;%[o,bE _ g1|g2];let R:Result->Shared->Prop:=λ r t=>match r with
  | Except.ok (Flow.ret v)=>wpAny (model P w) A (match v with | Value.ref a=>(do let o <-load a;match o.data with | Data.seq xs _=>pure xs.toList | _=>unsupported "internal:collect") | _=>unsupported "internal:collect") Q E t
  | Except.ok _=>False
  | Except.error e=>E e t;refine PySem.W.kdl_extend (R:=R) (s:={s with heap:=%[|45]}) (Wc lo) hh k s.heap.objs.size h h _ 0 B (λ h' tk c H D f hacc=>?_) G;show wpAny (model P w) A (load s.heap.objs.size>>=_) Q E _;refine b0 (wpAny_load f ?_);have y:c.toList=es.toList.map (·.key):=by
  refine kw λ j=>?_;rw[y8,ge,ge];by_cases C:j<es.size
  . have n:j<c.size:=by rw[hacc.1];exact C
    obtain⟨e,u,x⟩:=hacc.2 j c[j] (by simp[n]);rw[u,iF n,x];rfl
  {rw[gx (by rw[hacc.1];omega),gx %[|0]];rfl}
 have i:∀b o,%[|32]:=λ b o q=>D b o (cm (c8 q)) (bE _ q);have:=z h' tk i (eJ (c8 f));rw[<-y]at this;exact b9 this
end
def Vi(x y:Int)(xs ys:ae0):ltI (x::xs) (y::ys)=if x=y then ltI xs ys else decide (x<y):=by unfold ltI;rw[show decide ((x::xs).length<(y::ys).length)=decide (xs.length<ys.length) by simp];rfl
def yh(xs:ae0):ltI xs []=false:=by unfold ltI;rw[cE (by simp)];cases xs<;>rfl
def abr(h1:ltI a b=true)(h2:ltI b c=true):ltI a c=true:=by
 induction a generalizing b c with
 | nil=>
   cases c with
   | nil=>rw[yh]at h2;cases h2
   | cons z c=>rfl
 | cons x a f=>
   cases b with
   | nil=>rw[yh]at h1;cases h1
   | cons y b=>
     cases c with
     | nil=>rw[yh]at h2;cases h2
     | cons z c=>rw[Vi]at h1 h2 ⊢;by_cases e:x=y;{subst e;rw[ca rfl]at h1;by_cases d:x=z;{subst d;rw[ca rfl]at h2 ⊢;exact f h1 h2};{rw[bP d]at h2 ⊢;exact h2}};{rw[bP e]at h1;have h1:=ck h1;by_cases d:y=z;{subst d;rw[bP e];exact cb h1};{rw[bP d]at h2;have h2:=ck h2;rw[bP %[|0]];exact cb %[|0]}}
def Pb(h1:ltC a b=true)(h2:ltC b c=true):ltC a c=true:=by unfold ltC at*;by_cases e:a.1=b.1;{rw[ca e]at h1;by_cases d:b.1=c.1;{rw[ca d]at h2;rw[ca (e.trans d)];exact abr h1 h2};{rw[bP d]at h2;rw[bP (by rw[e];exact d),e];exact h2}};{rw[bP e]at h1;have h1:=ck h1;by_cases d:b.1=c.1;{rw[bP (by rw[<-d];exact e),<-d];exact cb h1};{rw[bP d]at h2;have h2:=ck h2;rw[bP %[|0]];exact cb %[|0]}}
def W6(n:a≠b)(h:ltC a b=false):ltC b a=true:=by
 unfold ltC at*;by_cases c:a.1=b.1
 . rw[ca c]at h;rw[ca c.symm]
   cases q:ltI b.2 a.2 with
   | true=>rfl
   | false=>exact absurd (ll c (Af h q)) n
 {rw[bP c]at h;have h:=fe h;rw[bP (λ z=>c z.symm)];exact cb %[|0]}
structure OdrL(N:Nat)(lt:ag6)(p:ae3):Prop where
 len:p.length=N
 lt_:∀i∈p,i<N
 nd:p.Nodup
 srt:p.Pairwise λ i j=>lt i j=true
def Xh(P:Pm N p)(h:Srt n p N):OdrL N n p.toList:=by
 have c:∀a,a<N->p.toList[a]? =some (p.getD a 0):=λ a d=>by
  have:a<p.size:=by rw[P.sz];exact d
  simp[this]
 have m:p.toList.length=N:=by rw[eW,P.sz]
 refine%[m,λ i o=>?_,?_|?_]
 . obtain⟨a,d⟩:=cw o;have k:a<N:=by rw[<-m];exact(z0.mp d).1
   rw[c a k]at d;cases d;exact P.lt a k
 {refine fm.mpr λ a b d l j e=>?_;have f:=c a %[|0];have g:=c b %[|0];rw[y3 d]at f;rw[y3 l,<-e]at g;have:=P.inj a b %[|0] %[|0] (cc (f.symm.trans g));omega};{refine fm.mpr λ a b d l j=>?_;have f:=c a %[|0];have g:=c b %[|0];rw[y3 d]at f;rw[y3 l]at g;rw[cc f,cc g];exact h a b j %[|0]}
def Vh(n:Nat):∀(q:ae3),q.Nodup->(∀i∈q,i<n)->q.length<=n:=by
 induction n with
 | zero=>
   intro q _ h
   cases q with
   | nil=>exact y9 _
   | cons a q=>exact absurd (h a x6) %[|0]
 | succ n f=>
   intro q d h;by_cases c:n∈q
   . have:=f (q.erase n) (d.erase n) λ i b=>by
      have:=h i (List.mem_of_mem_erase b);have:i≠n:=λ e=>by rw[e]at b;exact d.not_mem_erase b
      omega
     rw[kC c]at this;omega
   . have:=f q d λ i b=>by have:=h i b;have:i≠n:=λ e=>c (e▸b);omega
     omega
def Rm(n:Nat):∀(q:ae3),q.Nodup->(∀i∈q,i<n)->q.length=n->q.Perm %[|18]:=by
 induction n with
 | zero=>intro q _ _ f;obtain rfl:=eT f;exact .nil
 | succ n b=>
   intro q d h f;by_cases c:n∈q
   . have b:=b (q.erase n) (d.erase n) (λ i a=>by
      have:=h i (List.mem_of_mem_erase a);have:i≠n:=λ e=>by rw[e]at a;exact d.not_mem_erase a
      omega) (by rw[kC c];omega);rw[ke];exact(List.perm_cons_erase c).trans ((List.Perm.cons n b).trans (List.perm_append_singleton _ _).symm)
   . have:=Vh n q d λ i a=>by have:=h i a;have:i≠n:=λ e=>c (e▸a);omega
     omega
def OdrL.perm(h:OdrL N a p):p.Perm (List.range N):=Rm N p h.nd h.lt_ h.len
def range_getD{a:Type}(l:List a)(z:a):((List.range l.length).map λ i=>l.getD i z)=l:=by refine kw λ i=>?_;rw[y8];by_cases b:i<l.length;{simp[b]};{rw[kf (by rw[ja];omega),kf %[|0]];rfl}
section
variable{K:PySem.W.Frag}{O:Own}{H:Hp}
def Ht{kcs:Kc}(r:Kcs K O H ys (kcs.map encC)):ys.map (·.1)=kcs.map (·.1):=by
 induction kcs generalizing ys with
 | nil=>cases r;rfl
 | cons d kcs a=>obtain⟨b,u,v,c,rfl,_,_,_,t⟩:=r.inv;rw[cn,cn,a t]
def Kq{kcs:Kc}(r:Kcs K O H ys (kcs.map encC)):∀(i:Nat)(y:%[|15]×Addr×Value),ys[i]? =some y->Rep K O H (.ref y.2.1) (cD y.1):=by
 induction kcs generalizing ys with
 | nil=>cases r;intro i y h;simp at h
 | cons e kcs a=>
   obtain⟨b,u,v,d,rfl,c,_,_,t⟩:=r.inv;intro i y h
   cases i with
   | zero=>cases h;exact c
   | succ i=>exact a t i y (by simpa using h)
end
def ac0(ka:Kc):Prop:=∀kv∈ka,okD kv.2=true/\deep kv.2<=50
variable{Ω:Wd}
def Grt(i:Int):Prop:=i.natAbs<2 ^ 100000
def Hs(h:Grt i):Builtin.Int.intBits i<=100000:=by
 unfold Grt at h;unfold Builtin.Int.intBits;split;{exact dr _}
 . have:i.natAbs.log2<100000:=by rcases Nat.eq_zero_or_pos i.natAbs with a | b;{rw[a];decide};{exact(Nat.log2_lt (g7 b)).mpr h}
   omega
def ad0(a b:Ex Ω):Ex Ω where
 lev:=max a.lev b.lev
 chk c N d e:=match e with | .BinOp l o r _=>(o==.Mult)&&(a.chk c N d l&&b.chk c N d r) | _=>false
 wp f S W:=a.wp f S λ x h=>b.wp f h λ y k=>match x,y with
  | .int i,.int j=>(Grt i/\Grt j)/\W (.int (i*j)) k
  | _,_=>False
 sound:=by
  intro X r c N d e f S W A s hc t;obtain⟨u,v⟩:=lv2 s
  cases e with
  | BinOp l o z w=>refine an3 hc λ m n p=>?_;have e:o=.Mult:=ZU m;subst e;refine wL ((a.sound A u n t).mono λ x h q=>(b.sound A v p q).mono λ y k q=>?_);split at q;{exact jL (C:=λ i j=>Grt i/\Grt j) (g:=λ i j=>i*j) (opI λ i j _ _ _ _ _ hc q=>mul_int q (mulOk_of_bits (Hs hc.1) (Hs hc.2) %[|1])) q.1 q.2};{exact(show False from q).elim}
  | _=>exact fE hc
end RF
namespace RF
open PySem PySem.Spec L2 DL
section
open SetTable
def adv(m:Nat)(p:Probe):Probe:=if p.more>0 then{p with j:=p.j+1,more:=p.more-1}else{p with j:=%[|35],more:=runEnd m %[|35]-%[|35],i:=%[|35],perturb:=%[|55].2}
def adN(m:Nat):Nat->Probe->Probe
 | 0,p=>p
 | n+1,p=>adN m n (adv m p)
def iK(m a b:Nat)(p:Probe):adN m (a+b) p=adN m b (adN m a p):=by
 induction a generalizing p with
 | zero=>rw[mr];rfl
 | succ a c=>rw[Nat.succ_add];exact c _
def Td(m a:Nat)(p:Probe):adN m (a+1) p=adv m (adN m a p):=iK m a 1 p
def qR(m n:Nat)(p:Probe):(adN m n p).dummy=p.dummy:=by
 induction n generalizing p with
 | zero=>rfl
 | succ n a=>show(adN m n (adv m p)).dummy=_;rw[a];unfold adv;split<;>rfl
def lpN(m:Nat):Nat->Nat×Nat->Nat×Nat
 | 0,q=>q
 | n+1,q=>lpN m n (leap m q.1 q.2)
def Lq(m a b:Nat)(q:Nat×Nat):lpN m (a+b) q=lpN m b (lpN m a q):=by
 induction a generalizing q with
 | zero=>rw[mr];rfl
 | succ a c=>rw[Nat.succ_add];exact c _
def HW(m i:Nat):runEnd m i-i<=9:=by unfold runEnd;split<;>omega
def Em(m:Nat):∀(r:Nat)(p:Probe),p.more=r->(adN m (r+1) p).j=%[|35]/\(adN m (r+1) p).i=%[|35]/\(adN m (r+1) p).perturb=%[|55].2/\(adN m (r+1) p).more<=9:=by
 intro r
 induction r with
 | zero=>
   intro p h;have e:adN m 1 p=adv m p:=rfl;have b:adv m p={p with j:=%[|35],more:=runEnd m %[|35]-%[|35],i:=%[|35],perturb:=%[|55].2}:=by unfold adv;rw[bP %[|0]]
   rw[mr,e,b];exact%[rfl,rfl,rfl|HW _ _]
 | succ r c=>
   intro p h;have e:adv m p={p with j:=p.j+1,more:=p.more-1}:=by unfold adv;rw[ca %[|0]]
   have:=c (adv m p) (by rw[e];show p.more-1=r;omega);rw[e]at this;have a:adN m (r+1+1) p=adN m (r+1) (adv m p):=rfl;rw[a,e];exact this
def Qj(m:Nat):∀(k:Nat)(p:Probe),p.more<=9->∃n,n<=10*(k+1)/\(adN m n p).j=(lpN m (k+1) (p.i,p.perturb)).1:=by
 intro k
 induction k with
 | zero=>intro p h;exact%[p.more+1,%[|0]|(Em m _ p rfl).1]
 | succ k d=>intro p h;obtain⟨f,a,b,c⟩:=Em m _ p rfl;obtain⟨n,g,e⟩:=d (adN m (p.more+1) p) c;refine%[p.more+1+n,%[|0]|?_];rw[iK,e,a,b];rfl
def lc(m i:Nat):Nat:=(i*5+1) % (m+1)
def lcN(m:Nat):Nat->Nat->Nat
 | 0,i=>i
 | n+1,i=>lcN m n (lc m i)
def xY(m a b i:Nat):lcN m (a+b) i=lcN m b (lcN m a i):=by
 induction a generalizing i with
 | zero=>rw[mr];rfl
 | succ a c=>rw[Nat.succ_add];exact c _
def KD(m:Nat):∀(n i:Nat),lpN m n (i,0)=(lcN m n i,0):=by
 intro n
 induction n with
 | zero=>intro i;rfl
 | succ n a=>intro i;show lpN m n ((i*5+1+0/32) % (m+1),0/32)=_;rw[Nat.zero_div,Nat.add_zero];exact a _
def WM(m:Nat):∀(n:Nat)(q:Nat×Nat),(lpN m n q).2=q.2/32 ^ n:=by
 intro n
 induction n with
 | zero=>intro q;rw[Nat.pow_zero,Nat.div_one];rfl
 | succ n a=>intro q;show(lpN m n (leap m q.1 q.2)).2=_;rw[a];show q.2/32/32 ^ n=_;rw[Nat.div_div_eq_div_mul,Nat.pow_succ,oi]
def Wr(m:Nat):∀(n:Nat)(q:Nat×Nat),(lpN m (n+1) q).1<=m:=by
 intro n
 induction n with
 | zero=>intro q;exact kS (oq _ %[|0])
 | succ n a=>intro q;exact a _
def orb(m:Nat):Nat->Nat->List Nat
 | 0,_=>[]
 | n+1,i=>i::orb m n (lc m i)
def ZJ(m:Nat):∀(n i k:Nat),k<n->(orb m n i)[k]? =some (lcN m k i):=by
 intro n
 induction n with
 | zero=>intro i k h;omega
 | succ n a=>
   intro i k h
   cases k with
   | zero=>rfl
   | succ k=>exact a _ k %[|0]
def XC(m:Nat):∀(n i:Nat),(orb m n i).length=n:=by
 intro n
 induction n with
 | zero=>intro i;rfl
 | succ n a=>intro i;show(orb m n _).length+1=_;rw[a]
def cZ(m:Nat):Bool:=((List.range (m+1)).all λ e=>(orb m (m+1) 0).elem e)&&(lcN m (m+1) 0==0)
def DY(h:cZ m=true)(o:x<=m)(n:e<=m):∃k,k<=m/\lcN m k x=e:=by
 unfold cZ at h;rw[eL,gp]at h;obtain⟨j,f⟩:=h;have f:lcN m (m+1) 0=0:=by simpa using f
 have c:∀y,y<=m->∃a,a<=m/\lcN m a 0=y:=λ y q=>by have g:=j y (df.mpr %[|0]);have g:y∈orb m (m+1) 0:=List.elem_iff.mp g;obtain⟨a,d⟩:=cw g;have i:=(z0.mp d).1;rw[XC]at i;rw[ZJ m _ _ _ i]at d;exact%[a,%[|0]|cc d]
 obtain⟨a,d,rfl⟩:=c x o;obtain⟨b,p,rfl⟩:=c e n;by_cases l:a<=b;{refine%[b-a,%[|0]|?_];rw[<-xY,show a+(b-a)=b from %[|0]]};{refine%[m+1-a+b,%[|0]|?_];rw[<-xY,show a+(m+1-a+b)=m+1+b from %[|0],xY,f]}
def ac5:cZ 7=true:=%[|9]
def abN:cZ 15=true:=%[|9]
def Wl:cZ 31=true:=%[|9]
def WF:cZ 63=true:=%[|9]
def PK:cZ 127=true:=%[|9]
def PJ:cZ 255=true:=%[|9]
def TV(h:cZ m=true)(f:p.more<=9)(i:p.perturb<2 ^ 64)(g:e<=m):∃n,n<10*turns m/\(adN m n p).j=e:=by
 have a:(lpN m 13 (p.i,p.perturb)).2=0:=by rw[WM];exact Nat.div_eq_of_lt (Nat.lt_trans i %[|1])
 have l:=Wr m 12 (p.i,p.perturb);obtain⟨k,o,c⟩:=DY h l g;obtain⟨n,q,d⟩:=Qj m (12+k) p f;refine%[n,by unfold turns;omega|?_];rw[d,show 12+k+1=13+k from %[|0],Lq];have b:lpN m 13 (p.i,p.perturb)=((lpN m 13 (p.i,p.perturb)).1,0):=ll rfl a;rw[b,KD];exact c
def SQ{ps:ae3}(o:ps.Pairwise (· <·)):∀(c lo hi:Nat),hi<=ps.length->lo<=hi->hi-lo<=c->(∀k x,ps[k]? =some x->k<lo->x<j)->(∀k x,ps[k]? =some x->hi<=k->j<=x)->below.go ps.toArray j c lo hi<=ps.length/\(∀k x,ps[k]? =some x->k<below.go ps.toArray j c lo hi->x<j)/\(∀k x,ps[k]? =some x->below.go ps.toArray j c lo hi<=k->j<=x):=by
 intro c
 induction c with
 | zero=>
   intro lo hi f q r a b;have:lo=hi:=%[|0]
   subst this;exact%[f,a|b]
 | succ c n=>
   intro lo hi f q r a b;by_cases e:lo<hi
   . have g:(lo+hi)/2<ps.length:=%[|0]
     have m:ps[(lo+hi)/2]? =some ps[(lo+hi)/2]:=y3 g;have p:ps.toArray.getD ((lo+hi)/2) j=ps[(lo+hi)/2]:=by simp[Array.getD,g]
     have i:below.go ps.toArray j (c+1) lo hi=if ps[(lo+hi)/2]<j then below.go ps.toArray j c ((lo+hi)/2+1) hi else below.go ps.toArray j c lo ((lo+hi)/2):=by
      conv=>lhs;unfold below.go
      rw[ca e];show(if ps.toArray.getD ((lo+hi)/2) j<j then _ else _)=_;rw[p]
     rw[i];by_cases l:ps[(lo+hi)/2]<j;{rw[ca l];refine n ((lo+hi)/2+1) hi f %[|0] %[|0] (λ k x d s=>?_) b;by_cases h:k=(lo+hi)/2;{subst h;rw[m]at d;rw[<-cc d];exact l};{have hk2:=(z0.mp d);have:=fm.mp o k ((lo+hi)/2) hk2.1 g %[|0];have:=hk2.2;omega}};{rw[bP l];refine n lo ((lo+hi)/2) %[|0] %[|0] %[|0] a (λ k x d s=>?_);by_cases h:k=(lo+hi)/2;{subst h;rw[m]at d;rw[<-cc d];omega};{have hk2:=(z0.mp d);have:=fm.mp o ((lo+hi)/2) k g hk2.1 %[|0];have:=hk2.2;omega}}
   . have:lo=hi:=%[|0]
     subst this;have i:below.go ps.toArray j (c+1) lo lo=lo:=by unfold below.go;rw[bP e]
     rw[i];exact%[f,a|b]
def uL{ps:ae3}(b:ps.Pairwise (· <·))(j:Nat):below ps.toArray j<=ps.length/\(∀k x,ps[k]? =some x->k<below ps.toArray j->x<j)/\(∀k x,ps[k]? =some x->below ps.toArray j<=k->j<=x):=by unfold below;have e:ps.toArray.size=ps.length:=rfl;rw[e];refine SQ b _ 0 _ (y9 _) %[|0] %[|0] (λ k x _ h=>by omega) (λ k x a h=>?_);have:=(z0.mp a).1;omega
def below_at{ps:ae3}(b:ps.Pairwise (· <·))(h:ps[i]? =some j):below ps.toArray j=i:=by
 obtain⟨f,c,d⟩:=uL b j;generalize below ps.toArray j=r at*;have hi:=z0.mp h;have g:¬i<r:=λ z=>by have:=c i j h z;omega
 by_cases e:r=i;{exact e}
 . have a:r<ps.length:=by have:=hi.1;omega
   have:=fm.mp b r i a hi.1 %[|0];have:=d r _ (y3 a) (y9 _);have:=hi.2;omega
def aq(m:Nat)(ps:ae3)(f:Nat)(led:Bool)(mv:Nat)(pl:Bool):SetTable:={mask:=m,place:=ps.toArray,dummies:=#[],finger:=f,led:=led,moves:=mv,plain:=pl}
section
variable{m f mv:Nat}{ps:List Nat}{led pl:Bool}
def yr(a:ps.Pairwise (· <·))(h:ps[i]? =some j):%[|17].slot j=.live i:=by
 unfold slot aq;simp only[below_at a h];have:ps.toArray[i]? =some j:=by simpa using h
 rw[this];simp
def Lb(h:j∉ps):%[|17].slot j=.empty:=by
 unfold slot aq;have n:¬(ps.toArray[below ps.toArray j]? =some j):=λ e=>h (by
  have e:ps[below ps.toArray j]? =some j:=by simpa using e
  exact y4 e);have a:((ps.toArray[below ps.toArray j]?)==some j)=false:=by simpa using n
 simp only[a];rfl
def aaI:∀(c N:Nat)(p:Probe),p.dummy=none->N<c->t.slot (adN t.mask N p).j=.empty->(∀k,t.slot (adN t.mask k p).j≠.dummy)->
 ∃ n,n<=N/\(∀k,k<n->∃i,t.slot (adN t.mask k p).j=.live i/\hs i≠h)/\
   ((t.slot (adN t.mask n p).j=.empty/\probe.go t hs h c p=some (.empty (adN t.mask n p).j none))\/∃i,t.slot (adN t.mask n p).j=.live i/\hs i=h/\probe.go t hs h c p=some (.candidate (adN t.mask n p).j i (adN t.mask (n+1) p))):=by
 intro c
 induction c with
 | zero=>intro N p _ h;omega
 | succ c r=>
   intro N p l s g d
   cases q:t.slot p.j with
   | empty=>refine%[0,%[|0],λ k m=>by omega|.inl %[q|?_]];unfold probe.go;rw[q,l];rfl
   | dummy=>exact absurd q (d 0)
   | live i=>
     by_cases e:hs i=h;{refine%[0,%[|0],λ k m=>by omega|.inr %[i,q,e|?_]];unfold probe.go;rw[q];simp only[e,f7,gX];rfl}
     . cases N with
       | zero=>rw[show adN t.mask 0 p=p from rfl,q]at g;cases g
       | succ N=>
         have f:(adv t.mask p).dummy=none:=by rw[<-l];exact qR t.mask 1 p
         obtain⟨n,u,a,b⟩:=r N (adv t.mask p) f %[|0] g λ k=>d (k+1);have o:probe.go t hs h (c+1) p=probe.go t hs h c (adv t.mask p):=by
          conv=>lhs;unfold probe.go
          rw[q];simp only[show(hs i==h)=false from by simpa using e];rfl
         refine%[n+1,%[|0],λ k m=>?_|?_]
         . cases k with
           | zero=>exact%[i,q|e]
           | succ k=>exact a k %[|0]
         {rw[o];exact b}
end
end
variable{m:Nat}
section
open SetTable
def stP(m:Nat)(h:Int):Probe:={j:=bits h % (m+1),more:=runEnd m (bits h % (m+1))-bits h % (m+1),i:=bits h % (m+1),perturb:=bits h,dummy:=none}
def Qf(t:SetTable)(h:Int):t.probeStart h=stP t.mask h:=rfl
def aD(m:Nat)(h:Int)(n:Nat):Nat:=(adN m n (stP m h)).j
def Ke(h:Int):bits h<2 ^ 64:=by unfold bits;have a:=ot h (b:=2 ^ 64) %[|1];have c:=ms h (b:=2 ^ 64) %[|1];omega
def qJ(h:i<=m):i<=runEnd m i/\runEnd m i<=m:=by unfold runEnd;split<;>omega
structure PIn(m:Nat)(p:Probe):Prop where
 jm:p.j+p.more<=m
 m9:p.more<=9
 pt:p.perturb<2 ^ 64
def Rv(m:Nat)(h:Int):PIn m (stP m h):=by have a:bits h % (m+1)<=m:=kS (oq _ %[|0]);have:=qJ a;exact%[by show bits h % (m+1)+(runEnd m (bits h % (m+1))-bits h % (m+1))<=m;omega,HW _ _|Ke h]
def aaJ(h:PIn m p):PIn m (adv m p):=by unfold adv;split;{exact%[by show p.j+1+(p.more-1)<=m;have:=h.jm;omega,by show p.more-1<=9;have:=h.m9;omega|h.pt]};{have a:%[|35]<=m:=kS (oq _ %[|0]);have:=qJ a;exact%[by show%[|35]+(runEnd m %[|35]-%[|35])<=m;omega,HW _ _|kK (kL _ _) h.pt]}
def ZL:∀(n:Nat){p:Probe},PIn m p->PIn m (adN m n p):=by
 intro n
 induction n with
 | zero=>intro p h;exact h
 | succ n a=>intro p h;exact a (aaJ h)
def Qu(m:Nat)(h:Int)(n:Nat):aD m h n<=m:=by have:=(ZL n (Rv m h)).jm;unfold aD;omega
def Qn{l:ae3}(nd:l.Nodup):∀{U:ae3},(∀x∈l,x∈U)->l.length<=U.length:=by
 induction l with
 | nil=>intro U _;exact dr _
 | cons a l d=>intro U h;rw[gN]at nd;have b:=h a x6;have:=d nd.2 (U:=U.erase a) λ x c=>(List.mem_erase_of_ne (λ e:x=a=>nd.1 (e▸c))).mpr (h x (x4 _ c));rw[kC b]at this;have:0<U.length:=List.length_pos_of_mem b;rw[dS];omega
def zz{ps:ae3}(b:ps.length<=m):∃e,e<=m/\e∉ps:=by
 by_cases h:∃e,e<=m/\e∉ps;{exact h}
 . have:=Qn (np (n:=m+1)) (U:=ps) λ x a=>by have a:=df.mp a;by_cases e:x∈ps;{exact e};{exact absurd %[x,%[|0]|e] h}
   rw[ja]at this;omega
def V8(g:cZ m=true){ps:ae3}(f:ps.length<=m)(a:PIn m p):∃N,N<10*turns m/\(adN m N p).j∉ps:=by obtain⟨e,d,h⟩:=zz f;obtain⟨N,b,c⟩:=TV g a.m9 a.pt d;exact%[N,b|by rw[c];exact h]
structure Tab(m:Nat)(hs:ae0)(ps:ae3):Prop where
 len:hs.length=ps.length
 up:ps.Pairwise (· <·)
 le:∀j∈ps,j<=m
 way:∀q∈hs.zip ps,∃n,aD m q.1 n=q.2/\∀k,k<n->aD m q.1 k∈ps
def Tab.nil(m:Nat):Tab m [] []:=%[rfl,List.Pairwise.nil,(λ _ h=>nomatch h)|(λ _ h=>nomatch h)]
def ins{α:Type}(p:Nat)(x:α)(l:List α):List α:=l.take p++x::l.drop p
def pX(p:Nat)(x:a)(l:List a):(ins p x l).Perm (x::l):=by unfold ins;refine List.perm_middle.trans ?_;rw[fh]
def rT{l:List a}:y∈ins p x l↔y=x\/y∈l:=by rw[(pX p x l).mem_iff,cr]
def rZ(p:Nat)(x:a)(l:List a):(ins p x l).length=l.length+1:=(pX p x l).length_eq
def YH(p:Nat)(a:c)(b:d)(l:List c)(k:List d)(h:l.length=k.length):(ins p a l).zip (ins p b k)=ins p (a,b) (l.zip k):=by
 unfold ins;have e:(l.zip k).take p=(l.take p).zip (k.take p):=by unfold List.zip;exact List.take_zipWith ..
 have f:(l.zip k).drop p=(l.drop p).zip (k.drop p):=by unfold List.zip;exact List.drop_zipWith ..
 rw[List.zip_append (by rw[e8,e8,h]),oC,e,f]
def Tab.put(T:Tab m hs ps)(x:aD m h n∉ps)(w:∀k,k<n->aD m h k∈ps):Tab m (ins (below ps.toArray (aD m h n)) h hs) (ins (below ps.toArray (aD m h n)) (aD m h n) ps):=by obtain⟨z,t,s⟩:=uL T.up (aD m h n);refine%[by rw[rZ,rZ,T.len],?_,λ j p=>?_|λ q l=>?_];{generalize below ps.toArray (aD m h n)=r at*;unfold ins;rw[lv];refine%[List.Pairwise.sublist (mN _ _) T.up,?_|λ a v b f=>?_];{rw[gi];refine%[λ b f=>?_|List.Pairwise.sublist (List.drop_sublist _ _) T.up];obtain⟨i,c⟩:=cw f;rw[List.getElem?_drop]at c;have:=s _ _ c %[|0];have:b≠aD m h n:=λ e=>x (e▸y4 c);omega};{obtain⟨i,c⟩:=cw v;rw[eR]at c;split at c;{rename_i o;have u:=t _ _ c o;rw[cr]at f;rcases f with rfl | f;{exact u};{obtain⟨A,g⟩:=cw f;rw[List.getElem?_drop]at g;have:=s _ _ g %[|0];omega}};{cases c}}};{rcases rT.mp p with rfl | p;{exact Qu _ _ _};{exact T.le j p}};{rw[YH _ _ _ _ _ T.len]at l;rcases rT.mp l with rfl | l;{exact%[n,rfl|λ k d=>rT.mpr (.inr (w k d))]};{obtain⟨y,e,a⟩:=T.way q l;exact%[y,e|λ k d=>rT.mpr (.inr (a k d))]}}
def yj(m:Nat):∀(r:Nat)(p:Probe),r<=p.more->(adN m r p).j=p.j+r/\(adN m r p).more=p.more-r/\(adN m r p).i=p.i/\(adN m r p).perturb=p.perturb:=by
 intro r
 induction r with
 | zero=>intro p _;exact%[rfl,rfl,rfl|rfl]
 | succ r g=>
   intro p h;have e:adv m p={p with j:=p.j+1,more:=p.more-1}:=by unfold adv;rw[ca %[|0]]
   have f:adN m (r+1) p=adN m r (adv m p):=rfl;obtain⟨a,b,c,d⟩:=g (adv m p) (by rw[e];show r<=p.more-1;omega);rw[f,a,b,c,d,e];exact%[by show p.j+1+r=_;omega,by show p.more-1-r=_;omega,rfl|rfl]
def UG:adN m (p.more+1) p={j:=%[|35],more:=runEnd m %[|35]-%[|35],i:=%[|35],perturb:=%[|55].2,dummy:=p.dummy}:=by obtain⟨a,b,c,d⟩:=yj m p.more p (y9 _);have e:=qR m p.more p;rw[Td];unfold adv;rw[bP (by rw[b];omega),c,d,e]
def Ot:(∀k,%[|18].find? q=some k->k<n/\q k=true/\∀i,i<k->q i=false)/\(%[|18].find? q=none->∀i,i<n->q i=false):=by
 constructor
 . intro k h;obtain⟨g,d,f,e,j⟩:=List.find?_eq_some_iff_append.mp h;have c:k∈%[|18]:=by rw[e];simp
   refine%[df.mp c,g|λ i b=>?_];have a:i∈%[|18]:=df.mpr (by have:=df.mp c;omega);have pw:(d++k::f).Pairwise (· <·):=by rw[<-e];exact k8
   rw[e]at a;rcases cq.mp a with a | a;{have:=j i a;simpa using this};{rw[lv,gi]at pw;rcases cr.mp a with rfl | a;{omega};{have:=pw.2.1.1 i a;omega}}
 {intro h i b;have:=kM.mp h i (df.mpr b);simpa using this}
def Yb {J:ae3}(t:∀j,j<=m->((f.getD j (some 0)).isNone=true↔j∉J)):∀(c k i d:Nat),i<=m->k<c->(lpN m k (i,d)).1∉J->∃n,layClean.free m f c i d=some (adN m n {j:=i,more:=runEnd m i-i,i:=i,perturb:=d,dummy:=none}).j/\(adN m n {j:=i,more:=runEnd m i-i,i:=i,perturb:=d,dummy:=none}).j∉J/\∀a,a<n->(adN m a {j:=i,more:=runEnd m i-i,i:=i,perturb:=d,dummy:=none}).j∈J:=by
 intro c
 induction c with
 | zero=>intro k i d _ h;omega
 | succ c H=>
   intro k i d y K w;have L:=qJ y;obtain⟨C,D⟩:=Ot (n:=runEnd m i+1-i) (q:=λ k=>(f.getD (i+k) (some 0)).isNone);have l:∀a,a<runEnd m i+1-i->(f.getD (i+a) (some 0)).isNone=false->(adN m a {j:=i,more:=runEnd m i-i,i:=i,perturb:=d,dummy:=none}).j∈J:=by intro a G x;have:=(yj m a {j:=i,more:=runEnd m i-i,i:=i,perturb:=d,dummy:=none} (by show a<=runEnd m i-i;omega)).1;rw[this];show i+a∈J;by_cases e:i+a∈J;{exact e};{rw[(t (i+a) %[|0]).mpr e]at x;cases x}
   unfold layClean.free
   cases q:(List.range (runEnd m i+1-i)).find? λ k=>(f.getD (i+k) (some 0)).isNone with
   | some a=>obtain⟨I,E,F⟩:=C a q;have v:=(yj m a {j:=i,more:=runEnd m i-i,i:=i,perturb:=d,dummy:=none} (by show a<=runEnd m i-i;omega)).1;refine%[a,by rw[v],?_|λ b r=>l b %[|0] (F b r)];rw[v];exact(t (i+a) %[|0]).mp E
   | none=>
     have g:=D q
     cases k with
     | zero=>have o:=g 0 %[|0];have o:(f.getD i (some 0)).isNone=false:=o;have:=(t i y).mpr w;rw[this]at o;cases o
     | succ k=>have u:(leap m i d).1<=m:=kS (oq _ %[|0]);obtain⟨n,z,A,B⟩:=H k (leap m i d).1 (leap m i d).2 u %[|0] w;have s:=UG (m:=m) (p:={j:=i,more:=runEnd m i-i,i:=i,perturb:=d,dummy:=none});refine%[runEnd m i-i+1+n,?_,?_|λ a G=>?_];{rw[iK,s];exact z};{rw[iK,s];exact A};{by_cases r:a<runEnd m i+1-i;{exact l a r (g a r)};{have:=B (a-(runEnd m i-i+1)) %[|0];rw[show a=runEnd m i-i+1+(a-(runEnd m i-i+1))from %[|0],iK,s];exact this}}
end
end RF
namespace RF
open PySem PySem.Spec L2 DL
variable{m:Nat}
section
open SetTable
def Wb(h:cZ m=true)(g:a<2 ^ 64)(f:e<=m):∃k,k<turns m/\(lpN m k (i,a)).1=e:=by
 have b:(lpN m 13 (i,a)).2=0:=by rw[WM];exact Nat.div_eq_of_lt (Nat.lt_trans g %[|1])
 have j:=Wr m 12 (i,a);obtain⟨k,l,d⟩:=DY h j f;refine%[13+k,by unfold turns;omega|?_];rw[Lq];have c:lpN m 13 (i,a)=((lpN m 13 (i,a)).1,0):=ll rfl b;rw[c,KD];exact d
structure Ow(m:Nat)(hs:ae0)(ow:ag5)(J:ae3):Prop where
 size:ow.size=m+1
 len:J.length=hs.length
 nd:J.Nodup
 le:∀j∈J,j<=m
 own:∀j q,ow.getD j none=some q↔J[q]? =some j
 way:∀z∈hs.zip J,∃n,aD m z.1 n=z.2/\∀k,k<n->aD m z.1 k∈J
def Ow.nil(m:Nat):Ow m [] (Array.replicate (m+1) none) []:=by refine%[by simp,rfl,iA,(λ _ h=>nomatch h),λ j q=>?_|(λ _ h=>nomatch h)];constructor;{intro h;by_cases e:j<m+1;{simp[Array.getD,e]at h};{simp[Array.getD,e]at h}};{intro h;simp at h}
def Ow.none_iff(O:Ow m hs b J):b.getD j none=none↔j∉J:=by
 constructor;{intro h c;obtain⟨q,d⟩:=cw c;rw[(O.own j q).mpr d]at h;cases h}
 . intro h
   cases q:b.getD j none with
   | none=>rfl
   | some a=>exact absurd (y4 ((O.own j a).mp q)) h
def Ow.isNone(O:Ow m hs a J)(j:Nat)(b:j<=m):(a.getD j (some 0)).isNone=true↔j∉J:=by
 have e:a.getD j (some 0)=a.getD j none:=by
  have:j<a.size:=by rw[O.size];omega
  simp[Array.getD,this]
 rw[e,Option.isNone_iff_eq_none];exact O.none_iff
def Ow.step(C:cZ m=true)(O:Ow m hs d J)(B:hs.length<=m)(h:Int):∃j,layClean.free m d (turns m) (bits h % (m+1)) (bits h)=some j/\Ow m (hs++[h]) (d.setIfInBounds j (some hs.length)) (J++[j]):=by
 obtain⟨e,A,D⟩:=zz (m:=m) (ps:=J) (by rw[O.len];exact B);obtain⟨k,o,x⟩:=Wb C (i:=bits h % (m+1)) (Ke h) A;obtain⟨n,s,p,t⟩:=Yb O.isNone (turns m) k (bits h % (m+1)) (bits h) (kS (oq _ %[|0])) o (by rw[x];exact D);have s:layClean.free m d (turns m) (bits h % (m+1)) (bits h)=some (aD m h n):=s;have p:aD m h n∉J:=p;have t:∀a,a<n->aD m h a∈J:=t;have G:=Qu m h n;refine%[_,s,by rw[mw];exact O.size,by rw[x8,x8,O.len];rfl,?_,λ j c=>?_,λ j q=>?_|λ z l=>?_];{rw[i5];refine%[O.nd,by simp|λ a y b w e=>?_];rw[bX]at w;exact p (w▸e▸y)};{rcases cq.mp c with c | c;{exact O.le j c};{rw[bX.mp c];exact G}}
 . have E:=O.size;by_cases v:j=aD m h n
   . subst v;have u:(d.setIfInBounds (aD m h n) (some hs.length)).getD (aD m h n) none=some hs.length:=by
      have:aD m h n<d.size:=%[|0]
      simp[Array.getD,this]
     rw[u];constructor;{intro e;rw[<-cc e,<-O.len];simp}
     . intro e;by_cases r:q<J.length;{rw[x9 r]at e;exact absurd (y4 e) p}
       . have g:=(z0.mp e).1;rw[x8,hE]at g;have:q=J.length:=%[|0]
         rw[this,O.len]
   . have u:(d.setIfInBounds (aD m h n) (some hs.length)).getD j none=d.getD j none:=by
      unfold Array.getD;by_cases c:j<d.size
      . have f:j<(d.setIfInBounds (aD m h n) (some hs.length)).size:=by rw[mw];exact c
        rw[dif_pos f,dif_pos c];exact Array.getElem_setIfInBounds_ne c (λ e=>v e.symm)
      . have f:¬j<(d.setIfInBounds (aD m h n) (some hs.length)).size:=by rw[mw];exact c
        rw[dif_neg f,dif_neg c]
     rw[u,O.own];by_cases r:q<J.length;{rw[x9 r]};{constructor;{intro e;exact absurd (z0.mp e).1 r};{intro e;have g:=(z0.mp e).1;rw[x8,hE]at g;rw[show q=J.length from %[|0]]at e;simp at e;exact absurd e.symm v}}
 {rw[List.zip_append O.len.symm]at l;rcases cq.mp l with l | l;{obtain⟨F,a,b⟩:=O.way z l;exact%[F,a|λ k o=>fb _ (b k o)]};{rw[oC,List.zip_nil_right,bX]at l;subst l;exact%[n,rfl|λ k o=>fb _ (t k o)]}}
def FT(m:Nat)(acc:Option (Array (Option Nat)×Nat))(h:Int):Option (Array (Option Nat)×Nat):=do
 let (owner,k) <-acc
 let j <-layClean.free m owner (turns m) (bits h % (m+1)) (bits h)
 pure (owner.setIfInBounds j (some k),k+1)
def Ug(k:cZ m=true):∀(a hs:ae0)(b:ag5)(J:ae3),Ow m hs b J->hs.length+a.length<=m->∃ow' J',a.foldl (FT m) (some (b,hs.length))=some (ow',(hs++a).length)/\Ow m (hs++a) ow' J':=by
 intro a
 induction a with
 | nil=>intro hs b J O _;exact%[b,J,by rw[fA];rfl|by rw[fA];exact O]
 | cons h a l=>
   intro hs b J O i;rw[dS]at i;obtain⟨j,e,d⟩:=O.step k %[|0] h;obtain⟨ow',J',f,c⟩:=l (hs++[h]) _ _ d (by rw[x8,hE];omega);refine%[ow',J',?_|by rw[ci]at c;exact c];rw[nS];have g:FT m (some (b,hs.length)) h=some (b.setIfInBounds j (some hs.length),(hs++[h]).length):=by unfold FT;show((layClean.free m b (turns m) (bits h % (m+1)) (bits h)).bind λ j=>some (b.setIfInBounds j (some hs.length),hs.length+1))=_;rw[e,x8];rfl
   rw[g,f,ci];rfl
def abe(a:cZ m=true)(b:hs.length<=m):∃ow J,layClean m hs.toArray=some ow/\Ow m hs ow J:=by obtain⟨ow,J,e,O⟩:=Ug a hs [] _ _ (Ow.nil m) (by rw[List.length_nil];omega);refine%[ow,J,?_|O];unfold layClean;show(hs.toArray.foldl (FT m) (some (Array.replicate (m+1) none,0))).map (·.1)=_;rw[List.foldl_toArray];have e:hs.foldl (FT m) (some (Array.replicate (m+1) none,0))=some (ow,([]++hs).length):=e;rw[e];rfl
def rO(m:Nat)(ow:ag5):List (Nat×Nat):=(List.range (m+1)).filterMap λ j=>(ow.getD j none).map (j,·)
def jQ(h:z∈rO m b):z.1<=m/\b.getD z.1 none=some z.2:=by
 obtain⟨j,c,e⟩:=kH.mp h
 cases q:b.getD j none with
 | none=>rw[q]at e;cases e
 | some a=>rw[q]at e;have e:(j,a)=z:=cc e;subst e;exact%[by have:=df.mp c;omega|q]
def Li(m:Nat)(g:ag5):(rO m g).Pairwise λ a b=>a.1<b.1:=by
 unfold rO;rw[List.pairwise_filterMap];refine List.Pairwise.imp ?_ (k8 (n:=m+1));intro a b f x d y e;have h:x.1=a:=by
  cases q:g.getD a none with
  | none=>rw[q]at d;cases d
  | some c=>rw[q]at d;have d:(a,c)=x:=cc d;rw[<-d]
 have i:y.1=b:=by
  cases q:g.getD b none with
  | none=>rw[q]at e;cases e
  | some c=>rw[q]at e;have e:(b,c)=y:=cc e;rw[<-e]
 rw[h,i];exact f
def K8(D:cZ m=true){hs:ae0}(C:hs.length<=m)(f mv:Nat)(led pl:Bool):∃(ps order:ae3),SetTable.laid m f mv led pl hs.toArray=some (%[|17],order.toArray)/\order.Perm (List.range hs.length)/\Tab m (order.map λ q=>hs.getD q 0) ps:=by
 obtain⟨l,J,e,O⟩:=abe D C;refine%[(rO m l).map (·.1),(rO m l).map (·.2),?_,?_|?_];{unfold SetTable.laid;rw[e];rfl}
 . refine(List.perm_ext_iff_of_nodup ?_ np).mpr λ q=>?_;{rw[List.Nodup,mS];refine List.Pairwise.imp_of_mem (λ{a b} u w v e=>?_) (Li m l);have r:=(O.own _ _).mp (jQ u).2;have t:=(O.own _ _).mp (jQ w).2;rw[e,t]at r;have:=cc r;omega}
   . rw[df];constructor;{intro h;obtain⟨z,c,rfl⟩:=bS.mp h;have:=(z0.mp ((O.own _ _).mp (jQ c).2)).1;rw[O.len]at this;exact this}
     . intro h;have p:q<J.length:=by rw[O.len];exact h
       have o:J[q]? =some J[q]:=y3 p;have E:=(O.own _ _).mpr o;refine bS.mpr %[(J[q],q),kH.mpr %[J[q],df.mpr ?_|by rw[E];rfl]|rfl];have:=O.le _ (y4 o);omega
 . have g:∀j,j∈(rO m l).map (·.1)↔j∈J:=by intro j;constructor;{intro h;obtain⟨z,c,rfl⟩:=bS.mp h;exact y4 ((O.own _ _).mp (jQ c).2)};{intro h;obtain⟨q,o⟩:=cw h;refine bS.mpr %[(j,q),kH.mpr %[j,df.mpr (by have:=O.le j h;omega)|by rw[(O.own _ _).mpr o];rfl]|rfl]}
   refine%[by simp,by rw[mS];exact Li m l,λ j A=>O.le j ((g j).mp A)|λ z c=>?_];rw[de,List.zip_map']at c;obtain⟨y,F,rfl⟩:=bS.mp c;have s:=(O.own _ _).mp (jQ F).2;have d:=(z0.mp s).1;rw[O.len]at d;have x:hs[y.2]? =some (hs.getD y.2 0):=by rw[eC,y3 d];rfl
   obtain⟨n,a,b⟩:=O.way (hs.getD y.2 0,y.1) (y4 (i:=y.2) (fo.mpr %[x|s]));exact%[n,a|λ k B=>(g _).mpr (b k B)]
end
end RF
namespace RF
open PySem PySem.Spec L2 DL
open PyProof.Rows
variable{m:Nat}{ps:List Nat}
section
open SetTable
structure HK(prog:af4)(w:World)(α:Type)[DecidableEq α] where
 h:α->Int
 I:Heap->Value->α->Prop
 keep:∀{h h':Heap}{v:Value}{c:α},(∀b o,h.get? b=some o->o.cls=%[|10]->h'.get? b=some o)->I h v c->I h' v c
 ref:∀{h:Heap}{v:Value}{c:α},I h v c->∃b,v=.ref b
 eq:∀{A:ag1}{s:ae4}{u v:Value}{c d:α},A.units+2<cLine->I s.heap u c->I s.heap v d->SeqAt.EqAt A s u v (decide (c=d))
 seen:∀{A:ag1}{E:ae2}{s:ae4}{x:Value}{c:α}{ys:ae5}{Q:ag2},I s.heap x c->(∀y∈ys,∃d,I s.heap y d)->Q false s->wpAny %[|6] A (searchCouldBeSeen x ys) Q E s
 hbv:∀{A:ag1}{E:ae2}{s:ae4}{b:Addr}{c:α}{Q:ag2},I s.heap (.ref b) c->Q true s->wpAny %[|6] A (hashByValue 8 (.ref b)) Q E s
 hash:∀{A:ag1}{E:ae2}{s:ae4}{v:Value}{c:α}{Q:Int->Shared->Prop},A.units+5<cLine->I s.heap v c->(∀n,Q (h c) {s with toks:=s.toks+n})->wpAny %[|6] A (pyHash v) Q E s
variable{prog:Program}{w:World}{α:Type}[DecidableEq α]{K:HK prog w α}
abbrev Cv(α:Type):=List (α×Value)
def aF(K:HK prog w α)(xs:Cv α):%[|8]:=xs.map λ x=>K.h x.1
def ak(K:HK prog w α)(xs:Cv α):List (Int×Value):=xs.map λ x=>(K.h x.1,x.2)
def Fy{led pl}(T:Tab m hs ps)(j:Nat):(j∉ps/\%[|17].slot j=.empty)\/∃i,ps[i]? =some j/\%[|17].slot j=.live i:=by by_cases h:j∈ps;{obtain⟨i,a⟩:=cw h;exact .inr %[i,a|yr T.up a]};{exact .inl %[h|Lb h]}
def aas(T:%[|29]){i j:Nat}(h:ps[i]? =some j):∃x,xs[i]? =some x:=by have:=(z0.mp h).1;have l:=T.len;unfold aF at l;rw[y7]at l;exact%[xs[i]|y3 %[|0]]
def RW{led pl}(T:%[|29])(g:∀(i:Nat)(x:α×Value),xs[i]? =some x->hs i=K.h x.1)(B:n<=N)(A:N<10*turns m)(u:aD m h N∉ps):
 ∃ k,n+k<=N/\(∀a,n<=a->a<n+k->∃(i:Nat) (x:α×Value),ps[i]? =some (aD m h a)/\xs[i]? =some x/\K.h x.1≠h)/\
   ((aD m h (n+k)∉ps/\%[|17].probe hs h (adN m n (stP m h))=some (.empty (aD m h (n+k)) none))\/∃(i:Nat) (x:α×Value),ps[i]? =some (aD m h (n+k))/\xs[i]? =some x/\K.h x.1=h/\%[|17].probe hs h (adN m n (stP m h))=some (.candidate (aD m h (n+k)) i (adN m (n+k+1) (stP m h)))):=by
 have d:∀a,(adN m a (adN m n (stP m h))).j=aD m h (n+a):=λ a=>by unfold aD;rw[iK]
 obtain⟨k,y,p,q⟩:=aaI (t:=%[|17]) (hs:=hs) (h:=h) (10*turns m) (N-n) (adN m n (stP m h)) (by rw[qR];rfl) %[|0] (by show%[|17].slot (adN m (N-n) (adN m n (stP m h))).j=.empty;rw[d,show n+(N-n)=N from %[|0]];exact Lb u) (λ a=>by rcases Fy (f:=f) (mv:=mv) (led:=led) (pl:=pl) T (adN m a (adN m n (stP m h))).j with⟨_,e⟩ | ⟨i,_,e⟩;{intro z;rw[show%[|17].mask=m from rfl,e]at z;cases z};{intro z;rw[show%[|17].mask=m from rfl,e]at z;cases z});have live:∀a i,%[|17].slot (adN m a (adN m n (stP m h))).j=.live i->ps[i]? =some (aD m h (n+a)):=by intro a i e;rw[d]at e;rcases Fy (f:=f) (mv:=mv) (led:=led) (pl:=pl) T (aD m h (n+a))with⟨_,c⟩ | ⟨C,b,c⟩;{rw[c]at e;cases e};{rw[c]at e;cases e;exact b}
 refine%[k,%[|0],λ a r s=>?_|?_];{obtain⟨i,b,c⟩:=p (a-n) %[|0];have b:=live _ _ b;rw[show n+(a-n)=a from %[|0]]at b;obtain⟨x,l⟩:=aas T b;exact%[i,x,b,l|by rw[<-g i x l];exact c]};{rcases q with⟨b,c⟩ | ⟨i,b,c,o⟩;{refine .inl %[λ w=>?_|?_];{obtain⟨i,v⟩:=cw w;have b:%[|17].slot (adN m k (adN m n (stP m h))).j=.empty:=b;rw[d,yr T.up v]at b;cases b};{show probe.go _ hs h (10*turns m) _=_;rw[c];show some (Met.empty (adN m k (adN m n (stP m h))).j none)=_;rw[d]}};{have b:=live _ _ b;obtain⟨x,l⟩:=aas T b;refine .inr %[i,x,b,l,by rw[<-g i x l];exact c|?_];show probe.go _ hs h (10*turns m) _=_;rw[o];show some (Met.candidate (adN m k (adN m n (stP m h))).j i (adN m (k+1) (adN m n (stP m h))))=_;rw[d,<-iK,show n+(k+1)=n+k+1 from %[|0]]}}
def abo(T:%[|29]){i:Nat}(d:xs[i]? =some x):∃j n,ps[i]? =some j/\aD m (K.h x.1) n=j/\∀k,k<n->aD m (K.h x.1) k∈ps:=by
 have f:=(z0.mp d).1;have l:=T.len;unfold aF at l;rw[y7]at l;have c:ps[i]? =some (ps[i]'%[|0]):=y3 %[|0];have e:(aF K xs)[i]? =some (K.h x.1):=by unfold aF;rw[y8,d];rfl
 obtain⟨n,a,b⟩:=T.way (K.h x.1,ps[i]'%[|0]) (y4 (i:=i) (fo.mpr %[e|c]));exact%[_,n,c,a|b]
end
end RF
namespace RF
open PySem PySem.Spec L2 DL
open PyProof.Rows
section
variable{prog:Program}{w:World}{α:Type}[DecidableEq α]{K:HK prog w α}{A:Around}{E:%[|25]}{s:Shared}{m f mv ep:Nat}{led pl:Bool}{xs:Cv α}{ps:List Nat}{a:Addr}
abbrev bu(t:SetTable)(es:List (Int×Value))(ep:Nat):Obj:={cls:=.type "set",dict:=none,data:=.set es.toArray ep t,slots:=#[]}
def jP(T:%[|29])(a:xs.length<=m):%[|17].fits (ak K xs).toArray.size=true:=by have l:=T.len;unfold aF at l;rw[y7]at l;unfold SetTable.fits SetTable.fill aq ak;simp[l];omega
def cU(T:%[|29])(b:xs.length<=m)(c:s.heap.get? a=some (bu %[|17] (ak K xs) ep))(d:Q ((ak K xs).toArray,ep,%[|17]) s):wpAny %[|6] A (setState a) Q E s:=
 wpAny_setState_of c rfl (jP T b) d
def Wi{i:Nat}(h:xs[i]? =some x):(ak K xs).toArray[i]? =some (K.h x.1,x.2):=by unfold ak;simp[h]
def Ip(hu:A.units+2<cLine)(ho:s.heap.get? a=some (bu %[|17] (ak K xs) ep))(T:%[|29])(C:xs.length<=m)(aa:m % 2=1)(hv:K.I s.heap v c)(B:∀x∈xs,K.I s.heap x.2 x.1)(hh:h=K.h c)(hN:N<10*SetTable.turns m)(M:aD m h N∉ps)
 (h1:(∃x∈xs,x.1=c)->Q (.there none) s)(h2:(∀x∈xs,x.1≠c)->∀n,aD m h n∉ps->(∀k,k<n->aD m h k∈ps)->Q (.free (aD m h n) false) s):
 ∀(g n:Nat)(st:Option SetTable.Probe),st.getD (stP m h)=adN m n (stP m h)->n<=N->N-n<g->(∀k,k<n->∃(i:Nat) (x:α×Value),ps[i]? =some (aD m h k)/\xs[i]? =some x/\x.1≠c)->wpAny %[|6] A (setSearchFrom a v h true g st) Q E s:=by
 intro g
 induction g with
 | zero=>intro n st _ _ h;omega
 | succ g ih=>
   intro n st Z hn hf o;have X:∀(i:Nat)(x:α×Value),xs[i]? =some x->(λ i=>(((ak K xs).toArray[i]?).map (·.1)).getD 0) i=K.h x.1:=λ i x B=>by show(((ak K xs).toArray[i]?).map (·.1)).getD 0=_;rw[Wi B,Option.map_some,Option.getD_some]
   obtain⟨k,k1,k2,k3⟩:=RW (f:=f) (mv:=mv) (led:=led) (pl:=pl) T X (h:=h) hn hN M;unfold setSearchFrom;refine b0 (cU T C ho ?_);dsimp only;rw[bP (show ¬(SetTable.gaveWay %[|17]=true)from by simp[SetTable.gaveWay,aq,aa])];rw[Qf,show%[|17].mask=m from rfl,Z];rcases k3 with⟨S,U⟩ | ⟨i,x,O,l,i3,U⟩
   . generalize t:SetTable.probe %[|17] _ h _=pr;have t:pr=some (.empty (aD m h (n+k)) none):=t.symm.trans U;subst t;dsimp only;have no:∀x∈xs,x.1≠c:=by
      intro x B e;obtain⟨i,Y⟩:=cw B;obtain⟨j,u,P,j2,j3⟩:=abo T Y;rw[e,<-hh]at j2 j3;have lt:u<n+k:=by by_cases z:u<n+k;{exact z};{by_cases z2:u=n+k;{exact absurd (by rw[<-z2,j2];exact y4 P) S};{exact absurd (j3 (n+k) %[|0]) S}}
      have H:∀l,ps[l]? =some (aD m h u)->l=i:=by intro l h2;have h2:=below_at T.up h2;have P:=below_at T.up P;rw[<-h2,<-P,j2]
      by_cases z:u<n;{obtain⟨l,x2,p,r,D⟩:=o u z;rw[H l p,Y]at r;exact D (by rw[<-cc r];exact e)};{obtain⟨l,x2,p,r,D⟩:=k2 u %[|0] lt;rw[H l p,Y]at r;exact D (by rw[<-cc r,e,hh])}
     refine b9 (h2 no _ S λ b hb=>?_);by_cases z:b<n;{obtain⟨l,x2,p,_⟩:=o b z;exact y4 p};{obtain⟨l,x2,p,_⟩:=k2 b %[|0] hb;exact y4 p}
   . generalize t:SetTable.probe %[|17] _ h _=pr;have t:pr=some (.candidate (aD m h (n+k)) i (adN m (n+k+1) (stP m h))):=t.symm.trans U;subst t;dsimp only;have G:=y4 l;have F:=B x G;have R:=Wi (K:=K) l;have hs:∀y∈List.map (λ x:Int×Value=>x.2) (Array.filter (λ x=>x.fst==h) (ak K xs).toArray).toList,∃d,K.I s.heap y d:=by
      intro y hy;rw[bS]at hy;obtain⟨e,M,rfl⟩:=hy;have:e∈(ak K xs).toArray:=(Array.mem_filter.mp (Array.mem_toList_iff.mp M)).1;have:e∈ak K xs:=by simpa using this
      unfold ak at this;obtain⟨z,hz,rfl⟩:=bS.mp this;exact%[z.1|B z hz]
     have W:SeqAt.EqAt A s x.2 v (decide (x.1=c)):=K.eq hu F hv;have ab:%[|17].slot (aD m h (n+k))=.live i:=yr T.up O;have I:x.1≠c->wpAny %[|6] A (setSearchFrom a v h true g (some (adN m (n+k+1) (stP m h)))) Q E s:=by
      intro nc;have lt:n+k<N:=by
       by_cases z:n+k<N;{exact z}
       . have:n+k=N:=%[|0]
         rw[this]at O;exact absurd (y4 O) M
      refine ih (n+k+1) _ rfl %[|0] %[|0] λ b hb=>?_;by_cases z:b<n;{exact o b z};{by_cases z2:b=n+k;{subst z2;exact%[i,x,O,l|nc]};{obtain⟨i3,x3,p,r,D⟩:=k2 b %[|0] %[|0];exact%[i3,x3,p,r|λ e=>D (by rw[e,hh])]}}
     obtain⟨cx,vx⟩:=x;obtain⟨J,V⟩:=K.ref F;have V:vx=.ref J:=V;subst V;have q:wpAny %[|6] A (do
      let equal <-holding [Value.ref J] (eqBool (Value.ref J) v)
      let (es',_,t') <-setState a
      if true&&equal then return SetFound.there none
      let some same:=t'.sameMemory mv m | unsupported "set.changed-during-lookup:is-the-new-block-at-the-old-address"
      let still <-match (if same then t'.slot (aD m h (n+k))else .empty)with
       | .live i'=>match es'[i']? with
         | some (_,y')=>do pure (if <-isSame y' (Value.ref J)then some i' else none)
         | none=>pure none
       | _=>pure none
      match still with
      | none=>rule "set.search.anew";setSearchFrom a v h true g none
      | some i'=>if equal then return .there (some i')else setSearchFrom a v h true g (some (adN m (n+k+1) (stP m h)))) Q E s:=by
      refine b0 (eu (W prog w E _ ?_));refine b0 (cU T C ho ?_);by_cases L:cx=c;{rw[cb L];exact b9 (h1 %[_,G|L])}
      . rw[cE L];dsimp only;rw[bP (show ¬((true&&false)=true)from y6)];have em:SetTable.sameMemory %[|17] mv m=some true:=by unfold SetTable.sameMemory;rw[ca (by show(mv==mv)=true;exact f7 mv)]
        rw[em];dsimp only;rw[ca rfl,ab];dsimp only;rw[R];dsimp only;refine b0 (Vk ?_);refine b0 (b9 ?_);exact I L
     cases led;{rw[ca (show(!(aq m ps f false mv pl).led)=true from rfl)];refine b0 (K.seen hv hs ?_);rw[bP y6,R];exact q};{rw[bP (show ¬(!(aq m ps f true mv pl).led)=true from y6),R];exact q}
def qp{a}(p:Nat)(x:a)(l:List a):SetTable.insertAt l.toArray p x=(ins p x l).toArray:=by apply Array.toList_inj.mp;rw[SetTable.toList_insertAt];rfl
def abJ(j:Nat):%[|17].put j=(aq m (ins (SetTable.below ps.toArray j) j ps) f led mv pl,SetTable.below ps.toArray j):=by unfold SetTable.put;show((%[m,SetTable.insertAt ps.toArray (SetTable.below ps.toArray j) j,if SetTable.has #[] j=true then _ else #[],f,led,mv|pl]:SetTable),SetTable.below ps.toArray j)=_;rw[bP (show ¬SetTable.has #[] j=true from y6),qp];rfl
def Kw{a b}(g:a->b)(p:Nat)(x:a)(l:List a):(ins p x l).map g=ins p (g x) (l.map g):=by unfold ins;rw[cf,cn,lS,oQ]
def sr(c:s.heap.get? a=some (bu t es ep))(hz:b.length<=1000)
 (h:∀h',Heap.SameBut a s.heap h'->h'.get? a=some (bu t' b (ep+1))->Q () %[|20]):wpAny %[|6] A (storeSet a b.toArray t') Q E s:=by refine wpAny_storeSet_of c rfl (h _ (ej s.heap a _) ?_) (cK (by rw[x5];exact hz) (%[|1]:1000<=sizeLine));have:=fS (Obj.putSet b.toArray t') c (by rw[putSet_of _ _ rfl];rfl);rw[putSet_of _ _ rfl]at this;exact this
end
variable{n:Nat}
section
variable{prog:Program}{w:World}{α:Type}[DecidableEq α]{K:HK prog w α}{A:Around}{E:%[|25]}{s:Shared}{m f mv ep:Nat}{led pl:Bool}{xs:Cv α}{ps:List Nat}{a:Addr}
def zW{b:Type}{xs:List b}{a:ae3}(h:a.Perm (List.range xs.length)):(a.filterMap (xs[·]?)).Perm xs:=by have:=h.filterMap (xs[·]?);rw[List.filterMap_getElem?_range_length]at this;exact this
def nj{b c:Type}{g:b->c}{xs:List b}{a:ae3}:(a.filterMap (xs[·]?)).map g=a.filterMap ((xs.map g)[·]?):=by rw[List.map_filterMap];congr 1;funext q;rw[y8]
def Aj{hs:ae0}:∀{a:ae3},(∀q∈a,q<hs.length)->a.filterMap (hs[·]?)=a.map λ q=>hs.getD q 0:=by
 intro a
 induction a with
 | nil=>intro _;rfl
 | cons q a d=>intro h;have b:=h q x6;rw[i9,y3 b,cn,d λ z c=>h z (x4 _ c)];simp[b]
def zN(p:s.heap.get? a=some (bu %[|17] (ak K xs) ep))(T:%[|29])(k:xs.length<=m)(z:cZ (SetTable.sizeAbove b-1)=true)(d:xs.length<=SetTable.sizeAbove b-1)(y:xs.length<=1000)(hz:SetTable.sizeAbove b<=sizeLine)
 (h:∀h' xs' ps' mv',Heap.SameBut a s.heap h'->h'.get? a=some (bu (aq (SetTable.sizeAbove b-1) ps' f led mv' pl) (ak K xs') (ep+1))->Tab (SetTable.sizeAbove b-1) (aF K xs') ps'->xs'.Perm xs->Q () %[|20]):wpAny %[|6] A (setRelay a b) Q E s:=by
 unfold setRelay;refine b0 (cU T k p ?_);dsimp only;rw[bP %[|0]];have i:(aF K xs).length=xs.length:=by unfold aF;exact y7 _
 obtain⟨ps',c,e,l,g⟩:=K8 z (hs:=aF K xs) (by rw[i];exact d) f (%[|17].movedTo (SetTable.sizeAbove b-1)) led pl;have u:(ak K xs).toArray.map (·.1)=(aF K xs).toArray:=by unfold ak aF;simp
 rw[i]at l;have F:∀q∈c,q<(aF K xs).length:=λ q B=>by rw[i];exact df.mp (l.mem_iff.mp B)
 rw[<-Aj F]at g;have t:c.filterMap ((aF K xs)[·]?)=aF K (c.filterMap (xs[·]?)):=by unfold aF;rw[nj]
 rw[t]at g;have o:c.toArray.filterMap ((ak K xs).toArray[·]?)=(ak K (c.filterMap (xs[·]?))).toArray:=by
  have r:ak K (c.filterMap (xs[·]?))=c.filterMap ((ak K xs)[·]?):=by unfold ak;rw[nj]
  rw[r];simp
 have n:=zW (xs:=xs) l;have v:SetTable.relaid %[|17] (Array.map (λ x=>x.1) (ak K xs).toArray) b=some (aq (SetTable.sizeAbove b-1) ps' f led (%[|17].movedTo (SetTable.sizeAbove b-1)) pl,c.toArray):=by rw[u];exact e
 rw[v];refine b0 ?_;have j:(c.toArray.filterMap ((ak K xs).toArray[·]?)).size=(ak K xs).toArray.size:=by rw[o];unfold ak;rw[x5,x5,y7,y7,n.length_eq]
 show wpAny _ _ (if((c.toArray.filterMap ((ak K xs).toArray[·]?)).size !=(ak K xs).toArray.size)=true then _ else _) _ _ _;rw[bP (by rw[j];simp),o];refine b9 ?_;exact sr p (by unfold ak;rw[y7,n.length_eq];exact y) λ h' C D=>h h' _ ps' _ C D g n
def bY(m n:Nat):Prop:=(m=7\/m=15\/m=31\/m=63\/m=127\/m=255)/\n*5<m*3
def bY.all(h:bY m n):cZ m=true:=by rcases h.1 with rfl | rfl | rfl | rfl | rfl | rfl;{exact ac5};{exact abN};{exact Wl};{exact WF};{exact PK};{exact PJ}
def bY.odd(h:bY m n):m % 2=1:=by rcases h.1 with rfl | rfl | rfl | rfl | rfl | rfl<;>rfl
def bY.le(h:bY m n):m<=255:=by rcases h.1 with rfl | rfl | rfl | rfl | rfl | rfl<;>decide
def bY.few(h:bY m n):n<m:=by have:=h.2;rcases h.1 with rfl | rfl | rfl | rfl | rfl | rfl<;>omega
def xR(hu:A.units+5<cLine)(j:s.heap.get? a=some (bu (aq m ps f led mv true) (ak K xs) ep))(T:%[|29])(F:bY m xs.length)(lt:xs.length<76)(t:K.I s.heap v c)(hx:∀x∈xs,K.I s.heap x.2 x.1)
 (h1:(∃x∈xs,x.1=c)->∀b,Q b s)
 (h2:(∀x∈xs,x.1≠c)->∀h' b m' xs' ps' mv' ep',Heap.SameBut a s.heap h'->h'.get? a=some (bu (aq m' ps' f led mv' true) (ak K xs') ep')->Tab m' (aF K xs') ps'->bY m' xs'.length->xs'.Perm ((c,v)::xs)->Q b %[|20]):
 wpAny %[|6] A (setAddHashed a v (K.h c)) Q E s:=by
 have hm:=F.all;have y:=F.odd;have Y:=F.few;have m1:=F.le;have l:=T.len;unfold aF at l;rw[y7]at l;obtain⟨N,D,he⟩:=V8 hm (ps:=ps) %[|0] (Rv m (K.h c));have aa:N<100000:=v3 D (by unfold SetTable.turns;omega);unfold setAddHashed;refine eu ?_;generalize hf:(100000:Nat)=fuel;obtain⟨J,rfl⟩:∃J,fuel=J+1:=%[fuel-1|%[|0]];unfold setAddHashedIn;refine b0 (cU T %[|0] j ?_);have u:=t;obtain⟨g,rfl⟩:=K.ref u;dsimp only;rw[bP (show ¬(byScan (.ref g) _=true)from y6)];unfold setSearch;refine b0 (Ip %[|0] j T %[|0] y t hx rfl D he (λ e=>?_) (λ L n S U=>?_) 100000 0 none rfl (dr _) %[|0] (λ k hk=>by omega));{exact b9 (h1 e false)};dsimp only;refine b0 (cU T %[|0] j ?_);dsimp only;rw[abJ];dsimp only;rw[ca (show(aq m (ins %[|54] (aD m (K.h c) n) ps) f led mv true).plain=true from rfl)];refine b0 (K.hbv t ?_);rw[ca rfl];have p:=T.put S U;have V:SetTable.insertAt (ak K xs).toArray %[|54] (K.h c,Value.ref g)=(ak K (ins %[|54] (c,Value.ref g) xs)).toArray:=by rw[qp];unfold ak;rw[Kw]
 have W:ins %[|54] (K.h c) (aF K xs)=aF K (ins %[|54] (c,Value.ref g) xs):=by unfold aF;rw[Kw]
 rw[W]at p;rw[V];have o:(ins %[|54] (c,Value.ref g) xs).length=xs.length+1:=rZ _ _ _;have O:=pX %[|54] (c,Value.ref g) xs;have I:(ins %[|54] (aD m (K.h c) n) ps).length=ps.length+1:=rZ _ _ _;have q:(ak K xs).toArray.size=xs.length:=by unfold ak;rw[x5,y7]
 generalize ins %[|54] (c,Value.ref g) xs=xs2 at*;generalize ins %[|54] (aD m (K.h c) n) ps=ps2 at*;refine b0 (sr j (by unfold ak;rw[y7,o];omega) λ h' G H=>?_);by_cases tf:(xs.length+1)*5<m*3;{rw[bP (by unfold SetTable.tooFull SetTable.fill aq;simp only[x5,I];simp;omega)];refine b9 (h2 L h' true m xs2 ps2 mv (ep+1) G H p ?_ O);rw[o];exact%[F.1|tf]}
 . rw[ca (by unfold SetTable.tooFull SetTable.fill aq;simp only[x5,I];simp;omega)];rw[q];have d:∀M,SetTable.sizeAbove (SetTable.grown (xs.length+1))=M+1->cZ M=true->xs.length+1<=M->bY M (xs.length+1)->M<=1000->wpAny %[|6] A (setRelay a (SetTable.grown (xs.length+1))>>=λ _=>pure true) Q E %[|20]:=by intro M i R lM X bM;refine b0 (zN (s:=%[|20]) (K:=K) (xs:=xs2) H p %[|0] (by rw[i];exact R) (by rw[i,o];omega) %[|0] (by rw[i];exact cK (%[|0]:M+1<=1001) %[|1]) λ r xs' ps' mv' Z z B C=>?_);rw[i]at z B;exact b9 (h2 L r true M xs' ps' mv' _ (G.trans Z) z B (by rw[C.length_eq,o];exact X) (C.trans O))
   obtain⟨P,F2⟩:=F;rcases P with rfl | rfl | rfl | rfl | rfl | rfl
   . obtain h:xs.length=4:=%[|0]
     exact d 31 (by rw[h];decide+kernel) Wl %[|0] %[.inr (.inr (.inl rfl))|%[|0]] %[|0]
   . obtain h:xs.length=8:=%[|0]
     exact d 63 (by rw[h];decide+kernel) WF %[|0] %[.inr (.inr (.inr (.inl rfl)))|%[|0]] %[|0]
   . obtain h:xs.length=18:=%[|0]
     exact d 127 (by rw[h];decide+kernel) PK %[|0] %[.inr (.inr (.inr (.inr (.inl rfl))))|%[|0]] %[|0]
   . obtain h:xs.length=37:=%[|0]
     exact d 255 (by rw[h];decide+kernel) PJ %[|0] %[.inr (.inr (.inr (.inr (.inr rfl))))|%[|0]] %[|0]
   {omega};{omega}
end
end RF
namespace RF
open PySem PySem.Spec L2 DL
open PyProof.Rows
variable{its:List Value}
section
variable{prog:Program}{w:World}{α:Type}[DecidableEq α]{K:HK prog w α}{A:Around}{E:%[|25]}{s:Shared}
def Yg(d:A.units+5<cLine)(o:s.heap.get? a=some (bu (aq m ps f led mv true) (ak K xs) ep))(T:%[|29])(F:bY m xs.length)(q:xs.length<76)(g:K.I s.heap v c)(p:∀x∈xs,K.I s.heap x.2 x.1)
 (h1:(∃x∈xs,x.1=c)->∀b tk,Q b {s with toks:=s.toks+tk})
 (h2:(∀x∈xs,x.1≠c)->∀h' b m' xs' ps' mv' ep' tk,Heap.SameBut a s.heap h'->h'.get? a=some (bu (aq m' ps' f led mv' true) (ak K xs') ep')->Tab m' (aF K xs') ps'->bY m' xs'.length->xs'.Perm ((c,v)::xs)->Q b {s with heap:=h',toks:=s.toks+tk}):
 wpAny %[|6] A (setAdd a v) Q E s:=by unfold setAdd;refine eu (b0 (K.hash d g λ n=>?_));exact xR (s:={s with toks:=s.toks+n}) d o T F q g p (λ e b=>h1 e b n) λ r h' b m' xs' ps' mv' ep' h i j k l=>h2 r h' b m' xs' ps' mv' ep' n h i j k l
structure LiesM(K:HK prog w α)(its:ae5)(cs:List α)(i:Nat)(xs:Cv α)(m:Nat)(ps:ae3):Prop where
 tab:%[|29]
 fill:bY m xs.length
 nd:(xs.map (·.1)).Nodup
 inn:∀x∈xs,x.1∈cs.take i
 its:∀x∈xs,(x.2,x.1)∈its.zip cs
 all:∀c∈cs.take i,∃x∈xs,x.1=c
def LiesM.nil:LiesM K its cs 0 [] 7 []:=
 %[%[rfl,List.Pairwise.nil,(λ _ h=>nomatch h)|(λ _ h=>nomatch h)],%[.inl rfl|(%[|1]:0*5<7*3)],List.Pairwise.nil,(λ _ h=>nomatch h),(λ _ h=>nomatch h)|λ c h=>by simp at h]
def lw{cs:List α}(h:cs[i]? =some c):cs.take (i+1)=cs.take i++[c]:=by rw[List.take_succ,h];rfl
def LiesM.same(L:LiesM K its cs i xs m ps)(h:cs[i]? =some c)(ex:∃x∈xs,x.1=c):LiesM K its cs (i+1) xs m ps:=by refine%[L.tab,L.fill,L.nd,λ x b=>?_,L.its|λ d a=>?_];{rw[lw h];exact fb _ (L.inn x b)};{rw[lw h]at a;rcases cq.mp a with a | a;{exact L.all d a};{rw[bX.mp a];exact ex}}
def LiesM.more(L:LiesM K its cs i xs m ps)(n:its[i]? =some v)(h:cs[i]? =some c)(o:∀x∈xs,x.1≠c)(T:Tab k (aF K b) j)(F:bY k b.length)(g:b.Perm ((c,v)::xs)):LiesM K its cs (i+1) b k j:=by refine%[T,F,?_,λ x a=>?_,λ x a=>?_|λ d f=>?_];{refine(g.map (·.1)).nodup_iff.mpr ?_;rw[cn,gN];refine%[λ l=>?_|L.nd];obtain⟨x,a,e⟩:=bS.mp l;exact o x a e};{rw[lw h];rcases cr.mp (g.mem_iff.mp a)with rfl | a;{exact eD _ (bX.mpr rfl)};{exact fb _ (L.inn x a)}};{rcases cr.mp (g.mem_iff.mp a)with rfl | a;{exact y4 (i:=i) (fo.mpr %[n|h])};{exact L.its x a}};{rw[lw h]at f;rcases cq.mp f with f | f;{obtain⟨x,a,e⟩:=L.all d f;exact%[x,g.mem_iff.mpr (x4 _ a)|e]};{rw[bX.mp f];exact%[(c,v),g.mem_iff.mpr x6|rfl]}}
set_option maxHeartbeats 8000000 in
theorem Aw {l:Addr}{cs:List α}{Q:ae2}
 (hh:A.handled=none)(hu:A.units+12<cLine)(hl:s.heap.IsList l its.toArray)(hlen:its.length=cs.length)(hc:∀(i:Nat)(v:Value)(c:α),its[i]? =some v->cs[i]? =some c->K.I s.heap v c)(hb:∀l:List α,l.Nodup->(∀x∈l,x∈cs)->l.length<=63)
 (h:∀(h':Heap)(tk:Nat)(xs:Cv α)(m:Nat)(ps:ae3)(mv ep:Nat),h'.get? s.heap.objs.size=some (bu (aq m ps 0 (aG w) mv true) (ak K xs) ep)->LiesM K its cs its.length xs m ps->
  (∀b o,b<s.heap.objs.size->%[|32])->Q %[|11] {s with heap:=h',toks:=tk}):
 wpAny %[|6] A (call (.type "set") [.ref l]) Q E s:=by
 obtain⟨c,tl,hmro⟩:=fN.mro;have hmade:=fN.made;have hsub:=fN.sub;refine wpAny_call (codeAny_of_tree ?_);show wpAny _ _ (callAny (.type "set") _) _ _ _;refine b9 %[Code.quiet_builtin _ %[|9]|i7 F.entry_type_call ?_];rw[Around.under_plain (weight_type_call_type "set" [.ref l] []) rfl];have h1:=fN.notType;have h2:=fN.canCreate;have hct:=F.typeCall_set_1 (.ref l);repeat(any_goals (first | assumption | wp_step))
 refine kX (qO (.ref l) (E:=E) (Q₁:=λ obj s₁=>∃led:Bool,led=aG w/\obj=%[|11]/\s₁={s with heap:=%[|47]}) %[_,rfl,rfl|rfl]) λ r s₁ hr=>?_
 cases r with
 | error e=>exact hr
 | ok fl =>
   cases fl with
   | next=>exact hr.elim
   | brk=>exact hr.elim
   | cont=>exact hr.elim
   | ret obj=>
     obtain⟨led,hled,rfl,rfl⟩:=hr;have hS:%[|47].get? s.heap.objs.size=some %[|56]:=c9 _ rfl;have hT:Shared.TypeIs {s with heap:=%[|47]} %[|11] "set":=%[_,hS|rfl];have hli:=fN.init.lookup;have hbi:=fN.init.bind %[|11];repeat(any_goals (first | assumption | wp_step))
     refine kX (codeAny_call_builtin (R:=wants (λ r s₂=>r=.none/\∃h' tk xs m ps mv ep,s₂={s with heap:=h',toks:=tk}/\
      h'.get? s.heap.objs.size=some (bu (aq m ps 0 led mv true) (ak K xs) ep)/\LiesM K its cs its.length xs m ps/\
      (∀b o,b<s.heap.objs.size->%[|32])) E) fN.init.plain F.entry_set_init (check_set_init_1 hT ?_)) λ r₂ s₂ hr₂=>?_
     . obtain⟨ol,hol,hcl,nl,hdl⟩:=hl;obtain⟨ocls,odict,odata,oslots⟩:=ol;simp only at hcl hdl;subst hcl;subst hdl;have hol':%[|47].get? l=some {cls:=%[|16],dict:=odict,data:=.seq its.toArray nl,slots:=oslots}:=bE _ hol;have hsls:=F.sub_list_set;have hslf:=F.sub_list_frozenset;have hne:(Value.type "list"==Value.type "dict")=false:=%[|1]
       have hl1:%[|47].IsList l its.toArray:=%[_,hol',rfl,nl|rfl];unfold Builtin.«set.__init__» noKeywords Builtin.Frozenset.updateFrom;generalize hPI:pyIter=PI;wp_walk;subst hPI;refine kq hl1 ?_;refine b0 (wpAny_runValue ?_);have hlS:l<s.heap.objs.size:=c8 hol;have hh3:A.in1.in1.in1.handled=none:=by simp[hh]
       have hneI:l≠%[|47].objs.size:=by rw[fx];exact cm (gz hlS)
       have hSf:s.heap.objs.size∉[%[|47].objs.size,l]:=by rw[fx];simp only[cr,bX,io,nn,not_or];exact%[cm (jI _)|g7 hlS]
       have hI:%[|47].objs.size=%[|27]:=by rw[fx]
       refine V1 ((Walks.list hh3 _ l hneI its.toArray).toS) s.heap.objs.size hSf
        (λ i h'=>(∀b o,b<s.heap.objs.size->%[|32])/\∃xs m ps mv ep,h'.get? s.heap.objs.size=some (bu (aq m ps 0 led mv true) (ak K xs) ep)/\LiesM K its cs i xs m ps)
        ?hfr ?hadd (its.toArray.size-0) 0 _ %[|0] (dr _)
        %[%[_,c9 _ rfl,rfl|rfl]|(hl1.push _)] ?hS0 ?hR;case hfr=>rintro i h1 h2 ⟨k1,xs,m,ps,mv,ep,k2,k3⟩ k;refine%[λ b o hb e=>k b o ?_ (k1 b o hb e),xs,m,ps,mv,ep,k _ _ ?_ k2|k3];{intro z;have:=bX.mp z;rw[hI]at this;exact absurd this (cm (gz hb))};{intro z;have:=bX.mp z;rw[hI]at this;exact absurd this (cm (jI _))}
       case hadd=>
        rintro i v s1 Q1 E1 hi hv ⟨k1,xs,m,ps,mv,ep,k2,k3⟩ hq;have hi':i<its.length:=by simpa using hi
        have hv':its[i]? =some v:=by simpa using hv
        obtain⟨c,hci⟩:∃c,cs[i]? =some c:=%[_|y3 %[|0]];have cel:∀(i:Nat)(v:Value)(c:α),its[i]? =some v->cs[i]? =some c->K.I s1.heap v c:=λ i v c e1 e2=>K.keep (λ b o e _=>k1 b o (c8 e) e) (hc i v c e1 e2);have hu1:A.in1.in1.in1.in1.units+5<cLine:=by show A.units+1+1+1+1+5<cLine;omega
        refine Yg (K:=K) (by first | exact hu1 | (show A.units+1+1+1+5<cLine;omega)) k2 k3.tab k3.fill (by
         have:=hb (xs.map (·.1)) k3.nd λ x hx=>by obtain⟨y,hy,rfl⟩:=bS.mp hx;exact iN (k3.inn y hy)
         rw[y7]at this;omega) (cel i v c hv' hci) (λ x hx=>by obtain⟨j,hj⟩:=cw (k3.its x hx);rw[fo]at hj;exact cel j _ _ hj.1 hj.2) (λ ex b tk=>?_) λ no h' b m' xs' ps' mv' ep' tk sb g T' F' pm=>?_;{refine hq b s1.heap tk (Heap.SameBut.refl _ _) %[k1,xs,m,ps,mv,ep,k2|k3.same hci ex]};{refine hq b h' tk sb %[λ b' o' hb' e'=>?_,xs',m',ps',mv',ep',g|k3.more hv' hci no T' F' pm];rw[sb.2 b' (cm hb')];exact k1 b' o' hb' e'}
       case hS0=>refine%[λ b o hb e=>bE _ (bE _ e),[],7,[],0,0,bE _ hS|LiesM.nil]
       case hR=>intro s' hm hS';obtain⟨h',g',d',tk',os'⟩:=s';have eg:g'=s.gens:=hm.gens;have ed:d'=s.drawn:=hm.drawn;have eo:os'=s.os:=hm.os;subst eg;subst ed;subst eo;obtain⟨k1,xs,m,ps,mv,ep,k2,k3⟩:=hS';show wpAny _ _ _ _ _ _;refine b9 ?_;show wpAny _ _ (ret Value.none) _ _ _;refine b9 %[rfl,h',tk',xs,m,ps,mv,ep,rfl,k2,by simpa using k3|k1]
     . cases r₂ with
       | error e=>exact hr₂
       | ok fl₂=>
         cases fl₂ with
         | next=>exact hr₂.elim
         | brk=>exact hr₂.elim
         | cont=>exact hr₂.elim
         | ret r=>
           obtain⟨rfl,h',tk,xs,m,ps,mv,ep,rfl,k2,k3,k1⟩:=hr₂;repeat(any_goals (first | assumption | wp_step))
           exact h _ _ _ _ _ _ _ (hled▸k2) k3 k1
end
end RF
namespace RF
open PySem PySem.Spec L2 DL
open PyProof.Rows
variable{ps:List Nat}{S:Addr}{ep m f mv:Nat}
def Jk(d:ps.Pairwise (· <·))(hi:i<=ps.length):SetTable.below ps.toArray (slotAt ps i)=i:=by
 obtain⟨g,a,b⟩:=uL d (slotAt ps i);generalize SetTable.below ps.toArray (slotAt ps i)=r at*
 cases i with
 | zero=>
   cases r with
   | zero=>rfl
   | succ r=>have:=a 0 _ (y3 %[|0]) %[|0];exact absurd this (ox _)
 | succ i=>
   have f:slotAt ps (i+1)=ps[i]+1:=by show ps.getD i 0+1=_;rw[eC,y3 %[|0]];rfl
   rw[f]at a b;have h:¬r<=i:=λ z=>by have:=b i _ (y3 %[|0]) z;omega
   by_cases e:r=i+1;{exact e}
   . have c:i+1<ps.length:=%[|0]
     have:=a (i+1) _ (y3 c) %[|0];have:=fm.mp d i (i+1) %[|0] c %[|0];omega
theorem wN{a:Type}:∀{l:List a}{i:Nat}(h:i<l.length),([l[i]]++l.eraseIdx i).Perm l
 | x::l,0,_=>.refl _
 | x::l,i+1,h=>(List.Perm.swap x _ _).trans ((wN (l:=l) (i:=i) (by simpa using h)).cons x)
def X5{f}(c:Nat->Nat):∀(b k:Nat)(a:List f)(out:Array f),a.length=b->(pickOrder.go c b k a out).toList.Perm (out.toList++a):=by
 intro b
 induction b with
 | zero=>intro k a out h;have:a=[]:=eT h;subst this;rw[fA];exact .refl _
 | succ b g=>
   intro k a out h;have d:c k % a.length<a.length:=oq _ %[|0];have e:pickOrder.go c (b+1) k a out=pickOrder.go c b (k+1) (a.eraseIdx (c k % a.length)) (out.push a[c k % a.length]):=by
    conv=>lhs;unfold pickOrder.go
    rw[y3 d]
   rw[e];refine(g (k+1) _ _ (by rw[List.length_eraseIdx_of_lt d];omega)).trans ?_;rw[Array.toList_push,ci];refine List.Perm.append_left _ ?_;exact wN d
def vg(w:World)(S:Addr)(ep:Nat)(es:List (Int×Value)):(fL w S ep es).toList.Perm es:=by unfold fL;split;{have:=X5 (w.params.setOrder S ep) es.toArray.size 0 es.toArray.toList #[] (by simp);simpa[pickOrder]using this};{exact .refl _}
def rH:(fL w S ep es).size=es.length:=by have:=(vg w S ep es).length_eq;rwa[eW]at this
section
variable{prog:Program}{w:World}{α:Type}[DecidableEq α]{K:HK prog w α}{A:Around}{E:%[|25]}{s:Shared}
def J3(r:%[|29]):ps.length=%[|26]:=by have:=r.len;unfold aF at this;unfold ak;rw[y7]at this ⊢;exact this.symm
def zE(r:%[|29])(b:xs.length<=m)(l:xs.length<=1000)(hi:i<=%[|26])(j:s.heap.get? S=%[|51])
 (h:Q (((fL w S ep (ak K xs))[i]?).map λ e=>(e.2,if %[|46]=true then 0 else slotAt ps (i+1))) s):
 wpAny %[|6] A (setNext S (if %[|46]=true then 0 else slotAt ps i) i ep) Q E s:=by
 unfold setNext;refine b0 (cU r b j ?_);unfold setsByText;dsimp only;refine b0 (b0 (hV (b9 ?_)));show wpAny _ _ (if %[|46]=true then _ else _) _ _ _;unfold fL at h;by_cases a:%[|46]=true;{rw[ca a];rw[ca a]at h;simp only[ca a]at h;rw[bP (by simp)];unfold setWalk;refine b0 (b0 (cU r b j ?_));unfold setsByText;dsimp only;refine b0 (b0 (hV (b9 ?_)));show wpAny _ _ (if %[|46]=true then _ else _) _ _ _;rw[ca a];refine b0 (hV (b9 (b9 ?_)));simp only[ca a];exact h}
 . rw [bP a];rw[bP a]at h;simp only[bP a]at h ⊢;have c:aG w=true:=by simp[aG,a]
   split;{exact absurd (by assumption) y6}
   . refine b0 ?_;show wpAny _ _ (if(!(aG w)&& !((ak K xs).toArray.isEmpty))=true then _ else pure PUnit.unit) _ _ _;rw[c,bP (show ¬((!true&& !((ak K xs).toArray.isEmpty))=true)from y6)];refine b9 ?_;rw[show(aq m ps f true mv true).place=ps.toArray from rfl,Jk r.up (by rw[J3 r];exact hi)];refine b9 ?_;have k:slotAt ps (i+1)=ps.getD i 0+1:=rfl;rw[k]at h;rw[nB]at h;rw[nB,nB]
     cases g:(ak K xs)[i]? with
     | none=>rw[g]at h;exact h
     | some e=>
       rw[g]at h;have d:i<ps.length:=by rw[J3 r];exact(z0.mp g).1
       rw[y3 d];rw[eC,y3 d]at h;exact h
def Ol(l:S≠I)(r:%[|29])(a:xs.length<=m)(j:xs.length<=1000)(hi:i<%[|26])(b:s.heap.get? I=some (dG w ps S %[|26] ep i))(d:s.heap.get? S=%[|51])
 (g:(fL w S ep (ak K xs))[i]? =some e)(h:∀h',Heap.SameBut I s.heap h'->h'.get? I=some (dG w ps S %[|26] ep (i+1))->Q (some e.2) %[|20]):
 wpAny %[|6] A (pyNext (.ref I)) Q E s:=by
 have c:=nG b;unfold pyNext;refine b0 (ko (wpAny_callSpecial?_slot (name:=Str.ofString "__next__") c bH
  (dA bH c fP ?_ (eZ _))));unfold Builtin.«set_iterator.__next__»;refine b0 (b9 ?_);refine b0 (l9 b rfl ?_);dsimp only;refine b0 (wpAny_setEntries_of d rfl (jP r a) ?_);rw[bP (by simp)];refine b0 ?_;simp only[rawInt,dk];refine zE r a j (eJ hi) d ?_;rw[g];dsimp only[Option.map];refine b0 (jS b rfl (by simp) ?_);refine b0 (jS (s:={s with heap:=_}) (oh b) rfl (by simp) ?_);exact b9 %[_,rfl|b9 (h _ ((ej ..).trans (ej ..)) (by have:=oh (k:=1) (x:=rawInt (i+1)) (oh (k:=0) (x:=rawInt (if %[|46]=true then 0 else slotAt ps (i+1):Nat)) b);exact this))]
def M5(hh:A.handled=none)(k:S≠I)(r:%[|29])(c:xs.length<=m)(j:xs.length<=1000)(d:s.heap.get? I=some (dG w ps S %[|26] ep %[|26]))(g:s.heap.get? S=%[|51])
 (i:(fL w S ep (ak K xs))[%[|26]]? =none)(h:∀h',Heap.ExtBut I s.heap h'->Q none %[|20]):
 wpAny %[|6] A (pyNext (.ref I)) Q E s:=by
 have e:=nG d;unfold pyNext;refine b0 (ko (wpAny_callSpecial?_slot (name:=Str.ofString "__next__") e bH
  (dA bH e fP ?_ (eZ _))));unfold Builtin.«set_iterator.__next__»;refine b0 (b9 ?_);refine b0 (l9 d rfl ?_);dsimp only;refine b0 (wpAny_setEntries_of g rfl (jP r c) ?_);rw[bP (by simp)];refine b0 ?_;simp only[rawInt,dk];refine zE r c j (y9 _) g ?_;rw[i];dsimp only[Option.map];refine b0 (jS d rfl (by simp) ?_);show wpAny _ _ (newExc (.type "StopIteration") []>>=_) _ _ _;refine b0 ?_;simp only[newExc,newTuple];refine b0 (dQ ?_ (by size_fits));refine b0 (m:=firstArgMember _ _) (wpAny_of_eq (a:=Value.none) (by first | rfl | (simp only[firstArgMember];rfl)) ?_);refine dQ ?_ (by size_fits);simp only[raiseNew];refine b0 (wpAny_handled ?_);rw[show A.in1.handled=none from hh];refine b0 (b9 (wpAny_throw ?_));refine b0 (gt (T:="StopIteration") (b:=true) %[_,c9 _ rfl|rfl] isSubtype_stop ?_);exact b9 (h _ (((ej ..).extBut.push _).push _))
theorem Ml(hh:A.handled=none)(I S:Addr)(a:S≠I)(xs:Cv α)(m f mv:Nat)(ps:ae3)(ep:Nat)(r:%[|29])(d:xs.length<=m)(k:xs.length<=1000):
 Walks prog w A I [I,S] [I] %[|26] (λ i v=>∃e,(fL w S ep (ak K xs))[i]? =some e/\e.2=v) (λ i h=>h.get? I=some (dG w ps S %[|26] ep i)/\h.get? S=%[|51]) where
 sub:=λ b c=>by simp at c;simp[c]
 frame:=λ _ _ _ st k=>%[k I (by simp) _ st.1|k S (by simp) _ st.2]
 item:=λ i s Q E t st j=>by obtain⟨e,q⟩:∃e,(fL w S ep (ak K xs))[i]? =some e:=%[_|iF (by rw[rH];exact t)];refine Ol a r d k t st.1 st.2 q λ l sb g=>j e.2 l s.toks %[e,q|rfl] %[g|?_] λ b o c e=>sb.extBut b o (λ h=>c (by simp[h])) e;rw[sb.2 S a];exact st.2
 done:=λ s Q E st j=>M5 hh a r d k st.1 st.2 (gx (by rw[rH];exact y9 _)) λ l p=>j l s.toks λ b o c e=>p b o (λ h=>c (by simp[h])) e
 self:=λ _ s Q E st j=>by have n:=nG (s:=s) st.1;refine kR n fX (dA fX n lr ?_ (jW _));show wpAny _ _ (ret (.ref I)) _ _ s;exact b9 %[_,rfl,"set_iterator",_,n,bH.lookup|j]
def QC(r:%[|29])(a:xs.length<=m)(i:xs.length<=1000)(b:s.heap.get? S=%[|51])
 (h:Q %[|11] {s with heap:=s.heap.push (dG w ps S %[|26] ep 0)}):wpAny %[|6] A (pyIter (.ref S)) Q E s:=by
 have d:s.TypeIs (.ref S) "set":=%[_,b|rfl];refine kR d F.slot_set_iter (dA F.slot_set_iter d xO ?_ (F.args_set_iter_1 _));unfold Builtin.«frozenset.__iter__» Builtin.Frozenset.slot0 Builtin.Frozenset.sizeOf setDrawn;refine b0 (b0 (b9 (b9 ?_)));refine b0 (b0 (wpAny_setEntries_of b rfl (jP r a) (b9 ?_)));refine b0 (b0 (cU r a b ?_));unfold setsByText;dsimp only;refine b0 (b0 (hV (b9 (b9 ?_))));split;{rename_i hx;rw[eL]at hx;exact absurd hx.2 y6}
 . refine b0 (b9 ?_);refine b0 (wpAny_setEpoch_of b rfl (jP r a) ?_);refine b0 (dQ ?_ (by size_fits));have g:(ak K xs).toArray.size=%[|26]:=x5;have e:((if %[|46]=true then 0 else slotAt ps 0:Nat))=0:=by split<;>rfl
   have c:dG w ps S %[|26] ep 0={cls:=.type "set_iterator",dict:=none,data:=.fields [rawInt 0,rawInt 0,.ref S,rawInt ((ak K xs).toArray.size:Nat),rawInt (ep:Nat)].toArray,slots:=#[]}:=by unfold dG;rw[e,g];rfl
   rw[c]at h;exact b9 %[_,rfl,"set_iterator",_,%[_,c9 _ rfl|rfl],bH.lookup|h]
def Fi(hh:A.handled=none)(r:%[|29])(u:xs.length<=m)(J:xs.length<=1000)(P:s.heap.get? S=%[|51])
 (h:∀h' tk,(∀b o,b<s.heap.objs.size->%[|32])->s.heap.objs.size<=h'.objs.size->Q ((fL w S ep (ak K xs)).toList.map (·.2)) {s with heap:=h',toks:=tk}):wpAny %[|6] A (collect (.ref S)) Q E s:=by
 have O:S<s.heap.objs.size:=c8 P;have g:s.heap.objs.size≠S:=g7 O;unfold collect;refine b0 (wpAny_runValue (i7 F.entry_proto_collect ?_));rw[i0 F.plain_proto_collect _];show wpAny _ A.in1 (newList []>>=λ l=>again (.builtin "list.__iadd__" %[[l,.ref S]|[]])) _ _ s;refine b0 (dQ ?_);refine b9 %[nh mP _|i7 F.entry_list_iadd ?_];rw[i0 mP _];have n:%[|45].get? S=%[|51]:=bE _ P;have I:Shared.TypeIs {s with heap:=%[|45]} (.ref S) "set":=%[_,n|rfl];show wpAny _ A.in1 (Builtin.List.listExtendWith %[|11] (.ref S) %[|11]) _ _ _;unfold Builtin.List.listExtendWith;refine b0 (kB I ?_);have Y:Builtin.List.listSameRef %[|11] (.ref S)=false:=by simp[Builtin.List.listSameRef,g]
 have Z:(Value.type "set"==Value.type "list")=false:=%[|1]
 have h3:(Value.type "set"==Value.type "tuple")=false:=%[|1]
 simp only[Y,Z,h3,Bool.or_false,cy,ef];refine b0 (QC (s:={s with heap:=%[|45]}) r u J n ?_);refine b0 (eu ?_);have B:%[|45].objs.size=%[|27]:=size_push' _ _;have y:(%[|45].push (dG w ps S %[|26] ep 0)).get? S=%[|51]:=bE _ n;have D:(%[|45].push (dG w ps S %[|26] ep 0)).get? %[|27]=some (dG w ps S %[|26] ep 0):=by rw[<-B];exact c9 _ rfl
 have k:Shared.TypeIs {s with heap:=%[|45].push (dG w ps S %[|26] ep 0)} (.ref S) "set":=%[_,y|rfl];have c:(%[|45].push (dG w ps S %[|26] ep 0)).get? s.heap.objs.size=some %[|57]:=bE _ (c9 _ rfl);show wpAny %[|6] A.in1 (Builtin.List.listLengthHint (.ref S)) _ _ {s with heap:=%[|45].push (dG w ps S %[|26] ep 0)};unfold Builtin.List.listLengthHint;refine b0 (gT k F.slot_set_len.lookup ?_);have L:splitId "set.__len__"=some ("set","__len__"):=by kernel_rfl
 dsimp only;rw[L];dsimp only;refine b0 (gt k sub_set_self ?_);rw[bP (show ¬((!true)=true)from y6)];rw[ca]
 . refine b0 (kB k ?_);dsimp only;refine b9 ?_;rw[ca]
   . refine b0 (k6 ?_);refine b0 ?_;show wpAny _ A.in1 (updateSeq s.heap.objs.size (·.push .none)>>=λ _=>updateSeq s.heap.objs.size (·.pop)) _ _ _;refine b0 (wpAny_updateSeq c rfl ?_);have d:=fS (Obj.mapSeq (·.push Value.none)) c rfl;refine wpAny_updateSeq d rfl ?_;have i:=fS (Obj.mapSeq (·.pop)) d rfl;have p:∀b o,b≠s.heap.objs.size->(%[|45].push (dG w ps S %[|26] ep 0)).get? b=some o->
      (((%[|45].push (dG w ps S %[|26] ep 0)).update s.heap.objs.size (Obj.mapSeq (·.push Value.none))).update s.heap.objs.size (Obj.mapSeq (·.pop))).get? b=some o:=
      λ b o q e=>(kN _ _ (kA q)).trans ((kN _ _ (kA q)).trans e);have H:S≠%[|27]:=cm (gz O);have G:s.heap.objs.size∉[%[|27],S]:=by intro z;rcases cr.mp z with z | z;{exact absurd z (cm (jI _))};{exact g (bX.mp z)}
     have hn:%[|26]<=sizeLine:=by unfold ak;rw[y7];exact cK J %[|1]
     rw[B];refine b9 %[nh F.plain_extend_loop _|codeAny_extend_loopS (Ml (prog:=prog) (A:=A.in1) (by simpa using hh) %[|27] S H xs m f mv ps ep r u J).toS hn _ G _ %[|26] 0 _ _ _ rfl (Nat.zero_le _)
      %[p _ _ (g7 (jI _)) D|p _ _ g.symm y] i (ItemsOf.nil _) λ R a c' C v hacc=>?_];show wpAny _ A (load s.heap.objs.size>>=_) _ _ R;refine b0 (wpAny_load v ?_);obtain⟨h',X,T,N,M⟩:=R;have V:X=s.gens:=C.gens;have U:T=s.drawn:=C.drawn;have W:M=s.os:=C.os;subst V;subst U;subst W;have t:a.toList=(fL w S ep (ak K xs)).toList.map (·.2):=by
      apply kw;intro j;rw[y8,ge,ge];by_cases hj:j<%[|26]
      . have x:j<a.size:=by rw[hacc.1];exact hj
        obtain⟨e,he,hv⟩:=hacc.2 j a[j] (iF x);rw[iF x,he,<-hv];rfl
      {rw[gx (by rw[hacc.1];omega),gx (by rw[rH];omega)];rfl}
     refine b9 ?_;show Q a.toList _;rw[t];refine h h' N (λ b o q e=>?_) ?_;{refine C.heap b o ?_ (p b o (cm q) (bE _ (bE _ e)));intro z;rcases cr.mp z with z | z;{exact absurd z (cm q)};{exact absurd (bX.mp z) (cm (gz q))}};{exact eJ (c8 v)}
   {decide}
 {decide}
end
end RF
namespace RF
open PySem PySem.Spec L2 DL
open PyProof.Rows
structure SK(prog:af4)(w:World)(α:Type)[DecidableEq α](lt:α->α->Bool)(good:α->Prop)(enc:α->D) extends HK prog w α where
 tot:∀{a b:α},a≠b->lt a b=false->lt b a=true
 tr:∀{a b c:α},lt a b=true->lt b c=true->lt a c=true
 irr:∀a:α,lt a a=false
 inj:∀{h:Heap}{v:Value}{c d:α},I h v c->I h v d->c=d
 first:∀{h:Heap}{v:Value}{c:α},I h v c->good c->∃a o xs n f,v=.ref a/\h.get? a=some o/\o.cls=%[|10]/\o.data=.seq xs n/\xs[0]? =some f/\∃k t,f=Value.int k t
 ask:∀{A:ag1}{E:ae2}{s:ae4}{b:Bool}{u v:Value}{c d:α}{Q:ag2},A.units+2<cLine->I s.heap u c->I s.heap v d->Q (lt c d) s->wpAny %[|6] A (keyLt' (tuples' b) u v) Q E s
 of:∀{X:Cx}{pins:ae6}{σ:DL.St}{H:Hp}{s:ae4}{O:Own},X.prog=prog->X.w=w->%[|3]->∀{y:V}{u:Value}{c:α},Rep X.K O H y (enc c)->RelV y u->I s.heap u c
abbrev ye{α:Type}[Inhabited α](lt:α->α->Bool)(cs:List α)(i j:Nat):Bool:=lt (cs.getD i default) (cs.getD j default)
section
variable{prog:Program}{w:World}{α:Type}[DecidableEq α][Inhabited α]{lt:α -> α -> Bool}{good:α -> Prop}{enc:α -> D}
def Z6(K:SK prog w α lt good enc)(nd:cs.Nodup):LtOk cs.length (ye lt cs):=by refine%[λ i j c d f h=>K.tot (λ e=>f ?_) h|λ i j k _ _ _ a b=>K.tr a b];rw[eC,eC,y3 c,y3 d]at e;exact(List.getElem_inj nd).mp e
end
section
variable{prog:Program}{w:World}{α:Type}[DecidableEq α][Inhabited α]{lt:α -> α -> Bool}{good:α -> Prop}{enc:α -> D}{K:SK prog w α lt good enc}{A:Around}{E:%[|25]}{s:Shared}
def Vf{cs:List α}(e:vs.length=cs.length)(d:∀c∈cs,good c)(g:∀(i:Nat)(v:Value)(c:α),vs[i]? =some v->cs[i]? =some c->K.I h v c):
 ∃fs:List Value,PySem.W.KatTups h vs fs/\fs.length=vs.length/\∀v∈fs,∃n t,v=Value.int n t:=by
 induction vs generalizing cs with
 | nil=>exact%[[],.nil,rfl|λ _ z=>nomatch z]
 | cons v vs x=>
   cases cs with
   | nil=>cases e
   | cons c cs=>obtain⟨fs,t,m,a⟩:=x (cs:=cs) (by simpa using e) (λ c w=>d c (x4 _ w)) λ i u j k l=>g (i+1) u j (by simpa using k) (by simpa using l);obtain⟨y,A,B,n,f,rfl,o,p,q,r,s⟩:=K.first (g 0 v c rfl rfl) (d c x6);refine%[f::fs,PySem.W.KatTups.cons o p q r t,by simp[m]|λ v b=>?_];rcases cr.mp b with rfl | b;{exact s};{exact a v b}
def xH(hu:A.units+2<cLine)(D:s.heap.get? a=some (seqObj "list" vs.toArray n))
 (y:vs.length=cs.length)(hr:∀(i:Nat)(v:Value)(c:α),vs[i]? =some v->cs[i]? =some c->K.I s.heap v c)(hg:∀c∈cs,good c)(nd:cs.Nodup)(u:vs.length<64)
 (h:∀p:List Nat,OdrL cs.length (ye lt cs) p->R (.done (.ret .none)) {s with heap:=sortedHeap s.heap a vs (List.toArray (p.map λ i=>vs.getD i Value.none))}):
 wpAny %[|6] A (Builtin.«list.sort» %[[.ref a]|[]]) R E s:=by
 rw[list_sort_plain];have z:a<s.heap.objs.size:=c8 D;have m:vs.length<=sizeLine:=cK (eJ u) %[|1];refine b0 (listItems_at D rfl ?_);refine b0 (listUpdate_at D rfl ?_ (by rw[x5];exact m) (dr _));obtain⟨M,F⟩:∃M,(s.heap.update a (Obj.mapSeq λ _=>#[])).get? a=some (seqObj "list" #[] M):=%[_|get?_update_seq D (λ _=>#[])];refine b0 (seqEpoch_at F rfl ?_);refine b0 (wpAny_newTuple ?_ (by show vs.length<=_;exact m));refine b0 (wpAny_newList ?_ (dr _));refine eu ?_;have f:(((s.heap.update a (Obj.mapSeq λ _=>#[])).push (seqObj "tuple" vs.toArray 0)).push (seqObj "list" #[] 0)).get? a=some (seqObj "list" #[] M):=by rw[kT _ _ _ (by rw[size_push',ly];exact cm (gz z)),kT _ _ _ (by rw[ly];exact cm z)];exact F
 show wpAny %[|6] A _ R E {s with heap:=((s.heap.update a (Obj.mapSeq λ _=>#[])).push (seqObj "tuple" vs.toArray 0)).push (seqObj "list" #[] 0)};dsimp only;have H:(vs.toArray.zip vs.toArray).map (·.2)=vs.toArray:=by apply Array.toList_inj.mp;simp[List.map_snd_zip]
 have L:∀(i:Nat)(v:Value)(c:α),vs[i]? =some v->cs[i]? =some c->K.I (((s.heap.update a (Obj.mapSeq λ _=>#[])).push (seqObj "tuple" vs.toArray 0)).push (seqObj "list" #[] 0)) v c:=λ i v c q1 q2=>K.keep (λ b o e c=>by
  have O:b≠a:=by rintro rfl;rw[D]at e;cases e;exact absurd (show Value.type "list"=Value.type "tuple" from c) %[|1]
  have B:b<s.heap.objs.size:=c8 e;rw[kT _ _ _ (by rw[size_push',ly];exact cm (gz B)),kT _ _ _ (by rw[ly];exact cm B),Heap.get?_update_ne _ _ _ _ O];exact e) (hr i v c q1 q2);by_cases r:vs.toArray.size<2
 . rw[ca r,ca r];refine b0 (b9 ?_);rw[StateT.run_pure];refine b0 (b9 ?_);dsimp only;refine b0 (seqEpoch_at f rfl ?_);rw[show arrOf (SortSt.mk' general' (vs.toArray.zip vs.toArray) #[] 7 none)=vs.toArray.zip vs.toArray from rfl,H];refine b0 (listUpdate_at f rfl ?_ (dr _) (by rw[x5];omega));simp only[bne_self_eq_false,cy,ef];have J:OdrL cs.length (ye lt cs) (List.range cs.length):=by refine%[by simp,λ i l=>df.mp l,np|?_];rw[x5]at r;rcases cs with _ | ⟨k1,_ | ⟨k2,cs⟩⟩;{exact List.Pairwise.nil};{simp[ke]};{exfalso;simp at y;omega}
   have Y:((List.range cs.length).map λ i=>vs.getD i Value.none)=vs:=by rw[<-y];refine kw λ i=>?_;rw[y8];by_cases l:i<vs.length;{simp[l]};{rw[kf (by rw[ja];omega),kf %[|0]];rfl}
   have h:=h _ J;rw[Y]at h;exact b9 h
 . rw[bP r,bP r];rw[x5]at r;obtain⟨fs,tp,fl,Z⟩:=Vf y hg L;refine b0 (PySem.W.kat_kind (T:=.type "int") tp %[|0] (λ v hv=>?_) rfl ?_);{obtain⟨n,t,rfl⟩:=Z v hv;exact PySem.W.Looks.of_pure rfl};have V:=Yk (Z6 K nd) %[|0];generalize hs1:({s with heap:=((s.heap.update a (Obj.mapSeq λ _=>#[])).push (seqObj "tuple" vs.toArray 0)).push (seqObj "list" #[] 0)}:Shared)=s1;have U:∀(i:Nat)(v:Value)(c:α),vs[i]? =some v->cs[i]? =some c->K.I s1.heap v c:=by rw[<-hs1];exact L
   refine b0 (gl (PySem.W.kat_run (Q:=λ g d=>d=s1/\∃p:List Nat,(arrOf g).map (·.2)=List.toArray (p.map λ i=>vs.getD i Value.none)/\failedOf g=none/\OdrL cs.length (ye lt cs) p) (G:=λ p d=>d=s1/\Pm cs.length p/\Srt (ye lt cs) p cs.length) rfl %[|0] u ?_ ?_) ?_ λ _ _ x=>x);{rintro p g d J N S ⟨rfl,P,W⟩;exact%[rfl,p.toList,PySem.W.kat_snds rfl N,S|Xh P W]};{rw[y];refine bG.wp (I:=λ d=>d=s1) (λ i j C d l hj e k=>?_) _ s1 V rfl λ p d q e=>%[e|q];subst e;have X:∀i,i<cs.length->K.I d.heap (vs.getD i Value.none) (cs.getD i default):=λ i l=>U i _ _ (by rw[eC];simp[show i<vs.length by omega]) (by rw[eC];simp[l]);unfold PySem.W.kas_ask;exact K.ask hu (X i l) (X j hj) (k _ rfl)}
   . rintro⟨⟨⟩,g⟩ d ⟨rfl,p,h1,S,J⟩;subst hs1;dsimp only;refine b0 (seqEpoch_at f rfl ?_);rw[h1];have hz:(p.map λ i=>vs.getD i Value.none).length=vs.length:=by rw[y7,J.len,y]
     refine b0 (listUpdate_at f rfl ?_ (dr _) (by rw[x5,hz];exact Nat.le_succ_of_le m));rw[S];simp only[bne_self_eq_false,cy,ef];exact b9 (h p J)
def wB{k n:Type}{f}:∀{l m:List n},l.Perm m->∀{xs:List k},m=xs.map f->∃ys:List k,ys.Perm xs/\l=ys.map f:=by
 intro l m h
 induction h with
 | nil=>
   intro xs e;have:xs=[]:=by cases xs with | nil=>rfl | cons=>cases e
   subst this;exact%[[],.refl _|rfl]
 | cons x _ o=>
   intro xs e
   cases xs with
   | nil=>cases e
   | cons y xs=>injection e with d c;obtain⟨ys,p,g⟩:=o c;exact%[y::ys,p.cons y|by rw[d,g];rfl]
 | swap x y l=>
   intro xs e
   cases xs with
   | nil=>cases e
   | cons a xs=>
     cases xs with
     | nil=>cases e
     | cons b xs=>injection e with d c;injection c with c g;exact%[b::a::xs,.swap ..|by rw[d,c,g];rfl]
 | trans _ _ i j=>intro xs e;obtain⟨ys,p,d⟩:=j e;obtain⟨r,q,c⟩:=i d;exact%[r,q.trans p|c]
end
def vh(c:af8):ltC c c=false:=by unfold ltC;rw[ca rfl];exact Ej _
def jV(prog:af4)(w:World):SK prog w %[|15] ltC (λ _=>True) cD where
 h:=hC prog w
 I:=cB
 keep:=cB.keep
 ref:=λ⟨b,_,_,_,_,e,_⟩=>%[b|e]
 eq:=λ d a f=>Do d a f
 seen:=V5
 hbv:=λ a h=>Xn (n:=6) a h
 hash:=λ d a h=>U6 d a h
 tot:=W6
 tr:=Pb
 irr:=vh
 inj:=Fx
 first:=by rintro h v c ⟨b,o,k,q,u,i,j,l,m,t⟩ _;exact%[b,o,_,k,_,i,j,l,m,rfl,_,q|rfl]
 ask:=λ d a f h=>aal d a f h
 of:=by rintro X g x H s O rfl rfl I y u c r p;exact gK I r p
def Nb(n:Nat)(W:Gam->%[|4]):Gam->%[|4]:=λ c e=>∃J b a,e=b++J/\n<=b.length/\flat b/\a.length=c.length/\
 (∀(i:Nat)(d:D),a[i]? =some (some d)->c[i]? =some (some d)/\(aA d=true\/∃j,(d=.loc j\/d=.dlo j)/\j<b.length))/\W a b
def QN.fgd{K}(F:O.A.length=n)(q:QN K O H (Nb n W) σ s):QN K O H W σ s:=by obtain⟨t,I,D,⟨J,b,p,rfl,E,y,A,z,w⟩,C,B,r⟩:=q;obtain⟨m,k,o,G⟩:=iy C B %[|0] y;refine%[_,p,b,w,m,k|%[by rw[A];exact r.len|λ i d e=>?_]];obtain⟨x,h⟩:=z i d e;obtain⟨v,g,l⟩:=r.at_ i d x;rcases h with h | ⟨j,rfl | rfl,u⟩;{exact%[v,g|dY o h l]};{obtain⟨a,rfl,c⟩:=cV l;refine%[_,g|.loc ?_];show(t.A.take b.length)[j]? =some (a,false);rw[eR,ca u];exact c};{obtain⟨a,rfl,c,f⟩:=dM l;refine%[_,g|.dlo ?_ f];show(t.A.take b.length)[j]? =some (a,true);rw[eR,ca u];exact c}
def Bl.fgd{Ω:Wd}(b:Bl Ω):Bl Ω where
 lev:=b.lev
 chk:=b.chk
 wp g S W:=b.wp g S {W with nx:=Nb S.length W.nx}
 sound:=by
  intro X r m N n l g S W A j i k a s d H O I c e;refine thn (b.sound A j i k a s d H O I c e) λ f o q=>?_
  cases f with
  | next=>obtain⟨d,h,I,q⟩:=q;exact%[d,h,I|QN.fgd e.len q]
  | brk=>exact q
  | cont=>exact q
  | ret u=>exact q
def ZK{b:Bl Ω}(h:b.wp a S {W with nx:=Nb S.length W.nx}):(Bl.fgd b).wp a S W:=h
section
variable{prog:Program}{w:World}{α:Type}[DecidableEq α]{K:HK prog w α}{A:Around}{E:%[|25]}{s:Shared}
def bY.mono(h:bY m n)(a:k<=n):bY m k:=%[h.1|by have:=h.2;omega]
def Uk:∀n,n<253->n<SetTable.sizeAbove n/\(SetTable.sizeAbove n-1=7\/SetTable.sizeAbove n-1=15\/SetTable.sizeAbove n-1=31\/SetTable.sizeAbove n-1=63\/SetTable.sizeAbove n-1=127\/SetTable.sizeAbove n-1=255):=%[|9]
def Ga(d:s.heap.get? a=some (bu %[|17] (ak K xs) ep))(T:%[|29])(F:bY m xs.length)(q:xs.length+more<=126)
 (h:∀h' m' xs' ps' mv' ep',Heap.SameBut a s.heap h'->h'.get? a=some (bu (aq m' ps' f led mv' pl) (ak K xs') ep')->Tab m' (aF K xs') ps'->bY m' (xs.length+more)->xs'.Perm xs->Q () %[|20]):
 wpAny %[|6] A (setRoomFor a more) Q E s:=by
 unfold setRoomFor;refine b0 (cU T (eJ F.few) d ?_);have l:=T.len;unfold aF at l;rw[y7]at l;have i:%[|17].roomFor more=if(xs.length+more)*5≥m*3 then some ((xs.length+more)*2)else none:=by unfold SetTable.roomFor SetTable.fill aq;simp only[x5,<-l];rfl
 rw[i];by_cases c:(xs.length+more)*5≥m*3;{rw[ca c];obtain⟨p,g⟩:=Uk ((xs.length+more)*2) %[|0];have e:bY (SetTable.sizeAbove ((xs.length+more)*2)-1) (xs.length+more):=%[g|by generalize SetTable.sizeAbove ((xs.length+more)*2)=M at p g;omega];have b:=e.mono (fI xs.length more);refine zN d T (eJ F.few) b.all (eJ b.few) %[|0] (cK (by have:=b.le;omega:_<=256) %[|1]) λ h' xs' ps' mv' j k n o=>?_;exact h h' _ xs' ps' mv' _ j k n e o};{rw[bP c];exact b9 (h s.heap m xs ps mv ep (Heap.SameBut.refl _ _) d T %[F.1|%[|0]] (.refl _))}
def ad1(T:%[|29])(F:bY m xs.length)(e:xs=[]):LiesM K its cs 0 xs m ps:=by subst e;exact%[T,F,List.Pairwise.nil,(λ _ h=>nomatch h),(λ _ h=>nomatch h)|λ c h=>by simp at h]
def yL(n:Nat)(b:a)(f:Nat->a->Sem (ForInStep a)):forIn [:n] b f=forIn (List.range' 0 n 1) b f:=by rw[Std.Legacy.Range.forIn_eq_forIn_range'];simp[Std.Legacy.Range.size]
inductive CsI(K:HK prog w α)(s:ae4)(vs:ae5)(cs:List α)(n:Nat)(led:Bool)(rest:ae3)(s1:ae4):Prop
 | mk(i:Nat)(h':Heap)(xs:Cv α)(m:Nat)(ps:ae3)(mv ep:Nat)(e1:rest=List.range' i (n-i))(e2:i<=n)(e3:s1=%[|20])(g:h'.get? s.heap.objs.size=some (bu (aq m ps 0 led mv true) (ak K xs) ep))(L:LiesM K vs cs i xs m ps)(k:∀b o,b<s.heap.objs.size->%[|32]):CsI K s vs cs n led rest s1
set_option maxHeartbeats 8000000 in
theorem Cj {d:Addr}{es:Array DictEntry}{epd:Nat}{cs:List α}{Q:ae2}
 (hu:A.units+12<cLine)(lo:(d==sysModules)=false)(hD:DEs d es epd s.heap)(hlen:es.size=cs.length)(h63:cs.length<=63)(hc:∀(i:Nat)(e:DictEntry)(c:α),es.toList[i]? =some e->cs[i]? =some c->K.I s.heap e.key c/\e.hash=K.h c)
 (h:∀(h':Heap)(xs:Cv α)(m:Nat)(ps:ae3)(mv ep:Nat),h'.get? s.heap.objs.size=some (bu (aq m ps 0 (aG w) mv true) (ak K xs) ep)->LiesM K (es.toList.map (·.key)) cs cs.length xs m ps->
  (∀b o,b<s.heap.objs.size->%[|32])->Q %[|11] %[|20]):
 wpAny %[|6] A (call (.type "set") [.ref d]) Q E s:=by
 obtain⟨c,tl,hmro⟩:=fN.mro;have hmade:=fN.made;have hsub:=fN.sub;refine wpAny_call (codeAny_of_tree ?_);show wpAny _ _ (callAny (.type "set") _) _ _ _;refine b9 %[Code.quiet_builtin _ %[|9]|i7 F.entry_type_call ?_];rw[Around.under_plain (weight_type_call_type "set" [.ref d] []) rfl];have h1:=fN.notType;have h2:=fN.canCreate;have hct:=F.typeCall_set_1 (.ref d);repeat(any_goals (first | assumption | wp_step))
 refine kX (qO (.ref d) (E:=E) (Q₁:=λ obj s₁=>∃led:Bool,led=aG w/\obj=%[|11]/\s₁={s with heap:=%[|47]}) %[_,rfl,rfl|rfl]) λ r s₁ hr=>?_
 cases r with
 | error e=>exact hr
 | ok fl =>
   cases fl with
   | next=>exact hr.elim
   | brk=>exact hr.elim
   | cont=>exact hr.elim
   | ret obj =>
     obtain⟨led,hled,rfl,rfl⟩:=hr;have hS:%[|47].get? s.heap.objs.size=some %[|56]:=c9 _ rfl;have hT:Shared.TypeIs {s with heap:=%[|47]} %[|11] "set":=%[_,hS|rfl];have hli:=fN.init.lookup;have hbi:=fN.init.bind %[|11];repeat(any_goals (first | assumption | wp_step))
     refine kX (codeAny_call_builtin (R:=wants (λ r s₂=>r=.none/\∃h' xs m ps mv ep,s₂=%[|20]/\
      h'.get? s.heap.objs.size=some (bu (aq m ps 0 led mv true) (ak K xs) ep)/\LiesM K (es.toList.map (·.key)) cs cs.length xs m ps/\
      (∀b o,b<s.heap.objs.size->%[|32])) E) fN.init.plain F.entry_set_init (check_set_init_1 hT ?_)) λ r₂ s₂ hr₂=>?_
     . obtain⟨od,hod,hcl,hdd⟩:=hD;have hod':%[|47].get? d=some od:=bE _ hod;have hsls:=F.sub_dict_set;have hslf:=F.sub_dict_frozenset;have hTd:Shared.TypeIs {s with heap:=%[|47]} (.ref d) "dict":=%[_,hod'|hcl.1];unfold Builtin.«set.__init__» noKeywords Builtin.Frozenset.updateFrom;generalize hPI:setRoomFor=PI;wp_walk;rw[hdd];refine b9 ?_;refine b0 (gI hod' hdd ?_);subst hPI;have hdS:d<s.heap.objs.size:=c8 hod;refine b0 (Ga (K:=K) (m:=7) (f:=0) (mv:=0) (ep:=0) (led:=led) (pl:=true) (xs:=[]) (ps:=[]) hS (Tab.nil 7) %[.inl rfl|(%[|1]:0*5<7*3)] (show 0+es.size<=126 by omega) λ h0 m0 xs0 ps0 mv0 ep0 sb0 g0 T0 F0 p0=>?_);have k0:∀b o,b<s.heap.objs.size->%[|37]->h0.get? b=some o:=λ b o hb e=>by rw[sb0.2 b (cm hb)];exact bE _ e
       refine b0 (gI (k0 d od hdS hod) hdd ?_);rw[yL];refine b0 (gu _ (λ rest _ s1=>CsI K s (es.toList.map (·.key)) cs es.size led rest s1) _ ?turn ?fin _ _ %[0,h0,xs0,m0,ps0,mv0,ep0,rfl,dr _,rfl,g0,ad1 T0 (F0.mono (by rw[List.Perm.eq_nil p0];exact dr _)) (List.Perm.eq_nil p0)|k0]);case turn=>
        rintro x rest _ s1 ⟨i,h',xs,m,ps,mv,ep,e1,e2,rfl,g,L,k1⟩;have hi:i<es.size:=by by_cases z:i<es.size;{exact z};{rw[show es.size-i=0 from %[|0]]at e1;cases e1}
        rw[show es.size-i=(es.size-(i+1))+1 from %[|0],List.range'_succ]at e1;obtain⟨rfl,rfl⟩:=gv e1;have hod1:=k1 d od hdS hod;refine b0 (gI (s:=%[|20]) hod1 hdd ?_);obtain⟨e,he⟩:∃e,es[x]? =some e:=%[_|iF hi];have he':es.toList[x]? =some e:=by rw[ge];exact he
        obtain⟨c,hcx⟩:∃c,cs[x]? =some c:=%[_|y3 %[|0]];rw[he];dsimp only;obtain⟨q1,q2⟩:=hc x e c he' hcx;have kp:∀{v:Value}{c:α},K.I s.heap v c->K.I h' v c:=λ z=>K.keep (λ b o e _=>k1 b o (c8 e) e) z;have hxs:∀z∈xs,K.I h' z.2 z.1:=λ z hz=>by
         obtain⟨j,hj⟩:=cw (L.its z hz);rw[fo,y8]at hj;obtain⟨j1,j2⟩:=hj
         cases q:es.toList[j]? with
         | none=>rw[q]at j1;cases j1
         | some e'=>rw[q]at j1;have ez:e'.key=z.2:=cc j1;rw[<-ez];exact kp (hc j e' _ q j2).1
        have lt:xs.length<76:=by have:=iP L.nd (λ z hz=>by obtain⟨y,hy,rfl⟩:=bS.mp hz;exact iN (L.inn y hy):∀z∈xs.map (·.1),z∈cs);rw[y7]at this;omega
        have back:∀h2(Q1:ForInStep PUnit->Shared->Prop)(E1:ae2),h2.get? d=some od->Q1 (.yield PUnit.unit) {s with heap:=h2}->wpAny %[|6] A.in1.in1 (do
         let __do_lift <-dictEpoch d
         if (__do_lift !=epd)=true then do
             unsupported (toString "set.__init__"++toString ":changed-during-callback")
             pure (ForInStep.yield PUnit.unit)
          else pure (ForInStep.yield PUnit.unit)) Q1 E1 {s with heap:=h2}:=by intro h2 Q1 E1 q hq;refine b0 (kg (s:={s with heap:=h2}) q hdd ?_);rw[bP (by simp)];exact b9 hq
        refine b0 (eu ?_);rw[q2];refine xR (s:=%[|20]) (by show A.units+1+1+5<cLine;omega) g L.tab L.fill lt (kp q1) hxs (λ ex b=>?_) λ no h2 b m' xs' ps' mv' ep' sb g2 T' F' pm=>?_;{exact back h' _ _ hod1 %[x+1,h',xs,m,ps,mv,ep,rfl,hi,rfl,g,L.same hcx ex|k1]}
        . have k2:∀b o,b<s.heap.objs.size->%[|37]->h2.get? b=some o:=λ b' o' hb' e'=>by rw[sb.2 b' (cm hb')];exact k1 b' o' hb' e'
          exact back h2 _ _ (k2 d od hdS hod) %[x+1,h2,xs',m',ps',mv',ep',rfl,hi,rfl,g2,L.more (by rw[y8,he'];rfl) hcx no T' F' pm|k2]
       case fin=>
        rintro _ s1 ⟨i,h',xs,m,ps,mv,ep,e1,e2,rfl,g,L,k1⟩;have hi:i=es.size:=by by_cases z:i<es.size;{rw[show es.size-i=(es.size-(i+1))+1 from %[|0],List.range'_succ]at e1;cases e1};{omega}
        subst hi;rw[hlen]at L;exact b9 (b9 %[rfl,h',xs,m,ps,mv,ep,rfl,g,L|k1])
     . cases r₂ with
       | error e=>exact hr₂
       | ok fl₂=>
         cases fl₂ with
         | next=>exact hr₂.elim
         | brk=>exact hr₂.elim
         | cont=>exact hr₂.elim
         | ret r=>
           obtain⟨rfl,h',xs,m,ps,mv,ep,rfl,k2,k3,k1⟩:=hr₂;repeat(any_goals (first | assumption | wp_step))
           exact h _ _ _ _ _ _ (hled▸k2) k3 k1
end
section
variable{prog:Program}{w:World}{α:Type}[DecidableEq α]{K:HK prog w α}{A:Around}{E:%[|25]}{s:Shared}
def JN(T:%[|29])(a:xs.length<=m)(d:s.heap.get? S=%[|51])
 (h:Q (fL w S ep (ak K xs)) s):wpAny %[|6] A (setWalkUnseen S [r] (some r)) Q E s:=by
 unfold setWalkUnseen;refine b0 (cU T a d ?_);unfold setsByText;dsimp only;refine b0 (b0 (hV (b9 ?_)));unfold fL at h;have e:(%[|46]||((aq m ps f (aG w) mv true).led&&(aq m ps f (aG w) mv true).plain)||decide ((ak K xs).toArray.size<=1))=true:=by show(%[|46]||(aG w&&true)||_)=true;simp only[aG];cases w.params.followText "set-order"<;>rfl
 refine(ca e)▸?_;unfold setWalk;refine b0 (cU T a d ?_);unfold setsByText;dsimp only;refine b0 (b0 (hV (b9 ?_)));show wpAny _ _ (if %[|46]=true then _ else _) _ _ _;by_cases c:%[|46]=true;{rw[ca c]at h ⊢;exact b0 (hV (b9 h))}
 . rw[bP c]at h ⊢;have b:aG w=true:=by simp[aG,c]
   split;{exact absurd (by assumption) y6};{refine b0 ?_;show wpAny _ _ (if(!(aG w)&&_)=true then _ else pure PUnit.unit) _ _ _;rw[b,bP (show ¬((!true&&_)=true)from y6)];exact b9 (b9 h)}
def Zb:∀{l:Cv α},(z.2,z.1)∈(l.map (·.2)).zip (l.map (·.1))->z∈l:=by
 intro l h
 induction l with
 | nil=>cases h
 | cons a l b=>rcases cr.mp h with e | h;{exact cr.mpr (.inl (ll (ei Prod.snd e) (ei Prod.fst e)))};{exact .tail _ (b h)}
def MP{xs:Cv α}{U:List α}(nx:(xs.map (·.1)).Nodup)(c:∀x∈xs,x.1∈U)(h:U.length<=n):xs.length<=n:=by have:=iP nx (λ z b=>by obtain⟨y,a,rfl⟩:=bS.mp b;exact c y a:∀z∈xs.map (·.1),z∈U);rw[y7]at this;omega
inductive MgI(K:HK prog w α)(s:ae4)(r:Addr)(f:Nat)(ys:Cv α)(n:Nat)(vs:ae5)(cs:List α)(rest:List (Int×Value))(s1:ae4):Prop
 | mk(i:Nat)(h':Heap)(xs':Cv α)(m':Nat)(ps':ae3)(mv' ep':Nat)(e1:rest=(ys.drop i).map (λ x=>(K.h x.1,x.2)))(e2:i<=ys.length)(e3:s1=%[|20])(sb:Heap.SameBut r s.heap h')(g:h'.get? r=some (bu (aq m' ps' f (aG w) mv' true) (ak K xs') ep'))(L:LiesM K vs cs (n+i) xs' m' ps'):MgI K s r f ys n vs cs rest s1
def zu{U:List α}(hu:A.units+8<cLine)(V:r≠o)
 (hr:s.heap.get? r=%[|51])(T:%[|29])(F:bY m xs.length)
 (ho:s.heap.get? o=some (bu (aq M n O (aG w) u true) (ak K zs) J))(T2:Tab M (aF K zs) n)(F2:bY M zs.length)
 (W:∀x∈xs,K.I s.heap x.2 x.1)(hz:∀x∈zs,K.I s.heap x.2 x.1)(nx:(xs.map (·.1)).Nodup)(nz:(zs.map (·.1)).Nodup)
 (hU:U.length<=63)(ux:∀x∈xs,x.1∈U)(uz:∀x∈zs,x.1∈U)
 (he:∀(h':Heap)(X:Unit->Shared->Prop)(E1:ae2),h'.get? o=s.heap.get? o->X () %[|20]->wpAny %[|6] A H X E1 %[|20])
 (h:∀h' m' xs' ps' mv' ep',Heap.SameBut r s.heap h'->h'.get? r=some (bu (aq m' ps' f (aG w) mv' true) (ak K xs') ep')->Tab m' (aF K xs') ps'->bY m' xs'.length->(xs'.map (·.1)).Nodup->(∀x∈xs',x∈xs\/x∈zs)->(∀c,c∈xs.map (·.1)\/c∈zs.map (·.1)->c∈xs'.map (·.1))->Q () %[|20]):
 wpAny %[|6] A (setMerge r o H) Q E s:=by
 have lx:=MP nx ux hU;have lz:=MP nz uz hU;unfold setMerge;rw[bP (by simpa using V)];refine b0 (cU T2 (eJ F2.few) ho ?_);dsimp only;have ab:(ak K zs).toArray.size=zs.length:=by unfold ak;rw[x5,y7]
 by_cases ez:zs=[];{subst ez;rw[ca (by rfl)];exact b9 (h s.heap m xs ps mv ep (Heap.SameBut.refl _ _) hr T F nx (λ x W=>.inl W) λ c C=>C.elim id λ C=>nomatch C)};rw[bP (by intro e;rw[Array.isEmpty_iff_size_eq_zero,ab]at e;exact ez (eT e))];rw[ab];refine b0 (Ga hr T F %[|0] λ S p k l d aj sb1 g1 T1 F1 p1=>?_);have l1:=p1.length_eq;have ao:=eJ F1.few;refine b0 (cU (s:={s with heap:=S}) T1 %[|0] g1 ?_);dsimp only;have af:=T1.len;unfold aF at af;rw[y7]at af;have al:S.get? o=some (bu (aq M n O (aG w) u true) (ak K zs) J):=by rw[sb1.2 o (kA V)];exact ho
 have er:(aq p l f (aG w) d true).road (aq M n O (aG w) u true)=if l.length≠0 then .oneByOne else if p=M then .slotForSlot else .clean:=by unfold SetTable.road SetTable.fill aq;simp
 rw[er];by_cases n0:l.length≠0
 . rw [ca n0];dsimp only;refine b0 (JN (s:={s with heap:=S}) T2 (eJ F2.few) al ?_);obtain⟨B,py,ey⟩:=wB (vg w o J (ak K zs)) (xs:=zs) (f:=λ x=>(K.h x.1,x.2)) rfl;have P:∀{z:α×Value},(z.2,z.1)∈((k++B).map (·.2)).zip ((k++B).map (·.1))->z∈xs\/z∈zs:=λ h=>(cq.mp (Zb h)).imp p1.mem_iff.mp py.mem_iff.mp;refine b0 (wpAny_forIn_array' _ (λ R _ s1=>MgI K s r f B k.length ((k++B).map (·.2)) ((k++B).map (·.1)) R s1) _ ?turn ?fin _ _ %[0,S,k,p,l,d,aj,ey,dr _,rfl,sb1,g1|?_]);case turn=>
    rintro e R _ s1 ⟨i,h',xs',m',ps',mv',ep',I,e2,rfl,sb,g,L⟩;have Y:i<B.length:=by by_cases z:i<B.length;{exact z};{rw[n4 %[|0]]at I;cases I}
    rw[gc Y,cn]at I;obtain⟨rfl,rfl⟩:=gv I;have Z:B[i]? =some B[i]:=y3 Y;generalize B[i]=y at Z;have am:=y4 Z;have hk:∀{v:Value}{c:α},K.I s.heap v c->K.I h' v c:=λ z=>K.keep (λ b o e c=>by
     have:b≠r:=by rintro rfl;rw[hr]at e;cases e;exact absurd (show Value.type "set"=Value.type "tuple" from c) %[|1]
     rw[sb.2 b this];exact e) z;have ag:((k++B).map (·.2))[k.length+i]? =some y.2:=by rw[y8,da (fI _ _),Nat.add_sub_cancel_left,Z];rfl
    have aa:((k++B).map (·.1))[k.length+i]? =some y.1:=by rw[y8,da (fI _ _),Nat.add_sub_cancel_left,Z];rfl
    have ad:∀z∈xs',z∈xs\/z∈zs:=λ z hz=>P (L.its z hz);have lt:=kK (MP L.nd (λ y Z=>(ad y Z).elim (ux y) (uz y)) hU) (%[|1]:63<76);have ac:∀D,Heap.SameBut r s.heap D->D.get? o=s.heap.get? o:=λ D q=>q.2 o (kA V);have N:∀D(X:ForInStep PUnit->Shared->Prop)(E1:ae2),Heap.SameBut r s.heap D->X (.yield PUnit.unit) {s with heap:=D}->wpAny %[|6] A (do
     H
     let __do_lift <-setState o
     if (__do_lift.2.1 !=J)=true then do
         unsupported "set.changed-during-merge"
         pure (ForInStep.yield PUnit.unit)
      else pure (ForInStep.yield PUnit.unit)) X E1 {s with heap:=D}:=by intro D X E1 q hq;refine b0 (he D _ _ (ac D q) ?_);refine b0 (cU (s:={s with heap:=D}) T2 (eJ F2.few) (by rw[ac D q];exact ho) ?_);rw[bP (by simp)];exact b9 hq
    refine b0 (eu ?_);refine xR (s:=%[|20]) %[|0] g L.tab L.fill lt (hk (hz y (py.mem_iff.mp am))) (λ z an=>hk ((ad z an).elim (W z) (hz z))) (λ ex b=>?_) λ no D b m' xs' ps' mv' ep' ae g2 T' F' pm=>?_;{exact N h' _ _ sb %[i+1,h',xs',m',ps',mv',ep',rfl,Y,rfl,sb,g|L.same aa ex]};{exact N D _ _ (sb.trans ae) %[i+1,D,xs',m',ps',mv',ep',rfl,Y,rfl,sb.trans ae,g2|L.more ag aa no T' F' pm]}
   case fin=>
    rintro _ s1 ⟨i,h',xs',m',ps',mv',ep',I,e2,rfl,sb,g,L⟩;have Y:i=B.length:=by by_cases z:i<B.length;{rw[gc z]at I;cases I};{omega}
    subst Y;have tk:(((k++B).map (·.1)).take (k.length+B.length))=(k++B).map (·.1):=db (by simp);refine b9 (h h' m' xs' ps' mv' ep' sb g L.tab L.fill L.nd (λ z hz=>?_) λ c C=>?_);{exact P (L.its z hz)};{obtain⟨x,G,e⟩:=L.all c (by rw[tk,cf,cq];rcases C with C | C;{exact .inl ((p1.map (·.1)).mem_iff.mpr C)};{exact .inr ((py.map (·.1)).mem_iff.mpr C)});exact bS.mpr %[x,G|e]}
   {refine%[T1,F1.mono %[|0],(p1.map (·.1)).nodup_iff.mpr nx,λ x G=>?_,λ x G=>?_|λ c C=>?_];{rw[Nat.add_zero,cf,kP (by simp),db (by simp)];exact bS.mpr %[x,G|rfl]};{obtain⟨j,hj⟩:=cw G;refine y4 (i:=j) (fo.mpr %[?_|?_]);{rw[y8,x9 (z0.mp hj).1,hj];rfl};{rw[y8,x9 (z0.mp hj).1,hj];rfl}};{rw[Nat.add_zero,cf,kP (by simp),db (by simp)]at C;obtain⟨x,G,e⟩:=bS.mp C;exact%[x,G|e]}}
 . have n1:k=[]:=eT %[|0];subst n1;have e0:xs=[]:=List.Perm.eq_nil p1.symm;subst e0;rw[bP n0];have Fz:bY p zs.length:=F1.mono %[|0];by_cases em:p=M
   . subst em;rw[ca rfl];dsimp only;have et:({aq p n O (aG w) u true with finger:=(aq p l f (aG w) d true).finger,led:=(aq p l f (aG w) d true).led&&(aq p n O (aG w) u true).led,moves:=(aq p l f (aG w) d true).moves,plain:=(aq p l f (aG w) d true).plain&&(aq p n O (aG w) u true).plain}:SetTable)=aq p n f (aG w) d true:=by show(%[p,n.toArray,#[],f,aG w&&aG w,d|true&&true]:SetTable)=%[p,n.toArray,#[],f,aG w,d|true];rw[Bool.and_self];rfl
     refine(ei (λ t=>wpAny %[|6] A (storeSet r (ak K zs).toArray t) Q E {s with heap:=S}) et).mpr ?_;refine sr (s:={s with heap:=S}) g1 (by unfold ak;rw[y7];omega) λ h' k1 k2=>?_;exact h h' p zs n d _ (sb1.trans k1) k2 T2 Fz nz (λ x W=>.inr W) λ c C=>C.elim (λ h=>nomatch h) id
   . rw[bP em];dsimp only;have el:(aF K zs).length=zs.length:=by unfold aF;exact y7 _
     obtain⟨ps',a,e,pm,T'⟩:=K8 Fz.all (hs:=aF K zs) (by rw[el];exact eJ Fz.few) f d (aG w) true;have ai:(ak K zs).toArray.map (·.1)=(aF K zs).toArray:=by unfold ak aF;simp
     rw[el]at pm;have lt:∀q∈a,q<(aF K zs).length:=λ q hq=>by rw[el];exact df.mp (pm.mem_iff.mp hq)
     rw[<-Aj lt]at T';have eh:a.filterMap ((aF K zs)[·]?)=aF K (a.filterMap (zs[·]?)):=by unfold aF;rw[nj]
     rw[eh]at T';have ee:a.toArray.filterMap ((ak K zs).toArray[·]?)=(ak K (a.filterMap (zs[·]?))).toArray:=by
      have I:ak K (a.filterMap (zs[·]?))=a.filterMap ((ak K zs)[·]?):=by unfold ak;rw[nj]
      rw[I];simp
     have pp:=zW (xs:=zs) pm;have er:SetTable.laid (aq p l f (aG w) d true).mask (aq p l f (aG w) d true).finger (aq p l f (aG w) d true).moves ((aq p l f (aG w) d true).led&&(aq M n O (aG w) u true).led) ((aq p l f (aG w) d true).plain&&(aq M n O (aG w) u true).plain) (Array.map (λ x=>x.1) (ak K zs).toArray)=some (aq p ps' f (aG w) d true,a.toArray):=by rw[ai];show SetTable.laid p f d (aG w&&aG w) (true&&true) _=_;rw[Bool.and_self];exact e
     rw[er];refine b0 ?_;have ah:(a.toArray.filterMap ((ak K zs).toArray[·]?)).size=(ak K zs).toArray.size:=by rw[ee];unfold ak;rw[x5,x5,y7,y7,pp.length_eq]
     show wpAny _ _ (if((a.toArray.filterMap ((ak K zs).toArray[·]?)).size !=(ak K zs).toArray.size)=true then _ else _) _ _ _;rw[bP (by rw[ah];simp),ee];refine b9 ?_;refine sr (s:={s with heap:=S}) g1 (by unfold ak;rw[y7,pp.length_eq];omega) λ h' k1 k2=>?_;exact h h' p _ ps' d _ (sb1.trans k1) k2 T' (by rw[pp.length_eq];exact Fz) ((pp.map (·.1)).nodup_iff.mpr nz) (λ x W=>.inr (pp.mem_iff.mp W)) λ c C=>C.elim (λ h=>nomatch h) ((pp.map (·.1)).mem_iff.mpr)
def Hl:entryFor table "set.__or__"=some Builtin.«frozenset.__or__»:=
 entryFor_alias (id':="frozenset.__or__") (by kernel_rfl) rfl %[|9] (by kernel_rfl)
def XN(h:Q %[|11] {s with heap:=s.heap.push (bu (aq 7 [] 0 (aG w) 0 true) (ak K ([]:Cv α)) 0)}):wpAny %[|6] A (newSet (.type "set")) Q E s:=by unfold newSet setsByText;refine b0 (b0 (hV (b9 ?_)));exact dQ h (by size_fits)
def Zu{U:List α}(hu:A.units+12<cLine)(I:a≠b)
 (G:s.heap.get? a=%[|51])(T:%[|29])(V:bY m xs.length)
 (d:s.heap.get? b=some (bu (aq y g f2 (aG w) p true) (ak K zs) j))(t:Tab y (aF K zs) g)(r:bY y zs.length)
 (C:∀x∈xs,K.I s.heap x.2 x.1)(hz:∀x∈zs,K.I s.heap x.2 x.1)(nx:(xs.map (·.1)).Nodup)(nz:(zs.map (·.1)).Nodup)
 (N:U.length<=63)(P:∀x∈xs,x.1∈U)(uz:∀x∈zs,x.1∈U)
 (h:∀h' m' xs' ps' mv' ep',(∀b o,b<s.heap.objs.size->%[|32])->h'.get? s.heap.objs.size=some (bu (aq m' ps' 0 (aG w) mv' true) (ak K xs') ep')->Tab m' (aF K xs') ps'->bY m' xs'.length->(xs'.map (·.1)).Nodup->(∀x∈xs',x∈xs\/x∈zs)->(∀c,c∈xs.map (·.1)\/c∈zs.map (·.1)->c∈xs'.map (·.1))->Q %[|11] %[|20]):
 wpAny %[|6] A (binaryOp .BitOr (.ref a) (.ref b)) Q E s:=by
 have D:s.TypeIs (.ref a) "set":=%[_,G|rfl];have O:s.TypeIs (.ref b) "set":=%[_,d|rfl];have la:a<s.heap.objs.size:=c8 G;have lb:b<s.heap.objs.size:=c8 d;refine wpAny_binaryOp_same (op:=.BitOr) D O F.fills_set_or F.slot_set_or (dA F.slot_set_or D Hl ?_ (F.args_set_or_2 _ _));have i:=F.sub_set_set;have l:∀{A:ag1}{E:ae2}{s:ae4}{v:Value}{Q:ag2},s.TypeIs v "set"->Q true s->wpAny %[|6] A (Builtin.Frozenset.isAnySet v) Q E s:=λ T h=>by unfold Builtin.Frozenset.isAnySet;exact b0 (gt T i (b9 h))
 show wpAny _ _ (Builtin.Frozenset.slot1 "__or__" %[[.ref a,.ref b]|[]]>>=_) _ _ _;refine b0 (b0 (m:=slotArgs "__or__" 1 %[[.ref a,.ref b]|[]]) (b9 (b9 ?_)));refine b0 (b0 (l D (l O ?_)));rw[bP %[|1]];refine b0 (b9 ?_);refine b0 ?_;show wpAny _ _ (Builtin.Frozenset.copyOf a>>=_) _ _ _;refine b0 ?_;unfold Builtin.Frozenset.copyOf Builtin.Frozenset.baseOf;refine b0 (b0 (gt D i (b9 ?_)));rw[ca rfl];refine b0 (XN (K:=K) ?_);refine b0 (b9 ?_);have L:∀b o,%[|37]->(s.heap.push (bu (aq 7 [] 0 (aG w) 0 true) (ak K ([]:Cv α)) 0)).get? b=some o:=λ b o e=>bE _ e;have J:∀{h:Heap}{v:Value}{c:α},(∀b o,%[|37]->h.get? b=some o)->K.I s.heap v c->K.I h v c:=λ k z=>K.keep (λ b o e _=>k b o e) z;refine b0 (zu (s:={s with heap:=s.heap.push (bu (aq 7 [] 0 (aG w) 0 true) (ak K ([]:Cv α)) 0)}) (xs:=[]) (U:=U) (by show A.units+1+8<cLine;omega) (g7 la) (c9 _ rfl) (Tab.nil 7) %[.inl rfl|(%[|1]:0*5<7*3)] (L _ _ G) T V (λ _ h=>nomatch h) (λ x h=>J L (C x h)) iA nx N (λ _ h=>nomatch h) P (λ h' W R _ q=>b9 q) λ B m1 xs1 ac ab aa sb1 g1 X S n1 u Y=>?_);refine b9 ?_;have u:∀x∈xs1,x∈xs:=λ x h=>(u x h).elim (λ h=>nomatch h) id;have n:∀b o,%[|37]->B.get? b=some o:=λ b o e=>by have d:b<s.heap.objs.size:=c8 e;exact(sb1.2 b (cm d)).trans (L b o e)
 dsimp only;rw[ca (by simpa using Ne.symm I)];refine b0 (b9 ?_);refine b0 (eu ?_);unfold Builtin.Frozenset.updateFrom;refine b0 (l (s:={s with heap:=B}) %[_,n _ _ d|rfl] ?_);rw[ca rfl];refine b0 (b9 ?_);unfold Builtin.Frozenset.merge;refine b0 (wpAny_setEpoch_of (s:={s with heap:=B}) (n _ _ d) rfl (jP t (eJ r.few)) ?_);refine zu (s:={s with heap:=B}) (xs:=xs1) (zs:=zs) (U:=U) (by show A.units+1+8<cLine;omega) (g7 lb) g1 X S (n _ _ d) t r (λ x h=>J n (C x (u x h))) (λ x h=>J n (hz x h)) n1 nz N (λ x h=>P x (u x h)) uz (λ h' W R e q=>?_) λ h2 y M g p j sb2 g2 t r n2 i2 Z=>?_;{unfold Builtin.Frozenset.unchanged;refine b0 (wpAny_setEpoch_of (s:=%[|20]) (e.trans (n _ _ d)) rfl (jP t (eJ r.few)) ?_);rw[bP (by simp)];exact b9 q};{refine b9 (b9 %[_,rfl,(λ z=>nomatch z)|h h2 y M g p j (λ b o d e=>(sb2.2 b (cm d)).trans (n b o e)) g2 t r n2 (λ x C=>(i2 x C).imp (u x) id) λ c H=>Z c (H.imp (λ H=>Y c (.inr H)) id)])}
end
section
variable{prog:Program}{w:World}{α:Type}[DecidableEq α][Inhabited α]{lt:α -> α -> Bool}{good:α -> Prop}{enc:α -> D}{K:SK prog w α lt good enc}{A:Around}{E:%[|25]}{s:Shared}
def Mg{xs:Cv α}(T:A.units+8<cLine)
 (n:∀{E':ae2}{G:List Value->Shared->Prop},(∀h' tk,(∀b o,%[|32])->s.heap.objs.size<=h'.objs.size->G (xs.map (·.2)) {s with heap:=h',toks:=tk})->wpAny %[|6] A.in1 (collect (.ref x)) G E' s)
 (B:xs.length<64)(nd:(xs.map (·.1)).Nodup)(O:∀x∈xs,good x.1)(C:∀x∈xs,K.I s.heap x.2 x.1)
 (h:∀(ys:Cv α) h' tk a e,ys.Perm xs->ys.Pairwise (λ x y=>lt x.1 y.1=true)->(∀b o,%[|32])->s.heap.objs.size<=a->h'.get? a=some (seqObj "list" (ys.map (·.2)).toArray e)->Q (.ref a) {s with heap:=h',toks:=tk}):
 wpAny %[|6] A (call (.builtin "sorted") [.ref x]) Q E s:=by
 refine Calls.call_function_entry kind_sorted plain_sorted entry_sorted (args_sorted1 _) ?_;unfold Builtin.«sorted»;refine b0 (m:=checkCount "sorted" 1 1 _) (b9 ?_);refine b0 (n λ h' tk S J=>?_);have F:(xs.map (·.2)).length<=sizeLine:=cK (by rw[y7];omega:_<=64) %[|1];refine b0 (wpAny_newList ?_ F);have k:(h'.push (seqObj "list" (xs.map (·.2)).toArray 0)).get? h'.objs.size=some (seqObj "list" (xs.map (·.2)).toArray 0):=c9 _ rfl;have f:∀b o,%[|37]->(h'.push (seqObj "list" (xs.map (·.2)).toArray 0)).get? b=some o:=λ b o q=>bE _ (S b o q);show wpAny _ _ _ _ _ {s with heap:=h'.push (seqObj "list" (xs.map (·.2)).toArray 0),toks:=tk};refine b0 (eu (dA slot_list_sort %[_,k|rfl] entry_list_sort (xH (K:=K) (cs:=xs.map (·.1)) (show A.units+1+1+2<cLine by omega) k (by rw[y7,y7]) (λ i v c l u=>?_) (λ c C=>?_) nd (by rw[y7];exact B) λ p D=>%[_,rfl|?_]) (args_list_sort _)))
 . rw[y8]at l u
   cases q:xs[i]? with
   | none=>rw[q]at l;cases l
   | some z=>rw[q]at l u;cases l;cases u;exact K.keep (λ b o e _=>f b o e) (C z (y4 q))
 {obtain⟨z,R,rfl⟩:=bS.mp C;exact O z R}
 . obtain⟨e,I⟩:=sortedHeap_at (out:=List.toArray (p.map λ i=>(xs.map (·.2)).getD i Value.none)) k;have L:∀i∈p,i<xs.length:=λ i d=>by have:=D.lt_ i d;rwa[y7]at this
   have t:∀i,i<xs.length->xs[i]? =some (xs.getD i (default,.none)):=λ i d=>by rw[eC];simp[d]
   have N:(p.map λ i=>(xs.map (·.2)).getD i Value.none)=(p.map λ i=>xs.getD i (default,.none)).map (·.2):=by rw[de];refine kF λ i d=>?_;rw[eC,y8,t i (L i d)];rfl
   have M:(seqObj "list" (p.map λ i=>(xs.map (·.2)).getD i Value.none).toArray e)=seqObj "list" ((p.map λ i=>xs.getD i (default,Value.none)).map (·.2)).toArray e:=by rw[N]
   rw[M]at I;refine b9 %[_,rfl|h _ _ tk _ e ?_ ?_ (λ b o q=>?_) J I];{have H:=D.perm;rw[y7]at H;have:=H.map λ i=>xs.getD i (default,Value.none);rw[range_getD]at this;exact this}
   . rw[mS];refine D.srt.imp_of_mem λ{i j} d P h=>?_;have g:∀i∈p,(xs.map (·.1)).getD i default=(xs.getD i (default,Value.none)).1:=λ i d=>by rw[eC,y8,t i (L i d)];rfl
     unfold ye at h;rw[g i d,g j P]at h;exact h
   {have r:b<h'.objs.size:=v3 (c8 q) J;rw[sortedHeap_old (cm r) (by rw[size_push'];exact gz r)];exact f b o q}
def qG(hh:A.handled=none)(r:Tab m (aF K.toHK xs) ps)(a:xs.length<=m)(e:xs.length<=1000)(g:s.heap.get? S=some (bu (aq m ps f (aG w) mv true) (ak K.toHK xs) ep)):
 ∃ws:Cv α,ws.Perm xs/\∀{E':ae2}{c:List Value->Shared->Prop},(∀h' tk,(∀b o,%[|32])->s.heap.objs.size<=h'.objs.size->c (ws.map (·.2)) {s with heap:=h',toks:=tk})->wpAny %[|6] A (collect (.ref S)) c E' s:=by obtain⟨ws,k,d⟩:=wB (vg w S ep (ak K.toHK xs)) (xs:=xs) (f:=λ x=>(K.h x.1,x.2)) rfl;refine%[ws,k|λ h=>Fi hh r a e g λ h' tk i j=>?_];rw[d,de];exact h h' tk (λ b o q=>i b o (c8 q) q) j
end
section
variable{X:Cx}{S:Store}{W:WD}
def Sh{K}:∀{zs:Cv %[|15]},(∀z∈zs,∃b,z.2=.ref b/\Rep K O H (.ref b) (cD z.1))->∃vs,Vals vs (zs.map (·.2))/\Reps K O H vs ((zs.map (·.1)).map cD):=by
 intro zs
 induction zs with
 | nil=>intro _;exact%[[],.nil|.nil]
 | cons z zs d=>intro h;obtain⟨vs,a,b⟩:=d λ y c=>h y (x4 _ c);obtain⟨p,e,r⟩:=h z x6;exact%[.ref p::vs,.cons (by show L2.RelV (V.ref p) z.2;rw[e];rfl) a|.cons r b]
def iT{pins:Pins}{σ:DL.St}{xs:Cv %[|15]}(q:X.A.units+8<cLine)(I:%[|3])(st:%[|13])
 (c:∀{E':ae2}{i:List Value->Shared->Prop},(∀h' tk,(∀b o,%[|32])->s.heap.objs.size<=h'.objs.size->i (xs.map (·.2)) {s with heap:=h',toks:=tk})->wpAny %[|5] X.A.in1 (collect (.ref x)) i E' s)
 (d:xs.length<64)(nd:(xs.map (·.1)).Nodup)(l:∀z∈xs,∃b,z.2=.ref b/\Rep X.K O H (.ref b) (cD z.1))
 (w:∀ks:List %[|15],ks.Perm (xs.map (·.1))->ks.Pairwise %[|41]->W (.lst (ks.map cD)) S):
 wpAny %[|5] X.A (call (.builtin "sorted") [.ref x]) (EP X pins σ (QG X.K O H W)) X.xe s:=by
 refine Mg (K:=jV X.prog X.w) q c d nd (λ _ _=>trivial) (λ z f=>?_) λ ys h' tk a e g h k j p=>?_;{obtain⟨b,e,r⟩:=l z f;rw[e];exact gK I r rfl}
 . obtain⟨m,n,u⟩:=Sh (zs:=ys) λ z f=>l z (g.mem_iff.mp f);have t:m.length<=64:=by rw[n.length,y7,g.length_eq];omega
   exact%[.ref a,_,I.laid (t':=tk) k j (show aW X.prog X.w _ _ _ (.lst m)from%[cK t %[|1],_,e,n|p]),rfl|jb (w _ (g.map (·.1)) (mS.mpr h)) st (I.hok.fresh j) u]
def Xb(Y:X.calm=true)(M:X.A.units+8<cLine)(h2:cs.length<64)(nd:cs.Nodup)(Z:d=.lst (cs.map cD)\/∃(k:Nat) (kvs:Kc),d=.dlo k/\S[k]? =some (.non::kvs.map encC)/\cs=kvs.map (·.1))
 (w:∀ks:List %[|15],ks.Perm cs->ks.Pairwise %[|41]->W (.lst (ks.map cD)) S):gU X (.builtin "sorted") [d] S W:=by
 intro P s σ H O vs us I G r ru;obtain⟨v,rfl,Q⟩:=gh r;obtain⟨u,rfl,p⟩:=vals1 ru;rcases Z with rfl | ⟨k,kvs,rfl,hk,rfl⟩
 . obtain ⟨a,xs,rfl,T,q1⟩:=d7 Q;cases p;obtain⟨f,x,pl,g⟩:=I.list T.sq;have mk:∀(cs:af3)(xs:List V)(f:ae5),Reps X.K O H xs (cs.map cD)->Vals xs f->∃i:Cv %[|15],i.map (·.1)=cs/\i.map (·.2)=f/\∀z∈i,∃b,z.2=.ref b/\Rep X.K O H (.ref b) (cD z.1):=by
    intro cs
    induction cs with
    | nil=>intro xs f r x;cases r;cases x;exact%[[],rfl,rfl|λ _ h=>nomatch h]
    | cons c cs ih=>intro xs f r x;cases r with| cons r t=>cases x with| cons rx rt=>obtain⟨i,E,F,l⟩:=ih _ _ t rt;obtain⟨b,rfl⟩:=jH r;cases rx;exact%[(c,.ref b)::i,by rw[cn,E],by rw[cn,F]|λ z g=>(cr.mp g).elim (λ e=>e▸%[b,rfl|r]) (l z)]
   obtain⟨i,rfl,rfl,l⟩:=mk cs xs f q1 x;rw[y7]at h2;exact iT M I G (λ A=>collect_list pl.isList (A _ _ (λ b o q=>by have n:b<s.heap.objs.size:=c8 q;rw[Heap.get?_update_ne _ _ _ _ (cm n),kT _ _ _ (cm n)];exact q) (by rw[ly,size_push'];exact hZ _)) (by rw[y7,ib];omega)) h2 nd l w
 . obtain⟨a,rfl,U,aa⟩:=dM Q;cases p;obtain⟨lo,mu,B,eH,N,⟨oo,K,E,F,l,L,g5,g6⟩,g⟩:=nU I (G.dob k a _ U hk);have m:=Ht N;have C:K.size=B.length:=by rw[<-eW,L,y7]
   have R:(B.map λ y=>(y.1,Value.ref y.2.1)).map (·.2)=K.toList.map (·.key):=by rw[L,de,de];rfl
   have J:(B.map λ y=>(y.1,Value.ref y.2.1)).map (·.1)=kvs.map (·.1):=by rw[<-m,de];rfl
   refine iT (xs:=B.map λ y=>(y.1,Value.ref y.2.1)) M I G (λ A=>?_) (by rw[<-m,y7]at h2;rw[y7];exact h2) (by rw[J];exact nd) (λ z g=>?_) (by rw[J];exact w);{rw[R]at A;exact El (by simpa using I.ok.hd Y) lo %[oo,E,F|l] (by rw[C,sizeLine_eq];rw[ib]at g;omega) A};{obtain⟨y,hy,rfl⟩:=bS.mp g;obtain⟨j,hj⟩:=cw hy;exact%[y.2.1,rfl|Kq N j y hj]}
end
def aae:Bf where
 x:="sorted"
 id:="sorted"
 boot:=%[|9]
 wp g S W:=∃(c:af3) (d:D),g=[d]/\c.length<64/\c.Nodup/\(d=.lst (c.map cD)\/∃(k:Nat) (e:Kc),d=.dlo k/\S[k]? =some (.non::List.map encC e)/\c=e.map (·.1))/\∀f:List %[|15],f.Perm c->f.Pairwise %[|41]->W (.lst (f.map cD)) S
 sound:=by rintro X g S W m n ⟨c,d,rfl,h,i,j,l⟩;exact Xb m (by have:=n.un;omega) h i j l
section
variable{X:Cx}
def aaU{σ:DL.St}{i:Nat}(I:%[|3])(k:X.N[i]? =some x)(q:Vis X.env.scope x)(e:σ[i]? =some (some v))(h:∀u,RelV v u->Q u s)
 (f:%[|48])(d:(x==("__classdict__":Str))=false):wpAny %[|5] X.A (eval (.Name x g) X.env) Q E s:=by obtain⟨m,p,n⟩:=I.loc;obtain⟨u,r,l⟩:=n i x v k e q;rcases l with⟨b,o⟩ | ⟨b,c,j,a⟩;{exact nK (nL I.ok.kind b p o (h u r)) f};{rcases b with b | b;{exact nK (wpAny_loadName_cell I.ok.kind b j a (h u r)) f};{exact nK (wpAny_loadName_free I.ok.kind b j a (h u r) d) f}}
def Nx{pins:Pins}{σ:DL.St}{k:Nat}{l:Kc}(G:X.A.units+12<cLine)(I:%[|3])(st:%[|13])(C:O.A[k]? =some (a,true))(F:S[k]? =some (.non::l.map encC))(r:l.length<=63)
 (h:∀(h':Heap)(xs:Cv %[|15])(m:Nat)(ps:ae3)(mv ep:Nat),h'.get? s.heap.objs.size=some (bu (aq m ps 0 (aG X.w) mv true) (ak (jV X.prog X.w).toHK xs) ep)->Tab m (aF (jV X.prog X.w).toHK xs) ps->bY m xs.length->(xs.map (·.1)).Nodup->
  (∀b o,%[|32])->(∀x∈xs,x.1∈l.map (·.1)/\∃b,x.2=.ref b/\Rep X.K O H (.ref b) (cD x.1))->(∀c∈l.map (·.1),c∈xs.map (·.1))->Q %[|11] %[|20]):
 wpAny %[|5] X.A (call (.type "set") [.ref a]) Q E s:=by
 obtain⟨J,W,ys,T,v,⟨M,es,w,z,A,p,B,U⟩,V⟩:=nU I (st.dob k a _ C F);have u:=v.length;have g:=Ht v;have R:=Kq v;have n:es.size=ys.length:=by rw[<-eW,p,y7]
 refine Cj (K:=(jV X.prog X.w).toHK) (es:=es) (epd:=ys.length) (cs:=l.map (·.1)) G J %[M,w,z|A] (by rw[n,u,y7]) (by rw[y7];exact r) (λ i e c f d=>?_) λ h' xs m ps mv ep N L P=>?_
 . rw[p,y8]at f;rw[<-g,y8]at d
   cases q:ys[i]? with
   | none=>rw[q]at f;cases f
   | some y=>rw[q]at f d;cases f;cases d;exact%[B y (y4 q)|rfl]
 . refine h h' xs m ps mv ep N L.tab L.fill L.nd (λ b o e=>P b o (c8 e) e) (λ x t=>?_) λ c D=>?_
   . obtain⟨j,hj⟩:=cw (L.its x t);rw[fo,y8,p,y8]at hj;have d:=hj.2;rw[<-g,y8]at d
     cases q:ys[j]? with
     | none=>rw[q]at d;cases d
     | some y=>have f:=hj.1;rw[q]at f d;have f:Value.ref y.2.1=x.2:=cc f;have d:y.1=x.1:=cc d;refine%[y4 hj.2,y.2.1,f.symm|?_];rw[<-d];exact R j y q
   {obtain⟨x,t,e⟩:=L.all c (by rw[db (y9 _)];exact D);exact bS.mpr %[x,t|e]}
end
def ada(e:Expr):Option {x:Expr×Operator×Expr×Pos // e=.BinOp x.1 x.2.1 x.2.2.1 x.2.2.2}:=match e with
 | .BinOp l o r p=>some %[(l,o,r,p)|rfl]
 | _=>none
def UJ(N:ae7)(nm:Nm)(i:Nat)(e:Expr):Bool:=cO e λ z a=>(z=="set")&&cM a λ b=>anB (nameV b) λ x=>(N[i]? ==some x)&&(vis nm x&&okN x)
section
variable{Ω:Wd}
def aea(hm:Ω.mg "sorted"=none)(hm2:Ω.mg "set"=none)(i j:Nat):Ex Ω where
 lev:=0
 chk af N G e:=cO e λ y es=>(y=="sorted")&&cM es λ J=>anB (ada J) λ z=>(z.1.2.1==.BitOr)&&(glb G "sorted"&&(glb G "set"&&(UJ N G i z.1.1&&UJ N G j z.1.2.2.1)))
 wp Γ S W:=∃(k q:Nat) (f F:Kc) (U:af3),Γ[i]? =some (some (.dlo k))/\Γ[j]? =some (some (.dlo q))/\S[k]? =some (.non::List.map encC f)/\S[q]? =some (.non::List.map encC F)/\f.length<=63/\F.length<=63/\U.length<=63/\(∀c∈f.map (·.1),c∈U)/\(∀c∈F.map (·.1),c∈U)/\∀V:List %[|15],V.Pairwise %[|41]->(∀c,c∈V↔c∈f.map (·.1)\/c∈F.map (·.1))->W (.lst (V.map cD)) S
 sound:=by
  intro X r af N G e Γ S W A hl n hw;refine aX n λ y p es ad t=>?_;refine an2 t λ h1 w=>?_;refine bK w λ J B=>?_;obtain⟨⟨⟨el,op,er,bp⟩,eb⟩,_,C⟩:=bz B;have eb:J=.BinOp el op er bp:=eb;subst eb;refine an5 C λ h2 h3 h4 h5 h6=>?_;have e1:=ZU h1;have e2:op=.BitOr:=ZU h2;subst e1 e2;obtain⟨k,q,f,F,U,w1,w2,w3,w4,w5,w6,w7,w8,w9,ag⟩:=hw;have hu:=A.hu;have Y:∀{i:Nat}{e:Expr}{k:Nat}{f:Kc}{d:Pins}{s:ae4}{D:DL.St}{H:Hp}{O:Own}{Q:ae2}{E:ae2},UJ N G i e=true->Γ[i]? =some (some (.dlo k))->S[k]? =some (.non::f.map encC)->f.length<=63->Inv X d D H s->EnvOk X.K O H D Γ->%[|13]->
   (∀(h':Heap)(xs:Cv %[|15])(m:Nat)(ps:ae3)(mv ep:Nat),h'.get? s.heap.objs.size=some (bu (aq m ps 0 (aG X.w) mv true) (ak (jV X.prog X.w).toHK xs) ep)->Tab m (aF (jV X.prog X.w).toHK xs) ps->bY m xs.length->(xs.map (·.1)).Nodup->
    (∀b o,%[|32])->(∀x∈xs,x.1∈f.map (·.1)/\∃b,x.2=.ref b/\Rep X.K O H (.ref b) (cD x.1))->(∀c∈f.map (·.1),c∈xs.map (·.1))->Q %[|11] %[|20])->
   wpAny %[|5] X.A (eval e X.env) Q E s:=by
   intro i e k f d s D H O Q E n ab hk aa I l st h;refine aX n λ z pz aj Z t=>?_;refine an2 t λ g1 w=>?_;refine bK w λ b B=>?_;obtain⟨x,ex,C⟩:=bz B;obtain⟨px,ee⟩:=jX ex;subst ee;refine an3 C λ g2 g3 g4=>?_;have e1:=ZU g1;subst e1;obtain⟨d1,d2,_⟩:=jg g4;have hN:X.N[i]? =some x:=by rw[A.n];exact ZU g2
   obtain⟨v,ev,ae⟩:=l.at_ i _ ab;refine g9 (cj I (A.glb h4) (by rw[A.g];exact hm2) (show bootBuiltins "set"=some (.type "set")from %[|9]) ?_ %[|1] %[|1]);refine dV ?_ rfl rfl;show wpAny _ _ (spliced ((false,eval (.Name x px) X.env)::backTo Z (starEach [] X.env))) _ _ s;refine eI (aaU I hN (A.vis g3) ev (λ u ru=>?_) d1 d2);obtain⟨a,rfl,M,al⟩:=dM ae;cases ru;refine f8 ?_;exact Nx %[|0] I st M hk aa h
  intro d s D H O I l st;refine g9 (cj I (A.glb h3) (by rw[A.g];exact hm) (show bootBuiltins "sorted"=some (.builtin "sorted")from %[|9]) ?_ %[|1] %[|1]);refine gS ?_ rfl rfl;show wpAny _ _ (spliced ((false,eval (.BinOp el .BitOr er bp) X.env)::backTo ad (starEach [] X.env))) _ _ s;refine eI ?_;refine wpAny_BinOp (Y h5 w1 w3 w5 I l st λ M xs m ps mv ep a1 a2 a3 a4 a5 a6 a7=>?_);have Ia:Inv X d D H {s with heap:=M}:=I.kept (t':=s.toks) a5;refine Y (s:={s with heap:=M}) h6 w2 w4 w6 Ia l st λ hb zs m2 ap am ah J b2 b3 b4 b5 b6 b7=>?_;have Ib:Inv X d D H {s with heap:=hb}:=Ia.kept (t':=s.toks) b5;have lt:s.heap.objs.size<M.objs.size:=c8 a1;have L:∀{x:%[|15]×Value},(∃b,x.2=.ref b/\Rep X.K O H (.ref b) (cD x.1))->(jV X.prog X.w).I hb x.2 x.1:=by rintro x ⟨b,e,r⟩;rw[e];exact gK Ib r rfl
  refine Zu (K:=(jV X.prog X.w).toHK) (s:={s with heap:=hb}) (U:=U) %[|0] (cm lt) (b5 _ _ a1) a2 a3 J b2 b3 (λ x g=>L (a6 x g).2) (λ x g=>L (b6 x g).2) a4 b4 w7 (λ x g=>w8 _ (a6 x g).1) (λ x g=>w9 _ (b6 x g).1) λ n m3 us ar an ai c1 c2 c3 c4 c5 c6 c7=>?_;have kc:∀b o,hb.get? b=some o->n.get? b=some o:=λ b o e=>c1 b o (c8 e) e;have Ic:Inv X d D H {s with heap:=n}:=Ib.kept (t':=s.toks) kc;have ac:∀x∈us,∃b,x.2=.ref b/\Rep X.K O H (.ref b) (cD x.1):=λ x g=>(c6 x g).elim (λ h=>(a6 x h).2) λ h=>(b6 x h).2;have T:∀x∈us,x.1∈f.map (·.1)\/x.1∈F.map (·.1):=λ x g=>(c6 x g).imp (λ h=>(a6 x h).1) λ h=>(b6 x h).1;have ao:us.length<=63:=by have:=iP c5 (λ z R=>by obtain⟨y,hy,rfl⟩:=bS.mp R;exact(T y hy).elim (w8 _) (w9 _):∀z∈us.map (·.1),z∈U);rw[y7]at this;omega
  refine f8 ?_;obtain⟨ws,pz,P⟩:=qG (K:=jV X.prog X.w) (A:=X.A.in1) (s:={s with heap:=n}) (by simpa using I.ok.hd A.calm) c3 (Nat.le_of_lt c4.few) %[|0] c2;refine thn (iT (xs:=ws) %[|0] Ic st P (by rw[pz.length_eq];omega) ((pz.map (·.1)).nodup_iff.mpr c5) (λ z R=>ac z (pz.mem_iff.mp R)) λ V k1 k2=>ag V k2 λ c=>(k1.trans (pz.map (·.1))).mem_iff.trans %[λ hm=>by obtain⟨z,R,rfl⟩:=bS.mp hm;exact T z R|λ hm=>c7 c (hm.imp (a7 c) (b7 c))]) λ _ _ q=>q
end
section
variable{X:Cx}
def Im{cs:af3}(Y:X.calm=true)(hu:%[|36])(U:∀l:List %[|15],l.Nodup->(∀x∈l,x∈cs)->l.length<=63)(hd:d=.lst (cs.map cD)\/∃k,d=.loc k/\S[k]? =some (cs.map cD))
 (w:∀ks:List %[|15],ks.Pairwise %[|41]->(∀c,c∈ks↔c∈cs)->W (.lst (ks.map cD)) S)
 {pins:Pins}{σ:DL.St}(I:%[|3])(st:%[|13])(r':Rep X.K O H v d)(T:RelV v u):
 wpAny %[|5] X.A (call (.type "set") [u]) (λ u1 s1=>wpAny %[|5] X.A (call (.builtin "sorted") [u1]) (EP X pins σ (QG X.K O H W)) X.xe s1) X.xe s:=by
 have N:∃a h,v=.ref a/\SqL X.K H a h/\Reps X.K O H h (cs.map cD):=by rcases hd with rfl | ⟨k,rfl,hk⟩;{obtain⟨a,h,rfl,n,R⟩:=d7 r';exact%[a,h,rfl,n.sq|R]};{obtain⟨p,rfl,n⟩:=cV r';obtain⟨h,g,R⟩:=st.obj k p _ n hk;exact%[p,h,rfl,SqL.of g|R]}
 obtain⟨a,h,rfl,hs,Z⟩:=N;cases T;obtain⟨B,rv,pl,E⟩:=I.list hs;have l2:B.length=cs.length:=by rw[<-rv.length,Z.length,y7]
 have C:∀{i:Nat}{x:Value}{c:af8},B[i]? =some x->cs[i]? =some c->∃b,x=.ref b/\Rep X.K O H (.ref b) (cD c):=by intro i x c J L;obtain⟨y,P,ry⟩:=Z.get (show(cs.map cD)[i]? =some (cD c) by rw[y8,L];rfl);obtain⟨x',q,rx⟩:=nq rv P;rw[J]at q;cases q;obtain⟨b,rfl⟩:=jH ry;exact%[b,rx|ry]
 refine Aw (K:=(jV X.prog X.w).toHK) (I.ok.hd Y) %[|0] pl.isList l2 (λ i x c J L=>?_) U λ n tk ys m ps mv ep g1 f k1=>?_;{obtain⟨b,rfl,r⟩:=C J L;exact gK I r rfl};rw[l2]at f;have t:∀x∈ys,x.1∈cs:=λ x g=>iN (f.inn x g);have Q:=U (ys.map (·.1)) f.nd λ x g=>by obtain⟨y,P,rfl⟩:=bS.mp g;exact t y P
 rw[y7]at Q;obtain⟨ws,F,G⟩:=qG (K:=jV X.prog X.w) (A:=X.A.in1) (s:={s with heap:=n,toks:=tk}) (I.ok.hd Y) f.tab (eJ f.fill.few) %[|0] g1;refine iT %[|0] (I.kept (t':=tk) λ b o e=>k1 b o (c8 e) e) st G (by rw[F.length_eq];omega) ((F.map _).nodup_iff.mpr f.nd) (λ z E=>?_) λ ks p1 p2=>w ks p2 λ c=>?_;{obtain⟨j,hj⟩:=cw (f.its z (F.mem_iff.mp E));rw[fo]at hj;exact C hj.1 hj.2};{rw[(p1.trans (F.map _)).mem_iff];refine%[λ M=>?_|λ M=>?_];{obtain⟨z,E,rfl⟩:=bS.mp M;exact t z E};{obtain⟨x,g,e⟩:=f.all c (by rw[cS];exact M);exact bS.mpr %[x,g|e]}}
end
section
variable{Ω:Wd}
def aeb(hm:Ω.mg "sorted"=none)(hm2:Ω.mg "set"=none)(a:Ex Ω):Ex Ω where
 lev:=a.lev
 chk m N n e:=cO e λ y Q=>(y=="sorted")&&cM Q λ P=>cO P λ z g=>(z=="set")&&cM g λ b=>(glb n "sorted"&&(glb n "set"&&(okE b&&a.chk m N n b)))
 wp T S W:=a.wp T S λ d o=>∃f:List %[|15],(∀l:List %[|15],l.Nodup->(∀x∈l,x∈f)->l.length<=63)/\(d=.lst (f.map cD)\/∃k,d=.loc k/\o[k]? =some (f.map cD))/\∀J:List %[|15],J.Pairwise %[|41]->(∀c,c∈J↔c∈f)->W (.lst (J.map cD)) o
 sound:=by intro X r m N n e T S W A hl hc hw;refine aX hc λ y p Q L w=>?_;refine an2 w λ h1 B=>?_;refine bK B λ P C=>?_;refine aX C λ z p' g i D=>?_;refine an2 D λ h2 E=>?_;refine bK E λ b F=>?_;refine an4 F λ h3 h4 R h6=>?_;have e1:=ZU h1;have e2:=ZU h2;subst e1 e2;intro h s σ H O I t st;refine g9 (cj I (A.glb h3) (by rw[A.g];exact hm) (show bootBuiltins "sorted"=some (.builtin "sorted")from %[|9]) ?_ %[|1] %[|1]);refine gS ?_ rfl rfl;show wpAny _ _ (spliced ((false,eval _ X.env)::backTo L (starEach [] X.env))) _ _ s;refine eI ?_;refine g9 (cj I (A.glb h4) (by rw[A.g];exact hm2) (show bootBuiltins "set"=some (.type "set")from %[|9]) ?_ %[|1] %[|1]);refine dV ?_ (aJ R _ _) rfl;rw[aJ R [] X.env];show wpAny _ _ (spliced ((false,eval b X.env)::backTo i (starEach [] X.env))) _ _ s;refine eI (thn (a.sound A hl h6 hw h s σ H O I t st) λ u s1 G=>?_);obtain⟨v,H1,U,r1,O1,x,o,hb,M,K,j⟩:=G;obtain⟨f,V,Y,Z⟩:=hb;refine f8 ?_;refine thn (Im A.calm A.hu V Y Z U K j r1) λ u2 s2 q=>?_;refine f8 ?_;exact thn q λ _ _ q=>fc M q
end
def Rj{l:af3}(h:l.Pairwise %[|41]):l.Nodup:=h.imp λ{a b} q e=>by subst e;rw[vh]at q;cases q
def Uc{a b:af3}(d:a.Pairwise %[|41])(e:b.Pairwise %[|41])(h:∀c,c∈a↔c∈b):a=b:=by refine List.Perm.eq_of_pairwise (le:=%[|41]) (λ x y _ _ p q=>?_) d e ((List.perm_ext_iff_of_nodup (Rj d) (Rj e)).mpr h);have:=Pb p q;rw[vh]at this;cases this
section
variable{X:Cx}{Γ:Gam}{S:Store}{W:WD}{pos:Pos}
def Yl(hu:%[|36])(h:Ev X Γ (S++[[]]) N λ y S1=>Ev X Γ S1 R λ z S2=>∃ns:%[|8],y=.tup (ns.map .int)/\S2[S.length]? =some []/\W %[|22] (S2.set S.length ([((ns,z):%[|8]×D)].map encK))):Ev X Γ S (.Dict [some N] [R] pos) W:=by
 intro f s G H O I l Q;have L:=I.hok.fresh (y9 s.heap.objs.size);have U:Inv X f G (upd H s.heap.objs.size (.dT [])) {s with heap:=s.heap.push {cls:=.type "dict",data:=.dict #[]}}:=I.laid (a:=s.heap.objs.size) (o:=.dT []) (t':=s.toks) (λ _ _ q=>bE _ q) (y9 _) (GP s.heap I.big);have i:=Step.own (O:=O) L (.dT []) true;have F:StOk X.K (O.more s.heap.objs.size true) (upd H s.heap.objs.size (.dT [])) (S++[[]]):=Q.ownD L .nil;have n:(O.more s.heap.objs.size true).A[S.length]? =some (s.heap.objs.size,true):=by show(O.A++[(s.heap.objs.size,true)])[S.length]? =some (s.heap.objs.size,true);rw[<-Q.len];simp
 have x:Abv X.K s.heap.objs.size:=λ c o q=>c8 (I.kIn c o q);refine wpAny_Dict_any rfl rfl (by simp) (show 1<=15 by decide) ?_;generalize s.heap.objs.size=p at*;refine evalPairs_cons (thn (h f _ G _ _ U (l.mono i) F) λ ku s1 g=>?_);obtain⟨kx,T,V,rk,Y,kd,S1,h1,j,E,t⟩:=g;refine b0 (thn (h1 f s1 G T Y V ((l.mono i).mono j) E) λ vu s2 g=>?_);obtain⟨v,H2,w,rv,O2,vd,S2,⟨ns,rfl,hS,hw⟩,k,m,u⟩:=g;refine b0 (lP (b9 (evalPairs_nil ?_)));have d:O2.A[S.length]? =some (p,true):=k.conv.lc _ _ (j.conv.lc _ _ n);obtain⟨e,C,q2⟩:=(show DOb X.K O2 H2 p (([]:Kd).map encK)from m.dob _ _ _ d hS).flt;have P:=sE q2;obtain⟨b,rfl,K⟩:=mz (t.mono k);obtain rfl:ku=Value.ref b:=rk;obtain⟨z,hd,xs,r,Z⟩:=WT w.hok C;have hz:xs.length<=sizeLine:=by rw[<-Paired.length r];exact z
 have hl:(putK e (eG ns) v).length<=sizeLine:=by have h5:=lV e (eG ns) v;have h6:e.length=0:=P.length;rw[ib];omega
 unfold storeAll;rw[mf];refine b0 (b0 (wpAny_dictSet_heap (knd:=tupleKind (cP X.prog X.w)) (hsz:=hz) (show X.A.units<cLine from %[|0]) (mJ w.hok K) Z λ h' B hs=>b9 ?_));show wpAny _ _ (forIn [] _ _) _ _ _;rw[l8];refine b9 ?_;have sp:=Step.put (O:=O2) (H:=H2) (bU d) (.dT (putK e (eG ns) v));obtain⟨q,es,ep,M,g2,g3,g4,_,g5⟩:=B;refine%[.ref p,upd H2 p (.dT (putK e (eG ns) v)),jJ w (by rw[C];exact True.intro) hs %[q|M] %[hl,hd,_,(r.put (eG ns) K rv).keeps λ c ys J=>?_,q,es,ep,M,g2,g3,g4|g5],rfl,O2,%[|22],_,hw,((i.trans j).trans k).trans sp,m.putD d (P.put ns u).kps|.dlo d x];rw[az (Ww J C (λ z=>nomatch z))];exact J
end
section
variable{Ω:Wd}
def aei(a b:Ex Ω):Ex Ω where
 lev:=max a.lev b.lev
 chk c N j e:=anB (LR e) λ z=>cM z.1 λ o=>anB o λ x=>cM z.2 λ y=>a.chk c N j x&&b.chk c N j y
 wp k S W:=a.wp k (S++[[]]) λ y m=>b.wp k m λ z n=>∃p:%[|8],y=.tup (p.map .int)/\n[S.length]? =some []/\W %[|22] (n.set S.length ([((p,z):%[|8]×D)].map encK))
 sound:=by intro X r c N j e k S W A u g v;obtain⟨w,B⟩:=lv2 u;obtain⟨⟨ks,vs⟩,d,h⟩:=bz g;clear g;obtain⟨C,d⟩:=yE d;subst d;refine bK (l:=ks) h λ o f=>?_;obtain⟨x,d,i⟩:=bz f;clear f;subst d;refine bK (l:=vs) i λ y g=>?_;refine an2 g λ s t=>?_;exact Yl A.hu ((a.sound A w s v).mono λ y m q=>b.sound A B t q)
end
variable{Ω:Wd}
def Ex.din(a o:Ex Ω):Ex Ω where
 lev:=max a.lev o.lev
 chk f N j e:=cm1 e λ l p r=>(p==CmpOp.In)&&(okE r&&(a.chk f N j l&&o.chk f N j r))
 wp m S W:=a.wp m S λ y n=>o.wp m n λ x h=>onD x λ k=>CN y h k λ g s=>W (.bl (aC g s).isSome) h
 sound:=by intro X r f N j e m S W A D C E;obtain⟨F,G⟩:=lv2 D;refine sH C λ l J K H i=>?_;refine an4 i λ v u z B=>?_;have e:=ZU v;subst e;refine RV ((a.sound A F z E).mono λ y n q=>(o.sound A G B q).mono λ x h q=>?_) (iB u);refine fB q λ k q=>?_;obtain⟨s,g,rfl,t,w⟩:=q;exact(Wu (W:=λ b S=>W (.bl b) S) A.hu t w).mono λ d I ⟨c,e,w⟩=>by subst e;exact w
end RF
namespace K40
open PySem L2 DL RF
variable{Ω:Wd}{f:Addr}{fd:FuncData}
def top(i:Nat):Stmt:=PySem.Challenge.pw_nestturn_k40_whole_all_orders_of_few_ste.main.body.getD i (.Pass %[0,0,0|0])
structure Bi(mg:ae8):Prop where
 MOST_STEPS_:∃t,mg "MOST_STEPS"=some (.int 60 t)
 abs_:mg "abs"=none
 all_:mg "all"=none
 bool_:mg "bool"=none
 dict_:mg "dict"=none
 enumerate_:mg "enumerate"=none
 int_:mg "int"=none
 isinstance_:mg "isinstance"=none
 len_:mg "len"=none
 list_:mg "list"=none
 max_:mg "max"=none
 min_:mg "min"=none
 range_:mg "range"=none
 set_:mg "set"=none
 sorted_:mg "sorted"=none
 sum_:mg "sum"=none
 tuple_:mg "tuple"=none
 zip_:mg "zip"=none
def OkF(Ω:Wd)(x:Str)(t:Stmt)(k:Nat)(ps:ae7)(F:Ct):Prop:=∀{f:Addr}{a:FuncData},Fun Ω.K x x t f a->Ω.cd=none->FnOk Ω.P Ω.w Ω.K Ω.mg Ω.base CX0 k f a ps (spC Ω.K ps.length F)
def aK(b:Bl Ω)(d:WR N ps t k b=true)(e:∀(ds:List D)(S:Store)(W:WD),F ds S W->ds.length=ps.length->b.wp (ds.map some++List.replicate (N.length-ds.length) none) S {nx:=λ _ S1=>W .non S1,rt:=W}):OkF Ω x t (k+1) ps F:=λ a c=>ack c a b d e
abbrev bw(Ω:Wd)(F:Ct):Prop:=Cal Ω "is_whole" 1 1 F
abbrev au(Ω:Wd)(F:Ct):Prop:=Cal Ω "is_tuple_of" 1 3 F
abbrev dz(Ω:Wd)(F:Ct):Prop:=Cal Ω "is_form" 2 2 F
abbrev cu(Ω:Wd)(F:Ct):Prop:=Cal Ω "comes_to" 1 2 F
abbrev qD(Ω:Wd)(F:Ct):Prop:=Cal Ω "is_bound" 3 2 F
abbrev ut(Ω:Wd)(F:Ct):Prop:=Cal Ω "is_loop" 4 2 F
abbrev j7(Ω:Wd)(F:Ct):Prop:=Cal Ω "is_loops" 5 1 F
abbrev eO(Ω:Wd)(F:Ct):Prop:=Cal Ω "with_next_count" 2 3 F
abbrev d9(Ω:Wd)(F:Ct):Prop:=Cal Ω "counts_of" 3 1 F
abbrev cF(Ω:Wd)(F:Ct):Prop:=Cal Ω "has_few_figures" 1 1 F
abbrev ji(Ω:Wd)(F:Ct):Prop:=Cal Ω "is_widths" 2 1 F
abbrev fU(Ω:Wd)(F:Ct):Prop:=Cal Ω "is_place_form" 3 2 F
abbrev j5(Ω:Wd)(F:Ct):Prop:=Cal Ω "is_start" 3 2 F
abbrev bA(Ω:Wd)(F:Ct):Prop:=Cal Ω "is_table_with_place" 4 4 F
abbrev uw(Ω:Wd)(F:Ct):Prop:=Cal Ω "is_read" 5 3 F
abbrev jO(Ω:Wd)(F:Ct):Prop:=Cal Ω "is_reads" 6 3 F
abbrev lU(Ω:Wd)(F:Ct):Prop:=Cal Ω "is_deed" 7 3 F
abbrev ue(Ω:Wd)(F:Ct):Prop:=Cal Ω "is_nest" 8 2 F
abbrev km(Ω:Wd)(F:Ct):Prop:=Cal Ω "is_nests" 9 2 F
abbrev aP(Ω:Wd)(F:Ct):Prop:=Cal Ω "number_of_steps" 4 1 F
abbrev fC(Ω:Wd)(F:Ct):Prop:=Cal Ω "program_of" 10 2 F
abbrev dR(Ω:Wd)(F:Ct):Prop:=Cal Ω "steps_of" 4 1 F
abbrev dw(Ω:Wd)(F:Ct):Prop:=Cal Ω "deed_of" 1 2 F
abbrev lY(Ω:Wd)(F:Ct):Prop:=Cal Ω "cell_at" 2 3 F
abbrev jk(Ω:Wd)(F:Ct):Prop:=Cal Ω "cells_of_step" 3 2 F
abbrev bJ(Ω:Wd)(F:Ct):Prop:=Cal Ω "cells_of" 5 1 F
abbrev lE(Ω:Wd)(F:Ct):Prop:=Cal Ω "plain" 5 1 F
abbrev jB(Ω:Wd)(F:Ct):Prop:=Cal Ω "is_row" 5 2 F
abbrev dH(Ω:Wd)(F:Ct):Prop:=Cal Ω "refuse_no_row" 6 2 F
abbrev bN(Ω:Wd)(F:Ct):Prop:=Cal Ω "touched_cells" 1 2 F
abbrev eF(Ω:Wd)(F:Ct):Prop:=Cal Ω "touches" 6 3 F
abbrev qZ(Ω:Wd)(F:Ct):Prop:=Cal Ω "pairs" 6 1 F
abbrev qP(Ω:Wd)(F:Ct):Prop:=Cal Ω "is_order" 6 2 F
abbrev eQ(Ω:Wd)(F:Ct):Prop:=Cal Ω "refuse_no_order" 7 2 F
abbrev jj(Ω:Wd)(F:Ct):Prop:=Cal Ω "places_of" 1 1 F
abbrev di(Ω:Wd)(F:Ct):Prop:=Cal Ω "broken" 8 2 F
abbrev sS(Ω:Wd)(F:Ct):Prop:=Cal Ω "led" 9 2 F
abbrev fj(Ω:Wd)(F:Ct):Prop:=Cal Ω "trace_held" 1 2 F
abbrev f9(Ω:Wd)(F:Ct):Prop:=Cal Ω "add_times" 1 3 F
abbrev dD(Ω:Wd)(F:Ct):Prop:=Cal Ω "trace_of_step" 2 4 F
abbrev fH(Ω:Wd)(F:Ct):Prop:=Cal Ω "told_trace" 1 1 F
abbrev jD(Ω:Wd)(F:Ct):Prop:=Cal Ω "traced" 7 2 F
abbrev gV(Ω:Wd)(F:Ct):Prop:=Cal Ω "trace_by" 1 2 F
abbrev gR(Ω:Wd)(F:Ct):Prop:=Cal Ω "compared" 8 3 F
abbrev iM(Ω:Wd)(F:Ct):Prop:=Cal Ω "_law_cell" 1 2 F
abbrev rP(Ω:Wd)(F:Ct):Prop:=Cal Ω "_law_pen" 2 2 F
abbrev bI(Ω:Wd)(F:Ct):Prop:=Cal Ω "_law_take" 2 2 F
abbrev oA(Ω:Wd)(F:Ct):Prop:=Cal Ω "_law_form" 3 3 F
abbrev lF(Ω:Wd)(F:Ct):Prop:=Cal Ω "_law_loops" 3 2 F
abbrev nZ(Ω:Wd)(F:Ct):Prop:=Cal Ω "_law_deed" 4 3 F
abbrev iY(Ω:Wd)(F:Ct):Prop:=Cal Ω "_law_program" 5 2 F
abbrev fY(Ω:Wd)(F:Ct):Prop:=Cal Ω "_law_at" 1 2 F
abbrev jw(Ω:Wd)(F:Ct):Prop:=Cal Ω "_law_counts" 2 1 F
abbrev nM(Ω:Wd)(F:Ct):Prop:=Cal Ω "_law_spot" 2 3 F
abbrev lB(Ω:Wd)(F:Ct):Prop:=Cal Ω "_law_steps" 3 1 F
abbrev jx(Ω:Wd)(F:Ct):Prop:=Cal Ω "_law_orders" 1 1 F
abbrev iU(Ω:Wd)(F:Ct):Prop:=Cal Ω "_law_come_to" 7 2 F
section
variable{Ω:Wd}
abbrev qj:=top 6
abbrev DQ:ae7:=["thing"]
def Gy(B:%[|2]):Bl Ω:=
 fM (Ac (adp (adk (adO B.isinstance_ (eN 0) .int B.int_) (ado (ad2 (adO B.isinstance_ (eN 0) .bool B.bool_)))))) gB
abbrev lu:=top 7
abbrev wJ:ae7:=["thing","least","most"]
def vU(B:%[|2]):Bl Ω:=
 fM (Ac (adp (adk (adO B.isinstance_ (eN 0) .tuple B.tuple_) (ado (Ex.ch2 (eN 1) .LtE (Hg dB B.len_ (fJ (eN 0) gf)) .LtE (eN 2)))))) gB
abbrev uh:=top 8
abbrev Jh:ae7:=["thing","d"]
def JL(B:%[|2]){pf:Ct}(pi:bw Ω pf){pj:Ct}(po:au Ω pj):Bl Ω:=
 fM (Ac (adp (adk (sy po (fJ (eN 0) (fJ (FN .Add (eN 1) (gk 1)) (fJ (FN .Add (eN 1) (gk 1)) gf)))) (ado (Hg jh B.all_ (fJ (ade ["number"] [none] (sy pi (fJ (eN 0) gf)) (Tg.nm 0) (adn (eN 0)) adl) gf)))))) gB
abbrev qt:=top 9
abbrev Gp:ae7:=["form","counts"]
def Dq(B:%[|2]):Bl Ω:=
 fM (Ac (FN .Add (vy (eN 0) (gk 0)) (Hg Dc B.sum_ (fJ (ade ["number","count"] [none,none] (FN .Mult (eN 0) (eN 1)) (Tg.tup [0,1]) (aed B.zip_ (adE (eN 0) (Po.so (gk 1)) Po.no) (eN 1)) adl) gf)))) gB
abbrev qM:=top 10
def zp(B:%[|2]){pu:Ct}(pv:dz Ω pu):Bl Ω:=
 fM (Ac (adp (adk (Ex.ch2 (adA (gk 9)) .LtE (vy (eN 0) (gk 0)) .LtE (gk 9)) (ado (Hg jh B.all_ (fJ (ade ["number"] [none] (Ex.ch2 (adA (gk 2)) .LtE (eN 0) .LtE (gk 2)) (Tg.nm 0) (adn (adE (eN 0) (Po.so (gk 1)) Po.no)) adl) gf)))))) gB
def HJ(B:%[|2]){pu:Ct}(pv:dz Ω pu):Bl Ω:=
 fM (S9 (adu (adt (sy pv %[|38]))) (fM (Ac (Ex.bl false)) gB) gB) (zp B pv)
abbrev ur:=top 11
def Ij{pj:Ct}(po:au Ω pj){pE:Ct}(pS:qD Ω pE):Bl Ω:=
 fM (Ac (adp (adk (sy po (fJ (eN 0) (fJ (gk 2) (fJ (gk 2) gf)))) (adk (sy pS (fJ (vy (eN 0) (gk 0)) (fJ (eN 1) gf))) (ado (sy pS (fJ (vy (eN 0) (gk 1)) (fJ (eN 1) gf)))))))) gB
abbrev qd:=top 12
def Fv(B:%[|2]){pj:Ct}(po:au Ω pj){pT:Ct}(pV:ut Ω pT):Bl Ω:=
 fM (Ac (adp (adk (sy po (fJ (eN 0) (fJ (gk 1) (fJ (gk 3) gf)))) (ado (Hg jh B.all_ (fJ (ade ["k","loop"] [none,none] (sy pV (fJ (eN 1) (fJ (eN 0) gf))) (Tg.tup [0,1]) (adG B.enumerate_ (eN 0)) adl) gf)))))) gB
abbrev g8:=top 13
abbrev pF:ae7:=["ahead","low","high","longer","counts","count"]
abbrev pH:ae7:=["ahead","low","high"]
section
variable(B:%[|2]){qc:Ct}(qf:cu Ω qc)
def mR(B:%[|2]){qc:Ct}(qf:cu Ω qc):Bl Ω:=
 fM (Ac (eN 3)) gB
def mL:Bl Ω:=
 fM (adx (Tg.nm 4) (eN 0) (fM (adq (Tg.nm 5) (adJ B.range_ (sy qf (fJ (eN 1) (fJ (eN 4) gf))) (sy qf (fJ (eN 2) (fJ (eN 4) gf)))) (fM (adg (abv (eN 3) (FN .Add (eN 4) (Hh (fJ (eN 5) gf))))) gB)) gB)) (mR B qf)
def pq:Bl Ω:=
 fM (u5 3 (Ex.own gf)) (mL B qf)
end
abbrev oN:=top 14
abbrev Ay:ae7:=["loops","told","low","high"]
abbrev Aq:ae7:=["loops"]
section
variable{qh:Ct}(qk:eO Ω qh)
def ww{qh:Ct}(qk:eO Ω qh):Bl Ω:=
 fM (Ac (eN 1)) gB
def vR:Bl Ω:=
 fM (adx (Tg.tup [2,3]) (eN 0) (fM (u5 1 (sy qk (fJ (eN 1) (fJ (eN 2) (fJ (eN 3) gf))))) gB)) (ww qk)
def CK:Bl Ω:=
 fM (u5 1 (adh (fJ (Hh gf) gf))) (vR qk)
end
abbrev ik:=top 17
abbrev oR:ae7:=["number"]
def pI(B:%[|2]):Bl Ω:=
 fM (Ac (adC .Lt (Hg abi B.abs_ (fJ (eN 0) gf)) (FN .Pow (gk 10) (gk 30)))) gB
abbrev oM:=top 18
def Cq(B:%[|2]){pf:Ct}(pi:bw Ω pf){pj:Ct}(po:au Ω pj):Bl Ω:=
 fM (Ac (adp (adk (sy po (fJ (eN 0) (fJ (gk 1) (fJ (gk 3) gf)))) (ado (Hg jh B.all_ (fJ (ade ["width"] [none] (adp (adk (sy pi (fJ (eN 0) gf)) (ado (Ex.ch2 (gk 1) .LtE (eN 0) .LtE (gk 2))))) (Tg.nm 0) (adn (eN 0)) adl) gf)))))) gB
abbrev jr:=top 19
def tV(B:%[|2]){pu:Ct}(pv:dz Ω pu):Bl Ω:=
 fM (Ac (adp (adk (sy pv %[|38]) (ado (Hg jh B.all_ (fJ (ade ["number"] [none] (Ex.ch2 (adA (gk 99)) .LtE (eN 0) .LtE (gk 99)) (Tg.nm 0) (adn (eN 0)) adl) gf)))))) gB
abbrev qW:=top 20
def Hk(B:%[|2]){pu:Ct}(pv:dz Ω pu){qo:Ct}(qq:cF Ω qo):Bl Ω:=
 fM (Ac (adp (adk (sy pv %[|38]) (ado (Hg jh B.all_ (fJ (ade ["number"] [none] (sy qq (fJ (eN 0) gf)) (Tg.nm 0) (adn (eN 0)) adl) gf)))))) gB
abbrev fO:=top 21
abbrev kY:ae7:=["table","place","widths","d"]
def jz(B:%[|2]){pf:Ct}(pi:bw Ω pf){pj:Ct}(po:au Ω pj){qr:Ct}(qs:fU Ω qr):Bl Ω:=
 fM (Ac (adp (adk (sy po (fJ (eN 1) (fJ (vy (eN 2) (eN 0)) (fJ (vy (eN 2) (eN 0)) gf)))) (ado (Hg jh B.all_ (fJ (ade ["form","d"] [none,some 3] (sy qs %[|38]) (Tg.nm 0) (adn (eN 1)) adl) gf)))))) gB
def lg(B:%[|2]){pf:Ct}(pi:bw Ω pf){pj:Ct}(po:au Ω pj){qr:Ct}(qs:fU Ω qr):Bl Ω:=
 fM (S9 (adM (adw (adu (adt (sy pi (fJ (eN 0) gf)))) (adz (adu (Te.ch2 (gk 0) .LtE (eN 0) .Lt (Hg dB B.len_ (fJ (eN 2) gf))))))) (fM (Ac (Ex.bl false)) gB) gB) (jz B pi po qs)
abbrev uA:=top 22
abbrev Jd:ae7:=["thing","widths","d"]
section
variable{pf:Ct}(pi:bw Ω pf){pj:Ct}(po:au Ω pj){qo:Ct}(qq:cF Ω qo){qv:Ct}(qA:bA Ω qv)
def Cg{pf:Ct}(pi:bw Ω pf){pj:Ct}(po:au Ω pj){qo:Ct}(qq:cF Ω qo){qv:Ct}(qA:bA Ω qv):Bl Ω:=
 fM (Ac (sy qA (fJ (vy (eN 0) (gk 1)) (fJ (vy (eN 0) (gk 2)) (fJ (eN 1) (fJ (eN 2) gf)))))) gB
def Bv:Bl Ω:=
 fM (S9 (adM (adw (adu (adt (sy pi (fJ (vy (eN 0) (gk 0)) gf)))) (adz (adu (adt (sy qq (fJ (vy (eN 0) (gk 0)) gf))))))) (fM (Ac (Ex.bl false)) gB) gB) (Cg pi po qq qA)
def Io:Bl Ω:=
 fM (S9 (adu (adt (sy po (fJ (eN 0) (fJ (gk 3) (fJ (gk 3) gf)))))) (fM (Ac (Ex.bl false)) gB) gB) (Bv pi po qq qA)
end
abbrev rn:=top 23
def Fd(B:%[|2]){pj:Ct}(po:au Ω pj){qB:Ct}(qE:uw Ω qB):Bl Ω:=
 fM (Ac (adp (adk (sy po (fJ (eN 0) (fJ (gk 0) (fJ (gk 3) gf)))) (ado (Hg jh B.all_ (fJ (ade ["read","widths","d"] [none,some 1,some 2] (sy qE (fJ (eN 0) (fJ (eN 1) (fJ (eN 2) gf)))) (Tg.nm 0) (adn (eN 0)) adl) gf)))))) gB
abbrev ul:=top 24
section
variable{pj:Ct}(po:au Ω pj){qS:Ct}(qV:j5 Ω qS){qv:Ct}(qA:bA Ω qv){r0:Ct}(r6:jO Ω r0)
def Bd{pj:Ct}(po:au Ω pj){qS:Ct}(qV:j5 Ω qS){qv:Ct}(qA:bA Ω qv){r0:Ct}(r6:jO Ω r0):Bl Ω:=
 fM (Ac (adp (adk (sy qV (fJ (vy (eN 0) (gk 2)) (fJ (eN 2) gf))) (ado (sy r6 (fJ (vy (eN 0) (gk 3)) (fJ (eN 1) (fJ (eN 2) gf)))))))) gB
def Ax:Bl Ω:=
 fM (S9 (adu (adt (sy qA (fJ (vy (eN 0) (gk 0)) (fJ (vy (eN 0) (gk 1)) (fJ (eN 1) (fJ (eN 2) gf))))))) (fM (Ac (Ex.bl false)) gB) gB) (Bd po qV qA r6)
def Iz:Bl Ω:=
 fM (S9 (adu (adt (sy po (fJ (eN 0) (fJ (gk 4) (fJ (gk 4) gf)))))) (fM (Ac (Ex.bl false)) gB) gB) (Ax po qV qA r6)
end
abbrev uo:=top 25
abbrev Jt:ae7:=["thing","widths"]
section
variable(B:%[|2]){pj:Ct}(po:au Ω pj){r9:Ct}(re:j7 Ω r9){rf:Ct}(rh:lU Ω rf)
def Cu(B:%[|2]){pj:Ct}(po:au Ω pj){r9:Ct}(re:j7 Ω r9){rf:Ct}(rh:lU Ω rf):Bl Ω:=
 fM (Ac (adp (adk (sy po (fJ (vy (eN 0) (gk 1)) (fJ (gk 1) (fJ (gk 4) gf)))) (ado (Hg jh B.all_ (fJ (ade ["deed","widths","d"] [none,some 1,some 2] (sy rh (fJ (eN 0) (fJ (eN 1) (fJ (eN 2) gf)))) (Tg.nm 0) (adn (vy (eN 0) (gk 1))) adl) gf)))))) gB
def BL:Bl Ω:=
 fM (u5 2 (Hg dB B.len_ (fJ (vy (eN 0) (gk 0)) gf))) (Cu B po re rh)
def Iv:Bl Ω:=
 fM (S9 (adM (adw (adu (adt (sy po (fJ (eN 0) (fJ (gk 2) (fJ (gk 2) gf)))))) (adz (adu (adt (sy re (fJ (vy (eN 0) (gk 0)) gf))))))) (fM (Ac (Ex.bl false)) gB) gB) (BL B po re rh)
end
abbrev rC:=top 26
def Hq(B:%[|2]){pj:Ct}(po:au Ω pj){ri:Ct}(rj:ue Ω ri):Bl Ω:=
 fM (Ac (adp (adk (sy po (fJ (eN 0) (fJ (gk 1) (fJ (gk 3) gf)))) (ado (Hg jh B.all_ (fJ (ade ["nest","widths"] [none,some 1] (sy rj %[|38]) (Tg.nm 0) (adn (eN 0)) adl) gf)))))) gB
abbrev gZ:=top 27
abbrev ph:ae7:=["nests"]
def oX(B:%[|2]){rl:Ct}(ro:d9 Ω rl):Bl Ω:=
 fM (Ac (Hg Dc B.sum_ (fJ (ade ["loops","deeds"] [none,none] (FN .Mult (Hg dB B.len_ (fJ (sy ro (fJ (eN 0) gf)) gf)) (Hg dB B.len_ (fJ (eN 1) gf))) (Tg.tup [0,1]) (adn (eN 0)) adl) gf))) gB
abbrev my:=top 28
abbrev zq:ae7:=["widths","nests"]
section
variable(B:%[|2]){rq:Ct}(rL:ji Ω rq){rS:Ct}(rV:km Ω rS){rX:Ct}(se:aP Ω rX)
def uH(B:%[|2]){rq:Ct}(rL:ji Ω rq){rS:Ct}(rV:km Ω rS){rX:Ct}(se:aP Ω rX):Bl Ω:=
 fM (Ac (Hh %[|38])) gB
def vC:Bl Ω:=
 fM (S9 (adf .Gt (sy se (fJ (eN 1) gf)) (aec B.MOST_STEPS_)) (fM Sm.never gB) gB) (uH B rL rV se)
def vm:Bl Ω:=
 fM (S9 (adu (adt (sy rV (fJ (eN 1) (fJ (eN 0) gf))))) (fM Sm.never gB) gB) (vC B rL rV se)
def za:Bl Ω:=
 fM (S9 (adu (adt (sy rL (fJ (eN 0) gf)))) (fM Sm.never gB) gB) (vm B rL rV se)
end
abbrev pR:=top 29
abbrev Ds:ae7:=["program","steps","nest","loops_and_deeds","counts","deed"]
abbrev Dp:ae7:=["program"]
section
variable(B:%[|2]){rl:Ct}(ro:d9 Ω rl)
def yJ(B:%[|2]){rl:Ct}(ro:d9 Ω rl):Bl Ω:=
 fM (Ac (eN 1)) gB
def yF:Bl Ω:=
 fM (adq (Tg.tup [2,3]) (adG B.enumerate_ (vy (eN 0) (gk 1))) (fM (adx (Tg.nm 4) (sy ro (fJ (vy (eN 3) (gk 0)) gf)) (fM (adq (Tg.nm 5) (adm B.range_ (Hg dB B.len_ (fJ (vy (eN 3) (gk 1)) gf))) (fM (adg (abv (eN 1) (Hh (fJ (eN 2) (fJ (eN 4) (fJ (eN 5) gf)))))) gB)) gB)) gB)) (yJ B ro)
def Fg:Bl Ω:=
 fM (u5 1 (Ex.own gf)) (yF B ro)
end
abbrev uD:=top 30
abbrev Ik:ae7:=["program","step"]
def Js:Bl Ω:=
 fM (Ac (vy (vy (vy (vy (eN 0) (gk 1)) (vy (eN 1) (gk 0))) (gk 1)) (vy (eN 1) (gk 2)))) gB
abbrev ug:=top 31
abbrev Jv:ae7:=["table","place","counts"]
def IV(B:%[|2]){qc:Ct}(qf:cu Ω qc):Bl Ω:=
 fM (Ac (Hh (fJ (eN 0) (fJ (adi bL B.tuple_ (fJ (ade ["form","counts"] [none,some 2] (sy qf %[|38]) (Tg.nm 0) (adn (eN 1)) adl) gf)) gf)))) gB
abbrev jt:=top 32
abbrev tR:ae7:=["program","step","counts","deed","reads"]
section
variable{sf:Ct}(sg:dw Ω sf){sh:Ct}(sj:lY Ω sh)
def pK{sf:Ct}(sg:dw Ω sf){sh:Ct}(sj:lY Ω sh):Bl Ω:=
 fM (Ac (Hh (fJ (sy sj (fJ (vy (eN 3) (gk 0)) (fJ (vy (eN 3) (gk 1)) (fJ (eN 2) gf)))) (fJ (eN 4) gf)))) gB
def oW:Bl Ω:=
 fM (adW 4 ["factor","table","place","counts"] [none,none,none,some 2] (sy sj (fJ (eN 1) (fJ (eN 2) (fJ (eN 3) gf)))) (Tg.tup [0,1,2]) (adn (vy (eN 3) (gk 3))) adl) (pK sg sj)
def pJ:Bl Ω:=
 fM (u5 3 (sy sg %[|38])) (oW sg sj)
def tX:Bl Ω:=
 fM (u5 2 (vy (eN 1) (gk 1))) (pJ sg sj)
end
abbrev qI:=top 33
def Dh{sk:Ct}(sn:dR Ω sk){ss:Ct}(sv:jk Ω ss):Bl Ω:=
 fM (Ac (ade ["step","program"] [none,some 0] (sy sv (fJ (eN 1) (fJ (eN 0) gf))) (Tg.nm 0) (adn (sy sn (fJ (eN 0) gf))) adl)) gB
abbrev zJ:=top 35
def Pk(B:%[|2]){rX:Ct}(se:aP Ω rX):Bl Ω:=
 fM (Ac (adP B.range_ B.list_ (sy se (fJ (vy (eN 0) (gk 1)) gf)))) gB
abbrev wF:=top 36
abbrev Nq:ae7:=["program","thing","number"]
abbrev My:ae7:=["program","thing"]
section
variable(B:%[|2]){pf:Ct}(pi:bw Ω pf){rX:Ct}(se:aP Ω rX)
def GJ(B:%[|2]){pf:Ct}(pi:bw Ω pf){rX:Ct}(se:aP Ω rX):Bl Ω:=
 fM (Ac (adC .Eq (Ex.lset B.len_ B.set_ (eN 1)) (Hg dB B.len_ (fJ (eN 1) gf)))) gB
def En:Bl Ω:=
 fM (S9 (adu (adt (Hg jh B.all_ (fJ (ade ["step","number"] [none,some 2] (adp (adk (sy pi (fJ (eN 0) gf)) (ado (Ex.ch2 (gk 0) .LtE (eN 0) .Lt (eN 1))))) (Tg.nm 0) (adn (eN 1)) adl) gf)))) (fM (Ac (Ex.bl false)) gB) gB) (GJ B pi se)
def HY:Bl Ω:=
 fM (u5 2 (sy se (fJ (vy (eN 0) (gk 1)) gf))) (En B pi se)
def Od:Bl Ω:=
 fM (S9 (adu (adt (adO B.isinstance_ (eN 1) .list B.list_))) (fM (Ac (Ex.bl false)) gB) gB) (HY B pi se)
end
abbrev jo:=top 37
abbrev tO:ae7:=["program","row"]
def tL{sx:Ct}(sA:jB Ω sx):Bl Ω:=
 fM (S9 (adu (adt (sy sA %[|38]))) (fM Sm.never gB) gB) gB
abbrev jl:=top 39
abbrev t6:ae7:=["one","other","told"]
abbrev tU:ae7:=["one","other"]
section
variable(B:%[|2])
def ig(B:%[|2]):Bl Ω:=
 fM (Ac (aeb B.sorted_ B.set_ (eN 2))) gB
def ie:Bl Ω:=
 fM (S9 (adf .In (vy (eN 1) (gk 0)) (vy (eN 0) (gk 1))) (fM (adg (abv (eN 2) (vy (eN 1) (gk 0)))) gB) gB) (ig B)
def pA:Bl Ω:=
 fM (S9 (adM (adw (adf .Eq (vy (eN 0) (gk 0)) (vy (eN 1) (gk 0))) (adz (adf .In (vy (eN 0) (gk 0)) (vy (eN 1) (gk 1)))))) (fM (adg (abv (eN 2) (vy (eN 0) (gk 0)))) gB) gB) (ie B)
def tY:Bl Ω:=
 fM (u5 2 (Ex.own gf)) (pA B)
end
abbrev uf:=top 40
abbrev IW:ae7:=["program","i","j","cells"]
abbrev JH:ae7:=["program","i","j"]
def BJ{sB:Ct}(sC:bJ Ω sB){sD:Ct}(sF:bN Ω sD):Bl Ω:=
 fM (Ac (adp (adk (adC .NotEq (eN 1) (eN 2)) (ado (adC .NotEq (sy sF (fJ (vy (eN 3) (eN 1)) (fJ (vy (eN 3) (eN 2)) gf))) (adh gf)))))) gB
def Il{sB:Ct}(sC:bJ Ω sB){sD:Ct}(sF:bN Ω sD):Bl Ω:=
 fM (u5 3 (sy sC (fJ (eN 0) gf))) (BJ sC sF)
abbrev zP:=top 41
abbrev Rr:ae7:=["program","cells","told","i","j","touched"]
section
variable(B:%[|2]){sB:Ct}(sC:bJ Ω sB){sD:Ct}(sF:bN Ω sD)
def yx(B:%[|2]){sB:Ct}(sC:bJ Ω sB){sD:Ct}(sF:bN Ω sD):Bl Ω:=
 fM (S9 (aef (eN 5)) (fM (adg (abv (eN 2) (Hh (fJ (eN 3) (fJ (eN 4) (fJ (eN 5) gf)))))) gB) gB) gB
def Fp:Bl Ω:=
 fM (u5 5 (sy sF (fJ (vy (eN 1) (eN 3)) (fJ (vy (eN 1) (eN 4)) gf)))) (yx B sC sF)
def Jw(B:%[|2]){sB:Ct}(sC:bJ Ω sB){sD:Ct}(sF:bN Ω sD):Bl Ω:=
 fM (Ac (eN 2)) gB
def Iu:Bl Ω:=
 fM (adq (Tg.nm 3) (adm B.range_ (Hg dB B.len_ (fJ (eN 1) gf))) (fM (adq (Tg.nm 4) (adJ B.range_ (FN .Add (eN 3) (gk 1)) (Hg dB B.len_ (fJ (eN 1) gf))) (Fp B sC sF)) gB)) (Jw B sC sF)
def JZ:Bl Ω:=
 fM (u5 2 (Ex.own gf)) (Iu B sC sF)
def RM:Bl Ω:=
 fM (u5 1 (sy sC (fJ (eN 0) gf))) (JZ B sC sF)
end
abbrev pQ:=top 43
def Gd(B:%[|2]){rX:Ct}(se:aP Ω rX){sx:Ct}(sA:jB Ω sx):Bl Ω:=
 fM (Ac (adp (adk (sy sA %[|38]) (ado (adC .Eq (Hg dB B.len_ (fJ (eN 1) gf)) (sy se (fJ (vy (eN 0) (gk 1)) gf))))))) gB
abbrev gY:=top 44
abbrev oV:ae7:=["program","order"]
def oZ{sK:Ct}(sL:qP Ω sK):Bl Ω:=
 fM (S9 (adu (adt (sy sL %[|38]))) (fM Sm.never gB) gB) gB
abbrev oG:=top 45
abbrev Bg:ae7:=["order","places","place","step"]
abbrev Cz:ae7:=["order"]
section
variable(B:%[|2])
def wz(B:%[|2]):Bl Ω:=
 fM (Ac (eN 1)) gB
def wU:Bl Ω:=
 fM (adq (Tg.tup [2,3]) (adG B.enumerate_ (eN 0)) (fM (aeg (eN 1) (eN 3) (eN 2)) gB)) (wz B)
def Bu:Bl Ω:=
 fM (u5 1 adX) (wU B)
end
abbrev vK:=top 46
abbrev Mj:ae7:=["program","order","places","i","j","cells"]
section
variable{sM:Ct}(sN:qZ Ω sM){sP:Ct}(sQ:eQ Ω sP){sR:Ct}(sT:jj Ω sR)
def Gv{sM:Ct}(sN:qZ Ω sM){sP:Ct}(sQ:eQ Ω sP){sR:Ct}(sT:jj Ω sR):Bl Ω:=
 fM (Ac Ex.non) gB
def Gw:Bl Ω:=
 fM (adx (Tg.tup [3,4,5]) (sy sN (fJ (eN 0) gf)) (fM (S9 (adf .Gt (ad6 (eN 2) (eN 3)) (ad6 (eN 2) (eN 4))) (fM (Ac (Hh (fJ (eN 3) (fJ (eN 4) gf)))) gB) gB) gB)) (Gv sN sQ sT)
def Dj:Bl Ω:=
 fM (u5 2 (sy sT (fJ (eN 1) gf))) (Gw sN sQ sT)
def MF:Bl Ω:=
 fM (adg (sy sQ %[|38])) (Dj sN sQ sT)
end
abbrev KJ:=top 47
abbrev W0:ae7:=["program","order","rest","exchanges","place","step","far"]
section
variable(B:%[|2]){t3:Ct}(t4:lE Ω t3){t5:Ct}(t9:di Ω t5)
def GF(B:%[|2]){t3:Ct}(t4:lE Ω t3){t5:Ct}(t9:di Ω t5):Bl Ω:=
 fM (adg (ad8 (eN 2) (eN 6))) gB
def Gx:Bl Ω:=
 fM (adg (adT (eN 3) (ad9 B.range_ B.list_ (FN .Sub (FN .Add (eN 4) (eN 6)) (gk 1)) (FN .Sub (eN 4) (gk 1)) (adA (gk 1))))) (GF B t4 t9)
def Ny:Bl Ω:=
 fM (u5 6 (adU (eN 2) (eN 5))) (Gx B t4 t9)
def Q4(B:%[|2]){t3:Ct}(t4:lE Ω t3){t5:Ct}(t9:di Ω t5):Bl Ω:=
 fM (Ac (eN 3)) gB
def Pa:Bl Ω:=
 fM (adq (Tg.tup [4,5]) (adG B.enumerate_ (eN 1)) (Ny B t4 t9)) (Q4 B t4 t9)
def Rp:Bl Ω:=
 fM (u5 3 (Ex.own gf)) (Pa B t4 t9)
def Qk:Bl Ω:=
 fM (u5 2 (sy t4 (fJ (eN 0) gf))) (Rp B t4 t9)
def Ye:Bl Ω:=
 fM (S9 (adf .IsNot (sy t9 %[|38]) Ex.non) (fM (Ac Ex.non) gB) gB) (Qk B t4 t9)
end
abbrev mF:=top 49
abbrev yN:ae7:=["cell","held"]
def xF:Bl Ω:=
 fM (Ac (adK (eN 1) (eN 0) (Hh (fJ (gk 0) (fJ (aeh (eN 0) (gk 1)) gf))))) gB
abbrev oF:=top 50
abbrev Bp:ae7:=["factors","factor","more","cell","number"]
abbrev BX:ae7:=["factors","factor","more"]
def BZ:Bl Ω:=
 fM (adZ (Tg.tup [3,4]) (eN 2) (fM (adQ (eN 0) (eN 3) (FN .Add (adK (eN 0) (eN 3) (gk 0)) (ad0 (eN 1) (eN 4)))) gB)) gB
abbrev jq:=top 51
abbrev tD:ae7:=["deed","counts","cells","held","number","factors","read","cell","trace"]
abbrev tG:ae7:=["deed","counts","cells","held"]
section
variable(B:%[|2]){qc:Ct}(qf:cu Ω qc){tj:Ct}(tm:fj Ω tj){tq:Ct}(tt:f9 Ω tq)
def lH(B:%[|2]){qc:Ct}(qf:cu Ω qc){tj:Ct}(tm:fj Ω tj){tq:Ct}(tt:f9 Ω tq):Bl Ω:=
 fM (adg (sy tt (fJ (eN 5) (fJ (vy (eN 6) (gk 0)) (fJ (vy (eN 8) (gk 1)) gf))))) gB
def lX:Bl Ω:=
 fM (aej 4 .Add (ad0 (vy (eN 6) (gk 0)) (vy (eN 8) (gk 0)))) (lH B qf tm tt)
def mY:Bl Ω:=
 fM (u5 8 (sy tm (fJ (eN 7) (fJ (eN 3) gf)))) (lX B qf tm tt)
def pD(B:%[|2]){qc:Ct}(qf:cu Ω qc){tj:Ct}(tm:fj Ω tj){tq:Ct}(tt:f9 Ω tq):Bl Ω:=
 fM (Ac (Hh (fJ (eN 4) (fJ (eN 5) gf)))) gB
def pB:Bl Ω:=
 fM (adq (Tg.tup [6,7]) (ad5 B.zip_ (vy (eN 0) (gk 3)) (eN 2)) (mY B qf tm tt)) (pD B qf tm tt)
def oY:Bl Ω:=
 fM (u5 5 adR) (pB B qf tm tt)
def tK:Bl Ω:=
 fM (u5 4 (sy qf (fJ (vy (eN 0) (gk 2)) (fJ (eN 1) gf)))) (oY B qf tm tt)
end
abbrev mQ:=top 52
abbrev yu:ae7:=["trace","factors"]
abbrev zc:ae7:=["trace"]
def uO(B:%[|2]):Bl Ω:=
 fM (Ac (Hh (fJ (vy (eN 0) (gk 0)) (fJ (ade ["cell","factors"] [none,some 1] (Hh (fJ (eN 0) (fJ (ad7 (eN 1) (eN 0)) gf))) (Tg.nm 0) (adn (Hg aae B.sorted_ (fJ (eN 1) gf))) (Cd.so (adf .NotEq (ad7 (eN 1) (eN 0)) (gk 0)))) gf)))) gB
def zj(B:%[|2]):Bl Ω:=
 fM (u5 1 (vy (eN 0) (gk 1))) (uO B)
abbrev wG:=top 53
abbrev Ou:ae7:=["program","row","steps","cells","held","number","step","told","cell","trace"]
section
variable{sk:Ct}(sn:dR Ω sk){sf:Ct}(sg:dw Ω sf){sB:Ct}(sC:bJ Ω sB){tw:Ct}(tx:dH Ω tw){tz:Ct}(tF:dD Ω tz){tI:Ct}(tJ:fH Ω tI)
def wD{sk:Ct}(sn:dR Ω sk){sf:Ct}(sg:dw Ω sf){sB:Ct}(sC:bJ Ω sB){tw:Ct}(tx:dH Ω tw){tz:Ct}(tF:dD Ω tz){tI:Ct}(tJ:fH Ω tI):Bl Ω:=
 fM (adQ (eN 4) (vy (vy (eN 3) (eN 5)) (gk 0)) (sy tF (fJ (sy sg (fJ (eN 0) (fJ (eN 6) gf))) (fJ (vy (eN 6) (gk 1)) (fJ (vy (vy (eN 3) (eN 5)) (gk 1)) (fJ (eN 4) gf)))))) gB
def Cw:Bl Ω:=
 fM (u5 6 (vy (eN 2) (eN 5))) (wD sn sg sC tx tF tJ)
def Du{sk:Ct}(sn:dR Ω sk){sf:Ct}(sg:dw Ω sf){sB:Ct}(sC:bJ Ω sB){tw:Ct}(tx:dH Ω tw){tz:Ct}(tF:dD Ω tz){tI:Ct}(tJ:fH Ω tI):Bl Ω:=
 fM (Ac (eN 7)) gB
def HD:Bl Ω:=
 fM (adZ (Tg.tup [8,9]) (eN 4) (fM (adQ (eN 7) (eN 8) (sy tJ (fJ (eN 9) gf))) gB)) (Du sn sg sC tx tF tJ)
def HX:Bl Ω:=
 fM (u5 7 adR) (HD sn sg sC tx tF tJ)
def Hz:Bl Ω:=
 fM (adx (Tg.nm 5) (eN 1) (Cw sn sg sC tx tF tJ)) (HX sn sg sC tx tF tJ)
def GR:Bl Ω:=
 fM (u5 4 adR) (Hz sn sg sC tx tF tJ)
def Di:Bl Ω:=
 fM (u5 3 (sy sC (fJ (eN 0) gf))) (GR sn sg sC tx tF tJ)
def DP:Bl Ω:=
 fM (u5 2 (sy sn (fJ (eN 0) gf))) (Di sn sg sC tx tF tJ)
def Mp:Bl Ω:=
 fM (adg (sy tx %[|38])) (DP sn sg sC tx tF tJ)
end
abbrev ql:=top 55
abbrev Eb:ae7:=["traces","cell"]
def Ge:Bl Ω:=
 fM (Ac (adK (eN 0) (eN 1) (Hh (fJ (gk 0) (fJ (adh (fJ (Hh (fJ (eN 1) (fJ (gk 1) gf))) gf)) gf))))) gB
abbrev rD:=top 59
abbrev Ho:ae7:=["program","row","other","traces","other_traces","cell","by_one","by_other","filling"]
abbrev Gh:ae7:=["program","row","other"]
section
variable(B:%[|2]){tP:Ct}(tS:jD Ω tP){tT:Ct}(u8:gV Ω tT)
def tW(B:%[|2]){tP:Ct}(tS:jD Ω tP){tT:Ct}(u8:gV Ω tT):Bl Ω:=
 fM (S9 (adf .NotEq (eN 6) (eN 7)) Bl.never gB) gB
def tQ:Bl Ω:=
 fM (u5 7 (sy u8 (fJ (eN 4) (fJ (eN 5) gf)))) (tW B tS u8)
def wA:Bl Ω:=
 fM (u5 6 (sy u8 (fJ (eN 3) (fJ (eN 5) gf)))) (tQ B tS u8)
def xK(B:%[|2]){tP:Ct}(tS:jD Ω tP){tT:Ct}(u8:gV Ω tT):Bl Ω:=
 fM (Ac (Hh (fJ (Ex.str "alike") gf))) gB
def xN:Bl Ω:=
 fM (adx (Tg.nm 5) (aea B.sorted_ B.set_ 3 4) (wA B tS u8)) (xK B tS u8)
def zf:Bl Ω:=
 fM (u5 4 (sy tS (fJ (eN 0) (fJ (eN 2) gf)))) (xN B tS u8)
def GC:Bl Ω:=
 fM (u5 3 (sy tS %[|38])) (zf B tS u8)
end
abbrev Ef:=top 61
abbrev T4:ae7:=["_law_script","_law_k","_law_cell_here"]
abbrev SN:ae7:=["_law_script","_law_k"]
section
variable(B:%[|2])
def MT(B:%[|2]):Bl Ω:=
 fM (Ac (FN .Mod (FN .Mult (eN 2) (FN .Add (FN .Add (FN .Mod (eN 2) (gk 65519)) (eN 1)) (gk 2))) (gk 2147483629))) gB
def vV:Bl Ω:=
 fM (u5 2 (FN .Mod (FN .Mult (FN .Add (FN .Add (FN .Mod (eN 2) (gk 2147483629)) (FN .Mult (gk 6151) (eN 1))) (gk 1)) (gk 48271)) (gk 2147483647))) (MT B)
def vJ:Bl Ω:=
 fM (S9 (adD (adw (adf .Lt (eN 1) (Hg dB B.len_ (fJ (eN 0) gf))) (adz (adf .Eq (FN .Mod (vy (eN 0) (gk 0)) (gk 2)) (gk 0))))) (fM (Ac (Hg abi B.abs_ (fJ (eN 2) gf))) gB) gB) (vV B)
def Mu:Bl Ω:=
 fM (S9 (adf .Gt (Hg dB B.len_ (fJ (eN 0) gf)) (gk 0)) (fM (u5 2 (vy (eN 0) (FN .Mod (eN 1) (Hg dB B.len_ (fJ (eN 0) gf))))) gB) gB) (vJ B)
def U4:Bl Ω:=
 fM (u5 2 (gk 7)) (Mu B)
end
abbrev J5:=top 62
def Xo{ua:Ct}(ub:iM Ω ua):Bl Ω:=
 fM (Ac (Ex.own (fJ (sy ub %[|38]) (fJ (eN 1) (fJ (eN 0) gf))))) gB
abbrev Ey:=top 63
abbrev Ve:ae7:=["_law_pen_here","_law_many","_law_digit"]
abbrev Vd:ae7:=["_law_pen_here","_law_many"]
section
variable{ua:Ct}(ub:iM Ω ua)
def Ao{ua:Ct}(ub:iM Ω ua):Bl Ω:=
 fM (adF (eN 0) (gk 0) (sy ub (fJ (vy (eN 0) (gk 2)) (fJ (vy (eN 0) (gk 1)) gf)))) gB
def Jy:Bl Ω:=
 fM (adF (eN 0) (gk 1) (FN .Add (vy (eN 0) (gk 1)) (gk 1))) (Ao ub)
def Oc{ua:Ct}(ub:iM Ω ua):Bl Ω:=
 fM (Ac (eN 2)) gB
def NZ:Bl Ω:=
 fM (S9 (adf .Eq (vy (eN 0) (gk 0)) (gk 0)) (Jy ub) gB) (Oc ub)
def Mq:Bl Ω:=
 fM (adF (eN 0) (gk 0) (adH (vy (eN 0) (gk 0)) (eN 1))) (NZ ub)
def Us:Bl Ω:=
 fM (u5 2 (FN .Mod (vy (eN 0) (gk 0)) (eN 1))) (Mq ub)
end
abbrev Ed:=top 64
abbrev VL:ae7:=["_law_pen_here","_law_many","_law_wide","_law_found","_law_k"]
abbrev Ui:ae7:=["_law_pen_here","_law_many","_law_wide"]
section
variable(B:%[|2]){ui:Ct}(uj:bI Ω ui)
def M9(B:%[|2]){ui:Ct}(uj:bI Ω ui):Bl Ω:=
 fM (Ac (adi bL B.tuple_ (fJ (eN 3) gf))) gB
def Oo:Bl Ω:=
 fM (adq (Tg.nm 4) (adm B.range_ (eN 1)) (fM (adg (abv (eN 3) (vy (adh (fJ (gk 0) (fJ (gk 1) (fJ (gk 1) (fJ (gk 0) (fJ (adA (gk 1)) (fJ (gk 2) (fJ (gk 0) (fJ (gk 1) gf))))))))) (sy uj (fJ (eN 0) (fJ (gk 8) gf)))))) gB)) (M9 B uj)
def v7:Bl Ω:=
 fM (u5 3 (Ex.own (fJ (FN .Sub (sy uj (fJ (eN 0) (fJ (FN .Add (FN .Mult (gk 2) (eN 2)) (gk 1)) gf))) (eN 2)) gf))) (Oo B uj)
def VV:Bl Ω:=
 fM (S9 (adD (adw (adf .Eq (eN 2) (gk 1)) (adz (adf .Eq (sy uj (fJ (eN 0) (fJ (gk 16) gf))) (gk 9))))) (fM (Ac (adi bL B.tuple_ (fJ (ade ["_law_k","_law_pen_here"] [none,some 0] (FN .Sub (sy uj (fJ (eN 1) (fJ (gk 199) gf))) (gk 99)) (Tg.nm 0) (adm B.range_ (FN .Add (eN 1) (gk 1))) adl) gf))) gB) gB) (v7 B uj)
end
abbrev z7:=top 65
abbrev Sg:ae7:=["_law_pen_here","_law_most","_law_loops_here","_law_room","_law_before","_law_k","_law_size","_law_low","_law_way","_law_none","_law_ahead","_law_stairs"]
abbrev Ri:ae7:=["_law_pen_here","_law_most"]
section
variable(B:%[|2]){ui:Ct}(uj:bI Ω ui)
def yP(B:%[|2]){ui:Ct}(uj:bI Ω ui):Bl Ω:=
 fM (u5 4 Ex.non) gB
def yD:Bl Ω:=
 fM (u5 6 (vy (eN 4) (gk 1))) (yP B uj)
def yO:Bl Ω:=
 fM (adg (abv (eN 2) (vy (eN 11) (eN 8)))) (yD B uj)
def yZ:Bl Ω:=
 fM (adg (abv (eN 11) (Hh (fJ (adi bL B.tuple_ (fJ (ady false .Add (adh (fJ (gk 0) gf)) (eN 10)) gf)) (fJ (adi bL B.tuple_ (fJ (ady false .Add (adh (fJ (Hg Dc B.sum_ (fJ (eN 4) gf)) gf)) (eN 9)) gf)) gf))))) (yO B uj)
def xu:Bl Ω:=
 fM (u5 11 (Ex.own (fJ (Hh (fJ (adi bL B.tuple_ (fJ (ady false .Add (adh (fJ (vy (eN 4) (gk 0)) gf)) (eN 9)) gf)) (fJ (adi bL B.tuple_ (fJ (ady false .Add (adh (fJ (gk 1) gf)) (eN 10)) gf)) gf))) gf))) (yZ B uj)
def qm:Bl Ω:=
 fM (u5 10 (ady true .Add (ady false .Mult (adh (fJ (gk 0) gf)) (FN .Sub (eN 5) (gk 1))) (adh (fJ (gk 1) gf)))) (xu B uj)
def zg(B:%[|2]){ui:Ct}(uj:bI Ω ui):Bl Ω:=
 fM (u5 4 Ex.non) gB
def yo:Bl Ω:=
 fM (adg (abv (eN 2) (Hh (fJ (adi bL B.tuple_ (fJ (ady false .Add (adh (fJ (eN 7) gf)) (eN 10)) gf)) (fJ (adi bL B.tuple_ (fJ (ady false .Add (adh (fJ (FN .Add (eN 7) (eN 6)) gf)) (eN 10)) gf)) gf))))) (zg B uj)
def yR:Bl Ω:=
 fM (adF (eN 10) (sy uj (fJ (eN 0) (fJ (eN 5) gf))) (vy (adh (fJ (gk 1) (fJ (adA (gk 1)) (fJ (gk 2) (fJ (adA (gk 2)) gf))))) (sy uj (fJ (eN 0) (fJ (gk 4) gf))))) (yo B uj)
def kJ:Bl Ω:=
 fM (u5 10 (ady true .Mult (adh (fJ (gk 0) gf)) (eN 5))) (yR B uj)
def yM(B:%[|2]){ui:Ct}(uj:bI Ω ui):Bl Ω:=
 fM (u5 4 (Hh (fJ (eN 7) (fJ (eN 6) gf)))) gB
def j9:Bl Ω:=
 fM (adg (abv (eN 2) (Hh (fJ (adi bL B.tuple_ (fJ (ady false .Add (adh (fJ (eN 7) gf)) (eN 9)) gf)) (fJ (adi bL B.tuple_ (fJ (ady false .Add (adh (fJ (FN .Add (eN 7) (FN .Mult (eN 6) (adi acW B.int_ (fJ (ael (adk (adC .Lt (eN 8) (gk 7)) (ado (adC .Lt (eN 7) (gk 3))))) gf)))) gf)) (eN 9)) gf)) gf))))) (yM B uj)
def cW(B:%[|2]){ui:Ct}(uj:bI Ω ui):Bl Ω:=
 fM (u5 3 (adH (eN 3) (eN 6))) gB
def yV:Bl Ω:=
 fM (S9 (adD (adw (adf .Lt (eN 8) (gk 2)) (adw (adf .IsNot (eN 4) Ex.non) (adz (adf .LtE (vy (eN 4) (gk 1)) (eN 3)))))) (qm B uj) (fM (S9 (adD (adw (adf .Lt (eN 8) (gk 4)) (adz (adf .Gt (eN 5) (gk 0))))) (kJ B uj) (j9 B uj)) gB)) (cW B uj)
def yQ:Bl Ω:=
 fM (u5 9 (ady false .Mult (adh (fJ (gk 0) gf)) (eN 5))) (yV B uj)
def xP:Bl Ω:=
 fM (u5 8 (sy uj (fJ (eN 0) (fJ (gk 8) gf)))) (yQ B uj)
def xm:Bl Ω:=
 fM (u5 7 (FN .Sub (sy uj (fJ (eN 0) (fJ (gk 7) gf))) (gk 3))) (xP B uj)
def qF:Bl Ω:=
 fM (u5 6 (FN .Add (gk 1) (sy uj (fJ (eN 0) (fJ (Hg acX B.min_ (fJ (gk 4) (fJ (eN 3) gf))) gf))))) (xm B uj)
def JS(B:%[|2]){ui:Ct}(uj:bI Ω ui):Bl Ω:=
 fM (Ac (adi bL B.tuple_ (fJ (eN 2) gf))) gB
def Ii:Bl Ω:=
 fM (adq (Tg.nm 5) (adm B.range_ (FN .Add (gk 1) (sy uj (fJ (eN 0) (fJ (gk 3) gf))))) (Bl.fza (qF B uj))) (JS B uj)
def Iw:Bl Ω:=
 fM (u5 4 Ex.non) (Ii B uj)
def JB:Bl Ω:=
 fM (u5 3 (eN 1)) (Iw B uj)
def O9:Bl Ω:=
 fM (u5 2 (Ex.own gf)) (JB B uj)
end
abbrev HR:=top 66
abbrev V6:ae7:=["_law_pen_here","_law_widths","_law_many","_law_table","_law_place","_law_start","_law_parts","_law_k","_law_other","_law_way","_law_factor"]
abbrev SJ:ae7:=["_law_pen_here","_law_widths","_law_many"]
section
variable(B:%[|2]){ui:Ct}(uj:bI Ω ui){uk:Ct}(uu:oA Ω uk)
def oJ(B:%[|2]){ui:Ct}(uj:bI Ω ui){uk:Ct}(uu:oA Ω uk):Bl Ω:=
 fM (adg (abv (eN 6) (Hh (fJ (eN 10) (fJ (eN 8) (fJ (adi bL B.tuple_ (fJ (ade ["_law_j","_law_pen_here","_law_many"] [none,some 0,some 2] (sy uu (fJ (eN 1) (fJ (eN 2) (fJ (gk 1) gf)))) (Tg.nm 0) (adm B.range_ (vy (eN 1) (eN 8))) adl) gf)) gf)))))) gB
def Cp:Bl Ω:=
 fM (S9 (adf .Eq (eN 9) (gk 7)) (fM (u5 10 (FN .Add (FN .Sub (sy uj (fJ (eN 0) (fJ (FN .Sub (FN .Mult (gk 2) (FN .Pow (gk 10) (gk 30))) (gk 1)) gf))) (FN .Pow (gk 10) (gk 30))) (gk 1))) gB) gB) (oJ B uj uu)
def Bs:Bl Ω:=
 fM (u5 10 (vy (adh (fJ (gk 1) (fJ (adA (gk 1)) (fJ (gk 2) (fJ (gk 3) (fJ (gk 0) (fJ (gk 1) (fJ (adA (gk 5)) (fJ (gk 0) gf))))))))) (eN 9))) (Cp B uj uu)
def CJ:Bl Ω:=
 fM (u5 9 (sy uj (fJ (eN 0) (fJ (gk 8) gf)))) (Bs B uj uu)
def um:Bl Ω:=
 fM (u5 8 (sy uj (fJ (eN 0) (fJ (Hg dB B.len_ (fJ (eN 1) gf)) gf)))) (CJ B uj uu)
def Ly(B:%[|2]){ui:Ct}(uj:bI Ω ui){uk:Ct}(uu:oA Ω uk):Bl Ω:=
 fM (Ac (Hh (fJ (eN 3) (fJ (eN 4) (fJ (eN 5) (fJ (adi bL B.tuple_ (fJ (eN 6) gf)) gf)))))) gB
def Lz:Bl Ω:=
 fM (adq (Tg.nm 7) (adm B.range_ (sy uj (fJ (eN 0) (fJ (gk 4) gf)))) (um B uj uu)) (Ly B uj uu)
def Nf:Bl Ω:=
 fM (u5 6 (Ex.own gf)) (Lz B uj uu)
def Oq:Bl Ω:=
 fM (u5 5 (sy uu (fJ (eN 0) (fJ (eN 2) (fJ (vy (adh (fJ (gk 1) (fJ (gk 9) (fJ (FN .Sub (FN .Pow (gk 10) (gk 30)) (gk 1)) gf)))) (sy uj (fJ (eN 0) (fJ (gk 3) gf)))) gf))))) (Nf B uj uu)
def Oi:Bl Ω:=
 fM (u5 4 (adi bL B.tuple_ (fJ (ade ["_law_k","_law_pen_here","_law_many"] [none,some 0,some 2] (sy uu (fJ (eN 1) (fJ (eN 2) (fJ (gk 1) gf)))) (Tg.nm 0) (adm B.range_ (vy (eN 1) (eN 3))) adl) gf))) (Oq B uj uu)
def TQ:Bl Ω:=
 fM (u5 3 (sy uj (fJ (eN 0) (fJ (Hg dB B.len_ (fJ (eN 1) gf)) gf)))) (Oi B uj uu)
end
abbrev uv:=top 67
abbrev Ju:ae7:=["_law_pen_here","_law_most","_law_widths","_law_many","_law_nests","_law_k","_law_deeds","_law_loops_here"]
section
variable(B:%[|2]){ui:Ct}(uj:bI Ω ui){uS:Ct}(vc:lF Ω uS){ve:Ct}(vi:nZ Ω ve)
def uM(B:%[|2]){ui:Ct}(uj:bI Ω ui){uS:Ct}(vc:lF Ω uS){ve:Ct}(vi:nZ Ω ve):Bl Ω:=
 fM (adg (abv (eN 4) (Hh (fJ (eN 7) (fJ (adi bL B.tuple_ (fJ (ade ["_law_j","_law_pen_here","_law_widths","_law_loops_here"] [none,some 0,some 2,some 7] (sy vi (fJ (eN 1) (fJ (eN 2) (fJ (Hg dB B.len_ (fJ (eN 3) gf)) gf)))) (Tg.nm 0) (adm B.range_ (eN 6)) adl) gf)) gf))))) gB
def vH:Bl Ω:=
 fM (u5 7 (sy vc (fJ (eN 0) (fJ (Hg acR B.max_ (fJ (gk 1) (fJ (adH (adH (eN 1) (eN 3)) (eN 6)) gf))) gf)))) (uM B uj vc vi)
def mU:Bl Ω:=
 fM (u5 6 (FN .Add (gk 1) (sy uj (fJ (eN 0) (fJ (gk 4) gf))))) (vH B uj vc vi)
def Az(B:%[|2]){ui:Ct}(uj:bI Ω ui){uS:Ct}(vc:lF Ω uS){ve:Ct}(vi:nZ Ω ve):Bl Ω:=
 fM (Ac (Hh (fJ (eN 2) (fJ (adi bL B.tuple_ (fJ (eN 4) gf)) gf)))) gB
def Ca:Bl Ω:=
 fM (adq (Tg.nm 5) (adm B.range_ (eN 3)) (mU B uj vc vi)) (Az B uj vc vi)
def Av:Bl Ω:=
 fM (u5 4 (Ex.own gf)) (Ca B uj vc vi)
def Bm:Bl Ω:=
 fM (u5 3 (FN .Add (gk 1) (sy uj (fJ (eN 0) (fJ (gk 3) gf))))) (Av B uj vc vi)
def Jf:Bl Ω:=
 fM (u5 2 (adi bL B.tuple_ (fJ (ade ["_law_k","_law_pen_here"] [none,some 0] (FN .Add (gk 1) (sy uj (fJ (eN 1) (fJ (gk 2) gf)))) (Tg.nm 0) (adm B.range_ (FN .Add (gk 1) (sy uj (fJ (eN 0) (fJ (gk 3) gf))))) adl) gf))) (Bm B uj vc vi)
end
abbrev Q8:=top 68
abbrev ZD:ae7:=["_law_form_here","_law_counts_here"]
def aaN(B:%[|2]):Bl Ω:=
 fM (Ac (FN .Add (vy (eN 0) (gk 0)) (Hg Dc B.sum_ (fJ (ade ["_law_k","_law_form_here","_law_counts_here"] [none,some 0,some 1] (FN .Mult (vy (eN 1) (FN .Add (gk 1) (eN 0))) (vy (eN 2) (eN 0))) (Tg.nm 0) (adm B.range_ (Hg dB B.len_ (fJ (eN 1) gf))) adl) gf)))) gB
abbrev wI:=top 69
abbrev Oj:ae7:=["_law_loops_here","_law_found","_law_low","_law_high","_law_longer","_law_counts_here","_law_count"]
abbrev Oh:ae7:=["_law_loops_here"]
section
variable(B:%[|2]){vj:Ct}(vk:fY Ω vj)
def vW(B:%[|2]){vj:Ct}(vk:fY Ω vj):Bl Ω:=
 fM (u5 1 (eN 4)) gB
def wj:Bl Ω:=
 fM (adx (Tg.nm 5) (eN 1) (fM (adq (Tg.nm 6) (adJ B.range_ (sy vk (fJ (eN 2) (fJ (eN 5) gf))) (sy vk (fJ (eN 3) (fJ (eN 5) gf)))) (fM (adg (abv (eN 4) (FN .Add (eN 5) (Hh (fJ (eN 6) gf))))) gB)) gB)) (vW B vk)
def Cr:Bl Ω:=
 fM (u5 4 (Ex.own gf)) (wj B vk)
def Gf(B:%[|2]){vj:Ct}(vk:fY Ω vj):Bl Ω:=
 fM (Ac (eN 1)) gB
def Fo:Bl Ω:=
 fM (adx (Tg.tup [2,3]) (eN 0) (ad4 (Cr B vk))) (Gf B vk)
def Nu:Bl Ω:=
 fM (u5 1 (adh (fJ (Hh gf) gf))) (Fo B vk)
end
abbrev DG:=top 70
abbrev Vb:ae7:=["_law_table","_law_place","_law_counts_here"]
def Vx(B:%[|2]){vj:Ct}(vk:fY Ω vj):Bl Ω:=
 fM (Ac (Hh (fJ (eN 0) (fJ (adi bL B.tuple_ (fJ (ade ["_law_form_here","_law_counts_here"] [none,some 2] (sy vk %[|38]) (Tg.nm 0) (adn (eN 1)) adl) gf)) gf)))) gB
abbrev Ai:=top 71
abbrev Ql:ae7:=["_law_program_here","_law_steps_here","_law_loops_here","_law_deeds","_law_counts_here","_law_table","_law_place","_law_start","_law_parts","_law_some"]
abbrev QH:ae7:=["_law_program_here"]
section
variable{vj:Ct}(vk:fY Ω vj){vn:Ct}(vr:jw Ω vn){vt:Ct}(vv:nM Ω vt)
def xV{vj:Ct}(vk:fY Ω vj){vn:Ct}(vr:jw Ω vn){vt:Ct}(vv:nM Ω vt):Bl Ω:=
 fM (adg (abv (eN 1) (Hh (fJ (sy vv (fJ (eN 5) (fJ (eN 6) (fJ (eN 4) gf)))) (fJ (sy vk (fJ (eN 7) (fJ (eN 4) gf))) (fJ (eN 9) gf)))))) gB
def Ig:Bl Ω:=
 fM (adW 9 ["_law_factor","_law_other","_law_there","_law_counts_here"] [none,none,none,some 4] (Hh (fJ (eN 0) (fJ (sy vv (fJ (eN 1) (fJ (eN 2) (fJ (eN 3) gf)))) gf))) (Tg.tup [0,1,2]) (adn (eN 8)) adl) (xV vk vr vv)
def JC{vj:Ct}(vk:fY Ω vj){vn:Ct}(vr:jw Ω vn){vt:Ct}(vv:nM Ω vt):Bl Ω:=
 fM (Ac (eN 1)) gB
def Jl:Bl Ω:=
 fM (adx (Tg.tup [2,3]) (vy (eN 0) (gk 1)) (fM (adx (Tg.nm 4) (sy vr (fJ (eN 2) gf)) (fM (adx (Tg.tup [5,6,7,8]) (eN 3) (Ig vk vr vv)) gB)) gB)) (JC vk vr vv)
def RG:Bl Ω:=
 fM (u5 1 (Ex.own gf)) (Jl vk vr vv)
end
abbrev v4:=top 72
abbrev M4:ae7:=["_law_many","_law_found","_law_t","_law_longer","_law_some","_law_at_here"]
abbrev Om:ae7:=["_law_many"]
section
variable(B:%[|2])
def vL(B:%[|2]):Bl Ω:=
 fM (u5 1 (eN 3)) gB
def wQ:Bl Ω:=
 fM (adx (Tg.nm 4) (eN 1) (fM (adq (Tg.nm 5) (adm B.range_ (FN .Add (Hg dB B.len_ (fJ (eN 4) gf)) (gk 1))) (fM (adg (abv (eN 3) (FN .Add (FN .Add (adE (eN 4) Po.no (Po.so (eN 5))) (adh (fJ (eN 2) gf))) (adE (eN 4) (Po.so (eN 5)) Po.no)))) gB)) gB)) (vL B)
def Ck:Bl Ω:=
 fM (u5 3 (Ex.own gf)) (wQ B)
def Er(B:%[|2]):Bl Ω:=
 fM (Ac (eN 1)) gB
def G4:Bl Ω:=
 fM (adq (Tg.nm 2) (adm B.range_ (eN 0)) (ad4 (Ck B))) (Er B)
def N7:Bl Ω:=
 fM (u5 1 (adh (fJ (adh gf) gf))) (G4 B)
end
abbrev uE:=top 73
abbrev JK:ae7:=["_law_program_here","_law_many","_law_free_two","_law_i","_law_j","_law_found","_law_known","_law_at_here","_law_place","_law_one","_law_other","_law_order"]
abbrev J0:ae7:=["_law_program_here","_law_many"]
section
variable(B:%[|2]){vE:Ct}(vF:eF Ω vE)
def uX(B:%[|2]){vE:Ct}(vF:eF Ω vE):Bl Ω:=
 fM (adg (abv (eN 5) (eN 11))) gB
def yI:Bl Ω:=
 fM (adY (eN 6) (adi bL B.tuple_ (fJ (eN 11) gf)) (Ex.bl true)) (uX B vF)
def uN(B:%[|2]){vE:Ct}(vF:eF Ω vE):Bl Ω:=
 fM (S9 (adD (adw (adt (aek (eN 2) (Hh (fJ (eN 9) (fJ (eN 10) gf))))) (adz (Te.din true (adi bL B.tuple_ (fJ (eN 11) gf)) (eN 6))))) (yI B vF) gB) gB
def vz:Bl Ω:=
 fM (u5 11 (FN .Add (FN .Add (adE (vy (eN 5) (eN 7)) Po.no (Po.so (eN 8))) (adh (fJ (eN 10) (fJ (eN 9) gf)))) (adE (vy (eN 5) (eN 7)) (Po.so (FN .Add (eN 8) (gk 2))) Po.no))) (uN B vF)
def yG:Bl Ω:=
 fM (Sm.par 9 10 (fJ (vy (vy (eN 5) (eN 7)) (eN 8)) (fJ (vy (vy (eN 5) (eN 7)) (FN .Add (eN 8) (gk 1))) gf))) (vz B vF)
def vf(B:%[|2]){vE:Ct}(vF:eF Ω vE):Bl Ω:=
 fM (u5 7 (FN .Add (eN 7) (gk 1))) gB
def yH:Bl Ω:=
 fM (adq (Tg.nm 8) (adm B.range_ (FN .Sub (eN 1) (gk 1))) (yG B vF)) (vf B vF)
def An(B:%[|2]){vE:Ct}(vF:eF Ω vE):Bl Ω:=
 fM (Ac (eN 6)) gB
def BW:Bl Ω:=
 fM (adS (adf .Lt (eN 7) (Hg dB B.len_ (fJ (eN 5) gf))) (yH B vF)) (An B vF)
def BV:Bl Ω:=
 fM (u5 7 (gk 0)) (BW B vF)
def BP:Bl Ω:=
 fM (u5 6 (aei (adi bL B.tuple_ (fJ (vy (eN 5) (gk 0)) gf)) (Ex.bl true))) (BV B vF)
def BK:Bl Ω:=
 fM (u5 5 (Ex.own (fJ (adP B.range_ B.list_ (eN 1)) gf))) (BP B vF)
def Bk:Bl Ω:=
 fM (adq (Tg.nm 3) (adm B.range_ (eN 1)) (fM (adq (Tg.nm 4) (adm B.range_ (eN 1)) (fM (adY (eN 2) (Hh (fJ (eN 3) (fJ (eN 4) gf))) (ad2 (sy vF (fJ (eN 0) (fJ (eN 3) (fJ (eN 4) gf)))))) gB)) gB)) (BK B vF)
def JX:Bl Ω:=
 fM (u5 2 adX) (Bk B vF)
end
abbrev rK:=top 74
abbrev acE:ae7:=["_law_script","_law_pen_here","_law_widths","_law_nests","_law_many","_law_program_here","_law_known","_law_first","_law_order","_law_there"]
abbrev abX:ae7:=["_law_script"]
section
variable(B:%[|2]){vS:Ct}(vT:fC Ω vS){t5:Ct}(t9:di Ω t5){wa:Ct}(wb:sS Ω wa){wd:Ct}(we:gR Ω wd){wf:Ct}(wh:rP Ω wf){wl:Ct}(wm:iY Ω wl){wn:Ct}(wo:lB Ω wn){wq:Ct}(wt:jx Ω wq){wv:Ct}(wx:iU Ω wv)
def Mv(B:%[|2]){vS:Ct}(vT:fC Ω vS){t5:Ct}(t9:di Ω t5){wa:Ct}(wb:sS Ω wa){wd:Ct}(we:gR Ω wd){wf:Ct}(wh:rP Ω wf){wl:Ct}(wm:iY Ω wl){wn:Ct}(wo:lB Ω wn){wq:Ct}(wt:jx Ω wq){wv:Ct}(wx:iU Ω wv):Bl Ω:=
 fM (S9 (adD (adw (adt (eN 9)) (adz (adf .NotEq (sy we (fJ (eN 5) (fJ (eN 8) (fJ (eN 7) gf)))) (Hh (fJ (Ex.str "alike") gf)))))) (fM (Ac (Ex.bl false)) gB) gB) gB
def Mr:Bl Ω:=
 fM (S9 (adM (adw (adf .NotEq (adC .Is (sy t9 (fJ (eN 5) (fJ (eN 8) gf))) Ex.non) (eN 9)) (adz (adf .Eq (adC .Is (sy wb (fJ (eN 5) (fJ (eN 8) gf))) Ex.non) (eN 9))))) (fM (Ac (Ex.bl false)) gB) gB) (Mv B vT t9 wb we wh wm wo wt wx)
def Uh:Bl Ω:=
 fM (u5 9 (Ex.din (adi bL B.tuple_ (fJ (eN 8) gf)) (eN 6))) (Mr B vT t9 wb we wh wm wo wt wx)
def Yc(B:%[|2]){vS:Ct}(vT:fC Ω vS){t5:Ct}(t9:di Ω t5){wa:Ct}(wb:sS Ω wa){wd:Ct}(we:gR Ω wd){wf:Ct}(wh:rP Ω wf){wl:Ct}(wm:iY Ω wl){wn:Ct}(wo:lB Ω wn){wq:Ct}(wt:jx Ω wq){wv:Ct}(wx:iU Ω wv):Bl Ω:=
 fM (Ac (Ex.bl true)) gB
def Zm:Bl Ω:=
 fM (adx (Tg.nm 8) (sy wt (fJ (eN 4) gf)) (Bl.fgd (Uh B vT t9 wb we wh wm wo wt wx))) (Yc B vT t9 wb we wh wm wo wt wx)
def WY:Bl Ω:=
 fM (u5 7 (adP B.range_ B.list_ (eN 4))) (Zm B vT t9 wb we wh wm wo wt wx)
def Xj:Bl Ω:=
 fM (u5 6 (sy wx (fJ (eN 5) (fJ (eN 4) gf)))) (WY B vT t9 wb we wh wm wo wt wx)
def Xf:Bl Ω:=
 fM (u5 5 (sy vT (fJ (eN 2) (fJ (eN 3) gf)))) (Xj B vT t9 wb we wh wm wo wt wx)
def Yy:Bl Ω:=
 fM (u5 4 (Hg dB B.len_ (fJ (sy wo (fJ (Hh (fJ (eN 2) (fJ (eN 3) gf))) gf)) gf))) (Xf B vT t9 wb we wh wm wo wt wx)
def XQ:Bl Ω:=
 fM (adS (adf .Gt (Hg dB B.len_ (fJ (sy wo (fJ (Hh (fJ (eN 2) (fJ (eN 3) gf))) gf)) gf)) (gk 5)) (fM (u5 3 (adE (eN 3) Po.no (Po.so (adA (gk 1))))) gB)) (Yy B vT t9 wb we wh wm wo wt wx)
def X3:Bl Ω:=
 fM (ad3 [2,3] (sy wm (fJ (eN 1) (fJ (gk 5) gf)))) (XQ B vT t9 wb we wh wm wo wt wx)
def acB:Bl Ω:=
 fM (u5 1 (sy wh (fJ (eN 0) (fJ (gk 1) gf)))) (X3 B vT t9 wb we wh wm wo wt wx)
end
end
end K40
local macro_rules | `(tactic| walk_at "w") => `(tactic| first | refine (?_ : _ /\ _) | refine (?_ : ∃ _, _) | (conv => whnf))
local macro_rules | `(tactic| walk_at "n") => `(tactic| (walk_at "w"; repeat (with_reducible first | apply RF.cLt | apply RF.cLe | apply RF.cGt | apply RF.cGe | apply RF.cEqI | apply RF.cNeI | apply RF.cEqB | apply RF.cNeB | apply RF.cIsN | apply RF.cIsB | apply RF.cIsNotB | apply RF.cIsNot); walk_at "w"))
local macro_rules | `(tactic| walk_at "at") => `(tactic| first | (with_reducible assumption) | exact DL.set_get (by first | (with_reducible assumption) | exact DL.set_get (by with_reducible assumption)))
local macro_rules | `(tactic| walk_at "o") => `(tactic| first | omega | decide | (simp; done) | (simp; omega))
local macro_rules | `(tactic| walk_at "a1") => `(tactic| first
 | refine RF.wM1 (by first | exact .inl ⟨by walk_at "o", by walk_at "o"⟩ | exact .inr ⟨by walk_at "o", by walk_at "o"⟩) ?_
 | refine RF.wM2 ⟨by decide, by decide, by decide⟩ ?_
 | refine RF.wM3 ⟨by omega, by omega⟩ ?_
 | refine RF.wM4 (by omega) ?_
 | ((fail_if_success (with_reducible show (_ /\ ∃ _ : Nat -> List DL.D -> DL.Store -> Prop, _))); refine RF.wM5 (by walk_at "o") ?_)
 | refine RF.wM6 (by walk_at "o") ?_
 | (refine' RF.wM7 ?h1 ?h2 ?h3; (case h1 => walk_at "at"); (case h2 => exact rfl); (try rw [List.set_set]))
 | (refine' RF.wM8 ?h1 ?h2 ?h3; (case h1 => walk_at "at"); (case h2 => exact rfl))
 | refine RF.wM9 rfl ?_)
local macro_rules | `(tactic| walk_at "a") => `(tactic| (walk_at "n"; repeat (walk_at "a1"; walk_at "n")))
local macro_rules | `(tactic| walk_at "b") => `(tactic| (walk_at "n"; repeat ((first | walk_at "a1" | apply RF.bT | apply RF.bF | apply RF.dT | apply RF.dF); walk_at "n")))
local macro_rules|`(tactic|try?)=>`(tactic|walk_at "b")
namespace K40
open PySem L2 DL RF
variable{cs ws:%[|8]}{i k j m t v B X:Nat}{d:D}{Γ:Gam}{ds l:List D}{W:WD}{J:Store}{o:List Nat}
variable{Ω:Wd}{f:Addr}{fd:FuncData}
def whole:D->Bool
 | .int _=>true
 | _=>false
def cC(x:D)(a b:Int):Bool:=match x with
 | .tup ds=>decide (a<=(ds.length:Int))&&decide ((ds.length:Int)<=b)
 | _=>false
def dZ(x:D)(d:Int):Bool:=match x with
 | .tup ds=>decide ((ds.length:Int)=d+1)&&ds.all whole
 | _=>false
inductive c_whole(ds:List D)(S:Store)(W:WD):Prop
 | mk(x:_):ds=[x]->W (.bl (whole x)) S->c_whole ds S W
inductive c_tup(ds:List D)(S:Store)(W:WD):Prop
 | mk(x a b:_):ds=[x,.int a,.int b]->W (.bl (cC x a b)) S->c_tup ds S W
inductive c_form(ds:List D)(S:Store)(W:WD):Prop
 | mk(x d:_):ds=[x,.int d]->d<=1000->W (.bl (dZ x d)) S->c_form ds S W
def comesTo(f:Int)(fs cs:ae0):Int:=f+(List.zipWith (λ a b=>a*b) fs cs).sum
inductive c_comes(ds:List D)(S:Store)(W:WD):Prop
 | mk(f fs cs:_):ds=[.tup (.int f::fs.map .int),.tup (cs.map .int)]->fs.length<=1000->(∀c∈cs,-(2 ^ 64)<c/\c<2 ^ 64)->W (.int (comesTo f fs cs)) S->c_comes ds S W
def R5(ds:List D):(ds.map whole).all id=ds.all whole:=by rw[List.all_map];rfl
def YZ{fs:ae0}(h:(List.zipWith (λ x y=>D.tup [x,y]) (fs.map D.int) (cs.map D.int))[i]? =some d):∃a b,fs[i]? =some a/\cs[i]? =some b/\d=.tup [.int a,.int b]:=by
 rw[nv,y8,y8]at h
 cases c:fs[i]? with
 | none=>rw[c]at h;cases h
 | some a=>
   cases e:cs[i]? with
   | none=>rw[c,e]at h;cases h
   | some b=>rw[c,e]at h;cases h;exact%[a,b,rfl,rfl|rfl]
def By(B:%[|2]):OkF Ω "is_whole" qj 1 DQ c_whole:=by
 refine aK (N:=DQ) (Gy B) %[|7] ?_;rintro b S W ⟨x,rfl,a⟩ d;walk_at "n";refine%[λ c=>?_|λ c=>?_]
 . walk_at "n";have e:(!isD .bool x)=whole x:=by cases x<;>first | rfl | exact ff c | exact tf c
   rw[e];exact a
 . have e:whole x=false:=by cases x<;>first | rfl | exact ff c | exact tf c
   rw[e]at a;exact a
def uZ(B:%[|2]):OkF Ω "is_tuple_of" lu 1 wJ c_tup:=by
 refine aK (N:=wJ) (vU B) %[|7] ?_;rintro f S W ⟨x,a,b,rfl,d⟩ h;walk_at "n"
 cases x with
 | tup f=>
   refine%[λ _=>?_|λ c=>tf c];walk_at "n";refine%[λ g=>?_|λ g=>?_]
   . have e:cC (.tup f) a b=false:=by show(decide _&&decide _)=false;rw[g];rfl
     rw[e]at d;exact d
   . walk_at "n";have e:cC (.tup f) a b=decide ((f.length:Int)<=b):=by show(decide _&&decide _)=_;rw[g];rfl
     rw[e]at d;exact d
 | _=>exact%[λ c=>ff c|λ _=>d]
def HQ(B:%[|2])(g:bw Ω c_whole)(f:au Ω c_tup):OkF Ω "is_form" uh 2 Jh c_form:=by
 refine aK (N:=Jh) (JL B g f) %[|7] ?_;rintro a S W ⟨x,d,rfl,o,j⟩ p;walk_at "n";refine%[rfl,_,_,_,rfl|?_];refine%[λ c=>?_|λ c=>?_]
 . cases x with
   | tup a=>
     have h:(a.length:Int)=d+1:=by have l:(decide (d+1<=(a.length:Int))&&decide ((a.length:Int)<=d+1))=true:=c;rw[eL,gE,gE]at l;omega
     walk_at "n";refine jK %[%[|0],λ i b k=>b=(a.take i).map (λ d=>.bl (whole d))/\k=S,%[rfl|rfl],?_|?_];{rintro i e b k n ⟨rfl,rfl⟩;walk_at "n";refine%[λ _=>%[rfl,_,rfl,?_|rfl]|λ z=>tf z];rw[aH n,cf];rfl}
     . rintro b k ⟨rfl,rfl⟩;rw[cS];refine%[a.map whole,by rw[de];rfl|?_];have m:dZ (.tup a) d=(a.map whole).all id:=by show(decide _&&_)=_;rw[cb h,R5];rfl
       rw[m]at j;exact j
   | _=>exact ff c
 . have e:dZ x d=false:=by
    cases x with
    | tup a=>have l:(decide (d+1<=(a.length:Int))&&decide ((a.length:Int)<=d+1))=false:=c;show(decide _&&_)=false;rw[Bool.and_eq_false_iff,decide_eq_false_iff_not,decide_eq_false_iff_not]at l;rw[cE %[|0]];rfl
    | _=>rfl
   rw[e]at j;exact j
def CG(B:%[|2]):OkF Ω "comes_to" qt 1 Gp c_comes:=by
 refine aK (N:=Gp) (Dq B) %[|7] ?_;rintro q S W ⟨g,f,d,rfl,o,j,p⟩ r;walk_at "n";refine%[_,vq _ _|?_];walk_at "n";rw[Gr];refine jK %[by rw[List.length_zipWith,y7];omega,λ i c h=>c=((List.zipWith (λ a b=>a*b) f d).take i).map D.int/\h=S,%[rfl|rfl],?_|?_]
 . rintro i e c h n ⟨rfl,rfl⟩;obtain⟨a,b,m,k,rfl⟩:=YZ n;walk_at "n";refine%[rfl,λ _=>%[.inr (j b (y4 k)),?_|rfl]|λ z=>tf z];have l:(List.zipWith (λ a b=>a*b) f d)[i]? =some (a*b):=by rw[nv,m,k]
   rw[aH l,cf];rfl
 . rintro c h ⟨rfl,rfl⟩;have e:(List.zipWith (λ x y=>D.tup [x,y]) (f.map D.int) (d.map D.int)).length=(List.zipWith (λ a b=>a*b) f d).length:=by simp
   rw[e,cS];exact%[_,rfl|p]
def small:D->Bool
 | .int n=>decide (-2<=n)&&decide (n<=2)
 | _=>false
def abF:List D->Bool
 | .int a::fs=>decide (-9<=a)&&(decide (a<=9)&&fs.all small)
 | _=>false
def dh(x:D)(d:Int):Bool:=dZ x d&&abF (match x with | .tup ds=>ds | _=>[])
def kW(x:D)(d:Int):Bool:=match x with
 | .tup [a,b]=>dh a d&&dh b d
 | _=>false
def iu(x:D):Bool:=match x with
 | .tup ds=>(decide (1<=(ds.length:Int))&&decide ((ds.length:Int)<=3))&&(ds.mapIdx λ i d=>kW d i).all id
 | _=>false
inductive c_bound(ds:List D)(S:Store)(W:WD):Prop
 | mk(x d:_):ds=[x,.int d]->0<=d->d<=1000->W (.bl (dh x d)) S->c_bound ds S W
inductive c_loop(ds:List D)(S:Store)(W:WD):Prop
 | mk(x d:_):ds=[x,.int d]->0<=d->d<=1000->W (.bl (kW x d)) S->c_loop ds S W
inductive c_loops(ds:List D)(S:Store)(W:WD):Prop
 | mk(x:_):ds=[x]->W (.bl (iu x)) S->c_loops ds S W
theorem ints_of:∀{ds:List D},ds.all whole=true->∃ns:%[|8],ds=ns.map .int
 | [],_=>%[[]|rfl]
 | d::ds,h=>by
   rw[ij]at h;obtain⟨a,b⟩:=bD h;obtain⟨ns,rfl⟩:=ints_of b
   cases d with
   | int i=>exact%[i::ns|rfl]
   | _=>exact ff a
def lN{d}(h:dZ x d=true)(l:0<=d):∃a fs,x=.tup (.int a::List.map .int fs)/\(fs.length:Int)=d:=by
 cases x with
 | tup f=>
   obtain⟨b,c⟩:=bD h;have b:=ck b
   cases f with
   | nil=>simp at b;omega
   | cons e k=>
     rw[ij]at c;obtain⟨c,g⟩:=bD c;have i:=ints_of g;obtain⟨j,rfl⟩:=i
     cases e with
     | int a=>exact%[a,j,rfl|by simp at b;omega]
     | _=>exact ff c
 | _=>exact ff h
def Ie(p:D->Bool)(ds:List D):(ds.map p).all id=ds.all p:=by rw[List.all_map];rfl
def Bj (B:%[|2])(g:dz Ω c_form):OkF Ω "is_bound" qM 3 Jh c_bound:=by
 refine aK (N:=Jh) (HJ B g) %[|7] ?_;rintro r S W ⟨x,d,rfl,o,q,b⟩ t;walk_at "a";refine%[rfl,_,_,rfl,q|?_];walk_at "a"
 cases h:dZ x d with
 | false=>
   have e:dh x d=false:=by unfold dh;rw[h];rfl
   rw[e]at b;exact%[λ _=>b|λ z=>tf z]
 | true=>
   refine%[λ z=>ff z|λ _=>?_];obtain⟨a,k,rfl,s⟩:=lN h o;have e:dh (.tup (.int a::k.map .int)) d=(decide (-9<=a)&&(decide (a<=9)&&(k.map D.int).all small)):=by unfold dh;rw[h];rfl
   rw[e]at b;walk_at "a";refine%[_,vq _ _|?_];walk_at "a";refine%[λ c=>?_|λ c=>?_];{have c:decide (-9<=a)=false:=c;rw[c]at b;exact%[λ z=>ff z|λ _=>b]};have c:decide (-9<=a)=true:=c;rw[c,im]at b;walk_at "a";refine%[λ m=>?_|λ m=>?_]
   . rw [m,im]at b;walk_at "a";rw[Gr];refine fZ (λ d=>.bl (small d)) %[|14] ?_ ?_
     . intro i e j Q l;rw[y8]at j
       cases p:k[i]? with
       | none=>rw[p]at j;cases j
       | some n=>
         rw[p]at j;cases j;walk_at "a";refine%[λ f=>?_|λ f=>?_]
         . have f:decide (-2<=n)=false:=f;have e:small (.int n)=false:=by show(decide _&&_)=false;rw[f];rfl
           rw[e]at l;exact l
         . have f:decide (-2<=n)=true:=f;walk_at "a";have e:small (.int n)=decide (n<=2):=by show(decide _&&_)=_;rw[f];rfl
           rw[e]at l;exact l
     {refine%[(k.map D.int).map small,by simp only[de];rfl|?_];rw[Ie];exact b}
   {rw[m]at b;exact b}
def Eh(g:au Ω c_tup)(f:qD Ω c_bound):OkF Ω "is_loop" ur 4 Jh c_loop:=by
 refine aK (N:=Jh) (Ij g f) %[|7] ?_;rintro j S W ⟨x,d,rfl,i,k,c⟩ l;walk_at "a";refine%[rfl,_,_,_,rfl|?_];walk_at "a"
 cases x with
 | tup j=>
   match j,c with
   | [a,b],c=>refine%[λ _=>?_|λ z=>tf z];walk_at "a";refine%[rfl,_,_,rfl,i,k|?_];have e:kW (.tup [a,b]) d=(dh a d&&dh b d):=rfl;rw[e]at c;refine%[λ h=>?_|λ h=>?_];{rw[h,im]at c;walk_at "a";exact%[rfl,_,_,rfl,i,k|c]};{rw[h]at c;exact c}
   | [],c=>exact%[λ z=>ff z|λ _=>c]
   | [_],c=>exact%[λ z=>ff z|λ _=>c]
   | _::_::_::es,c=>refine%[λ z=>?_|λ _=>c];obtain⟨_,z⟩:=bD z;have z:=ck z;simp at z;omega
 | _=>exact%[λ z=>ff z|λ _=>c]
def Bq(B:%[|2])(f:au Ω c_tup)(c:ut Ω c_loop):OkF Ω "is_loops" qd 5 DQ c_loops:=by
 refine aK (N:=DQ) (Fv B f c) %[|7] ?_;rintro a S W ⟨x,rfl,b⟩ o;walk_at "a";refine%[rfl,_,_,_,rfl|?_];walk_at "a"
 cases x with
 | tup a=>
   have e:iu (.tup a)=((decide (1<=(a.length:Int))&&decide ((a.length:Int)<=3))&&(a.mapIdx λ i d=>kW d i).all id):=rfl;rw[e]at b;refine%[λ h=>?_|λ h=>?_]
   . have h:(decide (1<=(a.length:Int))&&decide ((a.length:Int)<=3))=true:=h;rw[h,im]at b;have k:=ck (bD h).2;walk_at "a";refine fZ (λ p=>match p with | .tup [.int i,d]=>.bl (kW d i) | _=>.non) %[|14] ?_ ?_
     . intro i e g Q l;rw[iL]at g
       cases j:a[i]? with
       | none=>rw[j]at g;cases g
       | some m=>rw[j]at g;cases g;have n:i<a.length:=(z0.mp j).1;walk_at "a";refine%[rfl|?_];walk_at "a";exact%[rfl,_,_,rfl,%[|0],%[|0]|l]
     {refine%[a.mapIdx λ i d=>kW d i,?_|b];apply kw;intro i;simp only[y8,iL];cases a[i]?<;>rfl}
   {have h:(decide (1<=(a.length:Int))&&decide ((a.length:Int)<=3))=false:=h;rw[h]at b;exact b}
 | _=>exact%[λ z=>ff z|λ _=>b]
def aV{a:Bl Ω}{W}(P:Nat->Gam->%[|4])(e:P 0 Γ b)(f:∀(I:Nat->Gam->%[|4])(R:WD)(B:Gam->%[|4]),(∀i G T,P i G T->I i G T)->(∀d T,W.rt d T->R d T)->(∀G T,W.nx G T->B G T)->∀i d Γ' S',%[|28]->P i Γ' S'->c.wp d Γ' λ Γ2=>a.wp Γ2 S' %[I (i+1),R,B|I (i+1)])(g:∀Γ' S',P ds.length Γ' S'->W.nx Γ' S'):kO Γ c a W ds b:=
 qg %[P,e,f P W.rt W.nx (λ _ _ _ h=>h) (λ _ _ h=>h) λ _ _ h=>h|g]
def zx{a:Bl Ω}{W}(P:Nat->Gam->%[|4])(b:P m0 Γ S)(h:∀m Γ' S',P m Γ' S'->∀(N:Gam->%[|4])(R:WD)(B:Gam->%[|4]),(∀m' G T,m'<m->P m' G T->N G T)->(∀d T,W.rt d T->R d T)->(∀G T,W.nx G T->B G T)->c.wp Γ' S' λ k S1=>(k=true->a.wp Γ' S1 %[N,R,B|N])/\(k=false->B Γ' S1)):rE c a Γ S W:=
 Ul %[P,m0,b|λ m Γ' S' p=>h m Γ' S' p _ W.rt W.nx (λ m' _ _ l q=>%[m',l|q]) (λ _ _ h=>h) λ _ _ h=>h]
abbrev Fm:=%[|15]
abbrev Lp:=Fm×Fm
def dF(f:Fm):D:=.tup (.int f.1::f.2.map .int)
def dC(cs:ae0):D:=.tup (cs.map .int)
def dL(l:Lp):D:=.tup [dF l.1,dF l.2]
def atC(f:Fm)(cs:ae0):Int:=comesTo f.1 f.2 cs
def upI(a:Int)(n:Nat):%[|8]:=%[|18].map λ(k:Nat)=>a+(k:Int)
def cz(lo hi:Fm)(cs:ae0):List %[|8]:=(upI (atC lo cs) (atC hi cs-atC lo cs).toNat).map λ c=>cs++[c]
def bj(lo hi:Fm)(ahead:ag4):List %[|8]:=ahead.flatMap (cz lo hi)
def cnt(ls:List Lp):List %[|8]:=ls.foldl (λ a l=>bj l.1 l.2 a) [[]]
def Sm6(ns:ae0):Prop:=ns.length<=10/\∀n∈ns,-1000000<=n/\n<=1000000
def SmF(f:Fm):Prop:= -1000000<=f.1/\f.1<=1000000/\Sm6 f.2
theorem zL:∀(fs cs:ae0),(∀n∈fs,-1000000<=n/\n<=1000000)->(∀n∈cs,-1000000<=n/\n<=1000000)-> -(1000000000000*(cs.length:Int))<=(List.zipWith (λ a b=>a*b) fs cs).sum/\(List.zipWith (λ a b=>a*b) fs cs).sum<=1000000000000*(cs.length:Int)
 | [],cs,_,_=>%[|14]
 | f::fs,[],_,_=>by simp
 | f::fs,c::cs,h1,h2=>by
   have i:=zL fs cs (λ n d=>h1 n (x4 _ d)) (λ n d=>h2 n (x4 _ d));have g:=h1 f x6;have e:=h2 c x6;have h:(f*c).natAbs<=1000000*1000000:=by rw[oz];exact lh %[|0] %[|0]
   simp only[List.zipWith_cons_cons,List.sum_cons,dS];omega
def zT{f}(hf:SmF f)(hc:Sm6 cs): -(2 ^ 62)<=atC f cs/\atC f cs<2 ^ 62:=by have:=zL f.2 cs hf.2.2.2 hc.2;have a:=hf.1;have b:=hf.2.1;have c:=hc.1;unfold atC comesTo;omega
def Y7(a:Int)(n:Nat):(upI a n).length=n:=by simp[upI]
def Ks(h:i<n):(upI a n)[i]? =some (a+i):=by simp[upI,h]
def dU(lo hi:Fm)(cs:ae0):(cz lo hi cs).length=(atC hi cs-atC lo cs).toNat:=by simp[cz,Y7]
def j6{ahead:ag4}(h:ahead[i]? =some cs):bj lo hi (ahead.take (i+1))=bj lo hi (ahead.take i)++cz lo hi cs:=by unfold bj;rw[aH h,fk];simp
def Hw(h:ahead[i]? =some cs):(bj lo hi (ahead.take i)).length+(cz lo hi cs).length<=(bj lo hi ahead).length:=by
 have e:bj lo hi ahead=bj lo hi (ahead.take (i+1))++bj lo hi (ahead.drop (i+1)):=by unfold bj;rw[<-fk,fh]
 rw[e,j6 h,x8,x8];omega
def pO(xs:ag4):aa (xs.map dC)=true:=by
 induction xs with
 | nil=>rfl
 | cons x xs a=>
   simp only[cn,aa,a,d6];show aa (x.map D.int)=true
   induction x with
   | nil=>rfl
   | cons y b a=>simp only[cn,aa,a,d6];rfl
inductive c_next(ds:List D)(S:Store)(W:WD):Prop
 | mk(ahead lo hi:_):ds=[.lst (List.map dC ahead),dF lo,dF hi]->SmF lo->SmF hi->(∀cs∈ahead,Sm6 cs)->ahead.length<=1000000->(bj lo hi ahead).length<=1000000->flat S->hand W ((bj lo hi ahead).map dC) S->c_next ds S W
def nQ(B:%[|2])(k:cu Ω c_comes):OkF Ω "with_next_count" g8 2 pH c_next:=by
 refine aK (N:=pF) (Bl.frz (pq B k)) %[|7] ?_;rintro I S W ⟨a,lo,hi,rfl,hlo,hhi,q,z,K,v,y⟩ J;try?;refine aV (λ i d f=>(∃r h,d=[some (.lst (a.map dC)),some (dF lo),some (dF hi),%[|19],r,h])/\f=S++[(bj lo hi (a.take i)).map dC]) %[%[_,_|rfl]|rfl] ?_ ?_
 . rintro E G A o _ _ i e d f g ⟨⟨r,h,rfl⟩,rfl⟩;rw[y8]at g
   cases l:a[i]? with
   | none=>rw[l]at g;cases g
   | some b=>
     rw[l]at g;cases g;have hcs:=q b (y4 l);have b1:=zT hlo hcs;have b2:=zT hhi hcs;have m:∀c∈b,-(2 ^ 64)<c/\c<2 ^ 64:=λ c w=>by have:=hcs.2 c w;omega
     try?;refine%[rfl,lo.1,lo.2,b,rfl,by have:=hlo.2.2.1;omega,m|?_];try?;refine%[rfl,hi.1,hi.2,b,rfl,by have:=hhi.2.2.1;omega,m|?_];try?;refine%[%[b1.1,b1.2,b2.1|b2.2]|aV (λ j d f=>(∃h,d=[some (.lst (a.map dC)),some (dF lo),some (dF hi),%[|19],some (dC b),h])/\f=S++[(bj lo hi (a.take i)++(cz lo hi b).take j).map dC]) %[%[_|rfl]|by simp] ?_ ?_]
     . rintro F H C p _ _ j e d f g ⟨⟨h,rfl⟩,rfl⟩;obtain⟨x,rfl⟩:=bO g;have n:j<(cz lo hi b).length:=by rw[dU];exact x
       have L:=Hw (lo:=lo) (hi:=hi) l;try?;refine%[by simp;have:=hcs.1;omega,_,bh _ _,%[|14]|?_];refine p _ _ _ %[%[_|rfl]|?_];rw[cg];have s:(cz lo hi b)[j]? =some (b++[atC lo b+(j:Int)]):=by unfold cz;rw[y8,Ks (by rw[dU]at n;exact n)];rfl
       have t:dC (b++[atC lo b+(j:Int)])=D.tup (b.map D.int++[D.int (comesTo lo.1 lo.2 b+(j:Int))]):=by unfold dC;rw[cf];rfl
       rw[aH s,<-ci,cf (l₂:=[_]),mx,t]
     . rintro d f ⟨⟨h,rfl⟩,rfl⟩;refine o _ _ _ %[%[_,_|rfl]|?_];have u:(cz lo hi b).take (DL.upTo (comesTo lo.1 lo.2 b) (comesTo hi.1 hi.2 b-comesTo lo.1 lo.2 b).toNat).length=cz lo hi b:=by rw[aB];exact db (by rw[dU];exact y9 _)
       rw[u,j6 l]
 {rintro d f ⟨⟨r,h,rfl⟩,rfl⟩;rw[y7,cS];exact mZ y (pO _) v}
def Fits(ls:List Lp):Prop:=(∀l∈ls,SmF l.1/\SmF l.2)/\∀i,i<=ls.length->(cnt (ls.take i)).length<=1000000/\∀a∈cnt (ls.take i),Sm6 a
inductive c_counts(ds:List D)(S:Store)(W:WD):Prop
 | mk(ls:_):ds=[.tup (List.map dL ls)]->1<=ls.length->Fits ls->flat S->W (.lst ((cnt ls).map dC)) S->c_counts ds S W
def m7{ls:List Lp}{l}(h:ls[i]? =some l):cnt (ls.take (i+1))=bj l.1 l.2 (cnt (ls.take i)):=by unfold cnt;rw[aH h,gL];rfl
def yg(k:eO Ω c_next):OkF Ω "counts_of" oN 3 Aq c_counts:=by
 refine aK (N:=Ay) (Bl.frz (CK k)) %[|7] ?_;rintro C S W ⟨f,rfl,G,hf,v,x⟩ F;try?;have n:∀(i:Nat)(e:D),(f.map dL)[i]? =some e->∃l,f[i]? =some l/\e=dL l:=λ i e g=>by
  rw[y8]at g
  cases u:f[i]? with
  | none=>rw[u]at g;cases g
  | some l=>rw[u]at g;cases g;exact%[l,rfl|rfl]
 have m:∀(i:Nat)(l:Lp)(W:WD),f[i]? =some l->hand W ((cnt (f.take (i+1))).map dC) S->c_next [.lst ((cnt (f.take i)).map dC),dF l.1,dF l.2] S W:=λ i l W h w=>by have E:=(z0.mp h).1;obtain⟨a,b⟩:=hf.1 l (y4 h);obtain⟨c,d⟩:=hf.2 i %[|0];obtain⟨t,B⟩:=hf.2 (i+1) %[|0];rw[m7 h]at t w;exact%[_,_,_,rfl,a,b,d,c,t,v|w]
 refine aV (λ i j o=>(∃r s,j=[some (.tup (f.map dL)),some (.lst ((cnt (f.take i)).map dC)),r,s])/\o=S) %[%[_,_|rfl]|rfl] ?_ ?_;{rintro z A y p _ _ i e j o g ⟨⟨r,s,rfl⟩,rfl⟩;obtain⟨l,q,rfl⟩:=n i e g;try?;refine%[rfl|?_];walk_at "n";exact%[rfl|m i l _ q (.inl (p _ _ _ %[%[_,_|rfl]|rfl]))]};{rintro j o ⟨⟨r,s,rfl⟩,rfl⟩;rw[y7,cS];exact .inl x}
def BdF(f:Fm)(k:Nat):Prop:=f.2.length=k/\ -9<=f.1/\f.1<=9/\∀n∈f.2,-2<=n/\n<=2
def Nz{g a m}(c: -2<=g/\g<=2)(b: -m<=a/\a<=m): -(2*m)<=g*a/\g*a<=2*m:=by
 have:g= -2\/g= -1\/g=0\/g=1\/g=2:=%[|0]
 rcases this with rfl | rfl | rfl | rfl | rfl<;>omega
def bnd:Nat->Int
 | 0=>0
 | 1=>9
 | 2=>27
 | _=>117
def Cs(i:Nat)(cs:ae0):Prop:=cs.length=i/\∀c∈cs,-(bnd i)<=c/\c<=bnd i
def mX{f}(hi:i<=2)(m:BdF f i)(l:Cs i cs): -(bnd (i+1))<=atC f cs/\atC f cs<=bnd (i+1):=by
 obtain⟨a,h⟩:=f;obtain⟨b,j,k,c⟩:=m;obtain⟨d,e⟩:=l;dsimp only at b j k c;unfold atC comesTo;have:i=0\/i=1\/i=2:=%[|0]
 rcases this with rfl | rfl | rfl
 . match h,cs,b,d with
   | [],[],_,_=>simp[bnd];omega
 . match h,cs,b,d with
   | [g],[x],_,_=>have:=Nz (c g (by simp)) (e x (by simp));simp[bnd]at this ⊢;omega
 . match h,cs,b,d with
   | [g,g'],[x,x'],_,_=>have n:=Nz (c g (by simp)) (e x (by simp));have o:=Nz (c g' (by simp)) (e x' (by simp));simp[bnd]at n o ⊢;omega
def ZM:bnd i<=bnd (i+1):=by
 match i with
 | 0=>decide
 | 1=>decide
 | 2=>decide
 | i+3=>exact Int.le_refl _
def vX(i:Nat):bnd i<=117:=by
 match i with
 | 0=>decide
 | 1=>decide
 | 2=>decide
 | i+3=>exact Int.le_refl _
def Xa{ds}(b:i<=2)(e:BdF lo i)(d:BdF hi i)(hc:Cs i cs)(h:ds∈cz lo hi cs):Cs (i+1) ds:=by
 unfold cz at h;obtain⟨c,a,rfl⟩:=bS.mp h;unfold upI at a;obtain⟨k,f,rfl⟩:=bS.mp a;have f:=df.mp f;have g:=mX b e hc;have j:=mX b d hc;refine%[by simp[hc.1]|λ c h=>?_];rcases cq.mp h with h | h;{have:=hc.2 c h;have:=ZM (i:=i);omega}
 . have:c=atC lo cs+(k:Int):=by simpa using h
   omega
def Lps(ls:List Lp):Prop:=1<=ls.length/\ls.length<=3/\∀(i:Nat)(l:Lp),ls[i]? =some l->BdF l.1 i/\BdF l.2 i
theorem mq(h:Lps ls):∀i,i<=ls.length->∀cs∈cnt (ls.take i),Cs i cs
 | 0,_,cs,a=>by
   have:cs=[]:=by simpa[cnt]using a
   subst this;exact%[rfl|λ c a=>by simp at a]
 | i+1,hi,cs,a=>by have b:=y3 (l:=ls) (i:=i) %[|0];rw[m7 b]at a;obtain⟨d,e,a⟩:=ea.mp a;have:=h.2.2 i _ b;have f:=h.2.1;exact Xa %[|0] this.1 this.2 (mq h i %[|0] d e) a
def Oe:Nat->Nat
 | 0=>1
 | 1=>18
 | 2=>972
 | _=>227448
theorem uG:∀{ahead:ag4},(∀cs∈ahead,(cz lo hi cs).length<=m)->(bj lo hi ahead).length<=ahead.length*m
 | [],_=>by simp[bj]
 | a::as,h=>by have c:=uG (ahead:=as) λ cs b=>h cs (x4 _ b);have:=h a x6;unfold bj at c ⊢;rw[kU,x8,dS,l4];omega
theorem Kg(h:Lps ls):∀i,i<=ls.length->(cnt (ls.take i)).length<=Oe i
 | 0,_=>by simp[cnt,Oe]
 | i+1,hi=>by
   have b:=y3 (l:=ls) (i:=i) %[|0];have k:=Kg h i %[|0];have j:=h.2.1;have hb:=h.2.2 i _ b;rw[m7 b];have e:∀a∈cnt (ls.take i),(cz ls[i].1 ls[i].2 a).length<=(2*bnd (i+1)).toNat:=λ a d=>by have c:=mq h i %[|0] a d;have f:=mX %[|0] hb.1 c;have g:=mX %[|0] hb.2 c;rw[dU];omega
   have:=uG e;have:i=0\/i=1\/i=2:=%[|0]
   rcases this with rfl | rfl | rfl<;>simp[bnd,Oe]at* <;>omega
def Lps.fits(h:Lps ls):Fits ls:=by
 refine%[λ l k=>?_|λ i a=>%[?_|λ g j=>?_]];{obtain⟨i,a⟩:=cw k;have m:=(z0.mp a).1;have d:=h.2.1;obtain⟨⟨o,p,q,e⟩,r,s,t,f⟩:=h.2.2 i l a;exact%[%[%[|0],%[|0],%[|0]|λ n b=>by have:=e n b;omega],%[|0],%[|0],%[|0]|λ n b=>by have:=f n b;omega]}
 . have:=Kg h i a;have d:=h.2.1;have:i=0\/i=1\/i=2\/i=3:=%[|0]
   rcases this with rfl | rfl | rfl | rfl<;>simp only[Oe]at* <;>omega
 {have c:=mq h i a g j;have d:=h.2.1;exact%[by have:=c.1;omega|λ n b=>by have:=c.2 n b;have:=vX i;omega]}
def m8(a b:Int):D->Bool
 | .int n=>decide (a<=n)&&decide (n<=b)
 | _=>false
def vA(n:Int):Bool:=decide ((if n<0 then-n else n)<10 ^ Int.toNat 30)
def xG:D->Bool
 | .int n=>vA n
 | _=>false
def parts:D->List D
 | .tup ds=>ds
 | _=>[]
def kh(x:D):Bool:=cC x 1 3&&(parts x).all (m8 1 2)
def isPlace(d:Int)(x:D):Bool:=dZ x d&&(parts x).all (m8 (-99) 99)
def isStart(x:D)(d:Int):Bool:=dZ x d&&(parts x).all xG
def lK(t p:D)(ws:ae0)(d:Int):Bool:=match t with
 | .int n=>(decide (0<=n)&&decide (n<(ws.length:Int)))&&(cC p (ws.getD n.toNat 0) (ws.getD n.toNat 0)&&(parts p).all (isPlace d))
 | _=>false
def mC(ws:ae0)(d:Int)(x:D):Bool:=match x with
 | .tup [f,t,p]=>xG f&&lK t p ws d
 | _=>false
def sU(x:D)(ws:ae0)(d:Int):Bool:=cC x 0 3&&(parts x).all (mC ws d)
def gP(ws:ae0)(d:Int)(x:D):Bool:=match x with
 | .tup [t,p,s,r]=>lK t p ws d&&(isStart s d&&sU r ws d)
 | _=>false
def jN(ws:ae0)(x:D):Bool:=match x with
 | .tup [l,ds]=>iu l&&(cC ds 1 4&&(parts ds).all (gP ws ((parts l).length:Int)))
 | _=>false
def sY(x:D)(ws:ae0):Bool:=cC x 1 3&&(parts x).all (jN ws)
inductive c_few(ds:List D)(S:Store)(W:WD):Prop
 | mk(n:_):ds=[.int n]->W (.bl (vA n)) S->c_few ds S W
inductive c_widths(ds:List D)(S:Store)(W:WD):Prop
 | mk(x:_):ds=[x]->W (.bl (kh x)) S->c_widths ds S W
inductive c_placef(ds:List D)(S:Store)(W:WD):Prop
 | mk(x d:_):ds=[x,.int d]->0<=d->d<=1000->W (.bl (isPlace d x)) S->c_placef ds S W
inductive c_start(ds:List D)(S:Store)(W:WD):Prop
 | mk(x d:_):ds=[x,.int d]->0<=d->d<=1000->W (.bl (isStart x d)) S->c_start ds S W
def Ws(ws:ae0):Prop:=ws.length<=3/\∀w∈ws,1<=w/\w<=2
inductive c_tp(ds:List D)(S:Store)(W:WD):Prop
 | mk(t p ws d:_):ds=[t,p,.tup (List.map .int ws),.int d]->Ws ws->0<=d->d<=1000->W (.bl (lK t p ws d)) S->c_tp ds S W
inductive c_read(ds:List D)(S:Store)(W:WD):Prop
 | mk(x ws d:_):ds=[x,.tup (List.map .int ws),.int d]->Ws ws->0<=d->d<=1000->W (.bl (mC ws d x)) S->c_read ds S W
inductive c_reads(ds:List D)(S:Store)(W:WD):Prop
 | mk(x ws d:_):ds=[x,.tup (List.map .int ws),.int d]->Ws ws->0<=d->d<=1000->W (.bl (sU x ws d)) S->c_reads ds S W
inductive c_deed(ds:List D)(S:Store)(W:WD):Prop
 | mk(x ws d:_):ds=[x,.tup (List.map .int ws),.int d]->Ws ws->0<=d->d<=1000->W (.bl (gP ws d x)) S->c_deed ds S W
inductive c_nest(ds:List D)(S:Store)(W:WD):Prop
 | mk(x ws:_):ds=[x,.tup (List.map .int ws)]->Ws ws->W (.bl (jN ws x)) S->c_nest ds S W
inductive c_nests(ds:List D)(S:Store)(W:WD):Prop
 | mk(x ws:_):ds=[x,.tup (List.map .int ws)]->Ws ws->W (.bl (sY x ws)) S->c_nests ds S W
def eV(w:W (.bl (ds.all p)) S):jh.wp [.lst (ds.map λ d=>.bl (p d))] S W:=
 %[ds.map p,by rw[de];rfl|by rw[Ie];exact w]
def Ab(h:cC (.tup ds) a b=true):a<=(ds.length:Int)/\(ds.length:Int)<=b:=by obtain⟨c,d⟩:=bD h;exact%[ck c|ck d]
def dW(h:cC x a b=true):∃ds,x=.tup ds/\a<=(ds.length:Int)/\(ds.length:Int)<=b:=by
 cases x with
 | tup ds=>exact%[ds,rfl|Ab h]
 | _=>exact ff h
def sW{Q:WD}(c:Q (.bl (m8 a b (.int n))) S):(decide (a<=n)=false->Q (.bl false) S)/\(decide (a<=n)=true->Q (.bl (decide (n<=b))) S):=by have e:m8 a b (.int n)=(decide (a<=n)&&decide (n<=b)):=rfl;rw[e]at c;exact%[λ h=>by rw[h]at c;exact c|λ h=>by rw[h]at c;exact c]
def nA(B:%[|2]):OkF Ω "has_few_figures" ik 1 oR c_few:=by refine aK (N:=oR) (pI B) %[|7] ?_;rintro b S W ⟨n,rfl,a⟩ c;try?;exact a
def yc(B:%[|2])(b:bw Ω c_whole)(a:au Ω c_tup):OkF Ω "is_widths" oM 2 DQ c_widths:=by
 refine aK (N:=DQ) (Cq B b a) %[|7] ?_;rintro g S W ⟨x,rfl,c⟩ k;try?;refine%[rfl,_,_,_,rfl|?_];try?;unfold kh at c;refine%[λ h=>?_|λ h=>by rw[h]at c;exact c];rw[h]at c;obtain⟨g,rfl,l,m⟩:=dW h;try?;refine fZ (λ d=>.bl (m8 1 2 d)) %[|0] ?_ (eV c);intro i e j Q f;try?;refine%[rfl,_,rfl|?_]
 cases e with
 | int n=>try?;refine%[(sW f).1|λ h=>?_];try?;exact(sW f).2 h
 | _=>try?;exact f
def pZ(B:%[|2])(b:dz Ω c_form):OkF Ω "is_place_form" jr 3 Jh c_placef:=by
 refine aK (N:=Jh) (tV B b) %[|7] ?_;rintro l S W ⟨x,d,rfl,f,j,c⟩ p;try?;refine%[rfl,_,_,rfl,j|?_];try?;unfold isPlace at c;refine%[λ h=>?_|λ h=>by rw[h]at c;exact c];rw[h]at c;obtain⟨a,m,rfl,o⟩:=lN h f;try?;refine fZ (λ d=>.bl (m8 (-99) 99 d)) %[|14] ?_ (eV c);intro i e k Q g;have:∃n,e=.int n:=by have:=y4 k;rcases cr.mp this with rfl | h;{exact%[_|rfl]};{obtain⟨n,_,rfl⟩:=bS.mp h;exact%[n|rfl]}
 obtain⟨n,rfl⟩:=this;try?;refine%[(sW g).1|λ h=>?_];try?;exact(sW g).2 h
def Bw(B:%[|2])(c:dz Ω c_form)(b:cF Ω c_few):OkF Ω "is_start" qW 3 Jh c_start:=by
 refine aK (N:=Jh) (Hk B c b) %[|7] ?_;rintro m S W ⟨x,d,rfl,g,j,f⟩ q;try?;refine%[rfl,_,_,rfl,j|?_];try?;unfold isStart at f;refine%[λ h=>?_|λ h=>by rw[h]at f;exact f];rw[h]at f;obtain⟨a,o,rfl,p⟩:=lN h g;try?;refine fZ (λ d=>.bl (xG d)) %[|14] ?_ (eV f);intro i e k Q l;have:∃n,e=.int n:=by have:=y4 k;rcases cr.mp this with rfl | h;{exact%[_|rfl]};{obtain⟨n,_,rfl⟩:=bS.mp h;exact%[n|rfl]}
 obtain⟨n,rfl⟩:=this;try?;exact%[rfl,_,rfl|l]
def jZ(B:%[|2])(m:bw Ω c_whole)(l:au Ω c_tup)(k:fU Ω c_placef):OkF Ω "is_table_with_place" fO 4 kY c_tp:=by
 refine aK (N:=kY) (lg B m l k) %[|7] ?_;rintro z S W ⟨t,p,a,d,rfl,hws,r,C,b⟩ H;try?;refine%[rfl,_,rfl|?_]
 cases t with
 | int n=>
   have e:lK (.int n) p a d=((decide (0<=n)&&decide (n<(a.length:Int)))&&(cC p (a.getD n.toNat 0) (a.getD n.toNat 0)&&(parts p).all (isPlace d))):=rfl;rw[e]at b;have u:((a.map D.int).length:Int)=(a.length:Int):=by rw[y7]
   try?;refine%[λ h=>?_|λ h=>?_];{rw[h]at b;try?;exact b};rw[h,im]at b;try?;rw[u];refine%[λ c=>?_|λ c=>?_];{have c:decide (n<(a.length:Int))=false:=nt c;rw[c]at b;try?;exact b};have c:decide (n<(a.length:Int))=true:=by
    cases q:decide (n<(a.length:Int))with
    | true=>rfl
    | false=>rw[q]at c;exact tf c
   rw[c,im]at b;have A:=ck h;have F:=ck c;have s:n.toNat<a.length:=%[|0]
   have y:a.getD n.toNat 0=a[n.toNat]:=by simp[List.getD,s]
   have g:atI (a.map D.int) n=some (.int (a.getD n.toNat 0)):=by have:=bZ (xs:=a.map D.int) (j:=n.toNat) (v:=.int a[n.toNat]) (by rw[y8,y3 s];rfl);rw[kD A]at this;rw[y];exact this
   have f:=hws.2 _ (List.getElem_mem s);rw[<-y]at f;generalize a.getD n.toNat 0=w at g b f;try?;refine%[_,g|?_];try?;refine%[_,g|?_];try?;refine%[rfl,_,_,_,rfl|?_];try?;refine%[λ o=>?_|λ o=>by rw[o]at b;exact b];rw[o]at b;obtain⟨z,rfl,I,J⟩:=dW o;try?;refine fZ (λ x=>.bl (isPlace d x)) %[|0] ?_ (eV b);intro i e G Q E;try?;exact%[rfl,_,_,rfl,r,C|E]
 | _=>try?;exact b
def Hn(m:bw Ω c_whole)(l:au Ω c_tup)(j:cF Ω c_few)(k:bA Ω c_tp):OkF Ω "is_read" uA 5 Jd c_read:=by
 refine aK (N:=Jd) (Io m l j k) %[|7] ?_;rintro o S W ⟨x,u,d,rfl,r,q,w,g⟩ y;try?;refine%[rfl,_,_,_,rfl|?_]
 cases h:cC x 3 3 with
 | false=>
   have e:mC u d x=false:=by
    cases x with
    | tup o=>
      match o,h with
      | [a,b,c],h=>exact tf h
      | [],_=>rfl
      | [_],_=>rfl
      | [_,_],_=>rfl
      | _::_::_::_::_,_=>rfl
    | _=>rfl
   rw[e]at g;try?;exact g
 | true=>
   obtain⟨o,rfl,i,s⟩:=dW h;match o,i,s,g with
   | [f, t,p],_,_,g=>
     try?;refine%[rfl,_,rfl|?_];have e:mC u d (.tup [f,t,p])=(xG f&&lK t p u d):=rfl;rw[e]at g
     cases f with
     | int n=>
       try?;refine%[rfl,_,rfl|?_];have e:xG (.int n)=vA n:=rfl;rw[e]at g
       cases v:vA n with
       | true=>rw[v]at g;try?;exact%[rfl,_,_,_,_,rfl,r,q,w|g]
       | false=>rw[v]at g;try?;exact g
     | _=>try?;exact g
   | [],i,_,_=>simp at i
   | [_],i,_,_=>simp at i
   | [_,_],i,_,_=>simp at i
   | _::_::_::_::es,_,s,_=>simp at s;omega
def Ce(B:%[|2])(b:au Ω c_tup)(a:uw Ω c_read):OkF Ω "is_reads" rn 6 Jd c_reads:=by refine aK (N:=Jd) (Fd B b a) %[|7] ?_;rintro j S W ⟨x,m,d,rfl,g,f,k,c⟩ o;try?;refine%[rfl,_,_,_,rfl|?_];try?;unfold sU at c;refine%[λ h=>?_|λ h=>by rw[h]at c;exact c];rw[h]at c;obtain⟨j,rfl,p,q⟩:=dW h;try?;refine fZ (λ x=>.bl (mC m d x)) %[|0] ?_ (eV c);intro i e n Q l;try?;exact%[rfl,_,_,_,rfl,g,f,k|l]
def Ih(m:au Ω c_tup)(k:j5 Ω c_start)(l:bA Ω c_tp)(j:jO Ω c_reads):OkF Ω "is_deed" ul 7 Jd c_deed:=by
 refine aK (N:=Jd) (Iz m k l j) %[|7] ?_;rintro q S W ⟨x,o,d,rfl,n,i,u,f⟩ z;try?;refine%[rfl,_,_,_,rfl|?_]
 cases h:cC x 4 4 with
 | false=>
   have e:gP o d x=false:=by
    cases x with
    | tup q=>
      match q,h with
      | [a,b,c,d],h=>exact tf h
      | [],_=>rfl
      | [_],_=>rfl
      | [_,_],_=>rfl
      | [_,_,_],_=>rfl
      | _::_::_::_::_::_,_=>rfl
    | _=>rfl
   rw[e]at f;try?;exact f
 | true=>
   obtain⟨q,rfl,g,v⟩:=dW h;match q,g,v,f with
   | [t, p,s,r],_,_,f=>
     have e:gP o d (.tup [t,p,s,r])=(lK t p o d&&(isStart s d&&sU r o d)):=rfl;rw[e]at f;try?;refine%[rfl,_,_,_,_,rfl,n,i,u|?_]
     cases w:lK t p o d with
     | false=>rw[w]at f;try?;exact f
     | true=>
       rw[w,im]at f;try?;refine%[rfl,_,_,rfl,i,u|?_]
       cases y:isStart s d with
       | false=>rw[y]at f;try?;exact f
       | true=>rw[y,im]at f;try?;exact%[rfl,_,_,_,rfl,n,i,u|f]
   | [],g,_,_=>simp at g
   | [_],g,_,_=>simp at g
   | [_,_],g,_,_=>simp at g
   | [_,_,_],g,_,_=>simp at g
   | _::_::_::_::_::es,_,v,_=>simp at v;omega
def HH(B:%[|2])(j:au Ω c_tup)(g:j7 Ω c_loops)(f:lU Ω c_deed):OkF Ω "is_nest" uo 8 Jt c_nest:=by
 refine aK (N:=Jd) (Iv B j g f) %[|7] ?_;rintro m S W ⟨x,k,rfl,q,c⟩ w;try?;refine%[rfl,_,_,_,rfl|?_]
 cases h:cC x 2 2 with
 | false=>
   have e:jN k x=false:=by
    cases x with
    | tup m=>
      match m,h with
      | [a,b],h=>exact tf h
      | [],_=>rfl
      | [_],_=>rfl
      | _::_::_::_,_=>rfl
    | _=>rfl
   rw[e]at c;try?;exact c
 | true=>
   obtain⟨m,rfl,d,p⟩:=dW h;match m,d,p,c with
   | [l, dd],_,_,c=>
     have e:jN k (.tup [l,dd])=(iu l&&(cC dd 1 4&&(parts dd).all (gP k ((parts l).length:Int)))):=rfl;rw[e]at c;try?;refine%[rfl,_,rfl|?_]
     cases n:iu l with
     | false=>rw[n]at c;try?;exact c
     | true=>
       rw[n,im]at c
       cases l with
       | tup r=>have s:(r.length:Int)<=3:=ck (bD (bD n).1).2;have c:W (.bl (cC dd 1 4&&(parts dd).all (gP k (r.length:Int)))) S:=c;try?;refine%[rfl,_,_,_,rfl|?_];try?;refine%[λ o=>?_|λ o=>by rw[o]at c;exact c];rw[o]at c;obtain⟨t,rfl,d,p⟩:=dW o;try?;refine fZ (λ x=>.bl (gP k (r.length:Int) x)) %[|0] ?_ (eV c);intro i e v Q u;try?;exact%[rfl,_,_,_,rfl,q,%[|0],%[|0]|u]
       | _=>exact ff n
   | [],d,_,_=>simp at d
   | [_],d,_,_=>simp at d
   | _::_::_::t,_,p,_=>simp at p;omega
def Br(B:%[|2])(b:au Ω c_tup)(a:ue Ω c_nest):OkF Ω "is_nests" rC 9 Jt c_nests:=by refine aK (N:=Jt) (Hq B b a) %[|7] ?_;rintro f S W ⟨x,j,rfl,d,c⟩ l;try?;refine%[rfl,_,_,_,rfl|?_];try?;unfold sY at c;refine%[λ h=>?_|λ h=>by rw[h]at c;exact c];rw[h]at c;obtain⟨f,rfl,m,n⟩:=dW h;try?;refine fZ (λ x=>.bl (jN j x)) %[|0] ?_ (eV c);intro i e k Q g;try?;exact%[rfl,_,_,rfl,d|g]
structure Rd where
 fac:Int
 tab:Nat
 pl:List Fm
structure Dd where
 tab:Nat
 pl:List Fm
 st:Fm
 rds:List Rd
structure Ns where
 lps:List Lp
 dds:List Dd
structure Pg where
 ws:%[|8]
 nss:List Ns
def dP(pl:List Fm):D:=.tup (pl.map dF)
def dRd(r:Rd):D:=.tup [.int r.fac,.int r.tab,dP r.pl]
def dDd(x:Dd):D:=.tup [.int x.tab,dP x.pl,dF x.st,.tup (x.rds.map dRd)]
def dNs(n:Ns):D:=.tup [.tup (n.lps.map dL),.tup (n.dds.map dDd)]
def dWs(ws:ae0):D:=.tup (ws.map .int)
def dPg(p:Pg):D:=.tup [dWs p.ws,.tup (p.nss.map dNs)]
def many(nss:List Ns):Int:=(nss.map λ n=>((cnt n.lps).length:Int)*(n.dds.length:Int)).sum
def qX(n:Ns):Prop:=1<=n.lps.length/\Fits n.lps/\n.dds.length<=1000
def mG:Ct:=λ b S W=>∃a,b=[.tup (List.map dNs a)]/\a.length<=1000/\(∀n∈a,qX n)/\flat S/\W (.int (many a)) S
def FP:Ct:=λ a S W=>∃p:Pg,a=[dWs p.ws,.tup (List.map dNs p.nss)]/\kh (dWs p.ws)=true/\sY (.tup (p.nss.map dNs)) p.ws=true/\p.nss.length<=1000/\(∀n∈p.nss,qX n)/\many p.nss<=60/\flat S/\W (dPg p) S
def QX(h:kh (dWs ws)=true):Ws ws:=by obtain⟨c,d⟩:=bD h;have:=Ab c;refine%[by simp at this;omega|λ w f=>?_];have e:=gp.mp d (.int w) (bS.mpr %[w,f|rfl]);obtain⟨a,b⟩:=bD e;exact%[ck a|ck b]
def nD(B:%[|2])(a:d9 Ω c_counts):OkF Ω "number_of_steps" gZ 4 ph mG:=by
 refine aK (N:=ph) (oX B a) %[|7] ?_;rintro m S W ⟨c,rfl,q,b,h,l⟩ p;try?;refine mO (λ n=>.int (((cnt n.lps).length:Int)*(n.dds.length:Int))) %[|0] ?_ ?_
 . intro i n j Q k;obtain⟨f,h2,o⟩:=b n (y4 j);have g:=(h2.2 n.lps.length (y9 _)).1;rw[cS]at g;try?;refine%[rfl|?_];try?;refine%[rfl,_,rfl,f,h2,h|?_];have d:(((cnt n.lps).map dC).length:Int)=((cnt n.lps).length:Int):=by rw[y7]
   have e:((n.dds.map dDd).length:Int)=(n.dds.length:Int):=by rw[y7]
   walk_at "n";rw[d,e];exact%[.inl %[|24]|k]
 {exact%[c.map λ(n:Ns)=>((cnt n.lps).length:Int)*(n.dds.length:Int),by rw[de];rfl|l]}
def vP(B:%[|2])(b:ji Ω c_widths)(a:km Ω c_nests)(c:aP Ω mG):OkF Ω "program_of" my 10 zq FP:=by refine aK (N:=zq) (za B b a c) %[|7] ?_;rintro l S W ⟨p,rfl,f,g,k,d,h,i,j⟩ m;have e:=QX f;try?;refine%[rfl,_,rfl|?_];rw[f];try?;refine%[rfl,_,_,rfl,e|?_];rw[g];try?;refine%[rfl,_,rfl,k,d,i|?_];try?;rw[cE %[|0]];try?;exact j
abbrev Stp:=Nat×%[|8]×Nat
def dSt(s:Stp):D:=.tup [.int s.1,dC s.2.1,.int s.2.2]
def dJ(i:Nat)(n:Ns):List Stp:=(cnt n.lps).flatMap λ a=>(List.range n.dds.length).map λ s=>(i,a,s)
def aO(nss:List Ns):List Stp:=(nss.mapIdx dJ).flatten
inductive c_steps(ds:List D)(S:Store)(W:WD):Prop
 | mk(p:Pg):ds=[dPg p]->p.nss.length<=1000->(∀n∈p.nss,qX n)->(aO p.nss).length<=1000000->flat S->hand W ((aO p.nss).map dSt) S->c_steps ds S W
def lG{nss:List Ns}(h:nss[i]? =some n):aO (nss.take (i+1))=aO (nss.take i)++dJ i n:=by unfold aO;rw[aH h,List.mapIdx_append,List.flatten_append];have a:=(z0.mp h).1;simp only[List.mapIdx_cons,List.mapIdx_nil,iX,List.flatten_nil,fA,e8];rw[Nat.min_eq_left %[|0],mr]
def wX(xs:List Stp):aa (xs.map dSt)=true:=by
 induction xs with
 | nil=>rfl
 | cons x xs a=>simp only[cn,aa,a,d6];have:=pO [x.2.1];simp only[cn,l0,aa,d6]at this;show aa [D.int _,dC x.2.1,D.int _]=true;simp only[aa,this,d6];rfl
def Qo(h:flat S)(a:aa l=true):flat (S++[l]):=λ x b=>by rcases cq.mp b with q | q;{exact h x q};{rw[bX.mp q];exact a}
def Qt(h:nss[i]? =some n):(aO (nss.take i)).length+(dJ i n).length<=(aO nss).length:=by
 have e:∃a,aO nss=aO (nss.take (i+1))++a:=by
  unfold aO;conv=>enter [1,a,1,1];rw[<-fh (i+1) nss]
  rw[List.mapIdx_append,List.flatten_append];exact%[_|rfl]
 obtain⟨a,e⟩:=e;rw[e,lG h,x8,x8];omega
def Bx(B:%[|2])(k:d9 Ω c_counts):OkF Ω "steps_of" pR 4 Dp c_steps:=by
 refine aK (N:=Ds) (Bl.frz (Fg B k)) %[|7] ?_;rintro U S W ⟨p,rfl,hz,w,A,z,I⟩ Y;try?;refine aV (λ i a b=>(∃x y h f,a=[some (dPg p),%[|19],x,y,h,f])/\b=S++[(aO (p.nss.take i)).map dSt]) %[%[_,_,_,_|rfl]|rfl] ?_ ?_
 . rintro M Q J o _ _ i e a b m ⟨⟨x,y,h,f,rfl⟩,rfl⟩;obtain⟨V,u,rfl⟩:=jF m;obtain⟨n,v,rfl⟩:=bR u;obtain⟨G,H,X⟩:=w n (y4 v);have lf:=Qt v;try?;refine%[rfl|?_];try?;refine%[rfl,_,rfl,G,H,Qo z (wX _)|?_];walk_at "n";refine aV (λ j a b=>(∃h f,a=[some (dPg p),%[|19],some (.int (i:Int)),some (dNs n),h,f])/\b=S++[(aO (p.nss.take i)++((cnt n.lps).take j).flatMap λ g=>(List.range n.dds.length).map λ s=>(i,g,s)).map dSt]) %[%[_,_|rfl]|by simp] ?_ ?_
   . rintro O R K q _ _ j e a b m ⟨⟨h,f,rfl⟩,rfl⟩;obtain⟨g,l,rfl⟩:=bR m;have C:((n.dds.map dDd).length:Int)=(n.dds.length:Int):=by rw[y7]
     have lj:((cnt n.lps).take j |>.flatMap λ g=>(List.range n.dds.length).map λ s=>(i,g,s)).length+n.dds.length<=(dJ i n).length:=by
      have:∃c,dJ i n=((cnt n.lps).take (j+1) |>.flatMap λ g=>(List.range n.dds.length).map λ s=>(i,g,s))++c:=by
       unfold dJ;conv=>enter [1,c,1,2];rw[<-fh (j+1) (cnt n.lps)]
       rw[fk];exact%[_|rfl]
      obtain⟨c,E⟩:=this;rw[E,aH l,fk,x8,x8];simp
     try?;rw[C];refine%[%[|24]|aV (λ t a b=>(∃f,a=[some (dPg p),%[|19],some (.int (i:Int)),some (dNs n),some (dC g),f])/\b=S++[((aO (p.nss.take i)++((cnt n.lps).take j).flatMap λ g=>(List.range n.dds.length).map λ s=>(i,g,s))++(List.range t).map λ s=>(i,g,s)).map dSt]) %[%[_|rfl]|by simp] ?_ ?_]
     . rintro P T L r _ _ t e a b m ⟨⟨f,rfl⟩,rfl⟩;obtain⟨Z,rfl⟩:=bO m;have F:(0:Int)+(t:Int)=(t:Int):=%[|0]
       rw[F];try?;refine%[_,bh _ _,by simp only[y7,x8,ja];omega|?_];refine r _ _ _ %[%[_|rfl]|?_];rw[cg,ke];simp only[cf,cn,l0,ci];rfl
     {rintro a b ⟨⟨f,rfl⟩,rfl⟩;refine q _ _ _ %[%[_,_|rfl]|?_];rw[aB,aH l,fk,List.flatMap_singleton,<-ci,dk]}
   {rintro a b ⟨⟨h,f,rfl⟩,rfl⟩;refine o _ _ _ %[%[_,_,_,_|rfl]|?_];rw[y7,cS,lG v];rfl}
 . rintro a b ⟨⟨x,y,h,f,rfl⟩,rfl⟩;have e:((p.nss.map dNs).mapIdx λ i d=>D.tup [D.int (i:Int),d]).length=p.nss.length:=by simp
   rw[e,cS];exact mZ I (wX _) z
inductive c_deedof(ds:List D)(S:Store)(W:WD):Prop
 | mk(p:Pg)(s:Stp)(n:Ns)(x:Dd):ds=[dPg p,dSt s]->p.nss[s.1]? =some n->n.dds[s.2.2]? =some x->W (dDd x) S->c_deedof ds S W
abbrev Cell:=Nat×%[|8]
def aN(c:Cell):D:=.tup [.int c.1,.tup (c.2.map .int)]
def C64(cs:ae0):Prop:=∀c∈cs,-(2 ^ 64)<c/\c<2 ^ 64
def Ov(pl:List Fm):Prop:=pl.length<=1000/\∀f∈pl,f.2.length<=1000
def spot(t:Nat)(pl:List Fm)(cs:ae0):Cell:=(t,pl.map λ f=>atC f cs)
inductive c_cellat(ds:List D)(S:Store)(W:WD):Prop
 | mk(t:Nat)(pl:List Fm)(cs:ae0):ds=[.int t,dP pl,dC cs]->Ov pl->C64 cs->W (aN (spot t pl cs)) S->c_cellat ds S W
def HN:OkF Ω "deed_of" uD 1 Ik c_deedof:=by refine aK (N:=Ik) (Js) %[|7] ?_;rintro g S W ⟨p,⟨i,f,t⟩,n,x,rfl,c,e,d⟩ h;have a:atI (p.nss.map dNs) ((i:Nat):Int)=some (dNs n):=bZ (by rw[y8,c];rfl);have b:atI (n.dds.map dDd) ((t:Nat):Int)=some (dDd x):=bZ (by rw[y8,e];rfl);try?;refine%[_,a|?_];try?;exact%[_,b|d]
def GX(B:%[|2])(a:cu Ω c_comes):OkF Ω "cell_at" ug 2 Jv c_cellat:=by
 refine aK (N:=Jv) (IV B a) %[|7] ?_;rintro k S W ⟨t,g,b,rfl,hpl,c,d⟩ l;try?;refine mO (λ f=>.int (atC f b)) (by have:=hpl.1;omega) ?_ ?_;{intro i f h Q j;try?;exact%[rfl,f.1,f.2,b,rfl,hpl.2 f (y4 h),c|j]}
 . try?;have e:(spot t g b).2.map D.int=g.map λ f=>D.int (atC f b):=by unfold spot;rw[de];rfl
   unfold aN at d;rw[e]at d;exact d
def dCs(x:Dd)(cs:ae0):D:=.tup [aN (spot x.tab x.pl cs),.lst (x.rds.map λ r=>aN (spot r.tab r.pl cs))]
def Sv(x:Dd):Prop:=Ov x.pl/\x.rds.length<=1000/\∀r∈x.rds,Ov r.pl
inductive c_cellsStep(ds:List D)(S:Store)(W:WD):Prop
 | mk(p:Pg)(s:Stp)(n:Ns)(x:Dd):ds=[dPg p,dSt s]->p.nss[s.1]? =some n->n.dds[s.2.2]? =some x->Sv x->C64 s.2.1->W (dCs x s.2.1) S->c_cellsStep ds S W
def rB(b:dw Ω c_deedof)(a:lY Ω c_cellat):OkF Ω "cells_of_step" jt 3 Ik c_cellsStep:=by refine aK (N:=tR) (tX b a) %[|7] ?_;rintro l S W ⟨p,⟨i,d,t⟩,n,x,rfl,e,k,hok,c,h⟩ m;try?;refine%[rfl,p,(i,d,t),n,x,rfl,e,k|?_];try?;refine mO (λ r=>aN (spot r.tab r.pl d)) (by have:=hok.2.1;omega) ?_ ?_;{intro j r g Q f;try?;refine%[rfl|?_];try?;exact%[rfl,r.tab,r.pl,d,rfl,hok.2.2 r (y4 g),c|f]};{try?;refine%[rfl,x.tab,x.pl,d,rfl,hok.1,c|?_];try?;exact h}
def lO(ns:ae0)(c n:Int):List D:=[.int c,.int n,.lst (ns.map .int)]
def bB(S:Store)(k:Nat):Prop:=∃a c n,S[k]? =some (lO a c n)/\0<=n
def bC(S:Store)(k:Nat)(S':Store):Prop:=∃a c n,S'=S.set k (lO a c n)/\0<=n
def bC.trans{S d e}(a:bC S k d)(b:bC d k e):bC S k e:=by obtain⟨_,_,_,rfl,_⟩:=a;obtain⟨g,c,n,rfl,f⟩:=b;exact%[g,c,n,by rw[List.set_set]|f]
def bC.refl(p:bB S k):bC S k S:=by obtain⟨b,c,n,h,a⟩:=p;exact%[b,c,n,by obtain⟨d,e⟩:=z0.mp h;rw[<-e,List.set_getElem_self]|a]
def bC.len(u:bC S k S'):S'.length=S.length:=by obtain⟨_,_,_,rfl,_⟩:=u;simp
def bC.pen(p:bB S k)(u:bC S k S'):bB S' k:=by obtain⟨_,_,_,h,_⟩:=p;obtain⟨b,c,n,rfl,a⟩:=u;exact%[b,c,n,set_get h|a]
def bB.lt(p:bB S k):k<S.length:=by obtain⟨_,_,_,h,_⟩:=p;exact(z0.mp h).1
def bB.app(J:Store)(p:bB S k):bB (S++J) k:=by have a:=p.lt;obtain⟨d,c,n,h,b⟩:=p;exact%[d,c,n,by rw[x9 a];exact h|b]
def bC.split(p:bB S k)(u:bC (S++J) k T):∃S',T=S'++J/\bC S k S'/\bB S' k:=by have b:=p.lt;obtain⟨a,c,n,rfl,d⟩:=u;have u:bC S k (S.set k (lO a c n)):=%[a,c,n,rfl|d];exact%[S.set k (lO a c n),by rw[List.set_append_left k _ b],u|u.pen p]
def aZ(ns:ae0):aa (ns.map D.int)=true:=by
 induction ns with
 | nil=>rfl
 | cons y b a=>simp only[cn,aa,a,d6];rfl
def uc(ns:ae0)(c n:Int):aa (lO ns c n)=true:=by show(aa (ns.map D.int)&&true)=true;rw[aZ];rfl
def bC.flat(u:bC S k S')(h:flat S):RF.flat S':=by obtain⟨b,c,n,rfl,_⟩:=u;intro l a;rcases List.mem_or_eq_of_mem_set a with a | rfl;{exact h l a};{exact uc ..}
inductive c_cellB(ds:List D)(S:Store)(W:WD):Prop
 | mk(ns k:_):ds=[.lst (List.map .int ns),.int k]->0<=k->(∀v,W (.int v) S)->c_cellB ds S W
inductive c_penB(ds:List D)(S:Store)(W:WD):Prop
 | mk(ns k:_):ds=[.lst (List.map .int ns),.int k]->0<=k->(∀c,W (.loc S.length) (S++[lO ns c k]))->c_penB ds S W
inductive c_takeB(ds:List D)(S:Store)(W:WD):Prop
 | mk(k m:_):ds=[.loc k,.int m]->bB S k->0<m->m<1000000000000000000000000000000000000000000000000000000000000->(∀v S',0<=v->v<m->bC S k S'->bB S' k->W (.int v) S')->c_takeB ds S W
def bx{m}(b:bB S k)(a:0<m)(h1:m<1000000000000000000000000000000000000000000000000000000000000)(w:∀v S',0<=v->v<m->bC S k S'->bB S' k->W (.int v) S'):([D.loc k,.int m].length=2/\c_takeB [.loc k,.int m] S W):=%[rfl,k,m,rfl,b,a,h1|w]
def R8(B:%[|2]):OkF Ω "_law_cell" Ef 1 SN c_cellB:=by
 refine aK (N:=T4) (U4 B) %[|7] ?_;rintro ds S W ⟨c,k,rfl,j,h⟩ l;have a:∀v:Int,(vV B).wp [some (.lst (c.map .int)),some (.int k),some (.int v)] S {nx:=λ _ f=>W .non f,rt:=W}:=by intro v;have e:=ms ((v % 2147483629+6151*k+1)*48271) (b:=2147483647) %[|1];have i:=ot ((v % 2147483629+6151*k+1)*48271) (b:=2147483647) %[|1];try?;exact h _
 have d:∀v:Int,(vJ B).wp [some (.lst (c.map .int)),some (.int k),some (.int v)] S {nx:=λ _ f=>W .non f,rt:=W}:=by intro v;try?;refine%[λ q=>?_|λ q=>%[λ z=>ff z|λ _=>a v]];have q:=ck q;obtain⟨x,g,e⟩:=kI (ds:=c.map D.int) (v:=0) %[|1] %[|0];obtain⟨y,_,rfl⟩:=bS.mp (y4 e);try?;refine%[_,g|?_];try?;refine%[λ _=>?_|λ _=>a v];try?;exact h _
 try?;refine%[λ q=>?_|λ q=>d 7];have q:=ck q;try?;obtain⟨x,g,e⟩:=kI (ds:=c.map D.int) (v:=k % ((c.map D.int).length:Int)) (ot _ %[|0]) (ms _ q);obtain⟨y,_,rfl⟩:=bS.mp (y4 e);exact%[_,g|d y]
def UV(a:iM Ω c_cellB):OkF Ω "_law_pen" J5 2 SN c_penB:=by refine aK (N:=SN) (Xo a) %[|7] ?_;rintro f S W ⟨e,k,rfl,b,d⟩ g;try?;refine%[rfl,e,k,rfl,b|λ c=>?_];try?;exact d c
def Q0(f:iM Ω c_cellB):OkF Ω "_law_take" Ey 2 Vd c_takeB:=by
 refine aK (N:=Ve) (Us f) %[|7] ?_;rintro q S W ⟨k,m,rfl,⟨e,c,n,i,j⟩,g,r,o⟩ s;have p:∀l:List D,(S.set k l)[k]? =some l:=λ l=>set_get i;have a:∀d b,0<=b->W (.int (c % m)) (S.set k (lO e d b)):=λ d b h=>
  o _ _ (ot _ %[|0]) (ms _ g) %[e,d,b,rfl|h] %[e,d,b,p _|h];try?;refine%[λ _=>?_|λ _=>a (c/m) n j];try?;refine%[rfl,e,n+1,rfl,%[|0]|λ v=>?_];try?;exact a v (n+1) %[|0]
def cR{S:Store}(h:n=S.length):(S++[l])[n]? =some l:=by subst h;exact bh _ _
def iI{S:Store}(h:n=S.length):(S++[l]).set n a=S++[a]:=by subst h;exact cg _ _ _
def cY(h:flat S)(b:aa l=true):flat (S++[l]):=by
 intro x a;rcases cq.mp a with a | a;{exact h x a}
 . have:x=l:=by simpa using a
   subst this;exact b
def il(f:Fm):aA (dF f)=true:=aZ (f.1::f.2)
def Vj(ns:ae0):Prop:=∀n∈ns,-99<=n/\n<=99
def FmB(d:Nat)(w:Int)(f:Fm):Prop:=f.2.length=d/\Vj f.2/\((-w<=f.1/\f.1<=w)\/(w=1/\ -99<=f.1/\f.1<=99))
inductive c_formB(ds:List D)(S:Store)(W:WD):Prop
 | mk(k d:Nat)(w:Int):ds=[.loc k,.int d,.int w]->bB S k->flat S->d<=10->1<=w->w<1000000000000000000000000000000->(∀f S',FmB d w f->bC S k S'->bB S' k->flat S'->W (dF f) S')->c_formB ds S W
theorem uW{P:Int->Prop}:∀{ys:List D},(∀(i:Nat)(y:D),ys[i]? =some y->∃n:Int,y=D.int n/\P n)->∃fs:%[|8],ys=fs.map D.int/\∀n∈fs,P n
 | [],_=>%[[],rfl|by simp]
 | y::ys,h=>by obtain⟨n,rfl,d⟩:=h 0 y rfl;obtain⟨fs,rfl,c⟩:=uW (ys:=ys) λ i y b=>h (i+1) y (by simpa using b);exact%[n::fs,rfl|by intro m a;rcases cr.mp a with rfl | a;{exact d};{exact c m a}]
def Sd(B:%[|2])(j:bI Ω c_takeB):OkF Ω "_law_form" Ed 3 Ui c_formB:=by
 refine aK (N:=VL) (Bl.drp (VV B j)) %[|7] ?_;rintro ds S W ⟨k,d,w,rfl,I,G,Y,aa,ab,M⟩ hl;have C:∀F,bC S k F->bB F k->(v7 B j).wp [some (.loc k),some (.int d),some (.int w),none,none] F {nx:=λ _ A=>W .non A,rt:=Drp S.length W}:=by
  intro F u0 p0;try?;refine bx p0 %[|0] %[|0] λ v A v0 v1 l H=>?_;have l:=u0.trans l;have f1:=l.flat G;have n1:=l.len;try?;refine%[%[|24]|qg %[λ i s T=>∃m b K,T=m++[D.int (v-w)::List.map D.int b]/\bC S k m/\bB m k/\b.length=i/\Vj b/\s=[some (.loc k),some (.int d),some (.int w),%[|19],K],%[A,[],none,rfl,l,H,rfl,λ n g=>by simp at g|by rw[n1];rfl],?_|?_]]
  . rintro i e s T Z ⟨m,b,K,rfl,h,t,f,o,rfl⟩;obtain⟨hi,rfl⟩:=bO Z;try?;refine bx (t.app _) %[|1] %[|1] λ x T3 x0 x1 r P=>?_;obtain⟨Q,rfl,r,P⟩:=r.split t;have r:=h.trans r;walk_at "n";obtain⟨y,U,V⟩:=kI (ds:=[D.int 0,.int 1,.int 1,.int 0,.int (-1),.int 2,.int 0,.int 1]) x0 x1;have O:=y4 V;refine%[y,U|?_];obtain⟨z,rfl,hz⟩:∃z:Int,y=.int z/\ -99<=z/\z<=99:=by simp only[cr,io,nn]at O;rcases O with rfl | rfl | rfl | rfl | rfl | rfl | rfl | rfl<;>exact%[_,rfl,%[|1]|%[|1]]
    refine%[_,cR r.len.symm,%[|14]|?_];rw[iI r.len.symm];refine%[Q,b++[z],_,by rw[cf];rfl,r,P,by simp[f],λ n g=>?_|rfl];rcases cq.mp g with g | g;{exact o n g}
    . have:n=z:=by simpa using g
      omega
  {rintro s T ⟨m,b,K,rfl,h,t,f,o,rfl⟩;rw[aB]at f;try?;refine%[_,cR h.len.symm|.inr %[[_],m,rfl,by rw[h.len];exact y9 _,il (v-w,b),h.flat G|M (v-w,b) _ %[by simpa using f,o|.inl %[?_|?_]] h t (h.flat G)]];{show-w<=v-w;omega};{show v-w<=w;omega}}
 try?;refine%[λ q=>?_|λ q=>%[λ z=>ff z|λ _=>C S (.refl I) I]];have q:=ck q;try?;refine bx I %[|1] %[|1] λ v A v0 v1 l H=>?_;try?;refine%[λ _=>?_|λ _=>C A l H];try?;refine%[%[|24]|qU (λ _ y=>∃n:Int,y=.int n/\(-99<=n/\n<=99)) (λ E=>bC S k E/\bB E k) (by rw[aB];omega) %[l|H] ?_ ?_];{rintro i d E Y ⟨u,p⟩ R X;try?;refine bx p %[|1] %[|1] λ w m w0 w1 h t=>?_;try?;exact X _ _ %[_,rfl,%[|0]|%[|0]] %[u.trans h|t]};rintro ys E c J ⟨u,p⟩;obtain⟨b,rfl,L⟩:=uW J;rw[aB,y7]at c
 cases b with
 | nil=>simp at c
 | cons a b=>try?;exact .inl (M (a,b) _ %[by simp at c;show b.length=d;omega,λ n g=>L n (x4 _ g)|.inr %[%[|0]|L a x6]] u p (u.flat G))
def Dg(ls:List Lp)(l:Lp):cnt (ls++[l])=bj l.1 l.2 (cnt ls):=by unfold cnt;rw[gL];rfl
def jM(a:Int)(k:Nat)(cs:ae0):atC (a,List.replicate k 0) cs=a:=by
 unfold atC comesTo;have:∀(k:Nat)(cs:ae0),(List.zipWith (λ a b=>a*b) (List.replicate k (0:Int)) cs).sum=0:=by
  intro k
  induction k with
  | zero=>intro cs;simp
  | succ k d=>
    intro cs
    cases cs with
    | nil=>simp
    | cons c cs=>simp[fR,d]
 rw[this];show a+0=a;omega
def Tq(a:Int)(cs:ae0)(c:Int):atC (a,List.replicate cs.length 0++[1]) (cs++[c])=a+c:=by
 unfold atC comesTo;have:∀cs:%[|8],(List.zipWith (λ a b=>a*b) (List.replicate cs.length (0:Int)++[1]) (cs++[c])).sum=c:=by
  intro cs
  induction cs with
  | nil=>simp
  | cons d cs e=>simp[fR,e]
 rw[this]
def Uv(a b:Int)(fs cs:ae0):atC (a+b,fs) cs=atC (a,fs) cs+b:=by unfold atC comesTo;dsimp only;omega
def VH{l}(h:cs∈cnt (ls++[l])):∃cs' c,cs'∈cnt ls/\cs=cs'++[c]/\atC l.1 cs'<=c/\c<atC l.2 cs':=by rw[Dg]at h;obtain⟨d,e,h⟩:=ea.mp h;unfold cz at h;obtain⟨c,a,rfl⟩:=bS.mp h;unfold upI at a;obtain⟨k,b,rfl⟩:=bS.mp a;have b:=df.mp b;exact%[d,_,e,rfl,%[|0]|%[|0]]
def Vq{l}{a:Nat}(h:∀cs∈cnt ls,atC l.2 cs-atC l.1 cs<=(a:Int)):(cnt (ls++[l])).length<=(cnt ls).length*a:=by rw[Dg];refine uG λ cs b=>?_;rw[dU];have:=h cs b;omega
def Bef(bf:D)(ls:List Lp):Prop:=bf=.non\/∃a b:Int,bf=.tup [.int a,.int b]/\ -3<=a/\a<=3/\1<=b/\b<=4/\1<=ls.length/\∀e∈cnt ls,∃d c,e=d++[c]/\a<=c/\c<a+b
def LpI(ls:List Lp):Prop:=∀(i:Nat)(l:Lp),ls[i]? =some l->BdF l.1 i/\BdF l.2 i
def LpI.snoc{l}(h:LpI ls)(h1:BdF l.1 ls.length)(h2:BdF l.2 ls.length):LpI (ls++[l]):=by
 intro i x a;by_cases b:i<ls.length;{rw[x9 b]at a;exact h i x a}
 . rw[da %[|0]]at a;have:i=ls.length:=by have:=(z0.mp a).1;simp at this;omega
   subst this;simp at a;subst a;exact%[h1|h2]
def nlO(o:Option D):Prop:=∀d,o=some d->aA d=true
def cX:nlO none:=λ d h=>by cases h
def jG(n:Int):nlO (some (.int n)):=λ d h=>by cases h;rfl
def Hi(n:Nat)(o:Option D):Prop:=nlO o\/∃j,o=some (.loc j)/\n<=j
def Kf{J}{o}(h:nlO o):lL n J o=o:=by
 cases o with
 | none=>rfl
 | some d=>
   cases d with
   | loc j=>have:=h _ rfl;simp[aA]at this
   | _=>rfl
def J7{J}(h:j<n):lL n J (some (.loc j))=some (.loc j):=by simp[lL,h]
def yU{J:List (List D)}{o}(c:flat J)(h:Hi n o):nlO (lL n J o):=by
 rcases h with h | ⟨j,rfl,f⟩;{rw[Kf h];exact h}
 . intro d a;have:¬j<n:=%[|0]
   simp only[lL,bP this]at a
   cases e:J[j-n]? with
   | none=>rw[e]at a;cases a
   | some b=>rw[e]at a;cases a;exact c b (y4 e)
def jc(ls:List Lp):aa (ls.map dL)=true:=by
 induction ls with
 | nil=>rfl
 | cons y b a=>simp only[cn,aa,a,d6];show aa [dF y.1,dF y.2]=true;simp only[aa,il,d6]
inductive c_loopsB(ds:List D)(S:Store)(W:WD):Prop
 | mk(k:Nat)(m:Nat):ds=[.loc k,.int m]->bB S k->flat S->1<=m->m<=1000->(∀ls S',Lps ls->(cnt ls).length<=m->bC S k S'->bB S' k->flat S'->W (.tup (ls.map dL)) S')->c_loopsB ds S W
def zeros(n:Int):(List.replicate n.toNat [D.int 0]).flatten=(List.replicate n.toNat (0:Int)).map D.int:=by
 generalize n.toNat=m
 induction m with
 | zero=>rfl
 | succ m a=>simp[fR,a]
def aaC{b:Bl Ω}{W}(h:b.wp Γ S {W with nx:=GK S.length W.nx}):b.fza.wp Γ S W:=h
def CZ(h:R (Γ.set j (some d))):(Tg.nm j).wp d Γ R:=h
def bC.split2(p:bB S k)(u:bC (S++[a]++[b]) k T):∃S',T=S'++[a]++[b]/\bC S k S'/\bB S' k:=by obtain⟨g,rfl,e,h⟩:=u.split (p.app _);obtain⟨c,rfl,f,d⟩:=e.split p;exact%[c,rfl,f|d]
def gJ{S:Store}(h:n=S.length):(S++[l]++J)[n]? =some l:=by subst h;rw[x9 (by simp)];exact bh _ _
def sG{S:Store}(h:n=S.length):(S++[l]++J).set n a=S++[a]++J:=by subst h;rw[List.set_append_left _ _ (by simp),cg]
def LK(ls:List Lp):∀cs∈cnt ls,cs.length=ls.length:=by
 have:∀(ls:List Lp)(a:ag4)(n:Nat),(∀cs∈a,cs.length=n)->∀cs∈ls.foldl (λ a l=>bj l.1 l.2 a) a,cs.length=n+ls.length:=by
  intro ls
  induction ls with
  | nil=>intro a n h cs b;simpa using h cs b
  | cons l ls g=>intro a n h cs b;have:=g (bj l.1 l.2 a) (n+1) (λ i d=>by obtain⟨e,f,d⟩:=ea.mp d;unfold cz at d;obtain⟨c,_,rfl⟩:=bS.mp d;simp[h e f]) cs b;rw[this,dS];omega
 intro cs b;have:=this ls [[]] 0 (by simp) cs b;omega
inductive LoopI(S:Store)(k m i:Nat)(Γ':Gam)(T:Store):Prop
 | mk(S2 ls room bf o5 o6 o7 o8 o9 o10 o11:_):T=S2++[List.map dL ls]->bC S k S2->bB S2 k->ls.length=i->LpI ls->1<=room->(cnt ls).length*room<=m->Bef bf ls->aA bf=true->(nlO o5/\nlO o6/\nlO o7/\nlO o8/\nlO o9/\nlO o10/\nlO o11)->Γ'=[some (.loc k),some (.int m),%[|19],some (.int (room:Nat)),some bf,o5,o6,o7,o8,o9,o10,o11]->LoopI S k m i Γ' T
def Dw{o}(h:Hi n o)(e:o=some d):aA d=true\/∃j,d=.loc j:=by rcases h with h | ⟨j,rfl,_⟩;{exact .inl (h d e)};{cases e;exact .inr %[j|rfl]}
def R0{l}{j}{n v}{C s t}(L:bB S k)(I:flat S)(u:bC S k g)(p:bB g k)(w:flat J)(e:ls.length=i)(A:LpI ls)(E:BdF l.1 i)(F:BdF l.2 i)(s1:1<=a)(s2:a<=room)(M:(cnt ls).length*room<=m)
 (K:∀cs∈cnt ls,atC l.2 cs-atC l.1 cs<=(a:Int))(y:Bef j (ls++[l]))(f:aA j=true)(B:Hi (S.length+1) C)(q:Hi (S.length+1) s)(r:Hi (S.length+1) t):
 GK (S.length+1) (LoopI S k m (i+1)) [some (.loc k),some (.int m),%[|19],some (.int ((room:Int)/(a:Int))),some j,some (.int i),some (.int a),some (.int n),some (.int v),C,s,t] (g++[(ls++[l]).map dL]++J):=by
 have z:=u.len;have P:=L.lt;have G:(room:Int)/(a:Int)=((room/a:Nat):Int):=(Int.natCast_ediv room a).symm;have c:(g++[(ls++[l]).map dL]).length=S.length+1:=by simp[z]
 refine .inr %[J,g++[(ls++[l]).map dL],rfl,by rw[c];exact y9 _,w,cY (u.flat I) (jc _),?_|?_]
 . intro x d b;match x,b with
   | 0,b=>cases b;exact .inr %[_|rfl]
   | 1,b=>cases b;exact .inl rfl
   | 2,b=>cases b;exact .inr %[_|rfl]
   | 3,b=>cases b;exact .inl rfl
   | 4,b=>cases b;exact .inl f
   | 5,b=>cases b;exact .inl rfl
   | 6,b=>cases b;exact .inl rfl
   | 7,b=>cases b;exact .inl rfl
   | 8,b=>cases b;exact .inl rfl
   | 9,b=>exact Dw B (by simpa using b)
   | 10,b=>exact Dw q (by simpa using b)
   | 11,b=>exact Dw r (by simpa using b)
   | x+12,b=>simp at b
 . rw [c];refine%[g,ls++[l],room/a,j,some (.int i),some (.int a),some (.int n),some (.int v),_,_,_,rfl,u,p,by simp[e],A.snoc (by rw[e];exact E) (by rw[e];exact F),Nat.div_pos s2 s1,?_,y,f,%[jG _,jG _,jG _,jG _,yU w B,yU w q|yU w r]|?_]
   . have H:=Vq (l:=l) K;have N:=iS (room/a) H;have O:(cnt ls).length*a*(room/a)<=(cnt ls).length*room:=by rw[Nat.mul_assoc];exact Nat.mul_le_mul_left _ (Nat.mul_div_le room a)
     omega
   {show[_,_,_,_,_,_,_,_,_,_,_,_]=[_,_,_,_,_,_,_,_,_,_,_,_];rw[J7 %[|0],J7 %[|0],Kf (o:=some j) (λ d h=>by cases h;exact f),G];rfl}
def Mz(B:%[|2])(g:bI Ω c_takeB):OkF Ω "_law_loops" z7 3 Ri c_loopsB:=by
 refine aK (N:=Sg) (Bl.drp (O9 B g)) %[|7] ?_;rintro ds S W ⟨k,m,rfl,hp,hS,aF,aR,hw⟩ hl;try?;refine bx (hp.app _) %[|1] %[|1] λ v T v0 v1 u1 p1=>?_;obtain⟨S1,rfl,u1,p1⟩:=u1.split hp;try?;refine%[%[|24]|qg %[LoopI S k m,%[S1,[],m,.non,none,none,none,none,none,none,none,rfl,u1,p1,rfl,λ i l h=>by simp at h,aF,by simp[cnt],.inl rfl,rfl,%[cX,cX,cX,cX,cX,cX|cX]|rfl],?_|?_]]
 . rintro i e aJ T he ⟨S2,r,f,bf,o5,o6,o7,o8,o9,t,s,rfl,u2,p2,am,an,av,ap,O,ao,⟨n5,n6,n7,n8,n9,aq,ae⟩,rfl⟩;obtain⟨hi,rfl⟩:=bO he;have aP:i<=2:=%[|0]
   have ez:(0:Int)+(i:Int)=(i:Int):=%[|0]
   rw[ez];have aC:(S2++[r.map dL]).length=S.length+1:=by simp[u2.len]
   suffices body:∀Wf:DL.Fin,(∀G T,GK (S.length+1) (LoopI S k m (i+1)) G T->Wf.nx G T)->(qF B g).wp [some (.loc k),some (.int m),%[|19],some (.int (f:Nat)),some bf,some (.int (i:Int)),o6,o7,o8,o9,t,s] (S2++[r.map dL]) Wf by refine CZ (aaC ?_);simp only[mA,mB];refine body _ λ G T h=>?_;rw[aC];exact h
   intro Wf aG;try?;refine bx (p2.app _) (by split<;>omega) (by split<;>omega) λ x T3 x0 x1 u3 p3=>?_;obtain⟨S3,rfl,u3,p3⟩:=u3.split p2;have u3:=u2.trans u3;have hx:1+x<=(f:Int)/\1+x<=4:=by split at x1<;>omega
   clear x1;try?;refine bx (p3.app _) %[|1] %[|1] λ y T3 y0 y1 u4 p4=>?_;obtain⟨S4,rfl,u4,p4⟩:=u4.split p3;have u4:=u3.trans u4;try?;refine bx (p4.app _) %[|1] %[|1] λ C T3 w0 w1 Q p5=>?_;obtain⟨I,rfl,Q,p5⟩:=Q.split p4;have Q:=u4.trans Q;try?;refine%[_,_,rfl,rfl,%[|24],%[|14]|?_];rw[zeros,dk];obtain⟨w,aI⟩:∃n:Nat,1+x=(n:Int):=%[(1+x).toNat|%[|0]];rw[aI]at hx ⊢;have af:1<=w:=%[|0]
   have aw:w<=f:=%[|0]
   have Y:∀(S':Store)(l:Lp)(J:Store)(E:Nat)(ab:D)(o9 t s:Option D),bC S k S'->bB S' k->flat J->BdF l.1 i->BdF l.2 i->1<=E->E<=4->E<=f->(∀M∈cnt r,atC l.2 M-atC l.1 M<=(E:Int))->Bef ab (r++[l])->aA ab=true->Hi (S.length+1) o9->Hi (S.length+1) t->Hi (S.length+1) s->
    (cW B g).wp [some (.loc k),some (.int m),%[|19],some (.int f),some ab,some (.int i),some (.int E),some (.int (y-3)),some (.int C),o9,t,s] (S'++[(r++[l]).map dL]++J) Wf:=by intro S' l J E ab o9 t s u p hJ b1 b2 s1 s4 s2 hc O ao n9 aq ae;try?;exact aG _ _ (R0 hp hS u p hJ am an b1 b2 s1 s2 ap hc O ao n9 aq ae)
   have zl:(List.replicate i (0:Int)).length=i:=by simp
   have z9:Hi (S.length+1) %[|53]:=.inl λ d h=>by cases h;exact aZ _
   have zb:∀a:Int,-9<=a->a<=9->BdF (a,List.replicate i 0) i:=λ a V Z=>%[zl,V,Z|λ n X=>by have:=(oP.mp X).2;omega];have ac:∀o:DL.Fin,(∀G T,(cW B g).wp G T Wf->o.nx G T)->(j9 B g).wp [some (.loc k),some (.int m),%[|19],some (.int f),some bf,some (.int i),some (.int w),some (.int (y-3)),some (.int C),%[|53],t,s] (I++[r.map dL]) o:=by
    intro o H;have app:∀h:Int,y-3<=h->h<=y-3+w->∃ds,(I++[r.map dL])[S.length]? =some ds/\ds.length<1000000/\o.nx [some (.loc k),some (.int m),%[|19],some (.int f),some (.tup [.int (y-3),.int w]),some (.int i),some (.int w),some (.int (y-3)),some (.int C),%[|53],t,s] ((I++[r.map dL]).set S.length (ds++[dL ((y-3,List.replicate i 0),(h,List.replicate i 0))])):=by intro h V Z;refine%[_,cR Q.len.symm,%[|14]|?_];rw[iI Q.len.symm];have:=Y I ((y-3,List.replicate i 0),(h,List.replicate i 0)) [] w (.tup [.int (y-3),.int w]) %[|53] t s Q p5 (λ l h=>by cases h) (zb _ %[|0] %[|0]) (zb _ %[|0] %[|0]) af %[|0] aw (λ M _=>by show atC (h,List.replicate i 0) M-atC (y-3,List.replicate i 0) M<=_;rw[jM,jM];omega) (.inr %[y-3,w,rfl,%[|0],%[|0],%[|0],%[|0],by simp|λ M P=>by obtain⟨F,c,_,e,h3,h4⟩:=VH P;rw[jM]at h3 h4;exact%[F,c,e,h3|%[|0]]]) rfl z9 (.inl aq) (.inl ae);rw[fA,cf]at this;exact H _ _ this
    try?;refine%[_,_,rfl,rfl,%[|14]|?_];try?;have bb:∀b:Bool,y-3<=y-3+(w:Int)*(if b=true then 1 else 0)/\y-3+(w:Int)*(if b=true then 1 else 0)<=y-3+w:=λ b=>by cases b<;>simp<;>omega
    refine%[λ q=>?_|λ q=>?_];{try?;obtain⟨g1,g2⟩:=bb true;generalize (y-3+(w:Int)*(if true=true then 1 else 0))=h at g1 g2 ⊢;refine%[_,_,rfl,rfl,%[|14]|?_];try?;obtain⟨ds,V,Z,h3⟩:=app h g1 g2;refine%[ds,V,Z|?_];try?;exact h3};{try?;obtain⟨g1,g2⟩:=bb (decide (y-3<3));generalize (y-3+(w:Int)*(if decide (y-3<3)=true then 1 else 0))=h at g1 g2 ⊢;refine%[_,_,rfl,rfl,%[|14]|?_];try?;obtain⟨ds,V,Z,h3⟩:=app h g1 g2;refine%[ds,V,Z|?_];try?;exact h3}
   have ar:0<i->∀o:DL.Fin,(∀G T,(cW B g).wp G T Wf->o.nx G T)->(kJ B g).wp [some (.loc k),some (.int m),%[|19],some (.int f),some bf,some (.int i),some (.int w),some (.int (y-3)),some (.int C),%[|53],t,s] (I++[r.map dL]) o:=by
    intro aN o H;try?;refine%[_,_,rfl,rfl,%[|24],%[|14]|?_];rw[zeros,dk];try?;refine bx ((p5.app _).app _) %[|1] %[|1] λ a T6 a0 a1 u6 p6=>?_;obtain⟨S6,rfl,u6,p6⟩:=u6.split2 p5;have u6:=Q.trans u6;walk_at "n";obtain⟨z,g1,g2⟩:=kI (ds:=[D.int 1,.int (-1),.int 2,.int (-2)]) a0 a1;have hz:=y4 g2;obtain⟨c,rfl,aD,aE⟩:∃c:Int,z=.int c/\ -2<=c/\c<=2:=by simp only[cr,io,nn]at hz;rcases hz with rfl | rfl | rfl | rfl<;>exact%[_,rfl,%[|1]|%[|1]]
    refine%[_,g1|?_];try?;refine bx ((p6.app _).app _) %[|0] %[|0] λ j T7 j0 j1 u7 p7=>?_;obtain⟨S7,rfl,u7,p7⟩:=u7.split2 p6;have u7:=u6.trans u7;walk_at "n";obtain⟨jn,rfl⟩:∃jn:Nat,j=(jn:Int):=%[j.toNat|%[|0]];have aQ:jn<i:=%[|0]
    have R:(I++[r.map dL]).length=(S7++[r.map dL]).length:=by simp[Q.len,u7.len]
    refine%[_,jn,cR R,?_|?_];{unfold ixN;simp;omega};rw[iI R];have e1:((List.replicate i (0:Int)).map D.int).set jn (D.int c)=((List.replicate i (0:Int)).set jn c).map D.int:=by rw[List.map_set]
    rw[e1];have ak:∀n∈(List.replicate i (0:Int)).set jn c,-2<=n/\n<=2:=λ n X=>by rcases List.mem_or_eq_of_mem_set X with X | rfl;{have:=(oP.mp X).2;omega};{exact%[aD|aE]}
    have al:((List.replicate i (0:Int)).set jn c).length=i:=by simp
    generalize (List.replicate i (0:Int)).set jn c=ah at ak al;have l7:(I++[r.map dL]).length=S.length+1:=by simp[Q.len]
    rw[l7]at R ⊢;have ga:(S7++[r.map dL]++[ah.map D.int])[S.length+1]? =some (ah.map D.int):=cR R;try?;refine%[_,_,rfl,ga,%[|14]|?_];try?;refine%[_,_,rfl,ga,%[|14]|?_];try?;refine%[_,gJ u7.len.symm,%[|14]|?_];rw[sG u7.len.symm];try?;have:=Y S7 ((y-3,ah),(y-3+w,ah)) [ah.map D.int] w .non %[|53] (some (.loc (S.length+1))) s u7 p7 (λ l h=>by
     have:l=ah.map D.int:=by simpa using h
     subst this;exact aZ _) %[al,by show-9<=y-3;omega,by show y-3<=9;omega|ak] %[al,by show-9<=y-3+w;omega,by show y-3+(w:Int)<=9;omega|ak] af %[|0] aw (λ M _=>by show atC (y-3+w,ah) M-atC (y-3,ah) M<=_;rw[Uv];omega) (.inl rfl) rfl z9 (.inr %[_,rfl|y9 _]) (.inl ae);rw[cf]at this;exact H _ _ this
   have ax:∀K b1:Int,bf=.tup [.int K,.int b1]->C<2->b1<=f->∀o:DL.Fin,(∀G T,(cW B g).wp G T Wf->o.nx G T)->(qm B g).wp [some (.loc k),some (.int m),%[|19],some (.int f),some bf,some (.int i),some (.int w),some (.int (y-3)),some (.int C),%[|53],t,s] (I++[r.map dL]) o:=by
    intro K b1 ay aL aM o H;subst ay;rcases O with O | ⟨c0,c1,e,q1,q2,q3,q4,q5,q6⟩;{cases O};cases e;try?;refine%[_,_,rfl,rfl,%[|24],%[|14]|?_];have aO:1<=i:=%[|0]
    have eA:(List.replicate ((i:Int)-1).toNat [D.int 0]).flatten++[D.int 1]=(List.replicate (i-1) (0:Int)++[1]).map D.int:=by rw[zeros,show((i:Int)-1).toNat=i-1 by omega,cf];rfl
    have ai:(List.replicate (i-1) (0:Int)++[1]).length=i:=%[|14]
    have ag:∀n∈List.replicate (i-1) (0:Int)++[1],-2<=n/\n<=2:=λ n X=>by
     rcases cq.mp X with X | X;{have:=(oP.mp X).2;omega}
     . have:n=1:=by simpa using X
       omega
    have aj:∀(a:Int)(F:ae0)(c:Int),F++[c]∈cnt r->atC (a,List.replicate (i-1) (0:Int)++[1]) (F++[c])=a+c:=λ a F c h=>by have V:=LK r _ h;rw[x8,hE]at V;rw[show i-1=F.length by omega];exact Tq a F c
    generalize hAA:List.replicate (i-1) (0:Int)++[1]=A at eA ai ag aj;obtain⟨U,rfl⟩:∃U:Nat,b1=(U:Int):=%[b1.toNat|%[|0]];have l5:(I++[r.map dL]).length=S.length+1:=by simp[Q.len]
    try?;refine%[_,_,rfl,rfl,%[|14]|?_];rw[eA];have ga:∀J,(I++[r.map dL]++[A.map D.int]++J)[S.length+1]? =some (A.map D.int):=λ J=>gJ l5.symm;have az:(I++[r.map dL]++[A.map D.int])[S.length+1]? =some (A.map D.int):=cR l5.symm;have l6:(I++[r.map dL]++[A.map D.int]).length=S.length+2:=by simp[Q.len]
    walk_at "n";rw[l5];try?;refine%[_,_,rfl,rfl,%[|14]|?_];try?;refine%[_,_,rfl,az,%[|14]|?_];try?;rw[l6];refine%[_,_,rfl,ga _,%[|14]|?_];try?;refine%[[K,(U:Int)],rfl|?_];try?;refine%[_,_,rfl,rfl,%[|14]|?_];try?;refine%[_,cR l6.symm,by simp|?_];rw[iI l6.symm];walk_at "n";have aH:[K,(U:Int)].sum=K+(U:Int):=by simp
    rw[aH];have au:∀(l:Lp)(St:List D),aa St=true->BdF l.1 i->BdF l.2 i->(∀M∈cnt r,atC l.2 M-atC l.1 M<=(U:Int))->∃ds,(I++[r.map dL]++[A.map D.int]++[St])[S.length]? =some ds/\ds.length<1000000/\o.nx [some (.loc k),some (.int m),%[|19],some (.int f),some .non,some (.int i),some (.int U),some (.int (y-3)),some (.int C),%[|53],some (.loc (S.length+1)),some (.loc (S.length+2))] ((I++[r.map dL]++[A.map D.int]++[St]).set S.length (ds++[dL l])):=by
     intro l St ad c1 c2 c3;have e2:∀L:List D,I++[L]++[A.map D.int]++[St]=I++[L]++[A.map D.int,St]:=λ L=>by simp
     rw[e2];refine%[_,gJ Q.len.symm,%[|14]|?_];rw[sG Q.len.symm];have:=Y I l [A.map D.int,St] U .non %[|53] (some (.loc (S.length+1))) (some (.loc (S.length+2))) Q p5 (λ x h=>by
      rcases cr.mp h with rfl | h;{exact aZ _}
      . have:x=St:=by simpa using h
        subst this;exact ad) c1 c2 %[|0] %[|0] %[|0] c3 (.inl rfl) rfl z9 (.inr %[_,rfl|y9 _]) (.inr %[_,rfl|hZ _]);rw[cf]at this;exact H _ _ this
    have ad:aa ([dL ((K,List.replicate i 0),(1,A))]++[dL ((0,A),(K+(U:Int),List.replicate i 0))])=true:=jc [_,_];have:C=0\/C=1:=%[|0]
    rcases this with rfl | rfl;{refine%[_,dL ((K,List.replicate i 0),(1,A)),cR l6.symm,rfl|?_];obtain⟨ds,V,Z,h3⟩:=au ((K,List.replicate i 0),(1,A)) _ ad (zb K %[|0] %[|0]) %[ai,(%[|1]:(-9:Int)<=1),(%[|1]:(1:Int)<=9)|ag] (λ M P=>by obtain⟨F,c,rfl,g1,g2⟩:=q6 M P;show atC (1,A) _-atC (K,List.replicate i 0) _<=_;rw[aj _ _ _ P,jM];omega);refine%[ds,V,Z|?_];try?;exact h3};{refine%[_,dL ((0,A),(K+(U:Int),List.replicate i 0)),cR l6.symm,rfl|?_];obtain⟨ds,V,Z,h3⟩:=au ((0,A),(K+(U:Int),List.replicate i 0)) _ ad %[ai,(%[|1]:(-9:Int)<=0),(%[|1]:(0:Int)<=9)|ag] (zb _ %[|0] %[|0]) (λ M P=>by obtain⟨F,c,rfl,g1,g2⟩:=q6 M P;show atC (K+(U:Int),List.replicate i 0) _-atC (0,A) _<=_;rw[aj _ _ _ P,jM];omega);refine%[ds,V,Z|?_];try?;exact h3}
   have as:∀o:DL.Fin,(∀G T,(cW B g).wp G T Wf->o.nx G T)->(fM (S9 (adD (adw (adf .Lt (eN 8) (gk 4)) (adz (adf .Gt (eN 5) (gk 0))))) (kJ B g) (j9 B g)) gB).wp [some (.loc k),some (.int m),%[|19],some (.int f),some bf,some (.int i),some (.int w),some (.int (y-3)),some (.int C),%[|53],t,s] (I++[r.map dL]) o:=by intro o H;try?;refine%[λ q=>?_|λ q=>%[λ z=>ff z|λ _=>ac _ H]];try?;refine%[λ q2=>ar (by have:=ck q2;omega) _ H|λ q2=>ac _ H]
   try?;refine%[λ q=>?_|λ q=>%[λ z=>ff z|λ _=>as _ λ G T h=>h]];have q:=ck q;rcases O with rfl | ⟨K,b1,rfl,hb⟩;{try?;refine%[λ q=>?_|λ q=>%[λ z=>ff z|λ _=>ac _ λ G T h=>h]];try?;exact%[λ q2=>ar (by have:=ck q2;omega) _ λ G T h=>h|λ q2=>ac _ λ G T h=>h]};{try?;exact%[λ q2=>ax K b1 rfl q (ck q2) _ λ G T h=>h|λ q2=>as _ λ G T h=>h]}
 {rintro aJ T ⟨S2,r,f,bf,o5,o6,o7,o8,o9,t,s,rfl,u2,p2,am,an,av,ap,O,ao,_,rfl⟩;rw[aB]at am;try?;refine%[_,cR u2.len.symm|.inr %[[_],S2,rfl,by rw[u2.len];exact y9 _,jc r,u2.flat hS|hw r _ %[%[|0],%[|0]|an] ?_ u2 p2 (u2.flat hS)]];exact cK (Nat.le_mul_of_pos_right _ av) ap}
theorem wO{e:Type}{enc}{P:e->Prop}:∀{ys:List D},(∀(i:Nat)(y:D),ys[i]? =some y->∃a,y=enc a/\P a)->∃as,ys=List.map enc as/\∀a∈as,P a
 | [],_=>%[[],rfl|by simp]
 | y::ys,h=>by obtain⟨a,rfl,g⟩:=h 0 y rfl;obtain⟨as,rfl,c⟩:=wO (enc:=enc) (P:=P) (ys:=ys) λ i y f=>h (i+1) y (by simpa using f);exact%[a::as,rfl|by intro b d;rcases cr.mp d with rfl | d;{exact g};{exact c b d}]
def TpB(ws:ae0)(d t:Nat)(pl:List Fm):Prop:=∃w,ws[t]? =some w/\(pl.length:Int)=w/\∀f∈pl,FmB d 1 f
def RdB(ws:ae0)(d:Nat)(r:Rd):Prop:= -1000000000000000000000000000000<r.fac/\r.fac<1000000000000000000000000000000/\TpB ws d r.tab r.pl
def StB(d:Nat)(f:Fm):Prop:=f.2.length=d/\Vj f.2/\ -1000000000000000000000000000000<f.1/\f.1<1000000000000000000000000000000
def DdB(ws:ae0)(d:Nat)(x:Dd):Prop:=TpB ws d x.tab x.pl/\StB d x.st/\x.rds.length<=3/\∀r∈x.rds,RdB ws d r
def WsB(ws:ae0):Prop:=1<=ws.length/\ws.length<=3/\∀w∈ws,1<=w/\w<=2
inductive c_deedB(ds:List D)(S:Store)(W:WD):Prop
 | mk(k d:Nat)(ws:ae0):ds=[.loc k,dWs ws,.int d]->bB S k->flat S->d<=10->WsB ws->(∀x S',DdB ws d x->bC S k S'->bB S' k->flat S'->W (dDd x) S')->c_deedB ds S W
def Wj{t:Int}(hw:WsB ws)(c:0<=t)(h1:t<(ws.map D.int).length):∃w:Int,atI (ws.map D.int) t=some (.int w)/\ws[t.toNat]? =some w/\1<=w/\w<=2:=by
 obtain⟨x,a,b⟩:=kI c h1;rw[y8]at b
 cases e:ws[t.toNat]? with
 | none=>rw[e]at b;cases b
 | some w=>rw[e]at b;cases b;exact%[w,a,rfl|hw.2.2 w (y4 e)]
def Hy(pl:List Fm):aA (dP pl)=true:=by
 show aa (pl.map dF)=true
 induction pl with
 | nil=>rfl
 | cons y b a=>simp only[cn,aa,a,il,d6]
def wV(rs:List Rd):aa (rs.map dRd)=true:=by
 induction rs with
 | nil=>rfl
 | cons y b a=>simp only[cn,aa,a,d6];show aa [D.int _,D.int _,dP y.pl]=true;simp only[aa,Hy,d6];rfl
def zM(x:Dd):aA (dDd x)=true:=by show aa [D.int _,dP x.pl,dF x.st,.tup (x.rds.map dRd)]=true;have:aA (.tup (x.rds.map dRd))=true:=wV x.rds;simp only[aa,Hy,il,this,d6];rfl
def CQ:(10:Int) ^ (30:Int).toNat=1000000000000000000000000000000:=%[|1]
inductive DeedI(S:Store)(k d:Nat)(ws:ae0)(t:Int)(pl:List Fm)(st:Fm)(i:Nat)(Γ':Gam)(T:Store):Prop
 | mk(S2 rds o7 o8 o9 o10:_):T=S2++[List.map dRd rds]->bC S k S2->bB S2 k->rds.length=i->(∀r∈rds,RdB ws d r)->Γ'=[some (.loc k),some (dWs ws),some (.int d),some (.int t),some (.tup (pl.map dF)),some (dF st),%[|19],o7,o8,o9,o10]->DeedI S k d ws t pl st i Γ' T
def RQ(B:%[|2])(g:bI Ω c_takeB)(C:oA Ω c_formB):OkF Ω "_law_deed" HR 4 SJ c_deedB:=by
 refine aK (N:=V6) (Bl.drp (TQ B g C)) %[|7] ?_;rintro ds S W ⟨k,d,V,rfl,hp,Y,hd,K,hw⟩ hl;obtain⟨an,ao,ap⟩:=id K;try?;have b:((V.map D.int).length:Int)=(V.length:Int):=by rw[y7]
 refine bx hp (by rw[b];omega) (by rw[b];omega) λ t S1 t0 t1 u1 p1=>?_;obtain⟨w,g1,g2,al,am⟩:=Wj K t0 t1;walk_at "n";refine%[_,g1|?_];try?;refine%[%[|24]|qU (λ _ y=>∃f,y=dF f/\FmB d 1 f) (λ l=>bC S k l/\bB l k/\flat l) (by rw[aB];omega) %[u1,p1|u1.flat Y] ?_ ?_];{rintro i e l he ⟨u,p,f⟩ R hR;try?;exact%[rfl,k,d,1,rfl,p,f,hd,%[|1],%[|1]|λ f S4 hf A p4 f4=>hR _ _ %[f,rfl|hf] %[u.trans A,p4|f4]]};rintro ys S2 L M ⟨u2,p2,f2⟩;obtain⟨m,rfl,ag⟩:=wO M;rw[aB,y7]at L;try?;rw[CQ];refine bx p2 %[|1] %[|1] λ s S3 s0 s1 u3 p3=>?_;walk_at "n";obtain⟨z,h1,h2⟩:=kI (ds:=[D.int 1,.int 9,.int (1000000000000000000000000000000-1)]) s0 s1;have hz:=y4 h2;obtain⟨c,rfl,F,H⟩:∃c:Int,z=.int c/\1<=c/\c<1000000000000000000000000000000:=by simp only[cr,io,nn]at hz;rcases hz with rfl | rfl | rfl<;>exact%[_,rfl,%[|1]|%[|1]]
 refine%[_,h1|?_];have u3:=u2.trans u3;try?;refine%[rfl,k,d,c,rfl,p3,u3.flat Y,hd,F,H|λ st S4 hst A p4 f4=>?_];have A:=u3.trans A;try?;refine bx (p4.app _) %[|1] %[|1] λ n T n0 n1 Q p5=>?_;obtain⟨S5,rfl,Q,p5⟩:=Q.split p4;have Q:=A.trans Q;walk_at "n";refine%[%[|24]|qg %[DeedI S k d V t m st,%[S5,[],none,none,none,none,rfl,Q,p5,rfl,λ r h=>(by cases h)|by rw[<-A.len];rfl],?_|?_]]
 . rintro i e ai T he ⟨S6,a,o7,o8,o9,aa,rfl,U,p6,J,I,rfl⟩;obtain⟨hi,rfl⟩:=bO he;suffices body:∀Wf:DL.Fin,(∀G T,DeedI S k d V t m st (i+1) G T->Wf.nx G T)->(um B g C).wp [some (.loc k),some (dWs V),some (.int d),some (.int t),some (.tup (m.map dF)),some (dF st),%[|19],some (.int (0+(i:Int))),o8,o9,aa] (S6++[a.map dRd]) Wf by refine CZ ?_;simp only[mA,mB];exact body _ λ G T h=>h
   intro Wf af;try?;refine bx (p6.app _) (by rw[b];omega) (by rw[b];omega) λ o T7 o0 o1 u7 p7=>?_;obtain⟨S7,rfl,u7,p7⟩:=u7.split p6;have u7:=U.trans u7;obtain⟨w',ad,ae,aj,ak⟩:=Wj K o0 o1;try?;refine bx (p7.app _) %[|1] %[|1] λ ab T8 w0 w1 X p8=>?_;obtain⟨S8,rfl,X,p8⟩:=X.split p7;have X:=u7.trans X;have x:∀(c:Int)(E:Store),bC S k E->bB E k-> -1000000000000000000000000000000<c->c<1000000000000000000000000000000->(oJ B g C).wp [some (.loc k),some (dWs V),some (.int d),some (.int t),some (.tup (m.map dF)),some (dF st),%[|19],some (.int (0+(i:Int))),some (.int o),some (.int ab),some (.int c)] (E++[a.map dRd]) Wf:=by
    intro c E u9 p9 c1 c2;walk_at "n";refine%[_,ad|?_];try?;refine%[%[|24]|qU (λ _ y=>∃f,y=dF f/\FmB d 1 f) (λ T=>∃l,T=l++[a.map dRd]/\bC S k l/\bB l k) (by rw[aB];omega) %[E,rfl,u9|p9] ?_ ?_];{rintro j e T he ⟨l,rfl,u,p⟩ R hR;try?;refine%[rfl,k,d,1,rfl,p.app _,cY (u.flat Y) (wV _),hd,%[|1],%[|1]|λ f S4 hf A p4 f4=>?_];obtain⟨S5,rfl,Q,p5⟩:=A.split p;exact hR _ _ %[f,rfl|hf] %[S5,rfl,u.trans Q|p5]};rintro ys T L M ⟨ac,rfl,P,ah⟩;obtain⟨O,rfl,Z⟩:=wO M;rw[aB,y7]at L;try?;refine%[_,cR P.len.symm,%[|14]|?_];rw[iI P.len.symm];obtain⟨on,rfl⟩:∃on:Nat,o=(on:Int):=%[o.toNat|%[|0]];refine af _ _ %[ac,a++[%[c,on|O]],some (.int (0+(i:Int))),some (.int on),some (.int ab),some (.int c),by rw[cf];rfl,P,ah,by simp[J],λ r hr=>?_|rfl];rcases cq.mp hr with hr | hr;{exact I r hr}
    . have:r=%[c,on|O]:=by simpa using hr
      subst this;exact%[c1,c2,w',by simpa using ae,by show(O.length:Int)=w';omega|Z]
   walk_at "n";obtain⟨z,h1,h2⟩:=kI (ds:=[D.int 1,.int (-1),.int 2,.int 3,.int 0,.int 1,.int (-5),.int 0]) w0 w1;have hz:=y4 h2;obtain⟨c,rfl,F,H⟩:∃c:Int,z=.int c/\ -1000000000000000000000000000000<c/\c<1000000000000000000000000000000:=by simp only[cr,io,nn]at hz;rcases hz with rfl | rfl | rfl | rfl | rfl | rfl | rfl | rfl<;>exact%[_,rfl,%[|1]|%[|1]]
   refine%[(%[|1]:(8:Nat)<=1000000)|?_];walk_at "n";refine%[_,h1|?_];try?;refine%[λ q=>?_|λ q=>x c S8 X p8 F H];try?;rw[CQ];refine bx (p8.app _) %[|1] %[|1] λ v T9 v0 v1 u9 p9=>?_;obtain⟨E,rfl,u9,p9⟩:=u9.split p8;try?;rw[CQ];exact x _ E (X.trans u9) p9 %[|0] %[|0]
 {rintro ai T ⟨S6,a,o7,o8,o9,aa,rfl,U,p6,J,I,rfl⟩;rw[aB]at J;obtain⟨tn,rfl⟩:∃tn:Nat,t=(tn:Int):=%[t.toNat|%[|0]];try?;refine%[_,cR U.len.symm|?_];try?;have ok:DdB V d %[tn,m,st|a]:=%[%[w,by simpa using g2,by show(m.length:Int)=w;omega|ag],%[hst.1,hst.2.1,by have:=hst.2.2;show _<st.1;omega|by have:=hst.2.2;show st.1<_;omega],by show a.length<=3;omega|I];exact .inr %[[_],S6,rfl,by rw[U.len];exact y9 _,zM %[tn,m,st|a],U.flat Y|hw %[tn,m,st|a] _ ok U p6 (U.flat Y)]}
def NsB(ws:ae0)(m:Nat)(n:Ns):Prop:=Lps n.lps/\1<=n.dds.length/\n.dds.length<=4/\(cnt n.lps).length<=max 1 (m/n.dds.length)/\∀x∈n.dds,DdB ws n.lps.length x
def PgB(m:Nat)(p:Pg):Prop:=WsB p.ws/\1<=p.nss.length/\p.nss.length<=3/\∀n∈p.nss,NsB p.ws (m/p.nss.length) n
inductive c_progB(ds:List D)(S:Store)(W:WD):Prop
 | mk(k m:Nat):ds=[.loc k,.int m]->bB S k->flat S->1<=m->m<=60->(∀p S',PgB m p->bC S k S'->bB S' k->flat S'->W (dPg p) S')->c_progB ds S W
def Nr(xs:List Dd):aa (xs.map dDd)=true:=by
 induction xs with
 | nil=>rfl
 | cons y b a=>simp only[cn,aa,a,zM,d6]
def QJ(n:Ns):aA (dNs n)=true:=by show aa [.tup (n.lps.map dL),.tup (n.dds.map dDd)]=true;have a:aA (.tup (n.lps.map dL))=true:=jc _;have b:aA (.tup (n.dds.map dDd))=true:=Nr _;simp only[aa,a,b,d6]
def jA(xs:List Ns):aa (xs.map dNs)=true:=by
 induction xs with
 | nil=>rfl
 | cons y b a=>simp only[cn,aa,a,QJ,d6]
def zF(p:Pg):aA (dPg p)=true:=by show aa [dWs p.ws,.tup (p.nss.map dNs)]=true;have a:aA (dWs p.ws)=true:=aZ _;have b:aA (.tup (p.nss.map dNs))=true:=jA _;simp only[aa,a,b,d6]
inductive ProgI(S:Store)(k m:Nat)(ws:ae0)(many:Nat)(i:Nat)(Γ':Gam)(T:Store):Prop
 | mk(S2 nss o5 o6 o7:_):T=S2++[List.map dNs nss]->bC S k S2->bB S2 k->nss.length=i->(∀n∈nss,NsB ws (m/many) n)->Γ'=[some (.loc k),some (.int m),some (dWs ws),some (.int many),%[|19],o5,o6,o7]->ProgI S k m ws many i Γ' T
def HS(B:%[|2])(o:bI Ω c_takeB)(H:lF Ω c_loopsB)(F:nZ Ω c_deedB):OkF Ω "_law_program" uv 5 Ri c_progB:=by
 refine aK (N:=Ju) (Bl.drp (Jf B o H F)) %[|7] ?_;rintro ds S W ⟨k,m,rfl,hp,Q,af,aa,hw⟩ hl;try?;refine bx hp %[|1] %[|1] λ v S1 v0 v1 u1 p1=>?_;try?;refine%[%[|24]|qU (λ _ y=>∃n:Int,y=.int n/\(1<=n/\n<=2)) (λ q=>bC S k q/\bB q k) (by rw[aB];omega) %[u1|p1] ?_ ?_];{rintro i d q hd ⟨u,p⟩ R X;try?;refine bx p %[|1] %[|1] λ w S2 w0 w1 u2 p2=>?_;try?;exact X _ _ %[_,rfl,%[|0]|%[|0]] %[u.trans u2|p2]};rintro ys S2 D E ⟨u2,p2⟩;obtain⟨g,rfl,ac⟩:=uW E;rw[aB,y7]at D;have hW:WsB g:=%[%[|0],%[|0]|ac];try?;refine bx p2 %[|1] %[|1] λ mv S3 m0 m1 U p3=>?_;have U:=u2.trans U;obtain⟨a,z⟩:∃n:Nat,1+mv=(n:Int):=%[(1+mv).toNat|%[|0]];try?;rw[z];refine%[%[|24]|qg %[ProgI S k m g a,%[S3,[],none,none,none,rfl,U,p3,rfl,λ r h=>(by cases h)|by rw[<-U.len];rfl],?_|?_]]
 . rintro i e ad T he ⟨P,b,o5,o6,o7,rfl,l,L,A,C,rfl⟩;obtain⟨hi,rfl⟩:=bO he;suffices body:∀V:DL.Fin,(∀G T,ProgI S k m g a (i+1) G T->V.nx G T)->(mU B o H F).wp [some (.loc k),some (.int m),some (dWs g),some (.int a),%[|19],some (.int (0+(i:Int))),o6,o7] (P++[b.map dNs]) V by refine CZ ?_;simp only[mA,mB];exact body _ λ G T h=>h
   intro V ab;try?;refine bx (L.app _) %[|1] %[|1] λ dv T5 d0 d1 s M=>?_;obtain⟨S5,rfl,s,M⟩:=s.split L;have s:=l.trans s;obtain⟨t,Z⟩:∃n:Nat,1+dv=(n:Int):=%[(1+dv).toNat|%[|0]];try?;rw[Z];have em:(if(m:Int)/(a:Int)/(t:Int)>1 then(m:Int)/(a:Int)/(t:Int)else 1)=((max 1 (m/a/t):Nat):Int):=by rw[<-Int.natCast_ediv,<-Int.natCast_ediv];split<;>omega
   have ae:m/a/t<=60:=cK (kL _ _) (cK (kL _ _) aa);rw[em];refine%[rfl,k,max 1 (m/a/t),rfl,M.app _,cY (s.flat Q) (jA _),%[|0],%[|0]|λ K T6 hls Y O p6 f6=>?_];obtain⟨S6,rfl,O,p6⟩:=O.split M;have O:=s.trans O;try?;have l3:=hls.2.1;refine%[%[|24]|qU (λ _ y=>∃x,y=dDd x/\DdB g K.length x) (λ T=>∃q,T=q++[b.map dNs]/\bC S k q/\bB q k) (by rw[aB];omega) %[S6,rfl,O|p6] ?_ ?_];{rintro j e T he ⟨q,rfl,u,p⟩ R X;try?;rw[y7];refine%[rfl,k,K.length,g,rfl,p.app _,cY (u.flat Q) (jA _),%[|0],hW|λ f P hf l L f4=>?_];obtain⟨S5,rfl,s,M⟩:=l.split p;exact X _ _ %[f,rfl|hf] %[S5,rfl,u.trans s|M]};rintro ys T D E ⟨S7,rfl,u7,p7⟩;obtain⟨c,rfl,I⟩:=wO E;rw[aB,y7]at D;try?;refine%[_,cR u7.len.symm,%[|14]|?_];rw[iI u7.len.symm];refine ab _ _ %[S7,b++[%[K|c]],some (.int (0+(i:Int))),some (.int t),some (.tup (K.map dL)),by rw[cf];rfl,u7,p7,by simp[A],λ r J=>?_|rfl];rcases cq.mp J with J | J;{exact C r J}
   . have:r=%[K|c]:=by simpa using J
     subst this;have e:c.length=t:=%[|0]
     exact%[hls,by show 1<=c.length;omega,by show c.length<=4;omega,by show _<=max 1 (m/a/c.length);rw[e];exact Y|I]
 {rintro ad T ⟨P,b,o5,o6,o7,rfl,l,L,A,C,rfl⟩;rw[aB]at A;try?;refine%[_,cR l.len.symm|?_];try?;have ok:PgB m %[g|b]:=%[hW,by show 1<=b.length;omega,by show b.length<=3;omega|λ n hn=>by show NsB g (m/b.length) n;rw[show b.length=a by omega];exact C n hn];exact .inr %[[_],P,rfl,by rw[l.len];exact y9 _,zF %[g|b],l.flat Q|hw %[g|b] _ ok l L (l.flat Q)]}
inductive c_atB(ds:List D)(S:Store)(W:WD):Prop
 | mk(f:Fm)(cs:ae0):ds=[dF f,dC cs]->f.2.length=cs.length->cs.length<=10->C64 cs->W (.int (atC f cs)) S->c_atB ds S W
def wk(fs cs:ae0):D->D
 | .int i=>.int (fs.getD i.toNat 0*cs.getD i.toNat 0)
 | d=>d
def Qv(h:fs.length=cs.length):(DL.upTo 0 cs.length).map (wk fs cs)=(List.zipWith (λ a b=>a*b) fs cs).map D.int:=by
 refine lI (by simp[h,aB]) λ i c f=>?_;have e:i<cs.length:=by simpa[aB]using c
 have d:i<fs.length:=%[|0]
 simp[DL.upTo,wk,List.getD,e,d]
def W7(B:%[|2]):OkF Ω "_law_at" Q8 1 ZD c_atB:=by
 refine aK (N:=ZD) (aaN B) %[|7] ?_;rintro r S W ⟨⟨a,c⟩,b,rfl,f,t,n,q⟩ s;dsimp only at f;try?;refine%[_,bZ (j:=0) rfl|?_];try?;have k:((b.map D.int).length:Int).toNat=b.length:=by simp
 refine%[%[%[|0]|%[|14]]|?_];rw[k];refine fZ (wk c b) (by rw[aB];omega) ?_ ?_
 . intro i e p Q h;obtain⟨g,rfl⟩:=bO p;have d:i<c.length:=%[|0]
   have l:atI (D.int a::c.map D.int) (1+(0+(i:Int)))=some (.int c[i]):=by
    have:(1+(0+(i:Int)))=((i+1:Nat):Int):=%[|0]
    rw[this];exact bZ (by simp[d])
   have m:atI (b.map D.int) (0+(i:Int))=some (.int b[i]):=by
    have:(0+(i:Int))=((i:Nat):Int):=%[|0]
    rw[this];exact bZ (by simp[g])
   have o:=n b[i] (List.getElem_mem _);try?;refine%[_,l|?_];try?;refine%[_,m|?_];try?;have e:wk c b (.int (0+(i:Int)))=.int (c[i]*b[i]):=by
    have:(0+(i:Int)).toNat=i:=%[|0]
    simp[wk,List.getD,g,d]
   rw[e]at h;exact h
 {rw[Qv f];refine%[_,rfl|?_];try?;exact q}
inductive c_spotB(ds:List D)(S:Store)(W:WD):Prop
 | mk(t:Nat)(pl:List Fm)(cs:ae0):ds=[.int t,dP pl,dC cs]->pl.length<=1000->(∀f∈pl,f.2.length=cs.length)->cs.length<=10->C64 cs->W (aN (spot t pl cs)) S->c_spotB ds S W
def R7(B:%[|2])(b:fY Ω c_atB):OkF Ω "_law_spot" DG 2 Vb c_spotB:=by
 refine aK (N:=Vb) (Vx B b) %[|7] ?_;rintro n S W ⟨t,j,a,rfl,l,g,c,d,h⟩ o;try?;refine mO (λ f=>.int (atC f a)) %[|0] ?_ ?_;{intro i f k Q m;try?;exact%[rfl,f,a,rfl,g f (y4 k),c,d|m]}
 . try?;have e:(spot t j a).2.map D.int=j.map λ f=>D.int (atC f a):=by unfold spot;rw[de];rfl
   unfold aN at h;rw[e]at h;exact h
def Cs.c64(h:Cs i cs):C64 cs:=λ c a=>by have:=h.2 c a;have:=vX i;omega
inductive c_cntB(ds:List D)(S:Store)(W:WD):Prop
 | mk(ls:_):ds=[.tup (List.map dL ls)]->Lps ls->flat S->W (.lst ((cnt ls).map dC)) S->c_cntB ds S W
def nO{o}(h:nlO o):uI k ds o=o:=by
 cases o with
 | none=>rfl
 | some d=>
   cases d with
   | loc j=>have:=h _ rfl;simp[aA]at this
   | _=>rfl
def V9(cs:ae0):aA (dC cs)=true:=aZ cs
def JR(B:%[|2])(v:fY Ω c_atB):OkF Ω "_law_counts" wI 2 Oh c_cntB:=by
 refine aK (N:=Oj) (Nu B v) %[|7] ?_;rintro ds S W ⟨q,rfl,hL,L,O⟩ hl;try?;refine aV (λ i a o=>(∃E F H k f,a=[some (.tup (q.map dL)),some (.lst ((cnt (q.take i)).map dC)),E,F,H,k,f]/\nlO k/\nlO f)/\o=S) %[%[_,_,_,_,_,rfl,cX|cX]|rfl] ?_ ?_
 . rintro U Y P y _ _ i e a o n ⟨⟨E,F,H,k,f,rfl,r,g⟩,rfl⟩;rw[y8]at n
   cases s:q[i]? with
   | none=>rw[s]at n;cases n
   | some l=>
     rw[s]at n;cases n;have hi:=(z0.mp s).1;have h3:=hL.2.1;obtain⟨lo,hi_⟩:=l;obtain⟨b1,b2⟩:=hL.2.2 i _ s;dsimp only at b1 b2;have C:=mq hL i %[|0];have u:=(hL.fits.2 (i+1) %[|0]).1;have p:=m7 s;rw[p]at u;dsimp only at p u;generalize hG:cnt (q.take i)=G at*;try?;refine%[rfl|?_];try?;refine aV (λ m a T=>(∃k f,a=[some (.tup (q.map dL)),some (.lst (G.map dC)),some (dF lo),some (dF hi_),some (.loc o.length),k,f]/\nlO k/\nlO f)/\T=o++[(bj lo hi_ (G.take m)).map dC]) %[%[_,_,rfl,r|g]|rfl] ?_ ?_
     . rintro V Z Q z _ _ m e a T n ⟨⟨k,f,rfl,r,g⟩,rfl⟩;obtain⟨b,w,rfl⟩:=bR n;have hc:=C b (y4 w);have hb:=vX (i+1);have a1:=mX %[|0] b1 hc;have a2:=mX %[|0] b2 hc;have lf:=Hw (lo:=lo) (hi:=hi_) w;try?;refine%[rfl,lo,b,rfl,by rw[b1.1,hc.1],by rw[hc.1];omega,hc.c64|?_];try?;refine%[rfl,hi_,b,rfl,by rw[b2.1,hc.1],by rw[hc.1];omega,hc.c64|?_];try?;refine%[%[%[|0],%[|0],%[|0]|%[|0]]|aV (λ j a T=>(∃f,a=[some (.tup (q.map dL)),some (.lst (G.map dC)),some (dF lo),some (dF hi_),some (.loc o.length),some (dC b),f]/\nlO f)/\T=o++[(bj lo hi_ (G.take m)++(cz lo hi_ b).take j).map dC]) %[%[_,rfl|g]|by simp] ?_ ?_]
       . rintro X R3 R A _ _ j e a T n ⟨⟨f,rfl,g⟩,rfl⟩;obtain⟨M,rfl⟩:=bO n;have t:j<(cz lo hi_ b).length:=by rw[dU];exact M
         try?;refine%[by rw[y7,hc.1,hE];omega,_,bh _ _,by rw[y7,x8,e8];omega|?_];refine A _ _ _ %[%[_,rfl|jG _]|?_];rw[cg];have I:(cz lo hi_ b)[j]? =some (b++[atC lo b+(j:Int)]):=by unfold cz;rw[y8,Ks (by rw[dU]at t;exact t)];rfl
         have J:dC (b++[atC lo b+(j:Int)])=D.tup (b.map D.int++[D.int (atC lo b+(j:Int))]):=by unfold dC;rw[cf];rfl
         rw[aH I,<-ci,cf (l₂:=[_]),mx,J]
       . rintro a T ⟨⟨f,rfl,g⟩,rfl⟩;refine z _ _ _ %[%[_,_,rfl,λ d h=>by cases h;exact V9 b|g]|?_];have K:(cz lo hi_ b).take (DL.upTo (atC lo b) (atC hi_ b-atC lo b).toNat).length=cz lo hi_ b:=by rw[aB];exact db (by rw[dU];exact y9 _)
         rw[K,j6 w]
     . rintro a T ⟨⟨k,f,rfl,r,g⟩,rfl⟩;rw[y7,cS,<-p];try?;refine .inr %[_,_,rfl,y9 _,pO _,L,?_|y _ _ _ %[%[some (dF lo),some (dF hi_),some (.lst ((cnt (q.take (i+1))).map dC)),k,f,?_,r|g]|rfl]]
       . intro x d c;match x,c with
         | 0,c=>cases c;exact .inl (jc _)
         | 1,c=>cases c;exact .inr %[_|rfl]
         | 2,c=>cases c;exact .inl (il _)
         | 3,c=>cases c;exact .inl (il _)
         | 4,c=>cases c;exact .inr %[_|rfl]
         | 5,c=>exact .inl (r d (by simpa using c))
         | 6,c=>exact .inl (g d (by simpa using c))
         | x+7,c=>simp at c
       {show[_,_,_,_,_,_,_]=[_,_,_,_,_,_,_];rw[nO r,nO g];simp[uI,dF]}
 {rintro a o ⟨⟨E,F,H,k,f,rfl,r,g⟩,rfl⟩;rw[y7,cS];try?;exact O}
def dPt(cs:ae0)(r:Rd):D:=.tup [.int r.fac,aN (spot r.tab r.pl cs)]
def rA(cs:ae0)(x:Dd):D:=.tup [aN (spot x.tab x.pl cs),.int (atC x.st cs),.lst (x.rds.map (dPt cs))]
def vB(n:Ns):List D:=(cnt n.lps).flatMap λ a=>n.dds.map (rA a)
def Mw(p:Pg):List D:=p.nss.flatMap vB
inductive c_stepsB(ds:List D)(S:Store)(W:WD):Prop
 | mk(p:Pg)(m:Nat):ds=[dPg p]->PgB m p->m<=60->flat S->hand W (Mw p) S->c_stepsB ds S W
theorem vQ{c e:Type}{f:c->List e}:∀{l:List c},(∀a∈l,(f a).length<=b)->(l.flatMap f).length<=l.length*b
 | [],_=>by simp
 | a::l,h=>by have g:=vQ (l:=l) λ x d=>h x (x4 _ d);have:=h a x6;rw[kU,x8,dS,l4];omega
def lW(c:Cell):aA (aN c)=true:=by have h:aA (.tup (c.2.map D.int))=true:=aZ _;show aa [D.int _,.tup (c.2.map D.int)]=true;simp only[aa,h,d6];rfl
theorem fu{b:Type}{f}(h:∀a,aA (f a)=true):∀l:List b,aa (l.map f)=true
 | []=>rfl
 | a::l=>by simp only[cn,aa,h,fu h l,d6]
def Qz(cs:ae0)(r:Rd):aA (dPt cs r)=true:=by show aa [D.int _,aN _]=true;simp only[aa,lW,d6];rfl
def v6(cs:ae0)(x:Dd):aA (rA cs x)=true:=by have h:aA (.lst (x.rds.map (dPt cs)))=true:=fu (Qz cs) _;show aa [aN _,D.int _,.lst (x.rds.map (dPt cs))]=true;simp only[aa,lW,h,d6];rfl
theorem m6:∀{l:List D},(∀d∈l,aA d=true)->aa l=true
 | [],_=>rfl
 | d::l,h=>by simp only[aa,h d x6,m6 λ x a=>h x (x4 _ a),d6]
def JP(p:Pg):aa (Mw p)=true:=m6 λ d a=>by obtain⟨n,_,a⟩:=ea.mp a;obtain⟨b,_,a⟩:=ea.mp a;obtain⟨x,_,rfl⟩:=bS.mp a;exact v6 b x
def Lr{b c:Type}{f:b->List c}{l:List b}{a}(h:l[i]? =some a):(l.take (i+1)).flatMap f=(l.take i).flatMap f++f a:=by rw[aH h,fk];simp
def NB(K:fY Ω c_atB)(L:jw Ω c_cntB)(D:nM Ω c_spotB):OkF Ω "_law_steps" Ai 3 QH c_stepsB:=by
 refine aK (N:=Ql) (Bl.frz (RG K L D)) %[|7] ?_;rintro ds S W ⟨p,m,rfl,hP,hm,hS,X⟩ hl;obtain⟨hW,aa,ab,I⟩:=hP;have E:∀n∈p.nss,(cnt n.lps).length<=60/\n.dds.length<=4:=λ n v=>by obtain⟨_,_,h4,hc,_⟩:=I n v;have h1:m/p.nss.length/n.dds.length<=60:=cK (kL _ _) (cK (kL _ _) hm);exact%[%[|0]|h4]
 have b1:∀(n:Ns)(j:Nat),n∈p.nss->(((cnt n.lps).take j).flatMap λ c=>n.dds.map (rA c)).length<=240:=λ n j v=>by obtain⟨h1,h2⟩:=E n v;have:=vQ (l:=(cnt n.lps).take j) (f:=λ c=>n.dds.map (rA c)) (b:=4) (λ c _=>by rw[y7];exact h2);rw[e8]at this;omega
 have b2:∀i:Nat,((p.nss.take i).flatMap vB).length<=720:=λ i=>by have:=vQ (l:=p.nss.take i) (f:=vB) (b:=240) (λ n v=>by have:=b1 n (cnt n.lps).length (iN v);rw[cS]at this;exact this);rw[e8]at this;omega
 try?;refine aV (λ i a g=>(∃Z o3 C k o q s u,a=[some (dPg p),%[|19],Z,o3,C,k,o,q,s,u])/\g=S++[(p.nss.take i).flatMap vB]) %[%[_,_,_,_,_,_,_,_|rfl]|rfl] ?_ ?_
 . rintro I1 R1 B1 M _ _ i e a g H ⟨⟨Z,o3,C,k,o,q,s,u,rfl⟩,rfl⟩;obtain⟨n,v,rfl⟩:=bR H;have B:=y4 v;obtain⟨hL,d1,d4,hc,R⟩:=I n B;obtain⟨g1,g2⟩:=E n B;have gb:=b2 i;try?;refine%[rfl|?_];try?;refine%[rfl,n.lps,rfl,hL,cY hS ?_|?_];{exact m6 λ d G=>by obtain⟨n,_,G⟩:=ea.mp G;obtain⟨c,_,G⟩:=ea.mp G;obtain⟨x,_,rfl⟩:=bS.mp G;exact v6 c x};walk_at "n";refine aV (λ j a g=>(∃C k o q s u,a=[some (dPg p),%[|19],some (.tup (n.lps.map dL)),some (.tup (n.dds.map dDd)),C,k,o,q,s,u])/\g=S++[(p.nss.take i).flatMap vB++((cnt n.lps).take j).flatMap λ c=>n.dds.map (rA c)]) %[%[_,_,_,_,_,_|rfl]|by simp] ?_ ?_
   . rintro I2 R2 B2 O _ _ j e a g H ⟨⟨C,k,o,q,s,u,rfl⟩,rfl⟩;obtain⟨c,F,rfl⟩:=bR H;have hC:Cs n.lps.length c:=mq hL n.lps.length (y9 _) c (by rw[cS];exact y4 F);have A:c.length<=10:=by have:=hC.1;have:=hL.2.1;omega
     have gj:=b1 n j B;try?;refine aV (λ t a g=>(∃k o q s u,a=[some (dPg p),%[|19],some (.tup (n.lps.map dL)),some (.tup (n.dds.map dDd)),some (dC c),k,o,q,s,u])/\g=S++[((p.nss.take i).flatMap vB++((cnt n.lps).take j).flatMap λ c=>n.dds.map (rA c))++(n.dds.take t).map (rA c)]) %[%[_,_,_,_,_|rfl]|by simp] ?_ ?_
     . rintro I3 R3 B3 P _ _ t e a g H ⟨⟨k,o,q,s,u,rfl⟩,rfl⟩;obtain⟨x,hx,rfl⟩:=bR H;obtain⟨⟨w,_,Y,T⟩,hst,ac,U⟩:=R x (y4 hx);have z:∀{t:Nat}{J:List Fm},TpB p.ws n.lps.length t J->J.length<=1000/\∀f∈J,f.2.length=c.length:=λ{t J} h=>by obtain⟨w,X,hl,hf⟩:=h;have:=hW.2.2 w (y4 X);exact%[%[|0]|λ f h=>by rw[(hf f h).1,hC.1]]
       try?;refine%[rfl|?_];try?;refine mO (dPt c) %[|0] ?_ ?_;{intro y r hr Q hq;obtain⟨_,_,V⟩:=U r (y4 hr);obtain⟨q1,q2⟩:=z V;try?;refine%[rfl|?_];try?;refine%[rfl,r.tab,r.pl,c,rfl,q1,q2,A,hC.c64|?_];try?;exact hq};obtain⟨q1,q2⟩:=z %[w,‹_›,Y|T];try?;refine%[rfl,x.tab,x.pl,c,rfl,q1,q2,A,hC.c64|?_];try?;refine%[rfl,x.st,c,rfl,by rw[hst.1,hC.1],A,hC.c64|?_];try?;refine%[_,bh _ _,by simp only[x8,y7,e8];omega|?_];rw[cg];refine P _ _ _ %[%[_,_,_,_,_|rfl]|?_];rw[aH hx,cf (l₂:=[_]),ci];rfl
     {rintro a g ⟨⟨k,o,q,s,u,rfl⟩,rfl⟩;refine O _ _ _ %[%[_,_,_,_,_,_|rfl]|?_];rw[y7,cS,Lr F,<-ci]}
   {rintro a g ⟨⟨C,k,o,q,s,u,rfl⟩,rfl⟩;refine M _ _ _ %[%[_,_,_,_,_,_,_,_|rfl]|?_];rw[y7,cS,Lr v];rfl}
 {rintro a g ⟨⟨Z,o3,C,k,o,q,s,u,rfl⟩,rfl⟩;rw[y7,cS];exact mZ X (JP p) hS}
def all_map{b:Type}{enc}{q:D->Bool}{l:List b}(h:∀a∈l,q (enc a)=true):(l.map enc).all q=true:=by rw[gp];intro x d;obtain⟨a,c,rfl⟩:=bS.mp d;exact h a c
def jd{c:Type}{enc}{l:List c}(h1:a<=(l.length:Int))(h2:(l.length:Int)<=b):cC (.tup (l.map enc)) a b=true:=by show(decide _&&decide _)=true;rw[y7,cb h1,cb h2];rfl
def xn{f}{d:Nat}(h:f.2.length=d):dZ (dF f) (d:Int)=true:=by show(decide _&&((f.1::f.2).map D.int).all whole)=true;rw[cb %[|14],all_map (λ _ _=>rfl)];rfl
def FZ(h1:a<=n)(h2:n<=b):m8 a b (.int n)=true:=by show(decide _&&decide _)=true;rw[cb h1,cb h2];rfl
def Uq{f}{d}(h:FmB d 1 f):isPlace (d:Int) (dF f)=true:=by obtain⟨c,b,e⟩:=h;show(dZ (dF f) (d:Int)&&((f.1::f.2).map D.int).all (m8 (-99) 99))=true;rw[xn c,all_map λ n a=>?_];{rfl};{rcases cr.mp a with rfl | a;{exact FZ %[|0] %[|0]};{exact FZ (b n a).1 (b n a).2}}
def Gu(h1: -1000000000000000000000000000000<n)(h2:n<1000000000000000000000000000000):vA n=true:=by unfold vA;rw[CQ];exact cb (by split<;>omega)
def Um{f}{d}(h:StB d f):isStart (dF f) (d:Int)=true:=by obtain⟨b,c,e,g⟩:=h;show(dZ (dF f) (d:Int)&&((f.1::f.2).map D.int).all xG)=true;rw[xn b,all_map λ n a=>?_];{rfl};{rcases cr.mp a with rfl | a;{exact Gu e g};{have:=c n a;exact Gu %[|0] %[|0]}}
def Wh{d}(h:TpB ws d t pl):lK (.int t) (dP pl) ws (d:Int)=true:=by
 obtain⟨w,b,g,c⟩:=h;have i:=(z0.mp b).1;have e:ws.getD ((t:Int)).toNat 0=w:=by simp[List.getD,b]
 show((decide _&&decide _)&&(cC (.tup (pl.map dF)) (ws.getD ((t:Int)).toNat 0) (ws.getD ((t:Int)).toNat 0)&&(pl.map dF).all (isPlace d)))=true;rw[e,cb (p:=(0:Int)<=t) %[|0],cb (p:=(t:Int)<ws.length) %[|0],jd %[|0] %[|0],all_map λ f a=>Uq (c f a)];rfl
def Xz{d}(h:DdB ws d x):gP ws (d:Int) (dDd x)=true:=by obtain⟨e,f,j,g⟩:=h;show(lK (.int x.tab) (dP x.pl) ws d&&(isStart (dF x.st) d&&(cC (.tup (x.rds.map dRd)) 0 3&&(x.rds.map dRd).all (mC ws d))))=true;rw[Wh e,Um f,jd %[|0] %[|0],all_map λ r i=>?_];{rfl};{obtain⟨a,b,c⟩:=g r i;show(vA r.fac&&lK (.int r.tab) (dP r.pl) ws d)=true;rw[Gu a b,Wh c];rfl}
def Ea{f}(h:BdF f i):dh (dF f) (i:Int)=true:=by obtain⟨a,b,c,d⟩:=h;show(dZ (dF f) (i:Int)&&(decide _&&(decide _&&(f.2.map D.int).all small)))=true;rw[xn a,cb b,cb c,all_map λ n e=>?_];{rfl};{have:=d n e;show(decide _&&decide _)=true;rw[cb this.1,cb this.2];rfl}
def V7(h:Lps ls):iu (.tup (ls.map dL))=true:=by
 obtain⟨g,j,c⟩:=h;show((decide _&&decide _)&&((ls.map dL).mapIdx λ i d=>kW d i).all id)=true;rw[y7,cb %[|0],cb %[|0],gp.mpr λ b f=>?_];{rfl}
 . obtain⟨i,a⟩:=cw f;rw[iL,y8]at a
   cases e:ls[i]? with
   | none=>rw[e]at a;cases a
   | some l=>rw[e]at a;cases a;show(dh (dF l.1) i&&dh (dF l.2) i)=true;rw[Ea (c i l e).1,Ea (c i l e).2];rfl
def Xr(h:NsB ws m n):jN ws (dNs n)=true:=by obtain⟨a,d,e,f,b⟩:=h;show(iu (.tup (n.lps.map dL))&&(cC (.tup (n.dds.map dDd)) 1 4&&(n.dds.map dDd).all (gP ws ((n.lps.map dL).length:Int))))=true;rw[V7 a,jd %[|0] %[|0],y7,all_map λ x c=>Xz (b x c)];rfl
def PgB.widths(h:PgB m p):kh (dWs p.ws)=true:=by obtain⟨⟨c,d,a⟩,_⟩:=h;show(cC (.tup (p.ws.map D.int)) 1 3&&(p.ws.map D.int).all (m8 1 2))=true;rw[jd %[|0] %[|0],all_map λ w b=>FZ (a w b).1 (a w b).2];rfl
def PgB.nests(h:PgB m p):sY (.tup (p.nss.map dNs)) p.ws=true:=by obtain⟨_,c,d,a⟩:=h;show(cC (.tup (p.nss.map dNs)) 1 3&&(p.nss.map dNs).all (jN p.ws))=true;rw[jd %[|0] %[|0],all_map λ n b=>Xr (a n b)];rfl
def PgB.ok(h:PgB m p):∀n∈p.nss,qX n:=λ n a=>by obtain⟨h1,b,c,_⟩:=h.2.2.2 n a;exact%[h1.1,h1.fits|%[|0]]
def abk{l:ae0}(h:∀x∈l,x<=b):l.sum<=(l.length:Int)*b:=by
 induction l with
 | nil=>simp
 | cons x l c=>have:=c λ y a=>h y (x4 _ a);have:=h x x6;rw[List.sum_cons,dS,Int.natCast_add,Int.add_mul];omega
def PgB.many(h:PgB m p)(v:12<=m):many p.nss<=m:=by
 obtain⟨_,o,q,d⟩:=h;have r:4<=m/p.nss.length:=by rw[Nat.le_div_iff_mul_le %[|0]];omega
 have c:∀n∈p.nss,((cnt n.lps).length:Int)*(n.dds.length:Int)<=((m/p.nss.length:Nat):Int):=λ n a=>by
  obtain⟨_,j,k,u,_⟩:=d n a;have s:1<=m/p.nss.length/n.dds.length:=by rw[Nat.le_div_iff_mul_le %[|0]];omega
  have e:(cnt n.lps).length*n.dds.length<=m/p.nss.length:=by
   have f:(cnt n.lps).length<=m/p.nss.length/n.dds.length:=%[|0]
   exact cK (iS _ f) (Nat.div_mul_le_self _ _)
  rw[<-om];exact Int.ofNat_le.mpr e
 show(p.nss.map λ n=>((cnt n.lps).length:Int)*(n.dds.length:Int)).sum<=_;have:=abk (l:=p.nss.map λ n=>((cnt n.lps).length:Int)*(n.dds.length:Int)) (b:=((m/p.nss.length:Nat):Int)) (λ x i=>by obtain⟨n,a,rfl⟩:=bS.mp i;exact c n a);rw[y7]at this;have g:p.nss.length*(m/p.nss.length)<=m:=Nat.mul_div_le _ _;have t:(p.nss.length:Int)*((m/p.nss.length:Nat):Int)<=(m:Int):=by rw[<-om];exact Int.ofNat_le.mpr g
 omega
def U8(h:PgB m p)(a:12<=m)(b:m<=60)(c:flat S)(w:W (dPg p) S):FP [dWs p.ws,.tup (p.nss.map dNs)] S W:=
 %[p,rfl,h.widths,h.nests,by have:=h.2.2.1;omega,h.ok,by have:=h.many a;omega,c|w]
def Al(h:s∈aO nss):∃n,nss[s.1]? =some n/\s.2.1∈cnt n.lps/\s.2.2<n.dds.length:=by unfold aO at h;obtain⟨l,d,a⟩:=List.mem_flatten.mp h;obtain⟨i,c,rfl⟩:=List.mem_mapIdx.mp d;unfold dJ at a;obtain⟨f,b,a⟩:=ea.mp a;obtain⟨t,e,rfl⟩:=bS.mp a;exact%[nss[i],y3 c,b|df.mp e]
def gm(p:Pg)(s:Stp):D:=match p.nss[s.1]? with
 | some n=>(match n.dds[s.2.2]? with | some x=>dCs x s.2.1 | none=>.non)
 | none=>.non
inductive c_cellsOf(ds:List D)(S:Store)(W:WD):Prop
 | mk(p:Pg):ds=[dPg p]->p.nss.length<=1000->(∀n∈p.nss,qX n/\∀x∈n.dds,Sv x)->(aO p.nss).length<=1000000->flat S->W (.lst ((aO p.nss).map (gm p))) S->c_cellsOf ds S W
def qX.c64(h:qX n)(b:cs∈cnt n.lps):C64 cs:=λ c a=>by have:=((h.2.1.2 n.lps.length (y9 _)).2 cs (by rw[cS];exact b)).2 c a;omega
def Cm(c:dR Ω c_steps)(b:jk Ω c_cellsStep):OkF Ω "cells_of" qI 5 Dp c_cellsOf:=by
 refine aK (N:=Dp) (Dh c b) %[|7] ?_;rintro v S W ⟨p,rfl,t,d,a,m,r⟩ w;try?;refine%[rfl,p,rfl,t,λ n o=>(d n o).1,a,m|.inl ?_];walk_at "n";refine mO (gm p) a ?_ r;intro i s q Q g;obtain⟨n,f,k,l⟩:=Al (y4 q);obtain⟨u,h⟩:=d n (y4 f);have e:n.dds[s.2.2]? =some n.dds[s.2.2]:=y3 l;have j:gm p s=dCs n.dds[s.2.2] s.2.1:=by unfold gm;rw[f];show(match n.dds[s.2.2]? with | some x=>dCs x s.2.1 | none=>D.non)=_;rw[e]
 rw[j]at g;try?;exact%[rfl,p,s,n,n.dds[s.2.2],rfl,f,e,h _ (List.getElem_mem _),u.c64 k|g]
def TpB.pl{d}{pl}(hW:WsB ws)(e:d<=3)(h:TpB ws d t pl):Ov pl:=by obtain⟨w,c,g,b⟩:=h;have:=hW.2.2 w (y4 c);exact%[%[|0]|λ f a=>by rw[(b f a).1];omega]
def PgB.deeds(h:PgB m p):∀n∈p.nss,qX n/\∀x∈n.dds,Sv x:=λ n a=>by refine%[h.ok n a|λ x f=>?_];obtain⟨hL,_,_,_,d⟩:=h.2.2.2 n a;obtain⟨b,g,i,c⟩:=d x f;exact%[b.pl h.1 hL.2.1,%[|0]|λ r e=>(c r e).2.2.pl h.1 hL.2.1]
def Lx(i:Nat)(n:Ns):(dJ i n).length=(cnt n.lps).length*n.dds.length:=by
 unfold dJ;generalize cnt n.lps=l
 induction l with
 | nil=>simp
 | cons c l a=>rw[kU,x8,a,dS,l4];simp[Nat.add_comm]
def jC(nss:List Ns):((aO nss).length:Int)=many nss:=by
 have:∀i,i<=nss.length->((aO (nss.take i)).length:Int)=many (nss.take i):=by
  intro i
  induction i with
  | zero=>intro _;rfl
  | succ i b=>intro c;have a:=y3 (l:=nss) (i:=i) %[|0];rw[lG a,x8,Int.natCast_add,b %[|0],Lx,aH a];unfold many;rw[cf,List.sum_append];simp
 have:=this nss.length (y9 _);rw[cS]at this;exact this
def pY(h:PgB m p)(a:12<=m)(b:m<=60)(c:flat S)(w:W (.lst ((aO p.nss).map (gm p))) S):c_cellsOf [dPg p] S W:=
 %[p,rfl,by have:=h.2.2.1;omega,h.deeds,by have:=h.many a;have:=jC p.nss;omega,c|w]
def Rb(h:PgB m p)(a:12<=m)(b:m<=60)(c:flat S)(w:hand W ((aO p.nss).map dSt) S):c_steps [dPg p] S W:=
 %[p,rfl,by have:=h.2.2.1;omega,h.ok,by have:=h.many a;have:=jC p.nss;omega,c|w]
def toC(c:Cell):%[|15]:=((c.1:Int),c.2)
def VM(l:List Cell):l.map aN=(l.map toC).map cD:=by rw[de];rfl
def tch(a b:Cell×List Cell):List Cell:=(if a.1=b.1\/a.1∈b.2 then[a.1]else[])++(if b.1∈a.2 then[b.1]else[])
def ir(a b:Cell×List Cell):Bool:=(decide (a.1=b.1)||decide (a.1∈b.2))||decide (b.1∈a.2)
def dCR(a:Cell×List Cell):D:=.tup [aN a.1,.lst (a.2.map aN)]
theorem zA:∀(xs ys:ae0),dg (xs.map D.int) (ys.map D.int)=decide (xs=ys)
 | [],[]=>by simp[dg]
 | [],_::_=>by simp[dg]
 | _::_,[]=>by simp[dg]
 | x::xs,y::ys=>by simp only[cn,dg,eqD,zA xs ys];rw[gg];simp
def Fj(a b:Cell):eqD (aN a) (aN b)=decide (a=b):=by unfold aN;simp only[eqD,dg,zA,d6];rw[gg];simp[Prod.ext_iff];intro _;omega
def TY(c:Cell)(l:List Cell):((l.map aN).any λ d=>eqD d (aN c))=decide (c∈l):=by rw[List.any_map];rw[gg,ip];simp only[Function.comp_apply,Fj,gE];exact%[λ⟨x,h1,h2⟩=>h2▸h1|λ h=>%[c,h|rfl]]
theorem lD:∀xs:%[|8],bW (xs.map D.int)=true
 | []=>rfl
 | x::xs=>by simp only[cn,bW,okD,lD xs,d6]
theorem gH:∀xs:%[|8],aR (xs.map D.int)=0
 | []=>rfl
 | x::xs=>by simp only[cn,aR,deep,gH xs];rfl
def jT(c:Cell):okD (aN c)=true:=by unfold aN;simp only[okD,bW,lD,d6]
def qC(c:Cell):deep (aN c)=2:=by unfold aN;simp only[deep,aR,gH];rfl
theorem wR:∀l:List Cell,bW (l.map aN)=true
 | []=>rfl
 | c::l=>by simp only[cn,bW,jT,wR l,d6]
theorem uC:∀l:List Cell,aR (l.map aN)<=2
 | []=>by simp[aR]
 | c::l=>by have:=uC l;simp only[cn,aR,qC];omega
def cell_eq{W}(w:W (decide (a=b)) S):bc .Eq (aN a) (aN b) S W:=by rw[<-Fj]at w;unfold bc;exact%[%[jT a,jT b|by show deep (aN a)<=50;rw[qC];decide]|w]
def cell_in{l:List Cell}{W}(w:W (decide (c∈l)) S):bc .In (aN c) (.lst (l.map aN)) S W:=by rw[<-TY]at w;exact cIn (ds:=l.map aN) rfl (jT c) (wR l) (cK (uC l) %[|1]) w
def abx{W}(h1:bW L=true)(h2:aR L<=40)(w:W (!L.isEmpty) S):bc .NotEq (.lst L) (.lst []) S W:=by
 unfold bc;refine .inl %[%[by show bW L=true;exact h1,rfl|by show aR L+1<=50;omega]|?_];have:eqD (vw S (.lst L)) (vw S (.lst []))=L.isEmpty:=by show dg L []=_;cases L<;>simp[dg]
 rw[this];exact w
def Fb(l:List Cell):((lJ id (l.map toC)).map cD).isEmpty=l.isEmpty:=by
 match l with
 | []=>rfl
 | [a]=>rfl
 | [a,b]=>show((if toC b=toC a then[toC a]else if ltC (toC b) (toC a)=true then[toC b,toC a]else[toC a,toC b]).map cD).isEmpty=false;split;{rfl};{split<;>rfl}
 | _::_::_::_=>rfl
def uF{l:List Cell}(h:d∈(lJ id (l.map toC)).map cD):∃c:Cell,d=aN c:=by
 obtain⟨x,e,rfl⟩:=bS.mp h;have :x∈l.map toC:=by
  match l,e with
  | [a],e=>exact e
  | [a,b],e=>have e:x∈(if toC b=toC a then[toC a]else if ltC (toC b) (toC a)=true then[toC b,toC a]else[toC a,toC b]):=e;split at e;{simp at e ⊢;exact .inl e};{split at e;{simp at e ⊢;exact e.symm};{exact e}}
  | _::_::_::_,e=>exact e
 obtain⟨c,_,rfl⟩:=bS.mp this;exact%[c|rfl]
theorem lA:∀{L:List D},(∀d∈L,∃c:Cell,d=aN c)->bW L=true/\aR L<=2/\aa L=true
 | [],_=>%[rfl,dr _|rfl]
 | d::L,h=>by obtain⟨c,rfl⟩:=h d x6;obtain⟨a,f,b⟩:=lA λ x e=>h x (x4 _ e);refine%[by simp only[bW,jT,a,d6],by simp only[aR,qC];omega|by simp only[aa,lW,b,d6]]
def xW(a b:Cell×List Cell):(tch a b).length<=2:=by unfold tch;split<;>split<;>simp
def KZ(a b:Cell×List Cell):(!(tch a b).isEmpty)=ir a b:=by unfold tch ir;by_cases c:a.1=b.1;{simp[c]};{by_cases d:a.1∈b.2;{simp[d]};{by_cases e:b.1∈a.2<;>simp[c,d,e]}}
def zV(a b:Cell×List Cell):ir a b=ir b a:=by unfold ir;rw[gg];simp only[i6,gE];constructor;{rintro((h | h) | h);{exact .inl (.inl h.symm)};{exact .inr h};{exact .inl (.inr h)}};{rintro((h | h) | h);{exact .inl (.inl h.symm)};{exact .inr h};{exact .inl (.inr h)}}
def Wx{l}(d:l.length<=2):(lJ id l).Pairwise %[|41]/\∀c,c∈lJ id l↔c∈l:=by
 match l,d with
 | [],_=>exact%[List.Pairwise.nil|λ c=>Iff.rfl]
 | [x],_=>exact%[js _ _|λ c=>Iff.rfl]
 | [x, y],_=>
   show List.Pairwise _ (if y=x then[x]else if ltC y x=true then[y,x]else[x,y])/\∀c,c∈(if y=x then[x]else if ltC y x=true then[y,x]else[x,y])↔_;by_cases e:y=x;{rw[ca e];subst e;exact%[js _ _|λ c=>by simp]}
   . rw[bP e];by_cases h:ltC y x=true;{rw[ca h];exact%[List.pairwise_pair.mpr h|λ c=>by simp[or_comm]]}
     . rw[bP h];refine%[List.pairwise_pair.mpr ?_|λ c=>Iff.rfl]
       cases g:ltC x y with
       | true=>rfl
       | false=>exact absurd (RC (Bool.eq_false_iff.mpr h) g) e
def YM{l ks}(d:l.length<=2)(h1:ks.Pairwise %[|41])(h2:∀c,c∈ks↔c∈l):ks=lJ id l:=Uc h1 (Wx d).1 λ c=>(h2 c).trans ((Wx d).2 c).symm
def qw:Ct:=λ c S W=>∃a b:Cell×List Cell,c=[dCR a,dCR b]/\flat S/\W (.lst ((lJ id ((tch a b).map toC)).map cD)) S
def qi(B:%[|2]):OkF Ω "touched_cells" jl 1 tU qw:=by
 refine aK (N:=t6) (Bl.drp (tY B)) %[|7] ?_;rintro t S W ⟨a,b,rfl,k,o⟩ v;have s:aA (.lst ((lJ id ((tch a b).map toC)).map cD))=true:=(lA λ d m=>uF m).2.2;have f:∀l:List Cell,l=tch a b->(ig B).wp [some (dCR a),some (dCR b),%[|19]] (S++[l.map aN]) {nx:=λ _ g=>W .non g,rt:=Drp S.length W}:=by rintro l rfl;try?;refine%[(tch a b).map toC,λ l r n=>?_,.inr %[_,rfl|?_]|λ w p q=>?_];{have e:=iP r n;have u:=xW a b;rw[y7]at e;omega};{rw[<-VM];exact bh _ _};{rw[YM (by rw[y7];exact xW a b) p q];exact .inr %[_,S,rfl,y9 _,s,k|o]}
 have c:∀l:List Cell,l=(if a.1=b.1\/a.1∈b.2 then[a.1]else[])->(ie B).wp [some (dCR a),some (dCR b),%[|19]] (S++[l.map aN]) {nx:=λ _ g=>W .non g,rt:=Drp S.length W}:=by
  intro l i;have j:l.length<=1:=by rw[i];split<;>simp
  try?;refine cell_in ?_;by_cases h:b.1∈a.2;{rw[cb h];try?;refine%[_,bh _ _,by rw[y7];omega|?_];rw[cg];have:=f (l++[b.1]) (by unfold tch;rw[i,ca h]);rw[cf]at this;exact this};{rw[cE h];try?;exact f l (by unfold tch;rw[i,bP h,fA])}
 try?;refine cell_eq ?_;by_cases h:a.1=b.1;{rw[cb h];try?;refine%[_,bh _ _,by simp|?_];rw[cg];exact c [a.1] (by rw[ca (.inl h)])};{rw[cE h];try?;refine cell_in ?_;by_cases e:a.1∈b.2;{rw[cb e];try?;refine%[_,bh _ _,by simp|?_];rw[cg];exact c [a.1] (by rw[ca (.inr e)])};{rw[cE e];refine bF ?_;exact c [] (by rw[bP (λ z=>z.elim h e)])}}
def ao(p:Pg):List (Dd×%[|8]):=p.nss.flatMap λ n=>(cnt n.lps).flatMap λ a=>n.dds.map λ x=>(x,a)
def crs(x:Dd×%[|8]):Cell×List Cell:=(spot x.1.tab x.1.pl x.2,x.1.rds.map λ r=>spot r.tab r.pl x.2)
def YJ(x:Dd×%[|8]):dCR (crs x)=dCs x.1 x.2:=by unfold dCR crs dCs;rw[de];rfl
theorem jR{b d:Type}{f g:b->List d}:∀{l:List b},(∀a∈l,f a=g a)->l.flatMap f=l.flatMap g
 | [],_=>rfl
 | a::l,h=>by rw[kU,kU,h a x6,jR λ x c=>h x (x4 _ c)]
def VB(p:Pg):Mw p=(ao p).map λ x=>rA x.2 x.1:=by unfold Mw ao;rw[iq];refine jR λ n _=>?_;unfold vB;rw[iq];refine jR λ a _=>?_;rw[de];rfl
def Dm(h:p.nss[i]? =some n):(dJ i n).map (gm p)=((cnt n.lps).flatMap λ cs=>n.dds.map λ x=>(x,cs)).map λ x=>dCR (crs x):=by
 unfold dJ;rw[iq,iq];refine jR λ cs _=>?_;rw[de,de];apply lI;{simp}
 . intro s c a;have b:s<n.dds.length:=by simpa using a
   rw[ix,ix,List.getElem_range];show gm p (i,cs,s)=dCR (crs (n.dds[s],cs));rw[YJ];unfold gm;show(match p.nss[i]? with | some n=>(match n.dds[s]? with | some x=>dCs x cs | none=>D.non) | none=>D.non)=_;rw[h];show(match n.dds[s]? with | some x=>dCs x cs | none=>D.non)=_;rw[y3 b]
def gC(p:Pg):(aO p.nss).map (gm p)=(ao p).map λ x=>dCR (crs x):=by
 unfold aO ao;rw[List.map_flatten,iq,List.flatMap_def];congr 1;apply lI;{simp}
 . intro i c a;have b:i<p.nss.length:=by simpa using a
   rw[ix,List.getElem_mapIdx,ix];exact Dm (y3 b)
def qx:Ct:=λ a S W=>∃(p:Pg) (m i j:Nat) (x y:Dd×%[|8]),a=[dPg p,.int i,.int j]/\PgB m p/\12<=m/\m<=60/\flat S/\(ao p)[i]? =some x/\(ao p)[j]? =some y/\W (.bl (!decide (i=j)&&ir (crs x) (crs y))) S
def G6(a:bJ Ω c_cellsOf)(b:bN Ω qw):OkF Ω "touches" uf 6 JH qx:=by refine aK (N:=IW) (Il a b) %[|7] ?_;rintro s S W ⟨p,m,i,j,x,y,rfl,n,f,g,h,q,r,c⟩ t;have k:atI ((aO p.nss).map (gm p)) ((i:Nat):Int)=some (dCR (crs x)):=bZ (by rw[gC,y8,q];rfl);have l:atI ((aO p.nss).map (gm p)) ((j:Nat):Int)=some (dCR (crs y)):=bZ (by rw[gC,y8,r];rfl);try?;refine%[rfl|pY n f g h ?_];try?;by_cases e:i=j;{rw[cb %[|0]];rw[cb e]at c;try?;exact c};{rw[cE %[|0]];rw[cE e]at c;try?;refine%[_,k|?_];try?;refine%[_,l|?_];try?;refine%[rfl,crs x,crs y,rfl,h|?_];try?;have ok:=lA (L:=(lJ id ((tch (crs x) (crs y)).map toC)).map cD) λ d o=>uF o;refine abx ok.1 (cK ok.2.1 %[|1]) ?_;rw[Fb,KZ];exact c}
def ssC(a b:Cell×List Cell):List %[|15]:=lJ id ((tch a b).map toC)
def YF(a b:Cell×List Cell):((ssC a b).map cD).isEmpty=(ssC a b).isEmpty:=by cases ssC a b<;>rfl
def W4(a b:Cell×List Cell):(ssC a b).length<=2:=by
 unfold ssC;have h:=xW a b;generalize tch a b=l at h;match l,h with
 | [],_=>exact dr _
 | [x],_=>exact hZ _
 | [x,y],_=>show(if toC y=toC x then[toC x]else if ltC (toC y) (toC x)=true then[toC y,toC x]else[toC x,toC y]).length<=2;split;{exact hZ _};{split<;>exact y9 _}
def Xy(c:af3):(c.map cD).isEmpty=c.isEmpty:=by cases c<;>rfl
abbrev Pr:=Nat×Nat×List %[|15]
abbrev CR:=Cell×List Cell
def vp(xs:List CR)(i j:Nat):List Pr:=match xs[i]?,xs[j]? with
 | some a,some b=>if(ssC a b).isEmpty then[]else[(i,j,ssC a b)]
 | _,_=>[]
def iV(xs:List CR)(i k:Nat):List Pr:=(List.range k).flatMap λ t=>vp xs i (i+1+t)
def bV(xs:List CR)(k:Nat):List Pr:=(List.range k).flatMap λ i=>iV xs i (xs.length-(i+1))
def yS{a b:CR}(c:xs[i]? =some a)(d:xs[j]? =some b):vp xs i j=if(ssC a b).isEmpty then[]else[(i,j,ssC a b)]:=by unfold vp;rw[c,d]
def nH(xs:List CR)(i k:Nat):iV xs i (k+1)=iV xs i k++vp xs i (i+1+k):=by unfold iV;rw[ke,fk];simp
def vN(xs:List CR)(k:Nat):bV xs (k+1)=bV xs k++iV xs k (xs.length-(k+1)):=by unfold bV;rw[ke,fk];simp
def U3(xs:List CR)(i j:Nat):(vp xs i j).length<=1:=by unfold vp;split;{split<;>simp};{simp}
theorem pL(xs:List CR)(i:Nat):∀k,(iV xs i k).length<=k
 | 0=>by simp[iV]
 | k+1=>by rw[nH,x8];have:=pL xs i k;have:=U3 xs i (i+1+k);omega
theorem zG(xs:List CR):∀k,(bV xs k).length<=k*xs.length
 | 0=>by simp[bV]
 | k+1=>by rw[vN,x8,l4];have:=zG xs k;have:=pL xs k (xs.length-(k+1));omega
def dPr(q:Pr):D:=.tup [.int (q.1:Int),.int (q.2.1:Int),.lst (q.2.2.map cD)]
def U7(c:af8):aA (cD c)=true:=by have h:aa (c.2.map D.int)=true:=aZ _;unfold cD;simp only[aA,aa,h,d6]
def LQ(l:af3):aa (l.map cD)=true:=fu U7 l
def zX(q:Pr):aA (dPr q)=true:=by unfold dPr;simp only[aA,aa,LQ,d6]
def VG(c:PgB m p)(a:12<=m)(b:m<=60):%[|12]<=60:=by
 have d:=c.many a;have e:=jC p.nss;have f:(aO p.nss).length=%[|12]:=by have:=ei List.length (gC p);rw[y7,y7]at this;exact this
 omega
def Es:Ct:=λ a S W=>∃(p:Pg) (m:Nat),a=[dPg p]/\PgB m p/\12<=m/\m<=60/\flat S/\hand W ((bV ((ao p).map crs) %[|12]).map dPr) S
def Mi(B:%[|2])(h:bJ Ω c_cellsOf)(j:bN Ω qw):OkF Ω "pairs" zP 6 Dp Es:=by
 refine aK (N:=Rr) (Bl.frz (RM B h j)) %[|7] ?_;rintro Z S W ⟨p,m,rfl,w,n,o,t,y⟩ hl;have I:=VG w n o;have F:(aO p.nss).map (gm p)=((ao p).map crs).map dCR:=by rw[gC,de];rfl
 try?;refine%[rfl|pY w n o t ?_];rw[F];have H:((ao p).map crs).length=%[|12]:=y7 _;rw[<-H]at y I;generalize (ao p).map crs=xs at*;try?;rw[y7];refine%[%[|24]|aV (λ i a b=>∃v f g,a=[some (dPg p),some (.lst (xs.map dCR)),%[|19],v,f,g]/\b=S++[(bV xs i).map dPr]) %[_,_,_,rfl|rfl] ?_ ?_]
 . rintro Q T O s _ _ i e a b u ⟨v,f,g,rfl,rfl⟩;obtain⟨hi,rfl⟩:=bO u;have D:(0:Int)+(i:Int)=(i:Int):=%[|0]
   rw[D];have r:i<xs.length:=%[|0]
   have C:atI (xs.map dCR) ((i:Nat):Int)=some (dCR xs[i]):=bZ (by rw[y8,y3 r];rfl);try?;rw[y7];refine%[%[|24]|aV (λ k a b=>∃f g,a=[some (dPg p),some (.lst (xs.map dCR)),%[|19],some (.int (i:Int)),f,g]/\b=S++[(bV xs i++iV xs i k).map dPr]) %[_,_,rfl|by unfold iV;simp] ?_ ?_]
   . rintro R U P q _ _ k e a b u ⟨f,g,rfl,rfl⟩;obtain⟨hk,rfl⟩:=bO u;have E:((i:Int)+1)+(k:Int)=((i+1+k:Nat):Int):=%[|0]
     rw[E];have x:i+1+k<xs.length:=%[|0]
     have A:atI (xs.map dCR) ((i+1+k:Nat):Int)=some (dCR xs[i+1+k]):=bZ (by rw[y8,y3 x];rfl);have l:=yS (y3 r) (y3 x);try?;refine%[_,C|?_];try?;refine%[_,A|?_];try?;refine%[rfl,xs[i],xs[i+1+k],rfl,cY t (fu zX _)|?_];have ok:=lA (L:=(ssC xs[i] xs[i+1+k]).map cD) λ d K=>uF K;have J:=W4 xs[i] xs[i+1+k];try?;have G:lJ id ((tch xs[i] xs[i+1+k]).map toC)=ssC xs[i] xs[i+1+k]:=rfl;rw[G];generalize hc:ssC xs[i] xs[i+1+k]=c at*;refine%[c.map cD,rfl,.inl rfl,by rw[y7];omega|?_];rw[Xy]
     cases z:c.isEmpty with
     | true=>refine bF ?_;refine q _ _ _ %[_,_,rfl|?_];rw[nH,l,ca z,fA]
     | false=>
       try?;have M:(bV xs i++iV xs i k).length<=4000:=by rw[x8];have V:=zG xs i;have X:=pL xs i k;have Y:i*xs.length<=60*60:=lh %[|0] %[|0];omega
       refine%[_,bh _ _,by rw[y7];omega|?_];rw[cg];refine q _ _ _ %[_,_,rfl|?_];rw[nH,l,bP (by rw[z];exact y6),<-ci,cf (l₂:=[_])];rfl
   {rintro a b ⟨f,g,rfl,rfl⟩;refine s _ _ _ %[_,_,_,rfl|?_];rw[vN,aB];rw[show(((xs.length:Nat):Int)-((i:Int)+1)).toNat=xs.length-(i+1)from %[|0]]}
 {rintro a b ⟨v,f,g,rfl,rfl⟩;rw[aB,dk];exact mZ y (fu zX _) t}
def DN{f}[DecidableEq f](kvs:List (f×D))(ns b:f)(d:D):aC (putD kvs ns d) b=if b=ns then some d else aC kvs b:=by
 have m:∀l:List (f×D),aC (l++[(ns,d)]) b=(aC l b).or (if b=ns then some d else none):=λ l=>by
  unfold aC;rw[oT]
  cases h:l.find? λ kv=>decide (kv.1=b)with
  | some x=>rfl
  | none=>by_cases e:b=ns;{subst e;simp};{have j:¬ns=b:=λ z=>e z.symm;simp[eM,e,j]}
 have n:∀l:List (f×D),aC (l.map λ kv=>if kv.1=ns then(kv.1,d)else kv) b=(aC l b).map λ x=>if b=ns then d else x:=λ l=>by
  induction l with
  | nil=>rfl
  | cons a l g=>unfold aC at g ⊢;rw[cn,eM,eM];by_cases e:a.1=b;{subst e;by_cases c:a.1=ns<;>simp[c]};{by_cases c:a.1=ns;{have k:¬ns=b:=λ z=>e (c.trans z);simp only[c,gX,k,decide_false];exact g};{simp only[c,ef,e,decide_false];exact g}}
 unfold putD;rw[vD]
 cases i:aC kvs ns with
 | some x=>simp only[oB,gX];rw[n];by_cases e:b=ns;{subst e;rw[i];simp};{simp[e]}
 | none=>simp only[Option.isSome_none,cy,ef];rw[m];by_cases e:b=ns;{subst e;rw[i];simp};{simp[e]}
def yq{a}[DecidableEq a](kvs:List (a×D))(ns:a)(d:D):(putD kvs ns d).length<=kvs.length+1:=by unfold putD;split<;>simp
def dN(l:ae3):List D:=l.map λ(t:Nat)=>D.int (t:Int)
def qy(l:ae3):aa (dN l)=true:=by
 unfold dN
 induction l with
 | nil=>rfl
 | cons y b a=>exact a
def nlV{α:Type}(kv:List (α×D)):Prop:=∀x∈kv,aA x.2=true
def KH{b}[DecidableEq b]{f}{c:b}(h:nlV f)(e:aA d=true):nlV (putD f c d):=by unfold putD;split;{intro x a;obtain⟨y,g,rfl⟩:=bS.mp a;split;{exact e};{exact h y g}};{intro x a;rcases cq.mp a with a | a;{exact h x a};{rw[bX.mp a];exact e}}
def gO(h:∀d∈l,aA d=true):aa l=true:=by
 induction l with
 | nil=>rfl
 | cons y c b=>simp only[aa,h y x6,b λ d a=>h d (x4 _ a),d6]
def We{a:Ko}(h:nlV a):aa (a.map cL)=true:=gO λ d b=>by
 obtain⟨x,c,rfl⟩:=bS.mp b;show aa [oD x.1,x.2]=true;have:aA (oD x.1)=true:=by cases x.1<;>rfl
 simp only[aa,this,h x c,d6]
def iW(n:Nat)(o:ae3):Prop:=(∀t∈o,t<n)/\o.Nodup
def JQ(p:Pg):(aO p.nss).length=%[|12]:=by have:=ei List.length (gC p);rw[y7,y7]at this;exact this
def lC(p:Pg):many p.nss=(%[|12]:Int):=by rw[<-jC,JQ]
def dX(c:PgB m p)(a:12<=m)(b:m<=60):%[|12]<=60:=by have d:=c.many a;have e:=lC p;omega
def iH(l:ae3):dN l=(l.map λ(t:Nat)=>(t:Int)).map D.int:=by unfold dN;rw[de];rfl
def d8(l:ae3):(dN l).length=l.length:=y7 _
def Gm{l}(h:(dN l)[i]? =some d):∃t,l[i]? =some t/\d=.int (t:Int):=by
 unfold dN at h;rw[y8]at h
 cases e:l[i]? with
 | none=>rw[e]at h;cases h
 | some t=>rw[e]at h;cases h;exact%[t,rfl|rfl]
def CV{l}(h:l[i]? =some t):(dN l)[i]? =some (.int (t:Int)):=by unfold dN;rw[y8,h];rfl
def ni{c:Type}{l:List c}(h:l.Nodup)(a:i<j)(b:j<l.length):l[i]?≠l[j]?:=by rw[y3 %[|0],y3 b];intro z;have z:=cc z;have:=(fm.mp h) i j %[|0] b a;exact this z
def QB(h:ns.Nodup):unl ns=ns.length:=by
 unfold unl;have d:∀i,i<=ns.length->PyProof.Rows.firstMet (λ i=>ns.getD i 0) i=ns.take i:=by
  intro i
  induction i with
  | zero=>intro _;rfl
  | succ i g=>
    intro k;have b:i<ns.length:=%[|0]
    rw[PyProof.Rows.firstMet_succ,g %[|0],aH (y3 b)];have e:ns.getD i 0=ns[i]:=by simp[List.getD,b]
    unfold PyProof.Rows.step_dedup;rw[e,bP];intro z;rw[ip]at z;obtain⟨x,f,z⟩:=z;have z:=ZU z;subst z;obtain⟨j,a⟩:=cw f;rw[eR]at a;split at a;{rename_i c;exact ni h c b (by rw[a,y3 b])};{cases a}
 rw[d _ (y9 _),cS]
def Qm(h:o.Nodup):(o.map λ(t:Nat)=>(t:Int)).Nodup:=by
 induction o with
 | nil=>exact iA
 | cons x c b=>rw[gN]at h;rw[cn,gN];refine%[λ z=>?_|b h.2];obtain⟨y,a,e⟩:=bS.mp z;exact h.1 (by rw[show x=y from %[|0]];exact a)
def xZ:Ct:=λ a S W=>∃(p:Pg) (m:Nat) (o:ae3),a=[dPg p,.lst (dN o)]/\PgB m p/\12<=m/\m<=60/\flat S/\o.length<=60/\iW %[|12] o/\W (.bl true) S
def qH(hP:PgB m p)(a:flat S)(w:W (.int (%[|12]:Int)) S):mG [.tup (p.nss.map dNs)] S W:=
 %[p.nss,rfl,by have:=hP.2.2.1;omega,λ n b=>(hP.deeds n b).1,a|by rw[lC];exact w]
def Ir(B:%[|2])(a:bw Ω c_whole)(b:aP Ω mG):OkF Ω "is_row" wF 5 My xZ:=by
 refine aK (N:=Nq) (Od B a b) %[|7] ?_;rintro n S W ⟨p,m,o,rfl,f,d,e,g,r,hO,l⟩ q;try?;refine%[rfl|qH f g ?_];try?;unfold dN;refine XJ (C0:=λ _=>True) (xs:=o) (enc:=λ(t:Nat)=>D.int (t:Int)) (λ _=>.bl true) %[|0] trivial ?_ (.inl ?_);{intro i t k Q j;have h:=hO.1 t (y4 k);try?;refine%[rfl,_,rfl|?_];try?;rw[cb (show(t:Int)<(%[|12]:Int)from %[|0])];exact j};try?;refine%[List.replicate o.length true,by rw[List.map_replicate,<-List.map_const']|?_];have c:(List.replicate o.length true).all id=true:=by simp
 rw[c];try?;refine%[_,by show jU S (.lst (dN o))=_;rw[iH];rfl,by rw[y7];show _<4096;omega|?_];rw[QB (Qm hO.2),y7];try?;rw[y7,cb rfl];exact l
def Ka:Ct:=λ a S W=>∃(p:Pg) (m:Nat) (o:ae3),a=[dPg p,.lst (dN o)]/\PgB m p/\12<=m/\m<=60/\flat S/\o.length=%[|12]/\iW %[|12] o/\W (.bl true) S
def Bb(B:%[|2])(b:aP Ω mG)(a:jB Ω xZ):OkF Ω "is_order" pQ 6 My Ka:=by refine aK (N:=My) (Gd B b a) %[|7] ?_;rintro i S W ⟨p,m,o,rfl,e,c,d,f,l,g,h⟩ k;have j:=dX e c d;try?;refine%[rfl,p,m,o,rfl,e,c,d,f,%[|0],g|?_];try?;refine%[rfl|qH e f ?_];try?;rw[d8,cb %[|0]];exact h
def Ew:Ct:=λ a S W=>∃(p:Pg) (m:Nat) (o:ae3),a=[dPg p,.lst (dN o)]/\PgB m p/\12<=m/\m<=60/\flat S/\o.length=%[|12]/\iW %[|12] o/\W .non S
def nC(a:qP Ω Ka):OkF Ω "refuse_no_order" gY 7 oV Ew:=by refine aK (N:=oV) (oZ a) %[|7] ?_;rintro i S W ⟨p,m,o,rfl,e,b,c,f,g,d,h⟩ j;try?;refine%[rfl,p,m,o,rfl,e,b,c,f,g,d|?_];try?;exact h
def Plc(o:ae3)(i:Nat)(kv:Ko):Prop:=kv.length<=i/\nlV kv/\∀t j:Nat,(o.take i)[j]? =some t->aC kv (some (t:Int))=some (.int (j:Int))
def Plc.put{k}(h:Plc o i k)(n:o.Nodup)(g:o[i]? =some t):Plc o (i+1) (putD k (some (t:Int)) (.int (i:Int))):=by
 have l:=(z0.mp g).1;refine%[by have:=h.1;have:=yq k (some (t:Int)) (.int (i:Int));omega,KH h.2.1 rfl|λ u j a=>?_];rw[DN];rw[aH g]at a;by_cases c:j<i;{rw[x9 (by rw[e8];omega)]at a;have b:=a;rw[eR,ca c]at b;have f:u≠t:=λ e=>ni n c l (by rw[b,g,e]);rw[bP (λ z=>f (by have:=cc z;omega))];exact h.2.2 u j a}
 . have m:(o.take i).length=i:=by rw[e8];omega
   rw[da %[|0],m]at a;have d:j-i=0:=by have:=(z0.mp a).1;simp at this;omega
   rw[d]at a;simp at a;subst a;rw[ca rfl,show j=i from %[|0]]
def wW:Ct:=λ b S W=>∃(o:ae3),b=[.lst (dN o)]/\o.length<=60/\o.Nodup/\∀a,Plc o o.length a->W %[|22] (S++[a.map cL])
def Et{l}(h:((dN l).mapIdx λ i d=>D.tup [.int i,d])[i]? =some e):∃t,l[i]? =some t/\e=.tup [.int (i:Int),.int (t:Int)]:=by
 rw[iL]at h
 cases a:(dN l)[i]? with
 | none=>rw[a]at h;cases h
 | some d=>rw[a]at h;cases h;obtain⟨t,b,rfl⟩:=Gm a;exact%[t,b|rfl]
def xX(B:%[|2]):OkF Ω "places_of" oG 1 Cz wW:=by
 refine aK (N:=Bg) (Bu B) %[|7] ?_;rintro u S W ⟨o,rfl,y,n,p⟩ w;try?;refine aV (λ i b T=>∃f g a,b=[some (.lst (dN o)),some %[|22],f,g]/\T=S++[List.map cL a]/\Plc o i a) %[_,_,[],rfl,rfl,dr _,(λ x h=>by cases h)|λ t j h=>by simp at h] ?_ ?_
 . rintro r s q c _ _ i e b T l ⟨f,g,a,rfl,rfl,hk⟩;obtain⟨t,k,rfl⟩:=Et l;have v:=(z0.mp k).1;have m:=hk.1;try?;refine%[rfl|?_];try?;refine%[some (t:Int),a,rfl,by simp,%[|0]|?_];have e:(S++[a.map cL]).set S.length ((putD a (some (t:Int)) (.int (i:Int))).map cL)=S++[(putD a (some (t:Int)) (.int (i:Int))).map cL]:=by rw[kk _ _ (y9 _)];simp
   rw[e];exact c _ _ _ %[_,_,_,rfl,rfl|hk.put n k]
 . rintro b T ⟨f,g,a,rfl,rfl,hk⟩;have e:((dN o).mapIdx λ i d=>D.tup [.int i,d]).length=o.length:=by rw[List.length_mapIdx,d8]
   rw[e]at hk;try?;exact p _ hk
def cQ(h:o.Perm %[|18]):iW n o:=%[λ t a=>df.mp (h.mem_iff.mp a)|h.nodup_iff.mpr np]
def gn(h:o.Perm %[|18]):o.length=n:=h.length_eq.trans ja
def uP(h:o.Perm %[|18])(a:t<n):t∈o:=h.mem_iff.mpr (df.mpr a)
def jF(h:t∈o):o[o.idxOf t]? =some t:=by have a:=i8 h;rw[y3 a,mE a]
def brk(o:ae3)(l:List Pr):Option (Nat×Nat):=(l.find? λ q=>decide (o.idxOf q.2.1<o.idxOf q.1)).map λ q=>(q.1,q.2.1)
def dBr:Option (Nat×Nat)->D
 | none=>.non
 | some q=>.tup [.int (q.1:Int),.int (q.2:Int)]
def Dv(h:q∈bV xs xs.length):q.1<xs.length/\q.2.1<xs.length:=by obtain⟨i,a,h⟩:=ea.mp h;obtain⟨t,b,h⟩:=ea.mp h;have a:=df.mp a;have b:=df.mp b;unfold vp at h;split at h;{split at h;{cases h};{rw[bX]at h;rw[h];exact%[a|by show i+1+t<xs.length;omega]}};{cases h}
def Ae{a:Type}{l:List a}{x}(h:l[i]? =some x)(f:a->Bool)(b:(l.take i).find? f=none):(l.take (i+1)).find? f=if f x=true then some x else none:=by rw[aH h,oT,b];simp[eM];cases f x<;>rfl
def QK{a:Type}{l:List a}{x}(h:l[i]? =some x)(f:a->Bool)(b:(l.take i).find? f=none)(c:f x=true):l.find? f=some x:=by have e:l=l.take (i+1)++l.drop (i+1):=(fh _ _).symm;rw[e,oT,Ae h f b,ca c];rfl
inductive c_broken(ds:List D)(S:Store)(W:WD):Prop
 | mk(p:Pg)(m:Nat)(o:ae3):ds=[dPg p,.lst (dN o)]->PgB m p->12<=m->m<=60->flat S->o.Perm (List.range %[|12])->W (dBr (brk o (bV ((ao p).map crs) %[|12]))) S->c_broken ds S W
def Ji(k:qZ Ω Es)(r:eQ Ω Ew)(n:jj Ω wW):OkF Ω "broken" vK 8 oV c_broken:=by
 refine aK (N:=Mj) (Bl.drp (MF k r n)) %[|7] ?_;rintro X S W ⟨p,m,o,rfl,y,b,c,w,s,v⟩ j;have Y:=dX y b c;have B:=gn s;try?;refine%[rfl,p,m,o,rfl,y,b,c,w,B,cQ s|?_];try?;refine%[rfl,o,rfl,%[|0],(cQ s).2|λ f hk=>?_];have J:=We hk.2.1;have I:flat (S++[f.map cL]):=λ l j=>by rcases cq.mp j with j | j;{exact w l j};{rw[bX.mp j];exact J}
 try?;refine%[rfl,p,m,rfl,y,b,c,I|.inl ?_];have L:((ao p).map crs).length=%[|12]:=y7 _;rw[<-L]at v s ⊢;generalize (ao p).map crs=xs at*;have a:∀t,t<xs.length->aC f (some (t:Int))=some (.int ((o.idxOf t:Nat):Int)):=λ t O=>hk.2.2 t _ (by rw[cS];exact jF (uP s O));have G:(S++[f.map cL])[S.length]? =some (f.map cL):=bh _ _;have H:((bV xs xs.length).map dPr).length=(bV xs xs.length).length:=y7 _;try?;refine aV (λ i g T=>(∃D E F,g=[some (dPg p),some (.lst (dN o)),some %[|22],D,E,F])/\T=S++[f.map cL]/\((bV xs xs.length).take i).find? (λ q=>decide (o.idxOf q.2.1<o.idxOf q.1))=none) %[%[_,_,_|rfl],rfl|rfl] ?_ ?_
 . rintro U V R x A K i d g T M ⟨⟨D,E,F,rfl⟩,rfl,u⟩;obtain⟨q,C,rfl⟩:=bR M;obtain⟨P,Q⟩:=Dv (y4 C);try?;refine%[rfl|?_];try?;refine%[some (q.1:Int),f,rfl,G,_,a _ P|?_];try?;refine%[some (q.2.1:Int),f,rfl,G,_,a _ Q|?_];try?;by_cases h:o.idxOf q.2.1<o.idxOf q.1
   . refine%[λ _=>?_|λ z=>?_]
     . have e:brk o (bV xs xs.length)=some (q.1,q.2.1):=by unfold brk;rw[QK C _ u (cb h)];rfl
       rw[e]at v;try?;exact A _ _ (.inr %[_,S,rfl,y9 _,rfl,w|v])
     {have:=fe z;omega}
   {refine%[λ z=>?_|λ _=>?_];{have:=ck z;omega};{try?;refine x _ _ _ %[%[_,_,_|rfl],rfl|?_];rw[Ae C _ u,bP (by rw[cE h];exact y6)]}}
 . rintro g T ⟨⟨D,E,F,rfl⟩,rfl,u⟩;rw[H,cS]at u;have e:brk o (bV xs xs.length)=none:=by unfold brk;rw[u];rfl
   rw[e]at v;try?;exact .inr %[_,S,rfl,y9 _,rfl,w|v]
def swp(o:ae3)(v a b:Nat):List Nat:=o.take v++[b,a]++o.drop (v+2)
def YL(h1:o[v]? =some a)(h2:o[v+1]? =some b):(dN o).take v++[D.int (b:Int),D.int (a:Int)]++(dN o).drop (v+2)=dN (swp o v a b):=by unfold swp dN;rw[cf,cf,lS,oQ];rfl
def swap_perm(h1:o[v]? =some a)(h2:o[v+1]? =some b)(f:o.Perm %[|18]):(swp o v a b).Perm %[|18]:=by
 refine List.Perm.trans ?_ f;obtain⟨g,c⟩:=z0.mp h1;obtain⟨h,d⟩:=z0.mp h2;have e:o=o.take v++[a,b]++o.drop (v+2):=by rw[ci];show o=o.take v++(a::b::o.drop (v+1+1));rw[<-d,<-gc h,<-c,<-gc g,fh]
 unfold swp;conv=>rhs;rw[e]
 exact List.Perm.append_right _ (List.Perm.append_left _ (List.Perm.swap _ _ _))
def tN(xs:List CR)(a b:Nat):Bool:=match xs[a]?,xs[b]? with
 | some x,some y=>ir x y
 | _,_=>false
def xM(xs:List CR)(a b:Nat):tN xs a b=tN xs b a:=by unfold tN;cases xs[a]?<;>cases xs[b]?<;>first | rfl | exact zV _ _
def Lw{x y:CR}(c:xs[a]? =some x)(d:xs[b]? =some y):tN xs a b=ir x y:=by unfold tN;rw[c,d]
def Kpt(xs:List CR)(l:ae3):Prop:=l.Pairwise λ a b=>a<b\/tN xs a b=false
def Kpt.range(xs:List CR)(n:Nat):Kpt xs %[|18]:=k8.imp λ h=>.inl h
def Vg{l}{a b:Nat}(h1:l[v]? =some a)(h2:l[v+1]? =some b):l=l.take v++(a::b::l.drop (v+2)):=by obtain⟨e,c⟩:=z0.mp h1;obtain⟨f,d⟩:=z0.mp h2;rw[<-d,<-gc f,<-c,<-gc e,fh]
def Ln(a b:CR):(!(ssC a b).isEmpty)=ir a b:=by rw[<-YF,show((ssC a b).map cD).isEmpty=(tch a b).isEmpty from Fb (tch a b),KZ]
def PL{a b:CR}(h:i<j)(f:xs[i]? =some a)(d:xs[j]? =some b)(c:ir a b=true):(i,j,ssC a b)∈bV xs xs.length:=by have g:=(z0.mp d).1;refine ea.mpr %[i,df.mpr %[|0]|ea.mpr %[j-(i+1),df.mpr %[|0]|?_]];rw[show i+1+(j-(i+1))=j from %[|0],yS f d,bP];{exact bX.mpr rfl};{rw[<-Ln]at c;intro e;rw[e]at c;cases c}
def Ry(h:q∈bV xs xs.length):q.1<q.2.1/\∃a b,xs[q.1]? =some a/\xs[q.2.1]? =some b/\ir a b=true:=by
 obtain⟨i,c,h⟩:=ea.mp h;obtain⟨t,f,h⟩:=ea.mp h;have c:=df.mp c;have f:=df.mp f;have d:i+1+t<xs.length:=%[|0]
 rw[yS (y3 c) (y3 d)]at h;split at h;{cases h}
 . rename_i z;rw[bX]at h;subst h;refine%[by show i<i+1+t;omega,_,_,y3 c,y3 d|?_];rw[<-Ln]
   cases e:(ssC xs[i] xs[i+1+t]).isEmpty with
   | true=>exact absurd e z
   | false=>rfl
def Kpt.sw(h:Kpt xs (a++x::y::b))(g:tN xs x y=false):Kpt xs (a++y::x::b):=by unfold Kpt at h ⊢;rw[lv]at h ⊢;obtain⟨i,e,j⟩:=h;rw[gi,gi]at e;obtain⟨k,l,m⟩:=e;rw[gi,gi];refine%[i,%[λ z d=>?_,λ z d=>k z (x4 _ d)|m]|λ c f z d=>j c f z ((List.Perm.swap x y b).mem_iff.mp d)];rcases cr.mp d with rfl | d;{exact .inr (by rw[xM];exact g)};{exact l z d}
def Xp(f:o.Perm (List.range xs.length)):brk o (bV xs xs.length)=none↔Kpt xs o:=by
 have g:=(cQ f).2;unfold brk Kpt;rw[Option.map_eq_none_iff,kM,fm];constructor
 . intro h i j p k d;by_cases c:o[i]<o[j];{exact .inl c}
   . right
     cases t:tN xs o[i] o[j]with
     | false=>rfl
     | true=>exfalso;have D:o[i]≠o[j]:=λ e=>ni g d k (by rw[y3 p,y3 k,e]);rw[xM]at t;unfold tN at t;split at t;{rename_i x y s u;refine h _ (PL %[|0] s u t) (cb ?_);show o.idxOf o[i]<o.idxOf o[j];rw[g.idxOf_getElem,g.idxOf_getElem];exact d};{cases t}
 {intro h q l e;have e:=ck e;obtain⟨C,a,b,m,n,r⟩:=Ry l;obtain⟨v,w⟩:=Dv l;have A:=i8 (uP f v);have B:=i8 (uP f w);have:=h _ _ B A e;rw[mE,mE]at this;rcases this with z | z;{omega};{rw[Lw n m,zV,r]at z;cases z}}
def muN:List Nat->Nat
 | []=>0
 | x::l=>l.countP (λ y=>decide (y<x))+muN l
def J8(h:y<x)(b:ae3):∀a:List Nat,muN (a++y::x::b)<muN (a++x::y::b):=by
 intro a
 induction a with
 | nil=>show(x::b).countP _+(b.countP _+muN b)<(y::b).countP _+(b.countP _+muN b);rw[List.countP_cons,List.countP_cons,bP %[|14],ca (cb h)];omega
 | cons c a d=>show(a++y::x::b).countP _+muN (a++y::x::b)<(a++x::y::b).countP _+muN (a++x::y::b);rw[((List.Perm.swap x y b).append_left a).countP_eq];omega
def desc{l:ae3}(nd:l.Nodup):l.Pairwise (· <·)\/∃a x y b,l=a++x::y::b/\y<x:=by
 induction l with
 | nil=>exact .inl .nil
 | cons x l f=>
   rw[gN]at nd;rcases f nd.2 with h | ⟨a,u,v,b,rfl,e⟩
   . cases l with
     | nil=>exact .inl (js _ _)
     | cons y b=>by_cases c:y<x;{exact .inr %[[],x,y,b,rfl|c]};{have g:x≠y:=λ e=>nd.1 (by rw[e];exact x6);refine .inl (gi.mpr %[λ z d=>?_|h]);rcases cr.mp d with rfl | d;{omega};{have:=(gi.mp h).1 z d;omega}}
   {exact .inr %[x::a,u,v,b,rfl|e]}
def reach{K:List Nat->Prop}(d:K %[|18])(hs:∀a x y b,(a++x::y::b).Perm %[|18]->K (a++x::y::b)->tN xs x y=false->K (a++y::x::b)):∀(m:Nat)(o:ae3),muN o<=m->o.Perm %[|18]->Kpt xs o->K o:=by
 intro m
 induction m with
 | zero=>intro o l c _;rcases desc (cQ c).2 with h | ⟨a,x,y,b,rfl,e⟩;{rw[c.eq_of_pairwise (λ x y _ _ j k=>by omega) h k8];exact d};{have:=J8 e b a;omega}
 | succ m p=>
   intro o l c g;rcases desc (cQ c).2 with h | ⟨a,x,y,b,rfl,e⟩;{rw[c.eq_of_pairwise (λ x y _ _ j k=>by omega) h k8];exact d}
   . have i:tN xs x y=false:=by have q:=(lv.mp g).2.1;rcases(gi.mp q).1 y x6 with z | z;{omega};{exact z}
     have r:=J8 e b a;have f:(a++y::x::b).Perm %[|18]:=((List.Perm.swap x y b).append_left a).trans c;exact hs a y x b f (p _ %[|0] f (g.sw i)) (by rw[xM];exact i)
def MJ(n:Nat):DL.upTo 0 n=dN %[|18]:=by unfold DL.upTo dN;refine kF λ k _=>?_;rw[Int.zero_add]
inductive c_plain(ds:List D)(S:Store)(W:WD):Prop
 | mk(p:Pg)(m:Nat):ds=[dPg p]->PgB m p->12<=m->m<=60->flat S->W (.loc S.length) (S++[dN (List.range %[|12])])->c_plain ds S W
def Ms(B:%[|2])(a:aP Ω mG):OkF Ω "plain" zJ 5 Dp c_plain:=by refine aK (N:=Dp) (Pk B a) %[|7] ?_;rintro g S W ⟨p,m,rfl,d,b,c,e,f⟩ i;have h:=dX d b c;try?;refine%[rfl|qH d e ?_];try?;refine%[%[|24]|.inr ?_];rw[dk,MJ];exact f
section
variable{S R:Store}{a b z:List D}{n:Nat}
def t_a(h:n=S.length):(S++[a,b])[n]? =some a:=by subst h;simp
def t_b(h:n=S.length):(S++[a,b])[n+1]? =some b:=by subst h;simp
def acG(h:n=S.length):(S++[a,b]).set n z=S++[z,b]:=by subst h;rw[kk _ _ (y9 _),nX];rfl
def acJ(h:n=S.length):(S++[a,b]).set (n+1) z=S++[a,z]:=by subst h;rw[kk _ _ %[|0],show S.length+1-S.length=1 from %[|0]];rfl
end
def QL(b:o.Nodup)(a:t∈o)(d:m<o.idxOf t)(f:o[m]? =some u):u≠t:=by intro e;subst e;have c:=i8 a;exact ni b d c (by rw[f,jF a])
def abT{P:Nat->Prop}(b:o.Nodup)(a:t∈o)(w:P (o.idxOf t)):bW (dN o)=true/\okD (vw S (.int (t:Int)))=true/\aR (dN o)<=50/\∃(j:Nat) (y:D),(dN o)[j]? =some y/\eqD y (vw S (.int (t:Int)))=true/\(∀(m:Nat)(z:D),m<j->(dN o)[m]? =some z->eqD z (vw S (.int (t:Int)))=false)/\P j:=by refine%[by rw[iH];exact lD _,rfl,by rw[iH,gH];omega,o.idxOf t,_,CV (jF a),?_,λ m z c e=>?_|w];{show eqD (.int (t:Int)) (.int (t:Int))=true;simp[eqD]};{obtain⟨u,d,rfl⟩:=Gm e;have:=QL b a c d;show eqD (.int (u:Int)) (.int (t:Int))=false;simp[eqD];omega}
def abq{l}{P:Nat->Prop}(b:S[k]? =some (dN l))(a:l.Nodup)(c:t∈l)(w:P (l.idxOf t)):∃ds,S[k]? =some ds/\bW ds=true/\okD (vw S (.int (t:Int)))=true/\aR ds<=50/\∃(j:Nat) (y:D),ds[j]? =some y/\eqD y (vw S (.int (t:Int)))=true/\(∀(m:Nat)(z:D),m<j->ds[m]? =some z->eqD z (vw S (.int (t:Int)))=false)/\P j:=%[_,b|abT a c w]
def MK{l:ae3}(h:j<l.length):(l[j]::l.eraseIdx j).Perm l:=by rw[kG];refine(List.perm_middle (l₁:=l.take j)).symm.trans ?_;rw[<-gc h,fh]
def Xd(hi:Int)(n:Nat):∃es:%[|8],qT hi n=es.map .int/\es.length=n:=%[%[|18].map λ(k:Nat)=>hi-(k:Int),by unfold qT;rw[de];rfl|by simp]
inductive c_led(ds:List D)(S:Store)(W:WD):Prop
 | mk(p:Pg)(m:Nat)(o:ae3):ds=[dPg p,.lst (dN o)]->PgB m p->12<=m->m<=60->flat S->o.Perm (List.range %[|12])->(brk o (bV ((ao p).map crs) %[|12])=none->∀es:%[|8],W (.loc S.length) (S++[es.map .int]))->(brk o (bV ((ao p).map crs) %[|12])≠none->W .non S)->c_led ds S W
inductive LedA(S:Store)(p:Pg)(o:ae3)(i:Nat)(Γ':Gam)(T:Store):Prop
 | mk(r:ae3)(es:ae0)(o4 o5 o6:Option D):T=S++[dN r,es.map .int]->(o.take i++r).Perm o->es.length<=i*60->Γ'=[some (dPg p),some (.lst (dN o)),%[|19],some (.loc (S.length+1)),o4,o5,o6]->LedA S p o i Γ' T
def Wa(B:%[|2])(f:lE Ω c_plain)(d:di Ω c_broken):OkF Ω "led" KJ 9 oV c_led:=by
 refine aK (N:=W0) (Bl.owq (Ye B f d)) %[|7] ?_;rintro I S W ⟨p,m,o,rfl,u,a,b,v,k,V,F⟩ hl;have hN:=dX u a b;have R:=gn k;have L:=(cQ k).2;try?;refine%[rfl,p,m,o,rfl,u,a,b,v,k|?_]
 cases J:brk o (bV ((ao p).map crs) %[|12])with
 | some q=>try?;exact .inl (F (by rw[J];exact λ z=>nomatch z))
 | none =>
   have G:=V J;try?;refine%[rfl,p,m,rfl,u,a,b,v|?_];try?;rw[show(S++[dN (List.range %[|12])]).length=S.length+1 from by simp,show S++[dN (List.range %[|12])]++[([]:List D)]=S++[dN (List.range %[|12]),([]:%[|8]).map D.int]from by simp];refine aV (LedA S p o) %[_,[],_,_,_,rfl,k.symm,dr _|rfl] ?_ ?_
   . rintro I1 R1 B1 t _ _ i e H T O ⟨r,s,X,Y,Z,rfl,h,C,rfl⟩;obtain⟨x,n,rfl⟩:=Et O;have P:=(z0.mp n).1;have c:x∈r:=by have Q:x∈o.take i++r:=h.mem_iff.mpr (y4 n);refine(cq.mp Q).resolve_left λ z=>?_;obtain⟨j,l⟩:=cw z;rw[eR]at l;split at l;{exact ni L (by assumption) P (by rw[l,n])};{cases l}
     have U:r.length<=60:=by have:=h.length_eq;rw[x8]at this;omega
     have g:=i8 c;have E:r.Nodup:=(i5.mp (h.nodup_iff.mpr L)).2.1;have K:s.length<=3600:=%[|0]
     have w:(((i:Int)+(r.idxOf x:Int)-1)-((i:Int)-1)).toNat=r.idxOf x:=%[|0]
     obtain⟨I,A,y⟩:=Xd ((i:Int)+(r.idxOf x:Int)-1) (r.idxOf x);try?;refine%[rfl|?_];try?;refine abq (t_a rfl) E c ?_;try?;refine%[rfl,%[%[|0],%[|0],%[|0],%[|0]|%[|0]]|?_];rw[w,A];refine%[_,_,t_b rfl,rfl,by rw[y7,y7,y];omega|?_];rw[acJ rfl,<-cf];try?;refine%[r.idxOf x,_,_,rfl,t_a rfl,CV (jF c),by rw[d8];omega|?_];rw[acG rfl];try?;refine t _ _ _ %[r.eraseIdx (r.idxOf x),s++I,_,_,_,?_,?_,?_|rfl];{rw[show(dN r).eraseIdx (r.idxOf x)=dN (r.eraseIdx (r.idxOf x))from by unfold dN;rw[kG,kG,cf,lS,oQ]]}
     . have M:(x::r.eraseIdx (r.idxOf x)).Perm r:=by have e:=MK g;rw[mE g]at e;exact e
       rw[aH n,ci];exact(M.append_left _).trans h
     {rw[x8];omega}
   {rintro H T ⟨r,s,X,Y,Z,rfl,h,C,rfl⟩;try?;exact .inr %[false,_,S,S.length+1,_,rfl,rfl,y9 _,hZ _,t_b rfl,aZ _,v|G _]}
abbrev Cel:=%[|15]
abbrev Fz:=List (Cel×Int)
def eU(fa:Fz)(c:Cel):Option Int:=(fa.find? %[|39]).map (·.2)
def qQ(fa:Fz)(c:Cel)(v:Int):Fz:=if(fa.any %[|39])=true then fa.map λ kv=>if kv.1=c then(kv.1,v)else kv else fa++[(c,v)]
def fQ(fa:Fz):Kc:=fa.map λ kv=>(kv.1,D.int kv.2)
def rG(a:Fz)(c:Cel):aC (fQ a) c=(eU a c).map D.int:=by unfold aC eU fQ;rw[List.find?_map];show Option.map _ (Option.map _ (a.find? %[|39]))=_;cases a.find? %[|39]<;>rfl
def Tu(a:Fz)(c:Cel)(v:Int):putD (fQ a) c (.int v)=fQ (qQ a c v):=by unfold putD qQ fQ;rw[List.any_map];show(if(a.any %[|39])=true then _ else _)=_;split;{rw[de,de];refine kF λ kv _=>?_;show(if kv.1=c then(kv.1,D.int v)else(kv.1,D.int kv.2))=_;by_cases e:kv.1=c;{rw[ca e];show _=((if kv.1=c then(kv.1,v)else kv).1,D.int (if kv.1=c then(kv.1,v)else kv).2);rw[ca e]};{rw[bP e];show _=((if kv.1=c then(kv.1,v)else kv).1,D.int (if kv.1=c then(kv.1,v)else kv).2);rw[bP e]}};{rw[cf];rfl}
def fzD(fa:Fz):List D:=.non::(fQ fa).map encC
def mH(x:Int)(fa:Fz)(kv:Cel×Int):Fz:=qQ fa kv.1 ((eU fa kv.1).getD 0+x*kv.2)
def eY(fa:Fz)(x:Int)(mo:Fz):Fz:=mo.foldl (mH x) fa
def RX{a:Fz}(h:a[i]? =some c):eY b x (a.take (i+1))=mH x (eY b x (a.take i)) c:=by unfold eY;rw[aH h,gL];rfl
def Vt(a:Fz)(c:Cel)(v:Int):(qQ a c v).length<=a.length+1:=by unfold qQ;split<;>simp
def Tw(x:Int)(a:Fz):∀fa:Fz,(eY fa x a).length<=fa.length+a.length:=by
 induction a with
 | nil=>intro fa;exact y9 _
 | cons kv a d=>intro fa;have c:=d (mH x fa kv);have f:=Vt fa kv.1 ((eU fa kv.1).getD 0+x*kv.2);have e:eY fa x (kv::a)=eY (mH x fa kv) x a:=rfl;have b:mH x fa kv=qQ fa kv.1 ((eU fa kv.1).getD 0+x*kv.2):=rfl;rw[e,dS];rw[b]at c ⊢;omega
inductive c_addT(ds:List D)(S:Store)(W:WD):Prop
 | mk(f m:Nat)(x:Int)(fa mo:Fz):ds=[.dlo f,.int x,.dlo m]->f≠m->S[f]? =some (fzD fa)->S[m]? =some (fzD mo)->fa.length+mo.length<=1000->Grt x->(∀kv∈mo,Grt kv.2)->W .non (S.set f (fzD (eY fa x mo)))->c_addT ds S W
def yz:OkF Ω "add_times" oF 1 BX c_addT:=by
 refine aK (N:=Bp) (BZ) %[|7] ?_;rintro A S W ⟨f,m,x,b,a,rfl,l,q,t,s,z,p,y⟩ B;have d:=(z0.mp q).1;have u:S.set f (fzD b)=S:=by refine kw λ i=>?_;by_cases e:f=i;{subst e;rw[fq d,q]};{rw[en e]}
 try?;refine%[fQ a,t|K1 %[λ i c T=>∃h j,T=S.set f (fzD (eY b x (a.take i)))/\c=[some (.dlo f),some (.int x),some (.dlo m),h,j],%[_,_,by rw[List.take_zero];exact u.symm|rfl],?_,?_|?_]];{rintro i c T ⟨h,j,rfl,rfl⟩;rw[en l];exact t}
 . rintro i kv c T o ⟨h,j,rfl,rfl⟩;obtain⟨kv,r,rfl⟩:=bR o;have v:=Tw x (a.take i) b;have w:(a.take i).length<=a.length:=by rw[e8];omega
   have g:(S.set f (fzD (eY b x (a.take i))))[f]? =some (fzD (eY b x (a.take i))):=fq d;have n:=p kv (y4 r);try?;refine%[rfl|?_];try?;refine%[by rw[List.length_set];exact d|?_];try?;refine%[kv.1,fQ (eY b x (a.take i)),rfl,g|?_];have k:(aC (fQ (eY b x (a.take i))) kv.1).getD (D.int 0)=D.int ((eU (eY b x (a.take i)) kv.1).getD 0):=by rw[rG];cases eU (eY b x (a.take i)) kv.1<;>rfl
   walk_at "n";refine%[%[z|n]|?_];rw[k];try?;refine%[kv.1,fQ (eY b x (a.take i)),rfl,g|?_];refine%[by show(List.map _ _).length<1000000;rw[y7];omega|?_];refine%[_,_,?_|rfl];rw[List.set_set,RX r,Tu];rfl
 {rintro c T ⟨h,j,rfl,rfl⟩;have e:(fQ a).length=a.length:=y7 ..;rw[e,cS];exact y}
inductive c_theld(ds:List D)(S:Store)(W:WD):Prop
 | mk(c:Cel)(h:Nat)(kvs:Kc):ds=[cD c,.dlo h]->S[h]? =some (.non::kvs.map encC)->W ((aC kvs c).getD (.tup [.int 0,%[|22]])) (S++[fzD [(c,1)]])->c_theld ds S W
def vO:OkF Ω "trace_held" mF 1 yN c_theld:=by refine aK (N:=yN) (xF) %[|7] ?_;rintro f S W ⟨c,h,b,rfl,d,e⟩ g;have a:=(z0.mp d).1;try?;refine%[a|?_];try?;refine%[c,rfl,bh _ _|?_];rw[cg];try?;refine%[c,b,rfl,by rw[x9 a];exact d|?_];exact e
structure FzOk(U:List Cel)(B:Nat)(fa:Fz):Prop where
 nd:(fa.map (·.1)).Nodup
 sub:∀kv∈fa,kv.1∈U
 bd:∀kv∈fa,kv.2.natAbs<=B
def FzOk.nil(U:List Cel)(B:Nat):FzOk U B []:=%[iA,(λ _ h=>nomatch h)|(λ _ h=>nomatch h)]
def FzOk.mono(h:FzOk U A a)(b:A<=B):FzOk U B a:=%[h.nd,h.sub|λ d c=>cK (h.bd d c) b]
def Xq{f}{v}(h:FzOk U B f)(m:c∈U)(k:v.natAbs<=B):FzOk U B (qQ f c v):=by
 unfold qQ;split
 . refine%[?_,λ kv d=>?_|λ kv d=>?_]
   . rw[de];have e:f.map ((λ x:Cel×Int=>x.1) ∘ λ kv=>if kv.1=c then(kv.1,v)else kv)=f.map (·.1):=kF λ kv _=>by show(if kv.1=c then(kv.1,v)else kv).1=kv.1;split<;>rfl
     rw[e];exact h.nd
   {obtain⟨z,g,rfl⟩:=bS.mp d;split;{exact h.sub z g};{exact h.sub z g}};{obtain⟨z,g,rfl⟩:=bS.mp d;split;{exact k};{exact h.bd z g}}
 {rename_i i;have i:∀kv∈f,kv.1≠c:=λ kv d e=>i (ip.mpr %[kv,d|cb e]);refine%[?_,λ kv d=>?_|λ kv d=>?_];{rw[cf,i5];refine%[h.nd,by simp|λ a l b j e=>?_];obtain⟨kv,d,rfl⟩:=bS.mp l;rw[cn,l0,bX]at j;exact i kv d (e.trans j)};{rcases cq.mp d with d | d;{exact h.sub kv d};{rw[bX.mp d];exact m}};{rcases cq.mp d with d | d;{exact h.bd kv d};{rw[bX.mp d];exact k}}}
def V2(h:FzOk U B a)(c:Cel):((eU a c).getD 0).natAbs<=B:=by
 unfold eU
 cases q:a.find? %[|39]with
 | none=>exact dr _
 | some kv=>exact h.bd kv (kz q)
def QF(h:FzOk U A a)(b:kv.1∈U)(d:x.natAbs<=X)(c:kv.2.natAbs<=B):FzOk U (A+X*B) (mH x a kv):=by
 refine Xq (h.mono (fI _ _)) b ?_;have e:=V2 h kv.1;have f:(x*kv.2).natAbs<=X*B:=by rw[oz];exact lh d c
 have g:=pb ((eU a kv.1).getD 0) (x*kv.2);omega
def Yh(g:x.natAbs<=X)(hs:∀kv∈a,kv.1∈U)(d:∀kv∈a,kv.2.natAbs<=B):∀{A:Nat}{b:Fz},FzOk U A b->FzOk U (A+a.length*(X*B)) (eY b x a):=by
 induction a with
 | nil=>intro A b h;exact h.mono %[|0]
 | cons kv a i=>intro A b h;have e:=QF h (hs kv x6) g (d kv x6);have f:=i (λ z c=>hs z (x4 _ c)) (λ z c=>d z (x4 _ c)) e;refine f.mono ?_;rw[dS,l4];omega
def sub_len{b:Type}[DecidableEq b]{l:List b}(nd:l.Nodup):∀{U:List b},(∀x∈l,x∈U)->l.length<=U.length:=by
 induction l with
 | nil=>intro U _;exact dr _
 | cons a l f=>intro U h;rw[gN]at nd;have c:=h a x6;have:=f nd.2 (U:=U.erase a) λ x d=>(List.mem_erase_of_ne (λ e:x=a=>nd.1 (e▸d))).mpr (h x (x4 _ d));rw[kC c]at this;have:0<U.length:=List.length_pos_of_mem c;rw[dS];omega
def FzOk.len(h:FzOk U B a):a.length<=U.length:=by
 have:=sub_len h.nd (U:=U) λ x c=>by obtain⟨d,b,rfl⟩:=bS.mp c;exact h.sub d b
 rw[y7]at this;exact this
abbrev Tr:=Int×Fz
def trH(Hf:Cel->Option Tr)(c:Cel):Tr:=(Hf c).getD (0,[(c,1)])
def gG(Hf:Cel->Option Tr)(acc:Tr)(rc:Int×Cel):Tr:=(acc.1+rc.1*(trH Hf rc.2).1,eY acc.2 rc.1 (trH Hf rc.2).2)
def trS(st:Int)(Hf:Cel->Option Tr)(rs:List (Int×Cel)):Tr:=rs.foldl (gG Hf) (st,[])
structure TrOk(U:List Cel)(B:Nat)(t:Tr):Prop where
 n:t.1.natAbs<=B
 z:FzOk U B t.2
def uJ(U:List Cel)(B:Nat)(Hf:Cel->Option Tr):Prop:=∀c t,Hf c=some t->TrOk U B t
def Q7(h:uJ U B Hf)(b:1<=B)(d:c∈U):TrOk U B (trH Hf c):=by
 unfold trH
 cases q:Hf c with
 | some t=>exact h c t q
 | none=>refine%[dr _,by simp,λ e a=>?_|λ e a=>?_];{rw[bX.mp a];exact d};{rw[bX.mp a];exact b}
def Qa(h:uJ U B Hf)(c:1<=B)(g:U.length<=60)(a:TrOk U A acc)(b:rc.1.natAbs<=X)(d:rc.2∈U):TrOk U (A+60*(X*B)) (gG Hf acc rc):=by
 have t:=Q7 h c d;have i:=t.z.len;refine%[?_|?_]
 . show(acc.1+rc.1*(trH Hf rc.2).1).natAbs<=_;have e:(rc.1*(trH Hf rc.2).1).natAbs<=X*B:=by rw[oz];exact lh b t.n
   have f:=pb acc.1 (rc.1*(trH Hf rc.2).1);have:=a.n;omega
 {refine(Yh b t.z.sub t.z.bd a.z).mono ?_;have:(trH Hf rc.2).2.length*(X*B)<=60*(X*B):=iS _ %[|0];omega}
def RJ(h:uJ U B Hf)(f:1<=B)(g:U.length<=60):∀(rs:List (Int×Cel)),(∀r∈rs,r.1.natAbs<=X/\r.2∈U)->∀{A:Nat}{acc:Tr},TrOk U A acc->TrOk U (A+rs.length*(60*(X*B))) (rs.foldl (gG Hf) acc):=by
 intro rs
 induction rs with
 | nil=>intro _ A acc a;exact%[cK a.n %[|0]|a.z.mono %[|0]]
 | cons r rs j=>
   intro b A acc a;obtain⟨c,d⟩:=b r x6;have:=j (λ z i=>b z (x4 _ i)) (Qa h f g a c d);have e:A+60*(X*B)+rs.length*(60*(X*B))=A+(r::rs).length*(60*(X*B)):=by rw[dS,Nat.add_mul,Nat.one_mul];omega
   rw[e]at this;exact this
def V0{rs:List (Int×Cel)}(h:rs[i]? =some r):trS st Hf (rs.take (i+1))=gG Hf (trS st Hf (rs.take i)) r:=by unfold trS;rw[aH h,gL];rfl
def Uz{a b:Cel}(h:ltC a b=true):ltC b a=false:=PQ h
def Su(l:List Cel):List Cel:=open Classical in if h:∃c:List Cel,c.Perm l/\c.Pairwise %[|41]then h.choose else[]
def Yi{l ks}(h1:ks.Perm l)(h2:ks.Pairwise %[|41]):ks=Su l:=by unfold Su;have c:∃ks:List Cel,ks.Perm l/\ks.Pairwise %[|41]:=%[ks,h1|h2];rw[dif_pos c];obtain⟨d,e⟩:=c.choose_spec;refine List.Perm.eq_of_pairwise (le:=%[|41]) (λ a b _ _ x y=>?_) h2 e (h1.trans d.symm);have:=Uz x;rw[this]at y;cases y
def tel(fz:Fz)(c:Cel):Option (Cel×Int):=if(eU fz c).getD 0=0 then none else some (c,(eU fz c).getD 0)
def telD(kv:Cel×Int):D:=.tup [cD kv.1,.int kv.2]
def tellZ(fz:Fz):List (Cel×Int):=(Su (fz.map (·.1))).filterMap (tel fz)
def gQ(t:Tr):D:=.tup [.int t.1,.lst ((tellZ t.2).map telD)]
def QV{i}(h:i.natAbs<=2 ^ n)(a:n<100000):Grt i:=kK h (Nat.pow_lt_pow_right %[|1] a)
def cJ(x:Dd)(cs:ae0):List (Int×Cel):=x.rds.map λ r=>(r.fac,toC (spot r.tab r.pl cs))
structure HeldR(h:Nat)(S:Store)(held:Kc)(Hf:Cel->Option Tr):Prop where
 at_:∀kv∈held,∃(n:Int) (j:Nat) (fz:Fz),kv.2=.tup [.int n,.dlo j]/\S[j]? =some (fzD fz)/\Hf kv.1=some (n,fz)/\h≠j
 no:∀c,(∀kv∈held,kv.1≠c)->Hf c=none
 nd:(held.map (·.1)).Nodup
def HeldR.look(h:HeldR k S held Hf)(c:Cel):(aC held c=none/\Hf c=none)\/∃(n:Int) (j:Nat) (fz:Fz),aC held c=some (.tup [.int n,.dlo j])/\S[j]? =some (fzD fz)/\Hf c=some (n,fz):=by
 unfold aC
 cases q:held.find? %[|39]with
 | none=>exact .inl %[rfl|h.no c λ kv f e=>by have:=kM.mp q kv f;simp[e]at this]
 | some kv=>
   have e:kv.1=c:=by have:=List.find?_some q;simpa using this
   obtain⟨n,j,fz,a,b,d,_⟩:=h.at_ kv (kz q);exact .inr %[n,j,fz,by show some kv.2=_;rw[a],b|by rw[<-e];exact d]
inductive c_tstep(ds:List D)(S:Store)(W:WD):Prop
 | mk(x:Dd)(cs:ae0)(h:Nat)(held:Kc)(Hf:Cel->Option Tr)(U:List Cel)(B:Nat):ds=[dDd x,dC cs,.lst (x.rds.map λ r=>aN (spot r.tab r.pl cs)),.dlo h]->x.st.2.length<=1000->C64 cs->S[h]? =some (.non::held.map encC)->HeldR h S held Hf->uJ U B Hf->1<=B->B<=2 ^ 50000->U.length<=60->(∀r∈cJ x cs,r.1.natAbs<=2 ^ 100/\r.2∈U)->x.rds.length<=3->(∀J:Store,W (.tup [.int (trS (atC x.st cs) Hf (cJ x cs)).1,%[|22]]) (S++[fzD (trS (atC x.st cs) Hf (cJ x cs)).2]++J))->c_tstep ds S W
def qK(B:%[|2])(k:cu Ω c_comes)(l:fj Ω c_theld)(g:f9 Ω c_addT):OkF Ω "trace_of_step" jq 2 tG c_tstep:=by
 refine aK (N:=tD) (tK B k l g) %[|7] ?_;rintro ds S W ⟨x,a,h,b,Hf,U,B,rfl,w,u,V,hR,R,Q,q,hU,m,h3,hw⟩ hl;have v:=(z0.mp V).1;try?;refine%[rfl,x.st.1,x.st.2,a,rfl,w,u|?_];try?;have ez:List.zipWith (λ x y=>D.tup [x,y]) (x.rds.map dRd) (x.rds.map λ r=>aN (spot r.tab r.pl a))=x.rds.map λ r=>D.tup [dRd r,aN (spot r.tab r.pl a)]:=by rw[List.zipWith_map,List.zipWith_self]
 rw[ez];have p:comesTo x.st.1 x.st.2 a=atC x.st a:=rfl;rw[p];generalize atC x.st a=st at*;refine aV (λ i f T=>∃J G H I,T=S++[fzD (trS st Hf ((cJ x a).take i)).2]++J/\f=[some (dDd x),some (dC a),some (.lst (x.rds.map λ r=>aN (spot r.tab r.pl a))),some (.dlo h),some (.int (trS st Hf ((cJ x a).take i)).1),some %[|22],G,H,I]) %[[],_,_,_,by simp only[fA];rfl|rfl] ?_ ?_
 . rintro I1 R1 B1 s _ _ i e f T he ⟨J,G,H,I,rfl,rfl⟩;obtain⟨r,hr,rfl⟩:=bR he;have d:(cJ x a)[i]? =some (r.fac,toC (spot r.tab r.pl a)):=by unfold cJ;rw[y8,hr];rfl
   obtain⟨hf,t⟩:=m _ (y4 d);have K:TrOk U B (trH Hf (toC (spot r.tab r.pl a))):=Q7 R Q t;have acc:FzOk U _ (trS st Hf ((cJ x a).take i)).2:=(RJ (X:=2 ^ 100) R Q hU ((cJ x a).take i) (λ z C=>m z (iN C)) (A:=st.natAbs) (acc:=(st,[])) %[y9 _|FzOk.nil _ _]).z;have al:=acc.len;have tl:=K.z.len;have M:=V0 (st:=st) (Hf:=Hf) d;generalize trS st Hf ((cJ x a).take i)=t0 at*;rw[show D.tup [dRd r,aN (spot r.tab r.pl a)]=D.tup [dRd r,cD (toC (spot r.tab r.pl a))]from rfl];generalize toC (spot r.tab r.pl a)=c at*;have P:Grt r.fac:=QV hf %[|1];have O:∀z:Int,z.natAbs<=B->Grt z:=λ z C=>QV (cK C q) %[|1];have lT:(S++[fzD t0.2]++J).length=S.length+1+J.length:=%[|14]
   try?;refine%[rfl|?_];try?;refine%[rfl,c,h,b,rfl,by rw[ci,x9 v];exact V|?_];obtain⟨n,j,Z,e2,L,e4⟩:∃(n:Int) (j:Nat),(aC b c).getD (.tup [.int 0,.dlo (S++[fzD t0.2]++J).length])=.tup [.int n,.dlo j]/\(S++[fzD t0.2]++J++[fzD [(c,1)]])[j]? =some (fzD (trH Hf c).2)/\n=(trH Hf c).1/\S.length≠j:=by rcases hR.look c with⟨E,o⟩ | ⟨n,j,fz,E,o,Y⟩;{rw[E];refine%[0,_,rfl,?_,?_|by rw[lT];omega];{rw[bh];unfold trH;rw[o];rfl};{unfold trH;rw[o];rfl}};{have hj:=(z0.mp o).1;rw[E];refine%[n,j,rfl,?_,?_|%[|0]];{rw[ci,ci,x9 hj,o];unfold trH;rw[Y];rfl};{unfold trH;rw[Y];rfl}}
   rw[Z];try?;refine%[%[P|O n (by rw[L];exact K.n)]|?_];try?;have F:∀A:List D,(S++[A]++J++[fzD [(c,1)]])[S.length]? =some A:=λ A=>by rw[ci];exact gJ rfl
   refine%[rfl,S.length,j,r.fac,t0.2,(trH Hf c).2,rfl,e4,F _,e2,%[|0],P,λ kv hk=>O _ (K.z.bd kv hk)|?_];rw[ci,sG rfl];refine s _ _ _ %[J++[fzD [(c,1)]],some (dRd r),some (cD c),some (.tup [.int n,.dlo j]),?_|?_];{rw[M];rfl};{rw[M,L];rfl}
 . rintro f T ⟨J,G,H,I,rfl,rfl⟩;have e:(x.rds.map λ r=>D.tup [dRd r,aN (spot r.tab r.pl a)]).length=(cJ x a).length:=by unfold cJ;rw[y7,y7]
   rw[e,cS];try?;exact hw J
def Tj(h:c∈a.map (·.1)):∃v,eU a c=some v:=by
 unfold eU
 cases q:a.find? %[|39]with
 | some kv=>exact%[kv.2|rfl]
 | none=>obtain⟨kv,b,rfl⟩:=bS.mp h;have:=kM.mp q kv b;simp at this
inductive c_ttrace(ds:List D)(S:Store)(W:WD):Prop
 | mk(n:Int)(j:Nat)(fz:Fz):ds=[.tup [.int n,.dlo j]]->S[j]? =some (fzD fz)->fz.length<64->(fz.map (·.1)).Nodup->W (gQ (n,fz)) S->c_ttrace ds S W
def vZ(B:%[|2]):OkF Ω "told_trace" mQ 1 zc c_ttrace:=by
 refine aK (N:=yu) (zj B) %[|7] ?_;rintro x S W ⟨n,j,a,rfl,h,f,k,s⟩ y;have p:a.map (·.1)=(fQ a).map (·.1):=by unfold fQ;rw[de];rfl
 try?;refine%[a.map (·.1),_,rfl,by rw[y7];exact f,k,.inr %[j,fQ a,rfl,h|p]|λ w m t=>?_];have q:=Yi m t;have u:=m.length_eq;rw[y7]at u;walk_at "n";refine jK %[by rw[y7];omega,λ i b d=>b=((w.take i).filterMap (tel a)).map telD/\S=d,%[rfl|rfl],?_|?_]
 . rintro i e b d r ⟨rfl,rfl⟩;obtain⟨c,g,rfl⟩:=bR r;obtain⟨v,l⟩:=Tj (m.mem_iff.mp (y4 g));have o:tel a c=if v=0 then none else some (c,v):=by unfold tel;rw[l];rfl
   try?;refine%[c,fQ a,rfl,h,.int v,by rw[rG,l];rfl|?_];try?;by_cases z:v=0;{rw[cb z];try?;refine%[?_|rfl];rw[aH g,List.filterMap_append,i9,o,ca z];simp};{rw[cE z];try?;refine%[c,fQ a,rfl,h,.int v,by rw[rG,l];rfl|?_];try?;refine%[?_|rfl];rw[aH g,List.filterMap_append,i9,o,bP z,cf];rfl}
 {rintro b d ⟨rfl,rfl⟩;rw[y7,cS,q];try?;exact s}
def dOf(p:Pg)(s:Stp):Option (Dd×%[|8]):=(p.nss[s.1]?).bind λ n=>(n.dds[s.2.2]?).map λ x=>(x,s.2.1)
def Sw(h:p.nss[i]? =some n):(dJ i n).map (dOf p)=((cnt n.lps).flatMap λ cs=>n.dds.map λ x=>(x,cs)).map some:=by
 unfold dJ;rw[iq,iq];refine jR λ cs _=>?_;rw[de,de];apply lI;{simp}
 . intro s c a;have b:s<n.dds.length:=by simpa using a
   rw[ix,ix,List.getElem_range];show dOf p (i,cs,s)=some (n.dds[s],cs);unfold dOf;rw[h];show(n.dds[s]?).map _=_;rw[y3 b];rfl
def abK(p:Pg):(aO p.nss).map (dOf p)=(ao p).map some:=by
 unfold aO ao;rw[List.map_flatten,iq,List.flatMap_def];congr 1;apply lI;{simp}
 . intro i c a;have b:i<p.nss.length:=by simpa using a
   rw[ix,List.getElem_mapIdx,ix];exact Sw (y3 b)
def M6(h:(ao p)[t]? =some x):∃(s:Stp) (n:Ns),(aO p.nss)[t]? =some s/\p.nss[s.1]? =some n/\n.dds[s.2.2]? =some x.1/\s.2.1=x.2:=by
 have e:((aO p.nss).map (dOf p))[t]? =some (some x):=by rw[abK,y8,h];rfl
 obtain⟨s,c,a⟩:=bR e;obtain⟨n,b,f,d⟩:=Al (y4 c);refine%[s,n,c,b|?_];unfold dOf at a;rw[b]at a;have a:some x=(n.dds[s.2.2]?).map λ x=>(x,s.2.1):=a;rw[y3 d]at a ⊢;have a:=cc a;rw[a];exact%[rfl|rfl]
def xNo:Dd×%[|8]:=(%[0,[],(0,[])|[]],[])
def xAt(p:Pg)(t:Nat):Dd×%[|8]:=((ao p)[t]?).getD xNo
def mW(h:t<%[|12]):(ao p)[t]? =some (xAt p t):=by unfold xAt;rw[y3 h];rfl
def wrH(x:Dd×%[|8]):Cel:=toC (spot x.1.tab x.1.pl x.2)
def nxH(Hf:Cel->Option Tr)(x:Dd×%[|8]):Tr:=trS (atC x.1.st x.2) Hf (cJ x.1 x.2)
def bQ(Hf:Cel->Option Tr)(x:Dd×%[|8]):Cel->Option Tr:=λ c=>if c=wrH x then some (nxH Hf x)else Hf c
def du(xs:List (Dd×%[|8])):Cel->Option Tr:=xs.foldl bQ λ _=>none
structure XOk(U:List Cel)(x:Dd×%[|8]):Prop where
 n2:x.1.st.2.length<=1000
 c64:C64 x.2
 st:(atC x.1.st x.2).natAbs<=2 ^ 100
 rs:∀r∈cJ x.1 x.2,r.1.natAbs<=2 ^ 100/\r.2∈U
 l3:x.1.rds.length<=3
def Gz(x:Dd)(cs:ae0):(cJ x cs).length=x.rds.length:=y7 _
def VF(h:uJ U B Hf)(f:1<=B)(i:U.length<=60)(d:XOk U x):uJ U (2 ^ 108*B) (bQ Hf x):=by
 intro c t a;unfold bQ at a;by_cases e:c=wrH x
 . rw[ca e]at a;cases a;have:=RJ (X:=2 ^ 100) h f i (cJ x.1 x.2) d.rs (A:=2 ^ 100) (acc:=(atC x.1.st x.2,[])) %[d.st|FzOk.nil _ _];have l:(cJ x.1 x.2).length*(60*(2 ^ 100*B))<=3*(60*(2 ^ 100*B)):=iS _ (by rw[Gz];exact d.l3);have b:2 ^ 100+(cJ x.1 x.2).length*(60*(2 ^ 100*B))<=2 ^ 108*B:=by
    have g:2 ^ 108*B=256*(2 ^ 100*B):=by rw[<-Nat.mul_assoc]
    have j:2 ^ 100<=2 ^ 100*B:=Nat.le_mul_of_pos_right _ f;rw[g];generalize 2 ^ 100*B=q at*;omega
   exact%[cK this.n b|this.z.mono b]
 {rw[bP e]at a;have:=h c t a;have b:B<=2 ^ 108*B:=Nat.le_mul_of_pos_left _ (Nat.pow_pos %[|1]);exact%[cK this.n b|this.z.mono b]}
def z6(xs:List (Dd×%[|8]))(x:Dd×%[|8]):du (xs++[x])=bQ (du xs) x:=by unfold du;rw[gL];rfl
def Kr(f:U.length<=60){xs:List (Dd×%[|8])}(h:∀x∈xs,XOk U x):∀i,uJ U (2 ^ (108*i)) (du (xs.take i)):=by
 intro i
 induction i with
 | zero=>intro c t a;cases a
 | succ i d=>
   have j:1<=2 ^ (108*i):=Nat.pow_pos %[|1];have e:2 ^ (108*(i+1))=2 ^ 108*2 ^ (108*i):=by rw[Nat.mul_succ,Nat.pow_add,oi]
   rw[e]
   cases q:xs[i]? with
   | some x=>rw[aH q,z6];exact VF d j f (h x (y4 q))
   | none=>have g:=List.getElem?_eq_none_iff.mp q;rw[db %[|0]];rw[db g]at d;intro c t a;have:=d c t a;have b:2 ^ (108*i)<=2 ^ 108*2 ^ (108*i):=Nat.le_mul_of_pos_left _ (Nat.pow_pos %[|1]);exact%[cK this.n b|this.z.mono b]
def rdU(p:Pg):List Cel:=(ao p).flatMap λ x=>(cJ x.1 x.2).map (·.2)
def YQ:∀{fs cs:ae0},(∀f∈fs,f.natAbs<=99)->(∀c∈cs,c.natAbs<=117)->(List.zipWith (λ a b=>a*b) fs cs).sum.natAbs<=fs.length*11583:=by
 intro fs
 induction fs with
 | nil=>intro cs _ _;simp
 | cons f fs h=>
   intro cs g e
   cases cs with
   | nil=>simp
   | cons c cs=>
     rw[List.zipWith_cons_cons,List.sum_cons,dS];have i:=h (λ z d=>g z (x4 _ d)) (λ z d=>e z (x4 _ d));have j:(f*c).natAbs<=99*117:=by rw[oz];exact lh (g f x6) (e c x6)
     have k:=pb (f*c) (List.zipWith (λ a b=>a*b) fs cs).sum;omega
def SX(h:x∈ao p):∃n∈p.nss,x.2∈cnt n.lps/\x.1∈n.dds:=by unfold ao at h;obtain⟨n,c,h⟩:=ea.mp h;obtain⟨e,a,h⟩:=ea.mp h;obtain⟨d,b,rfl⟩:=bS.mp h;exact%[n,c,a|b]
def Rt(hP:PgB m p)(h:x∈ao p):XOk (rdU p) x:=by
 obtain⟨n,s,g,l⟩:=SX h;obtain⟨hL,_,_,_,i⟩:=hP.2.2.2 n s;obtain⟨_,⟨j,w,C,D⟩,k,u⟩:=i x.1 l;have v:=hL.2.1;have hcs:=mq hL n.lps.length (y9 _) x.2 (by rw[cS];exact g);have B:=vX n.lps.length;refine%[by rw[j];omega,hcs.c64,?_,λ r d=>?_|k]
 . have z:=YQ (fs:=x.1.st.2) (cs:=x.2) (λ f o=>by have:=w f o;omega) (λ c g=>by have:=hcs.2 c g;omega);rw[j]at z;have e:atC x.1.st x.2=x.1.st.1+(List.zipWith (λ a b=>a*b) x.1.st.2 x.2).sum:=rfl;rw[e];generalize (List.zipWith (λ a b=>a*b) x.1.st.2 x.2).sum=q at*;have:n.lps.length*11583<=3*11583:=iS _ v;have:(2:Nat) ^ 100=1267650600228229401496703205376:=%[|1]
   omega
 . refine%[?_|ea.mpr %[x,h|bS.mpr %[r,d|rfl]]];unfold cJ at d;obtain⟨q,t,rfl⟩:=bS.mp d;obtain⟨y,A,_⟩:=u q t;show q.fac.natAbs<=_;have:(2:Nat) ^ 100=1267650600228229401496703205376:=%[|1]
   omega
def Y0(b:PgB m p)(a:12<=m)(d:m<=20):(rdU p).length<=60:=by
 have c:=b.many a;rw[lC]at c;have f:(rdU p).length<=%[|12]*3:=vQ λ x e=>by rw[y7,Gz];exact(Rt b e).l3
 omega
def abg(a:PgB m p)(hO:iW %[|12] o):∀x∈o.map (xAt p),XOk (rdU p) x:=λ x c=>by obtain⟨t,b,rfl⟩:=bS.mp c;exact Rt a (y4 (mW (hO.1 t b)))
def Yw{kvs:Kc}{c:Cel}{kv:Cel×D}(h:kv∈putD kvs c d):(kv.1=c/\kv.2=d)\/(kv∈kvs/\kv.1≠c):=by unfold putD at h;split at h;{obtain⟨z,b,rfl⟩:=bS.mp h;by_cases e:z.1=c;{rw[ca e];exact .inl %[e|rfl]};{rw[bP e];exact .inr %[b|e]}};{rename_i a;rcases cq.mp h with h | h;{exact .inr %[h|λ e=>a (ip.mpr %[kv,h|cb e])]};{rw[bX.mp h];exact .inl %[rfl|rfl]}}
def uR{kvs:Kc}{c:Cel}:(putD kvs c d).map (·.1)=if(kvs.any %[|39])=true then kvs.map (·.1)else kvs.map (·.1)++[c]:=by unfold putD;split;{rw[de];refine kF λ kv _=>?_;show(if kv.1=c then(kv.1,d)else kv).1=kv.1;split<;>rfl};{rw[cf];rfl}
def ZR{kvs:Kc}{c:Cel}(h:(kvs.map (·.1)).Nodup):((putD kvs c d).map (·.1)).Nodup:=by rw[uR];split;{exact h};{rename_i j;rw[i5];refine%[h,by simp|λ a g b f e=>?_];obtain⟨k,i,rfl⟩:=bS.mp g;rw[bX]at f;exact j (ip.mpr %[k,i|cb (e.trans f)])}
def Xg{kvs:Kc}{c:Cel}:c∈(putD kvs c d).map (·.1):=by rw[uR];split;{rename_i b;obtain⟨f,a,e⟩:=ip.mp b;exact bS.mpr %[f,a|ck e]};{simp}
def Xe{kvs:Kc}{c a:Cel}(h:a∈kvs.map (·.1)):a∈(putD kvs c d).map (·.1):=by rw[uR];split;{exact h};{exact fb _ h}
def HeldR.put(h:HeldR k S held Hf)(w:k<S.length){t}(u:t=nxH Hf x){X}:HeldR k ((S++[fzD t.2]++J).set k X) (putD held (wrH x) (.tup [.int t.1,%[|22]])) (bQ Hf x):=by
 refine%[λ f i=>?_,λ c q=>?_|ZR h.nd];{rcases Yw i with⟨g,a⟩ | ⟨b,m⟩;{refine%[t.1,S.length,t.2,a,?_,?_|%[|0]];{rw[en %[|0]];exact gJ rfl};{unfold bQ;rw[ca g,u]}};{obtain⟨n,j,s,g,a,r,p⟩:=h.at_ f b;refine%[n,j,s,g,?_,?_|p];{rw[en p,ci,x9 (z0.mp a).1];exact a};{unfold bQ;rw[bP m];exact r}}}
 . have v:c≠wrH x:=λ e=>by obtain⟨f,b,a⟩:=bS.mp (Xg (kvs:=held) (c:=wrH x) (d:=.tup [.int t.1,%[|22]]));exact q f b (a.trans e.symm)
   unfold bQ;rw[bP v];refine h.no c λ f b e=>?_;obtain⟨o,l,a⟩:=bS.mp (Xe (c:=wrH x) (d:=.tup [.int t.1,%[|22]]) (bS.mpr %[f,b|rfl]));exact q o l (a.trans e)
inductive c_refRow(ds:List D)(S:Store)(W:WD):Prop
 | mk(p:Pg)(m:Nat)(o:ae3):ds=[dPg p,.lst (dN o)]->PgB m p->12<=m->m<=60->flat S->o.length<=60->iW %[|12] o->W .non S->c_refRow ds S W
def pP(a:jB Ω xZ):OkF Ω "refuse_no_row" jo 6 tO c_refRow:=by refine aK (N:=tO) (tL a) %[|7] ?_;rintro i S W ⟨p,m,o,rfl,e,b,c,f,g,d,h⟩ j;try?;refine%[rfl,p,m,o,rfl,e,b,c,f,g,d|?_];try?;exact h
def tvH(Hf:Cel->Option Tr)(c:Cel):D:=gQ ((Hf c).getD (0,[]))
def tlH(Hf:Cel->Option Tr)(held:Kc):Kc:=held.map λ kv=>(kv.1,tvH Hf kv.1)
def De(Hf:Cel->Option Tr)(held:Kc):(tlH Hf held).map (·.1)=held.map (·.1):=by unfold tlH;rw[de];rfl
def Za{kvs:Kc}{c:Cel}(h:c∉kvs.map (·.1)):putD kvs c d=kvs++[(c,d)]:=by unfold putD;rw[bP];intro e;obtain⟨b,a,e⟩:=ip.mp e;exact h (bS.mpr %[b,a|ck e])
def Xw{held:Kc}(nd:(held.map (·.1)).Nodup){kv:Cel×D}(h:held[i]? =some kv):putD (tlH Hf (held.take i)) kv.1 (tvH Hf kv.1)=tlH Hf (held.take (i+1)):=by rw[Za,aH h];{unfold tlH;rw[cf];rfl};{rw[De];intro c;obtain⟨z,d,e⟩:=bS.mp c;obtain⟨j,a⟩:=cw d;have b:=(z0.mp h).1;rw[eR]at a;split at a;{refine ni nd (by assumption) (by rw[y7];exact b) ?_;rw[y8,y8,a,h];show some z.1=some kv.1;rw[e]};{cases a}}
def Vl(hR:HeldR k S held Hf)(c:Cel):aC (tlH Hf held) c=(Hf c).map gQ:=by
 have e:aC (tlH Hf held) c=(held.find? %[|39]).map λ kv=>tvH Hf kv.1:=by unfold aC tlH;rw[List.find?_map,Option.map_map];rfl
 rw[e]
 cases q:held.find? %[|39]with
 | none=>rw[hR.no c λ kv d e=>by have:=kM.mp q kv d;simp[e]at this];rfl
 | some kv=>
   have b:kv.1=c:=by have:=List.find?_some q;simpa using this
   obtain⟨n,j,h,f,g,a,_⟩:=hR.at_ kv (kz q);show some (tvH Hf kv.1)=_;rw[<-b];unfold tvH;rw[a];rfl
def MN(t:Tr):aA (gQ t)=true:=by have:aa ((tellZ t.2).map telD)=true:=fu (λ kv=>by show aa [cD kv.1,.int kv.2]=true;simp only[aa,d6];show(aA (cD kv.1)&&true)=true;rw[d6];show aa [.int kv.1.1,.tup (kv.1.2.map .int)]=true;show(true&&(aa (kv.1.2.map .int)&&true))=true;rw[aZ];rfl) _;show(true&&(aa ((tellZ t.2).map telD)&&true))=true;rw[this];rfl
def Qq(c:Cel):okD (cD c)=true:=by show(true&&(bW (c.2.map .int)&&true))=true;rw[lD];rfl
def W8(t:Tr):okD (gQ t)=true/\deep (gQ t)<=50:=by
 have h:∀l:List (Cel×Int),bW (l.map telD)=true/\aR (l.map telD)<=3:=by
  intro l
  induction l with
  | nil=>exact%[rfl|dr _]
  | cons kv l ih=>
    constructor;{show((okD (cD kv.1)&&(true&&true))&&bW (l.map telD))=true;rw[Qq,ih.1];rfl}
    . show max (max (deep (cD kv.1)) 0+1) (aR (l.map telD))<=3;have:deep (cD kv.1)=2:=by show max 0 (max (aR (kv.1.2.map .int)+1) 0)+1=2;rw[gH];rfl
      have:=ih.2;omega
 obtain⟨a,b⟩:=h (tellZ t.2);constructor;{show(true&&(bW ((tellZ t.2).map telD)&&true))=true;rw[a];rfl};{show max 0 (max (aR ((tellZ t.2).map telD)+1) 0)+1<=50;omega}
structure Told(Hf:Cel->Option Tr)(tl:Kc):Prop where
 nd:(tl.map (·.1)).Nodup
 lk:∀c,aC tl c=(Hf c).map gQ
 vl:∀kv∈tl,(Hf kv.1).map gQ=some kv.2
 ok:ac0 tl
 nl:aa (.non::tl.map encC)=true
def XS(hR:HeldR k S held Hf):Told Hf (tlH Hf held):=by
 refine%[by rw[De];exact hR.nd,Vl hR,λ b a=>?_,λ b a=>?_|?_];{unfold tlH at a;obtain⟨z,f,rfl⟩:=bS.mp a;obtain⟨n,j,g,_,_,c,_⟩:=hR.at_ z f;show(Hf z.1).map gQ=some (tvH Hf z.1);unfold tvH;rw[c];rfl};{unfold tlH at a;obtain⟨z,_,rfl⟩:=bS.mp a;exact W8 _}
 . show(true&&aa ((tlH Hf held).map encC))=true;rw[im];refine gO λ d e=>?_;obtain⟨b,a,rfl⟩:=bS.mp e;unfold tlH at a;obtain⟨z,_,rfl⟩:=bS.mp a;show(aA (cD z.1)&&(aA (gQ _)&&true))=true;rw[MN];have:aA (cD z.1)=true:=by show(true&&(aa (z.1.2.map .int)&&true))=true;rw[aZ];rfl
   rw[this];rfl
inductive c_traced(ds:List D)(S:Store)(W:WD):Prop
 | mk(p:Pg)(m:Nat)(o:ae3):ds=[dPg p,.lst (dN o)]->PgB m p->12<=m->m<=20->flat S->iW %[|12] o->(∀tl:Kc,Told (du (o.map (xAt p))) tl->tl.length<=60->W %[|22] (S++[.non::tl.map encC]))->c_traced ds S W
def Ja(B:dR Ω c_steps)(y:dw Ω c_deedof)(w:bJ Ω c_cellsOf)(A:dH Ω c_refRow)(E:dD Ω c_tstep)(C:fH Ω c_ttrace):OkF Ω "traced" wG 7 tO c_traced:=by
 refine aK (N:=Ou) (Bl.owq (Mp B y w A E C)) %[|7] ?_;rintro ds S W ⟨p,m,o,rfl,u,f,Y,H,hO,hw⟩ hl;have k:m<=60:=%[|0]
 have hN:=dX u f k;have ho:o.length<=60:=by have:=sub_len hO.2 (U:=List.range %[|12]) λ t v=>df.mpr (hO.1 t v);rw[ja]at this;omega
 have hU:=Y0 u f Y;have hX:=abg u hO;try?;refine%[rfl,p,m,o,rfl,u,f,k,H,ho,hO|?_];try?;refine%[rfl|Rb u f k H (.inl ?_)];try?;refine%[rfl|pY u f k H ?_];rw[gC];try?;refine aV (λ i b T=>∃J a I K,T=%[|31]++J/\HeldR S.length T a (du ((o.map (xAt p)).take i))/\a.length<=i/\b=[some (dPg p),some (.lst (dN o)),some (.lst ((aO p.nss).map dSt)),some (.lst ((ao p).map λ x=>dCR (crs x))),some %[|22],I,K,none,none,none]) %[[],[],_,_,by simp,%[(λ _ h=>nomatch h),λ _ _=>rfl|iA],y9 _|rfl] ?_ ?_
 . rintro I1 R1 B1 aa _ _ i e b T he ⟨J,a,I,K,rfl,l,s,rfl⟩;obtain⟨t,v,rfl⟩:=Gm he;have ae:=hO.1 t (y4 v);have hi:=(z0.mp v).1;have hx:=mW ae;have g:=hX (xAt p t) (bS.mpr %[t,y4 v|rfl]);have c:=Kr hU hX i;have Z:2 ^ (108*i)<=2 ^ 50000:=Nat.pow_le_pow_right %[|1] %[|0];have R:du ((o.map (xAt p)).take (i+1))=bQ (du ((o.map (xAt p)).take i)) (xAt p t):=by rw[aH (by rw[y8,v];rfl),z6]
   obtain⟨⟨si,sc,sd⟩,n,k1,k2,k3,k4⟩:=M6 hx;have k4:sc=(xAt p t).2:=k4;subst k4;have a1:atI ((aO p.nss).map dSt) ((t:Nat):Int)=some (dSt (si,(xAt p t).2,sd)):=bZ (by rw[y8,k1];rfl);have O:atI ((ao p).map λ x=>dCR (crs x)) ((t:Nat):Int)=some (dCR (crs (xAt p t))):=bZ (by rw[y8,hx];rfl);generalize du ((o.map (xAt p)).take i)=Hf at l c R;generalize xAt p t=x at hx g R k1 k2 k3 a1 O;have d:(%[|31]++J)[S.length]? =some (.non::a.map encC):=gJ rfl;try?;refine%[_,a1|?_];try?;refine%[rfl,p,(si,x.2,sd),n,x.1,rfl,k2,k3|?_];try?;refine%[_,O|?_];try?;refine%[rfl,x.1,x.2,S.length,a,Hf,rdU p,2 ^ (108*i),?_,g.n2,g.c64,d,l,c,Nat.pow_pos %[|1],Z,hU,g.rs,g.l3|λ J2=>?_]
   . have e:(crs x).2.map aN=x.1.rds.map λ r=>aN (spot r.tab r.pl x.2):=by unfold crs;rw[de];rfl
     rw[e]
   have ab:=l.put (J:=J2) (x:=x) (t:=nxH Hf x) (X:=.non::(putD a (wrH x) (.tup [.int (nxH Hf x).1,.dlo (%[|31]++J).length])).map encC) (z0.mp d).1 rfl;have ag:=yq a (wrH x) (.tup [.int (nxH Hf x).1,.dlo (%[|31]++J).length]);have Q:(%[|31]++J++[fzD (nxH Hf x).2]++J2).set S.length (.non::(putD a (wrH x) (.tup [.int (nxH Hf x).1,.dlo (%[|31]++J).length])).map encC)=S++[.non::(putD a (wrH x) (.tup [.int (nxH Hf x).1,.dlo (%[|31]++J).length])).map encC]++(J++[fzD (nxH Hf x).2]++J2):=by rw[ci,ci %[|31],sG rfl,ci J]
   try?;refine%[_,O|?_];try?;refine%[wrH x,a,rfl,?_,%[|0]|aa _ _ _ %[J++[fzD (nxH Hf x).2]++J2,putD a (wrH x) (.tup [.int (nxH Hf x).1,.dlo (%[|31]++J).length]),_,_,Q,?_,%[|0]|rfl]];{rw[ci,ci %[|31]];exact gJ rfl};{rw[R];exact ab}
 . rintro b T ⟨J,a,I,K,rfl,l,s,rfl⟩;have eo:(o.map (xAt p)).take (dN o).length=o.map (xAt p):=by rw[d8,db (by rw[y7];exact y9 _)]
   have c:=Kr hU hX o.length;rw[db (by rw[y7];exact y9 _)]at c;rw[eo]at l;generalize du (o.map (xAt p))=Hf at l c hw;have hT:=XS l;have d:(%[|31]++J)[S.length]? =some (.non::a.map encC):=gJ rfl;have q:S.length<(%[|31]++J).length:=(z0.mp d).1;have ad:S.length<=(%[|31]++J).length:=eJ q;have ac:∃J2,%[|31]++J=S++J2:=%[_|by rw[ci]];try?;generalize %[|31]++J=T at*;refine%[a,by rw[x9 q];exact d|K1 %[λ i b G=>∃L M,G=T++[.non::(tlH Hf (a.take i)).map encC]/\b=[some (dPg p),some (.lst (dN o)),some (.lst ((aO p.nss).map dSt)),some (.lst ((ao p).map λ x=>dCR (crs x))),some %[|22],I,K,some (.dlo T.length),L,M],%[_,_,rfl|rfl],?_,?_|?_]];{rintro i b G ⟨L,M,rfl,rfl⟩;rw[x9 q];exact d}
   . rintro i kv b G F ⟨L,M,rfl,rfl⟩;obtain⟨n,j,V,e1,e2,P,e4⟩:=l.at_ kv (y4 F);have hj:=(z0.mp e2).1;have af:V.length<=(rdU p).length:=(c _ _ P).z.len;have ev:tvH Hf kv.1=gQ (n,V):=by unfold tvH;rw[P];rfl
     have hp:=Xw (Hf:=Hf) l.nd F;rw[ev]at hp;have ah:(tlH Hf (a.take i)).length<=60:=by unfold tlH;rw[y7,e8];rw[d8]at s;omega
     have ek:encC kv=.tup [cD kv.1,.tup [.int n,.dlo j]]:=by show D.tup [cD kv.1,kv.2]=_;rw[e1]
     rw[ek];try?;refine%[rfl|?_];try?;refine%[rfl,n,j,V,rfl,by rw[x9 hj];exact e2,%[|0],(c _ _ P).z.nd|?_];try?;refine%[kv.1,tlH Hf (a.take i),rfl,bh _ _,%[|0]|?_];rw[cg,hp];exact%[_,_,rfl|rfl]
   {rintro b G ⟨L,M,rfl,rfl⟩;rw[cS];obtain⟨J2,rfl⟩:=ac;try?;exact .inr %[true,J2++[.non::(tlH Hf a).map encC],S,(S++J2).length,.non::(tlH Hf a).map encC,rfl,by rw[ci],y9 _,ad,bh _ _,hT.nl,H|hw _ hT (by unfold tlH;rw[y7];rw[d8]at s;omega)]}
abbrev Tt:=Int×List (Cel×Int)
def dT(t:Tt):D:=.tup [.int t.1,.lst (t.2.map telD)]
def toT(Hf:Cel->Option Tr)(c:Cel):Tt:=match Hf c with | some t=>(t.1,tellZ t.2) | none=>(0,[(c,1)])
def X6(h:Told Hf a)(c:Cel):(aC a c).getD (.tup [.int 0,.lst [.tup [cD c,.int 1]]])=dT (toT Hf c):=by rw[h.lk];unfold toT;cases Hf c<;>rfl
def abY(a:Tt):okD (dT a)=true/\deep (dT a)<=50:=by
 have h:∀l:List (Cel×Int),bW (l.map telD)=true/\aR (l.map telD)<=3:=by
  intro l
  induction l with
  | nil=>exact%[rfl|dr _]
  | cons kv l ih=>
    constructor;{show((okD (cD kv.1)&&(true&&true))&&bW (l.map telD))=true;rw[Qq,ih.1];rfl}
    . show max (max (deep (cD kv.1)) 0+1) (aR (l.map telD))<=3;have:deep (cD kv.1)=2:=by show max 0 (max (aR (kv.1.2.map .int)+1) 0)+1=2;rw[gH];rfl
      have:=ih.2;omega
 obtain⟨b,c⟩:=h a.2;constructor;{show(true&&(bW (a.2.map telD)&&true))=true;rw[b];rfl};{show max 0 (max (aR (a.2.map telD)+1) 0)+1<=50;omega}
inductive c_tby(ds:List D)(S:Store)(W:WD):Prop
 | mk(k:Nat)(tl:Kc)(Hf:Cel->Option Tr)(c:Cel):ds=[.dlo k,cD c]->S[k]? =some (.non::tl.map encC)->Told Hf tl->W (dT (toT Hf c)) S->c_tby ds S W
def BR:OkF Ω "trace_by" ql 1 Eb c_tby:=by refine aK (N:=Eb) (Ge) %[|7] ?_;rintro h S W ⟨k,d,g,c,rfl,b,e,f⟩ i;have a:=(z0.mp b).1;try?;refine%[a|?_];try?;refine%[c,d,rfl,b|?_];show W ((aC d c).getD (.tup [.int 0,.lst [.tup [cD c,.int 1]]])) S;rw[X6 e];exact f
def Gq(h:Told Hf b)(c:Cel):c∈b.map (·.1)↔Hf c≠none:=by
 constructor;{intro f e;obtain⟨kv,d,rfl⟩:=bS.mp f;have:=h.vl kv d;rw[e]at this;cases this}
 . intro g
   cases q:Hf c with
   | none=>exact absurd q g
   | some t=>
     have:=h.lk c;rw[q]at this;unfold aC at this
     cases a:b.find? %[|39]with
     | none=>rw[a]at this;cases this
     | some kv=>
       have e:kv.1=c:=by have:=List.find?_some a;simpa using this
       exact bS.mpr %[kv,kz a|e]
def Vu:∀(xs:List (Dd×%[|8]))(Hf:Cel->Option Tr)(c:Cel),xs.foldl bQ Hf c≠none->Hf c≠none\/∃x∈xs,c=wrH x:=by
 intro xs
 induction xs with
 | nil=>intro Hf c h;exact .inl h
 | cons x xs b=>intro Hf c h;rcases b (bQ Hf x) c h with h | ⟨y,a,e⟩;{unfold bQ at h;by_cases e:c=wrH x;{exact .inr %[x,x6|e]};{rw[bP e]at h;exact .inl h}};{exact .inr %[y,x4 _ a|e]}
def Z8(hO:iW %[|12] o)(h:du (o.map (xAt p)) c≠none):c∈(ao p).map wrH:=by rcases Vu _ _ c h with h | ⟨x,b,e⟩;{exact absurd rfl h};{obtain⟨t,a,rfl⟩:=bS.mp b;rw[e];exact bS.mpr %[_,y4 (mW (hO.1 t a))|rfl]}
inductive c_cmp(ds:List D)(S:Store)(W:WD):Prop
 | mk(p:Pg)(m:Nat)(o1 o2:ae3):ds=[dPg p,.lst (dN o1),.lst (dN o2)]->PgB m p->12<=m->m<=20->flat S->iW %[|12] o1->iW %[|12] o2->du (o2.map (xAt p))=du (o1.map (xAt p))->(∀J,flat J->W (.tup [.str "alike"]) (S++J))->c_cmp ds S W
inductive CmA(T:Store)(p:Pg)(o1 o2:ae3)(k1 k2:Nat)(i:Nat)(Γ':Gam)(T':Store):Prop
 | mk(o5 o6 o7:Option D):T'=T->Γ'=[some (dPg p),some (.lst (dN o1)),some (.lst (dN o2)),some (.dlo k1),some (.dlo k2),o5,o6,o7,none]->CmA T p o1 o2 k1 k2 i Γ' T'
def UL(t:Tt):aA (dT t)=true:=by
 have h:∀l:List (Cel×Int),aa (l.map telD)=true:=λ l=>gO λ d a=>by
  obtain⟨kv,_,rfl⟩:=bS.mp a;show((aA (cD kv.1))&&(true&&true))=true;have:aA (cD kv.1)=true:=by show(true&&(aa (kv.1.2.map .int)&&true))=true;rw[aZ];rfl
  rw[this];rfl
 show(true&&(aa (t.2.map telD)&&true))=true;rw[h];rfl
def Bh(B:%[|2])(k:jD Ω c_traced)(j:gV Ω c_tby):OkF Ω "compared" rD 8 Gh c_cmp:=by
 refine aK (N:=Ho) (GC B k j) %[|7] ?_;rintro U S W ⟨p,m,o1,E,rfl,x,g,q,C,r,w,G,z⟩ D;have u:m<=60:=%[|0]
 have V:=dX x g u;have s:=λ c=>Z8 (c:=c) r;try?;refine%[rfl,p,m,o1,rfl,x,g,q,C,r|λ a d l1=>?_];have y:=cY C d.nl;try?;refine%[rfl,p,m,E,rfl,x,g,q,y,w|λ b f l2=>?_];have n:(%[|31]++[.non::b.map encC])[S.length]? =some (.non::a.map encC):=gJ rfl;have o:(%[|31]++[.non::b.map encC])[%[|31].length]? =some (.non::b.map encC):=bh _ _;have H:%[|31]++[.non::b.map encC]=S++([.non::a.map encC]++[.non::b.map encC]):=ci ..;have I:flat ([.non::a.map encC]++[.non::b.map encC]):=λ l D=>by rcases cq.mp D with h | h;{rw[bX.mp h];exact d.nl};{rw[bX.mp h];exact f.nl}
 try?;generalize %[|31].length=k2 at*;generalize hTT:%[|31]++[.non::b.map encC]=T at*;generalize hJ:[.non::a.map encC]++[.non::b.map encC]=J at*;rw[G]at f;generalize du (o1.map (xAt p))=H1 at*;refine%[S.length,k2,a,b,(ao p).map wrH,rfl,rfl,n,o,%[|0],%[|0],by rw[y7];omega,λ c t=>s c ((Gq d c).mp t),λ c t=>s c ((Gq f c).mp t)|λ Z X Y=>?_];refine aV (CmA T p o1 E S.length k2) %[none,none,none,rfl|rfl] ?_ ?_;{rintro Q R P v _ _ i e A F K ⟨L,M,O,rfl,rfl⟩;obtain⟨c,t,rfl⟩:=bR K;try?;refine%[rfl,S.length,a,H1,c,rfl,n,d|?_];try?;refine%[rfl,k2,b,H1,c,rfl,o,f|?_];have o1:=abY (toT H1 c);try?;refine K7 (UL _) o1.1 o1.2 ?_;try?;exact v _ _ _ %[_,_,_,rfl|rfl]};{rintro A F ⟨L,M,O,rfl,rfl⟩;try?;rw[H];exact z J I}
def iw(t:Nat)(l:ae3):List (List Nat):=(List.range (l.length+1)).map λ a=>l.take a++[t]++l.drop a
def kE:Nat->List (List Nat)
 | 0=>[[]]
 | t+1=>(kE t).flatMap (iw t)
def dO(o:ae3):D:=.lst (dN o)
theorem pN:∀(t:Nat)(l:ae3),l∈kE t->l.Perm (List.range t)
 | 0,l,h=>by rw[bX.mp h];exact .refl _
 | t+1,l,h=>by obtain⟨k,b,h⟩:=ea.mp h;obtain⟨a,_,rfl⟩:=bS.mp h;have c:=pN t k b;rw[ke,ci];refine(List.perm_middle (l₁:=k.take a) (l₂:=k.drop a) (a:=t)).trans ?_;rw[fh];exact(c.cons t).trans (List.perm_append_comm (l₁:=[t]))
def Sy:∀t,t<=5->(kE t).length<=120:=%[|9]
def Ph(l:ag0):aa (l.map dO)=true:=gO λ d a=>by obtain⟨o,_,rfl⟩:=bS.mp a;exact qy o
def Ue{a b:Type}(f:a->List b){l:List a}{x}(h:l[m]? =some x)(j:Nat):((l.take m).flatMap f++(f x).take j).length<=(l.flatMap f).length:=by
 have e:l.flatMap f=(l.take (m+1)).flatMap f++(l.drop (m+1)).flatMap f:=by rw[<-fk,fh]
 rw[e,aH h,fk,x8,x8,x8,e8];show _<=_+(f x++[]).length+_;rw[fA];omega
inductive c_ords(ds:List D)(S:Store)(W:WD):Prop
 | mk(n:Nat):ds=[.int (n:Int)]->n<=5->flat S->W (.lst ((kE n).map dO)) S->c_ords ds S W
def Je(B:%[|2]):OkF Ω "_law_orders" v4 1 Om c_ords:=by
 refine aK (N:=M4) (N7 B) %[|7] ?_;rintro ds S W ⟨n,rfl,hn,G,M⟩ u;try?;refine%[%[|24]|?_];rw[dk];refine aV (λ i a o=>(∃z A g c,a=[some (.int (n:Int)),some (.lst ((kE i).map dO)),z,A,g,c]/\nlO g/\nlO c)/\o=S) %[%[_,_,_,_,rfl,cX|cX]|rfl] ?_ ?_
 . rintro R X O v _ _ t e a o r ⟨⟨z,A,g,c,rfl,q,f⟩,rfl⟩;obtain⟨ht,rfl⟩:=bO r;rw[show(0:Int)+(t:Int)=(t:Int)from %[|0]];have H:=Sy (t+1) %[|0];try?;refine aV (λ m a T=>(∃g c,a=[some (.int (n:Int)),some (.lst ((kE t).map dO)),some (.int (t:Int)),some (.loc o.length),g,c]/\nlO g/\nlO c)/\T=o++[(((kE t).take m).flatMap (iw t)).map dO]) %[%[_,_,rfl,q|f]|rfl] ?_ ?_
   . rintro U Y P w _ _ m e a T r ⟨⟨g,c,rfl,q,f⟩,rfl⟩;obtain⟨l,u,rfl⟩:=bR r;have K:=gn (pN t l (y4 u));have I:=d8 l;have J:(iw t l).length=l.length+1:=by unfold iw;rw[y7,ja]
     have s:=λ j=>Ue (iw t) u j;have p:∀j,(((kE t).take m).flatMap (iw t)++(iw t l).take j).length<=120:=λ j=>cK (s j) H;try?;refine%[%[|24]|?_];refine aV (λ j a T=>(∃c,a=[some (.int (n:Int)),some (.lst ((kE t).map dO)),some (.int (t:Int)),some (.loc o.length),some (dO l),c]/\nlO c)/\T=o++[(((kE t).take m).flatMap (iw t)++(iw t l).take j).map dO]) %[%[_,rfl|f]|by simp] ?_ ?_
     . rintro V Z Q y _ _ j e a T r ⟨⟨c,rfl,f⟩,rfl⟩;obtain⟨hj,rfl⟩:=bO r;rw[show(0:Int)+(j:Int)=(j:Int)from %[|0]];have L:=p j;try?;rw[QW %[|0],dk];refine%[by rw[e8,d8];show _+1<=_;omega|?_];try?;rw[Ft %[|0],dk];refine%[by rw[x8,e8,lm,d8];show _+1+_<=_;omega|?_];try?;refine%[_,bh _ _,by rw[y7];omega|?_];rw[cg];refine y _ _ _ %[%[_,rfl|jG _]|?_];have C:(iw t l)[j]? =some (l.take j++[t]++l.drop j):=by unfold iw;rw[y8,oy %[|0]];rfl
       have E:dO (l.take j++[t]++l.drop j)=.lst ((dN l).take j++[D.int (t:Int)]++(dN l).drop j):=by unfold dO dN;rw[cf,cf,lS,oQ];rfl
       rw[aH C,<-ci,cf (l₂:=[_]),mx,E]
     {rintro a T ⟨⟨c,rfl,f⟩,rfl⟩;refine w _ _ _ %[%[_,_,rfl,λ d h=>by cases h;exact qy l|f]|?_];have F:∀k,l.length+1<=k->(iw t l).take k=iw t l:=λ k h=>db %[|0];rw[F _ (by rw[aB];omega),aH u,fk];simp}
   . rintro a T ⟨⟨g,c,rfl,q,f⟩,rfl⟩;rw[y7,cS];try?;refine .inr %[_,_,rfl,y9 _,Ph _,G,?_|v _ _ _ %[%[some (.int (t:Int)),some (.lst ((kE (t+1)).map dO)),g,c,?_,q|f]|rfl]]
     . intro x d b;match x,b with
       | 0,b=>cases b;exact .inl rfl
       | 1,b=>cases b;exact .inr %[_|rfl]
       | 2,b=>cases b;exact .inl rfl
       | 3,b=>cases b;exact .inr %[_|rfl]
       | 4,b=>exact .inl (q d (by simpa using b))
       | 5,b=>exact .inl (f d (by simpa using b))
       | x+6,b=>simp at b
     {show[_,_,_,_,_,_]=[_,_,_,_,_,_];rw[nO q,nO f];simp[uI];rfl}
 {rintro a o ⟨⟨z,A,g,c,rfl,q,f⟩,rfl⟩;rw[aB];try?;exact M}
def Ox(n:Nat):Nat->List (List Nat)
 | 0=>[[]]
 | k+1=>(Ox n k).flatMap λ l=>%[|18].map λ x=>x::l
def TJ:∀{o:ae3},(∀x∈o,x<n)->o∈Ox n o.length:=by
 intro o
 induction o with
 | nil=>intro _;exact bX.mpr rfl
 | cons x o b=>intro h;exact ea.mpr %[o,b λ z a=>h z (x4 _ a)|bS.mpr %[x,df.mpr (h x x6)|rfl]]
def Vs:∀n,n<=5->(Ox n n).length<=3125:=%[|9]
def oI(o:ae3):%[|8]:=o.map λ(t:Nat)=>(t:Int)
def knK(fs:ag0):Kd:=fs.map λ o=>(oI o,.bl true)
def aa5(h:oI a=oI b):a=b:=(List.map_inj_right λ x y e=>by omega).mp h
def kn_any(fs:ag0)(o:ae3):((knK fs).any λ kv=>decide (kv.1=oI o))=decide (o∈fs):=by rw[gg,ip,gE];constructor;{rintro⟨kv,a,e⟩;obtain⟨q,b,rfl⟩:=bS.mp a;rw[<-aa5 (ck e)];exact b};{intro h;exact%[_,bS.mpr %[o,h|rfl]|cb rfl]}
def WW(fs:ag0)(o:ae3):(aC (knK fs) (oI o)).isSome=decide (o∈fs):=by rw[<-vD,kn_any]
def aaB(h:o∉fs):putD (knK fs) (oI o) (.bl true)=knK (fs++[o]):=by unfold putD;rw[kn_any,cE h,bP y6];unfold knK;rw[cf];rfl
def Q6{a:Kd}(h:nlV a):aa (a.map encK)=true:=gO λ d b=>by obtain⟨x,c,rfl⟩:=bS.mp b;show aa [.tup (x.1.map .int),x.2]=true;have e:aA (.tup (x.1.map .int))=true:=aZ _;simp only[aa,e,h x c,d6]
def Wq(fs:ag0):aa ((knK fs).map encK)=true:=Q6 λ x a=>by obtain⟨o,_,rfl⟩:=bS.mp a;rfl
section
variable{S:Store}{a b c z:List D}
def s3a:(S++[a,b,c])[S.length]? =some a:=by simp
def s3b:(S++[a,b,c])[S.length+1]? =some b:=by simp
def s3c:(S++[a,b,c])[S.length+2]? =some c:=by simp
def p3b:(S++[a,b,c]).set (S.length+1) z=S++[a,z,c]:=by rw[kk _ _ %[|0],show S.length+1-S.length=1 from %[|0]];rfl
def p3c:(S++[a,b,c]).set (S.length+2) z=S++[a,b,z]:=by rw[kk _ _ %[|0],show S.length+2-S.length=2 from %[|0]];rfl
end
def frB(xs:List CR)(i j:Nat):Bool:=!(!decide (i=j)&&tN xs i j)
inductive FtI(xs:List CR)(n i j:Nat)(kv:Kd):Prop
 | mk:kv.length<=i*n+j->nlV kv->(∀a b:Nat,b<n->a<i\/(a=i/\b<j)->aC kv [(a:Int),(b:Int)]=some (.bl (frB xs a b)))->FtI xs n i j kv
def FtI.put(h:FtI xs n i j c):FtI xs n i (j+1) (putD c [(i:Int),(j:Int)] (.bl (frB xs i j))):=by obtain⟨l,d,f⟩:=h;have:=yq c [(i:Int),(j:Int)] (.bl (frB xs i j));refine%[%[|0],KH d rfl|λ a b k g=>?_];rw[DN];by_cases e:a=i/\b=j;{rw[ca (by rw[e.1,e.2]),e.1,e.2]};{rw[bP (λ z=>e (by simp at z;omega))];exact f a b k %[|0]}
def Dn(xs:List CR)(fs:ag0)(o:ae3)(i:Nat):Prop:=∀v a b,v<i->o[v]? =some a->o[v+1]? =some b->tN xs a b=false->swp o v a b∈fs
inductive CI(xs:List CR)(fs:ag0)(k i:Nat):Prop
 | mk:List.range xs.length∈fs->fs.Nodup->(∀o∈fs,o.Perm (List.range xs.length)/\Kpt xs o)->(∀j o,j<k->fs[j]? =some o->Dn xs fs o xs.length)->(∀o,fs[k]? =some o->Dn xs fs o i)->CI xs fs k i
def CI.len(h:CI xs fs k i)(b:xs.length<=5):fs.length<=3125:=by obtain⟨_,e,f,_,_⟩:=h;refine cK (sub_len e (U:=Ox xs.length xs.length) λ o c=>?_) (Vs _ b);have a:=(f o c).1;have:=TJ (n:=xs.length) (o:=o) λ x d=>(cQ a).1 x d;rw[gn a]at this;exact this
def CI.next(h:CI xs fs k (xs.length-1)):CI xs fs (k+1) 0:=by obtain⟨i,q,g,l,m⟩:=h;refine%[i,q,g,λ j o r c=>?_|λ o _ v a b f=>absurd f (ox v)];by_cases e:j=k;{subst e;intro v a b f n d p;have:=(z0.mp d).1;have:=gn (g o (y4 c)).1;exact m o c v a b %[|0] n d p};{exact l j o %[|0] c}
def CI.same(h:CI xs fs k i)(w:fs[k]? =some o)(t:o[i]? =some a)(u:o[i+1]? =some b)(hs:tN xs a b=false->swp o i a b∈fs):CI xs fs k (i+1):=by obtain⟨p,x,y,r,s⟩:=h;refine%[p,x,y,r|λ q j v c d z f g l=>?_];have e:q=o:=cc (j.symm.trans w);subst e;by_cases e:v=i;{subst e;have m:c=a:=cc (f.symm.trans t);have n:d=b:=cc (g.symm.trans u);subst m n;exact hs l};{exact s q j v c d %[|0] f g l}
def Px:swp o v a b=o.take v++b::a::o.drop (v+2):=by unfold swp;rw[ci];rfl
def CI.more(h:CI xs fs k i)(r:fs[k]? =some o)(l:o[i]? =some a)(n:o[i+1]? =some b)(s:tN xs a b=false)(H:swp o i a b∉fs):CI xs (fs++[swp o i a b]) k (i+1):=by
 obtain⟨I,z⟩:=(by obtain⟨_,_,u,_,_⟩:=h;exact u o (y4 r):o.Perm (List.range xs.length)/\Kpt xs o);obtain⟨C,L,u,D,E⟩:=h;have p:=(z0.mp r).1;have g:∀j q,j<=k->(fs++[swp o i a b])[j]? =some q->fs[j]? =some q:=λ j q w f=>by rw[x9 %[|0]]at f;exact f
 have B:∀q t,Dn xs fs q t->Dn xs (fs++[swp o i a b]) q t:=λ q t h v c d J F G s=>fb _ (h v c d J F G s);have m:CI xs (fs++[swp o i a b]) k i:=by refine%[fb _ C,i5.mpr %[L,js _ _|λ x A y K e=>?_],λ q f=>?_,λ j q w f=>B q _ (D j q w (g j q %[|0] f))|λ q f=>B q _ (E q (g k q (y9 _) f))];{rw[bX.mp K]at e;rw[e]at A;exact H A};{rcases cq.mp f with f | f;{exact u q f};{rw[bX.mp f];refine%[swap_perm l n I|?_];rw[Px];rw[Vg l n]at z;exact z.sw s}}
 exact m.same (by rw[x9 p];exact r) l n λ _=>eD _ (bX.mpr rfl)
def CI.all(h:CI xs fs k i)(w:fs.length<=k)(m:o.Perm (List.range xs.length)):o∈fs↔Kpt xs o:=by
 obtain⟨g,z,u,l,v⟩:=h;refine%[λ r=>(u o r).2|λ s=>reach (K:=λ o=>o∈fs) (n:=xs.length) g (λ a x y b p q t=>?_) _ o (y9 _) m s];obtain⟨j,c⟩:=cw q;have e:(a++x::y::b)[a.length]? =some x:=by simp
 have f:(a++x::y::b)[a.length+1]? =some y:=by simp
 have d:=gn p;rw[x8]at d;have:=l j _ (by have:=(z0.mp c).1;omega) c a.length x y (by simp at d;omega) e f t;rw[Px,List.take_left' rfl]at this;simpa using this
inductive c_come(ds:List D)(S:Store)(W:WD):Prop
 | mk(p:Pg)(m:Nat):ds=[dPg p,.int (%[|12]:Int)]->PgB m p->12<=m->m<=60->flat S->%[|12]<=5->(∀fs:List (List Nat),(∀o:List Nat,o.Perm (List.range %[|12])->(o∈fs↔Kpt ((ao p).map crs) o))->W %[|22] (S++[(knK fs).map encK]))->c_come ds S W
inductive CoA(S:Store)(p:Pg)(n:Nat)(ft:Kd)(P:List (List Nat)->Nat->Prop)(Γ':Gam)(T:Store):Prop
 | mk(fs:ag0)(k:Nat)(o3 o4 o8 o9 o10 o11:Option D):T=S++[ft.map encK,fs.map dO,(knK fs).map encK]->P fs k->Γ'=[some (dPg p),some (.int (n:Int)),some %[|22],o3,o4,some (.loc (S.length+1)),some (.dlo (S.length+2)),some (.int (k:Int)),o8,o9,o10,o11]->CoA S p n ft P Γ' T
def Ep (B:%[|2])(I:eF Ω qx):OkF Ω "_law_come_to" uE 7 J0 c_come:=by
 refine aK (N:=JK) (Bl.owq (JX B I)) %[|7] ?_;rintro ds S W ⟨p,m,rfl,hP,Q,U,hS,ac,hw⟩ hl;have J:((ao p).map crs).length=%[|12]:=y7 _;have tc:∀(T:Store)(V:WD)(i j:Nat),i<%[|12]->j<%[|12]->flat T->V (.bl (!decide (i=j)&&tN ((ao p).map crs) i j)) T->qx [dPg p,.int (i:Int),.int (j:Int)] T V:=λ T V i j hi P hT w=>by have hx:=y3 hi;have hy:=y3 P;refine%[p,m,i,j,_,_,rfl,hP,Q,U,hT,hx,hy|?_];rw[<-Lw (xs:=(ao p).map crs) (by rw[y8,hx];rfl) (by rw[y8,hy];rfl)];exact w
 generalize hxs:(ao p).map crs=xs at*;generalize hN:(ao p).length=n at*;try?;refine%[%[|24]|?_];rw[dk];refine aV (λ i d T=>∃(s:Kd) (H u:Option D),T=S++[s.map encK]/\FtI xs n i 0 s/\d=[some (dPg p),some (.int (n:Int)),some %[|22],H,u,none,none,none,none,none,none,none]) %[[],_,_,rfl,%[dr _,(λ x h=>nomatch h)|λ a b _ h=>by omega]|rfl] ?_ ?_
 . rintro I1 R1 B1 r _ _ i e d T K ⟨s,H,u,rfl,A,rfl⟩;obtain⟨hi,rfl⟩:=bO K;rw[show(0:Int)+(i:Int)=(i:Int)from %[|0]];try?;refine%[%[|24]|?_];rw[dk];refine aV (λ j d T=>∃(s:Kd) (u:Option D),T=S++[s.map encK]/\FtI xs n i j s/\d=[some (dPg p),some (.int (n:Int)),some %[|22],some (.int (i:Int)),u,none,none,none,none,none,none,none]) %[s,_,rfl,A|rfl] ?_ ?_
   . rintro I2 R2 B2 X _ _ j e d T K ⟨s,u,rfl,A,rfl⟩;obtain⟨P,rfl⟩:=bO K;rw[show(0:Int)+(j:Int)=(j:Int)from %[|0]];have ae:=A.put;obtain⟨k1,q,k3⟩:=A;have kl:i*n+j<=25:=by have:i*n<=4*5:=lh %[|0] ac;omega
     try?;refine%[rfl|tc _ _ i j %[|0] %[|0] (cY hS (Q6 q)) ?_];try?;refine%[[(i:Int),(j:Int)],s,rfl,bh _ _,%[|0]|?_];rw[cg];exact X _ _ _ %[_,_,rfl,ae|rfl]
   {rintro d T ⟨s,u,rfl,⟨k1,q,k3⟩,rfl⟩;rw[aB]at k1 k3;exact r _ _ _ %[s,_,_,rfl,%[by rw[l4];exact k1,q|λ a b t h=>k3 a b t %[|0]]|rfl]}
 . rintro d T ⟨E,H,u,rfl,⟨_,f2,f3⟩,rfl⟩;rw[aB]at f3;try?;refine%[%[|24]|.inl ?_];rw[dk,MJ];try?;rw[show(S++[E.map encK]++[[D.lst (dN %[|18])]]).length=S.length+2 from by simp,show(S++[E.map encK]).length=S.length+1 from by simp,show S++[E.map encK]++[[D.lst (dN %[|18])]]++[[]]=S++[E.map encK,[dO %[|18]],[]]from by simp[dO]];refine%[_,_,s3b,vq _ _|?_];unfold dO;try?;refine%[oI %[|18],by rw[iH];rfl,s3c|?_];rw[p3c];try?;refine zx (λ m=>CoA S p n E λ fs k=>CI xs fs k 0/\k<=fs.length/\m=3125-k) (m0:=3125) %[[%[|18]],0,_,_,_,_,_,_,rfl,%[%[by rw[J];exact bX.mpr rfl,js _ _,λ o f=>?_,(λ j o P=>absurd P (ox j))|λ o _ v a b hv=>absurd hv (ox v)],dr _|rfl]|rfl] ?_;{rw[bX.mp f,J];exact%[.refl _|Kpt.range _ _]};rintro mm d T ⟨fs,k,H,u,o8,o9,M,O,rfl,⟨g,hk,G⟩,rfl⟩ N R B Y _ hB;have L:=g.len %[|0];try?;refine%[_,s3b|?_];try?;rw[y7];refine%[λ h=>?_|λ h=>?_]
   . have h:=ck h;have f:=y3 (l:=fs) (i:=k) %[|0];generalize fs[k]'_=o at f;have F:o.Perm %[|18]:=by obtain⟨_,_,ok,_,_⟩:=g;rw[<-J];exact(ok o (y4 f)).1
     have ah:=gn F;have af:=d8 o;have e1:(((n:Int)-1).toNat)=n-1:=%[|0]
     try?;refine%[%[|24]|?_];rw[e1];refine aV (λ i=>CoA S p n E λ c q=>q=k/\CI xs c k i/\c[k]? =some o) %[fs,k,_,_,_,_,_,_,rfl,%[rfl,g|f]|rfl] ?_ ?_
     . rintro I1 R1 B1 r _ _ i e d T K ⟨c,q,H,u,o8,o9,M,O,rfl,⟨rfl,g,f⟩,rfl⟩;obtain⟨hi,rfl⟩:=bO K;rw[show(0:Int)+(i:Int)=(i:Int)from %[|0]];have L:=g.len %[|0];have C:=y3 (l:=o) (i:=i) %[|0];have t:=y3 (l:=o) (i:=i+1) %[|0];generalize o[i]'_=a at C;generalize o[i+1]'_=b at t;have y:atI (c.map dO) (q:Int)=some (.lst (dN o)):=bZ (by rw[y8,f];rfl);try?;refine%[_,_,s3b,y|?_];try?;refine%[_,bZ (CV C)|?_];try?;refine%[_,_,s3b,y|?_];try?;refine%[_,bZ (j:=i+1) (CV t)|?_];try?;refine%[_,_,s3b,y|?_];try?;rw[QW %[|0],dk];refine%[by rw[e8,d8];show _+2<=_;omega|?_];try?;refine%[_,_,s3b,y|?_];try?;rw[Ft %[|0],show((i:Int)+2).toNat=i+2 from %[|0]];refine%[by rw[x8,e8,lm,d8];show _+2+_<=_;omega|?_];rw[YL C t];try?;have Z:a<n:=(cQ F).1 a (y4 C);have aa:b<n:=(cQ F).1 b (y4 t);have ad:a≠b:=λ e=>ni (cQ F).2 (jI i) %[|0] (by rw[C,t,e]);refine%[[(a:Int),(b:Int)],E,rfl,s3a,_,f3 a b aa (.inl Z)|?_];have ab:frB xs a b= !tN xs a b:=by unfold frB;rw[cE ad];rfl
       rw[ab]
       cases ht:tN xs a b with
       | true=>try?;exact r _ _ _ %[c,q,_,_,_,_,_,_,rfl,%[rfl,g.same f C t λ z=>(by rw[ht]at z;cases z)|f]|rfl]
       | false=>try?;refine%[oI (swp o i a b),knK c,by rw[iH];rfl,s3c|?_];dsimp only;rw[WW];by_cases G:swp o i a b∈c;{rw[cb G];try?;exact r _ _ _ %[c,q,_,_,_,_,_,_,rfl,%[rfl,g.same f C t λ _=>G|f]|rfl]};{rw[cE G];try?;refine%[oI (swp o i a b),knK c,by rw[iH];rfl,s3c,by unfold knK;rw[y7];omega|?_];rw[aaB G,p3c];try?;refine%[_,s3b,by rw[y7];omega|?_];rw[p3b];exact r _ _ _ %[c++[swp o i a b],q,_,_,_,_,_,_,(by rw[cf];rfl),%[rfl,g.more f C t ht G|by rw[x9 (z0.mp f).1];exact f]|rfl]}
     {rintro d T ⟨c,q,H,u,o8,o9,M,O,rfl,⟨rfl,g,f⟩,rfl⟩;rw[aB,<-J]at g;have L:=g.len %[|0];have ag:=(z0.mp f).1;try?;exact Y (3125-(q+1)) _ _ %[|0] %[c,q+1,_,_,_,_,_,_,rfl,%[g.next,%[|0]|rfl]|rfl]}
   {have h:=fe h;refine hB _ _ ?_;try?;refine .inr %[true,_,S,S.length+2,_,rfl,rfl,y9 _,%[|0],s3c,Wq _,hS|hw fs λ o F=>g.all %[|0] (by rw[J];exact F)]}
def Yx:∀(rs:List (Int×Cel))(acc:Tr),(∀r∈rs,Hf r.2=a r.2)->rs.foldl (gG Hf) acc=rs.foldl (gG a) acc:=by
 intro rs
 induction rs with
 | nil=>intro _ _;rfl
 | cons r rs c=>
   intro acc h;have e:gG Hf acc r=gG a acc r:=by unfold gG trH;rw[h r x6]
   rw[nS,nS,e];exact c _ λ z b=>h z (x4 _ b)
def KY(h:∀r∈cJ y.1 y.2,r.2≠wrH x):nxH (bQ Hf x) y=nxH Hf y:=by unfold nxH trS;refine Yx _ _ λ r a=>?_;unfold bQ;rw[bP (h r a)]
def R9(h1:wrH x≠wrH y)(h2:∀r∈cJ y.1 y.2,r.2≠wrH x)(b:∀r∈cJ x.1 x.2,r.2≠wrH y):bQ (bQ Hf x) y=bQ (bQ Hf y) x:=by funext c;show(if c=wrH y then some (nxH (bQ Hf x) y)else if c=wrH x then some (nxH Hf x)else Hf c)=(if c=wrH x then some (nxH (bQ Hf y) x)else if c=wrH y then some (nxH Hf y)else Hf c);rw[KY h2,KY b];by_cases a:c=wrH y;{rw[ca a,ca a,bP (λ e=>h1 (e.symm.trans a))]};{rw[bP a,bP a]}
def VR(h1:wrH x≠wrH y)(h2:∀r∈cJ y.1 y.2,r.2≠wrH x)(c:∀r∈cJ x.1 x.2,r.2≠wrH y):du (a++[y,x]++b)=du (a++[x,y]++b):=by unfold du;rw[gL,gL,gL,gL];show b.foldl bQ (bQ (bQ _ y) x)=b.foldl bQ (bQ (bQ _ x) y);rw[R9 h1 h2 c]
def J6(h:toC a=toC b):a=b:=by unfold toC at h;have c:=ei Prod.fst h;have d:=ei Prod.snd h;exact ll (Int.ofNat.inj c) d
def Wk(h:c∉(crs x).2):∀r∈cJ x.1 x.2,r.2≠toC c:=by intro r a e;unfold cJ at a;obtain⟨q,b,rfl⟩:=bS.mp a;have e:=J6 e;exact h (by unfold crs;rw[<-e];exact bS.mpr %[q,b|rfl])
def ZX(h:ir (crs x) (crs y)=false):(crs x).1≠(crs y).1/\(crs x).1∉(crs y).2/\(crs y).1∉(crs x).2:=by unfold ir at h;rw[Bool.or_eq_false_iff,Bool.or_eq_false_iff]at h;exact%[fe h.1.1,fe h.1.2|fe h.2]
def YG(j:o.Perm (List.range %[|12]))(k:Kpt ((ao p).map crs) o):du (o.map (xAt p))=du ((List.range %[|12]).map (xAt p)):=by refine reach (xs:=(ao p).map crs) (K:=λ o=>du (o.map (xAt p))=du ((List.range %[|12]).map (xAt p))) rfl (λ a x y b c h d=>?_) _ o (y9 _) j k;have l:=mW ((cQ c).1 x (by simp));have m:=mW ((cQ c).1 y (by simp));rw[Lw (by rw[y8,l];rfl) (by rw[y8,m];rfl)]at d;obtain⟨f,g,i⟩:=ZX d;rw[<-h,cf,cf];have:=VR (a:=a.map (xAt p)) (b:=b.map (xAt p)) (x:=xAt p x) (y:=xAt p y) (λ e=>f (J6 e)) (Wk g) (Wk i);rw[ci,ci]at this;exact this
def NsB.up(h:NsB ws m n)(a:m<=k):NsB ws k n:=%[h.1,h.2.1,h.2.2.1,cK h.2.2.2.1 (by have:=Nat.div_le_div_right (c:=n.dds.length) a;omega)|h.2.2.2.2]
def P5(ws:ae0)(nss:List Ns):Prop:=PgB 12 %[ws|nss]/\∀n∈nss,(cnt n.lps).length*n.dds.length<=5
def acA(h:PgB 5 p):P5 p.ws p.nss:=by obtain⟨d,e,f,c⟩:=h;refine%[%[d,e,f|λ n a=>(c n a).up (Nat.div_le_div_right %[|1])]|λ n a=>?_];obtain⟨_,_,k,g,_⟩:=c n a;have b:=iS n.dds.length g;have i:=Nat.div_mul_le_self (5/p.nss.length) n.dds.length;have j:=kL 5 p.nss.length;rcases Nat.le_total (5/p.nss.length/n.dds.length) 1 with q | q;{rw[Nat.max_eq_left q]at b;omega};{rw[Nat.max_eq_right q]at b;omega}
def W5(h:P5 ws (nss++[x]))(i:nss≠[]):P5 ws nss:=by
 obtain⟨⟨d,j,b,f⟩,g⟩:=h;have c:1<=nss.length:=List.length_pos_iff.mpr i;have b:(nss++[x]).length<=3:=b;have e:(nss++[x]).length=nss.length+1:=by simp
 refine%[%[d,c,by show nss.length<=3;omega|λ n a=>(f n (fb _ a)).up ?_]|λ n a=>g n (fb _ a)];show 12/(nss++[x]).length<=12/nss.length;rw[e];exact Nat.div_le_div_left (hZ _) c
def abz(h:P5 ws [n]):(ao %[ws|[n]]).length<=5:=by
 have a:=lC %[ws|[n]];have c:=h.2 n x6;have b:many [n]=((cnt n.lps).length:Int)*(n.dds.length:Int)+0:=rfl;have a:many [n]=((ao %[ws|[n]]).length:Int):=%[|0]
 rw[<-om]at b;omega
def Vm(xs:List D)(x:D):cutD (xs++[x]) none (some (-1))=xs:=by
 unfold cutD;have a:HT.sIx (xs++[x]).length (xs++[x]).length (some (-1))=xs.length:=by show(if(-1:Int)<0 then((-1:Int)+((xs++[x]).length:Int)).toNat else min ((-1:Int).toNat) (xs++[x]).length)=_;rw[ca %[|1],x8];simp;omega
 rw[a,HT.sIx_none,Nat.sub_zero,List.drop_zero,kP (y9 _),cS]
def Ym{a:Type}{xs:List a}(h:xs≠[]):∃A x,xs=A++[x]:=%[xs.dropLast,xs.getLast h|(List.dropLast_concat_getLast h).symm]
def abb(B:%[|2])(C:fC Ω FP)(v:di Ω c_broken)(y:sS Ω c_led)(w:gR Ω c_cmp)(M:rP Ω c_penB)(O:iY Ω c_progB)(u:lB Ω c_stepsB)(L:jx Ω c_ords)(I:iU Ω c_come):OkF Ω "law" rK 11 abX wC:=by
 refine aK (N:=acE) (acB B C v y w M O u L I) %[|7] ?_;rintro ds S W ⟨k,rfl,hn,hw,X⟩ hl;subst X;try?;refine%[rfl,k,1,rfl,%[|1]|λ c=>?_];have p0:bB ([]++[lO k c 1]) 0:=%[k,c,1,by simp|%[|1]];have f0:flat ([]++[lO k c 1]):=cY (λ l hl=>by cases hl) (uc ..);generalize ([]++[lO k c 1]:Store)=S0 at*;try?;refine%[rfl,0,5,rfl,p0,f0,%[|1],%[|1]|λ p S2 hP u2 p2 F=>?_];have h5:=acA hP;clear hP;obtain⟨a,nss⟩:=p;try?;refine%[rfl|?_];try?;refine zx (λ m f T=>T=S2/\∃nss:List Ns,P5 a nss/\nss.length=m/\f=[some (.lst (k.map .int)),some (.loc 0),some (dWs a),some (.tup (nss.map dNs)),none,none,none,none,none,none]) %[rfl,nss,h5,rfl|rfl] ?_;clear h5 nss;rintro mm f T ⟨rfl,nss,h5,rfl,rfl⟩ N R B U _ hB;have h1:=h5.1;have hN:=dX h1 %[|1] %[|1];have eS:=VB %[a|nss];try?;refine%[rfl,%[a|nss],12,rfl,h1,%[|1],F|.inl ?_];rw[eS];try?;rw[y7];refine%[λ h=>?_|λ h=>?_]
 . have h:=ck h;obtain⟨A,x,rfl⟩:=Ym (xs:=nss) λ e=>by have:=h1.2.1;rw[e]at this;exact absurd this (by show ¬1<=0;decide)
   have hA:A≠[]:=λ e=>by subst e;have:=abz h5;simp only[List.nil_append]at h;omega
   try?;rw[cf,mx,Vm];exact U A.length _ _ (by simp) %[rfl,A,W5 h5 hA,rfl|rfl]
 . have h:=fe h;refine hB _ _ ?_;have G:(ao %[a|nss]).length<=5:=%[|0]
   have aa:=λ(S:Store) (V:WD)=>U8 (S:=S) (W:=V) h1 %[|1] %[|1];have Y:∀o:List Nat,o.Perm (List.range (ao %[a|nss]).length)->(brk o (bV ((ao %[a|nss]).map crs) (ao %[a|nss]).length)=none↔Kpt ((ao %[a|nss]).map crs) o):=λ o j=>by have:=Xp (xs:=(ao %[a|nss]).map crs) (o:=o) (by rw[y7];exact j);rw[y7]at this;exact this
   try?;refine%[rfl,%[a|nss],12,rfl,h1,%[|1],F|.inl ?_];rw[eS];try?;rw[y7];refine%[rfl|aa _ _ F ?_];generalize (%[a|nss]:Pg)=q at*;try?;refine%[rfl,q,12,rfl,h1,%[|1],%[|1],F,G|λ r Z=>?_];have t:flat (T++[(knK r).map encK]):=cY F (Wq r);have E:(T++[(knK r).map encK])[T.length]? =some ((knK r).map encK):=bh _ _;try?;refine%[%[|24]|.inl ?_];rw[dk,MJ];try?;refine%[rfl,_,rfl,G,t|?_];generalize T++[(knK r).map encK]=T3 at*;generalize T.length=K at*;have hK:=(z0.mp E).1;have rg:(List.range (ao q).length).Perm (List.range (ao q).length):=.refl _;refine aV (λ i f s=>s=T3/\∃o8 o9:Option D,f=[some (.lst (k.map .int)),some (.loc 0),some (dWs a),some (.tup (nss.map dNs)),some (.int ((ao q).length:Int)),some (dPg q),some (.dlo K),some (.lst (dN (List.range (ao q).length))),o8,o9]) %[rfl,_,_|rfl] ?_ ?_
   . rintro I1 R1 B1 Q _ _ i e f s he ⟨rfl,o8,o9,rfl⟩;obtain⟨o,ho,rfl⟩:=bR he;have j:=pN _ o (y4 ho);have hb:=Y o j;have hf:=Z o j;have n:∀J(b:Bool),flat J->Nb s.length (I1 (i+1)) [some (.lst (k.map .int)),some (.loc 0),some (dWs a),some (.tup (nss.map dNs)),some (.int ((ao q).length:Int)),some (dPg q),some (.dlo K),some (.lst (dN (List.range (ao q).length))),some (dO o),some (.bl b)] (s++J):=λ J b hJ=>by refine%[J,s,[some (.lst (k.map .int)),some (.loc 0),some (dWs a),some (.tup (nss.map dNs)),some (.int ((ao q).length:Int)),some (dPg q),some (.dlo K),some (.lst (dN (List.range (ao q).length))),none,none],rfl,y9 _,t,rfl,?_|Q _ _ _ %[rfl,none,none|rfl]];intro i1 d h;rcases i1 with _ | _ | _ | _ | _ | _ | _ | _ | _ | _ | i1;{cases h;exact%[rfl|.inl (aZ _)]};{cases h;exact%[rfl|.inr %[0,.inl rfl|%[|0]]]};{cases h;exact%[rfl|.inl (aZ _)]};{cases h;exact%[rfl|.inl (jA _)]};{cases h;exact%[rfl|.inl rfl]};{cases h;exact%[rfl|.inl (zF _)]};{cases h;exact%[rfl|.inr %[K,.inr rfl|hK]]};{cases h;exact%[rfl|.inl (qy _)]};{cases h};{cases h};{cases h}
     refine CZ ?_;refine ZK ?_;simp only[mA,mB];unfold dO at n ⊢;try?;refine%[oI o,knK r,by rw[iH];rfl,E|?_];dsimp only;rw[WW];try?;refine%[rfl,q,12,o,rfl,h1,%[|1],%[|1],t,j|?_];by_cases H:o∈r;{have hk:=hf.mp H;have g:=hb.mpr hk;rw[cb H,g];try?;refine%[rfl,q,12,o,rfl,h1,%[|1],%[|1],t,j,λ _ P=>?_|λ z=>absurd g z];try?;refine%[rfl,q,12,o,_,rfl,h1,%[|1],%[|1],cY t (aZ P),cQ j,cQ rg,(YG j hk).symm|λ J hJ=>?_];try?;refine K7 rfl rfl %[|1] ?_;try?;have:=n ([P.map .int]++J) true (λ l h=>(cq.mp h).elim (λ h=>by rw[bX.mp h];exact aZ P) (hJ l));rw[<-ci]at this;exact this}
     . have g:brk o (bV ((ao q).map crs) (ao q).length)≠none:=λ z=>H (hf.mpr (hb.mp z));rw[cE H]
       cases e:brk o (bV ((ao q).map crs) (ao q).length)with
       | none=>exact absurd e g
       | some z=>try?;refine%[rfl,q,12,o,rfl,h1,%[|1],%[|1],t,j,λ z=>absurd z g|λ _=>?_];try?;have:=n [] false (λ l h=>nomatch h);rw[fA]at this;exact this
   {rintro f s ⟨rfl,o8,o9,rfl⟩;try?;exact hw _}
end K40
namespace K40
open PySem PySem.Spec L2 DL RF
open PyProof.Rows
variable{Ω:Wd}{f:Addr}{fd:FuncData}
def by1{G:List Value->Prop}(h:∀a0:Value,G [a0])(a:ae5)(e:a.length=1):G a:=by obtain⟨a0,a,rfl⟩:=dt e;replace e:=ic e;obtain rfl:=eT e;exact h a0
def by2{G:List Value->Prop}(h:∀a0 a1:Value,G [a0,a1])(a:ae5)(e:a.length=2):G a:=by obtain⟨a0,a,rfl⟩:=dt e;replace e:=ic e;obtain⟨a1,a,rfl⟩:=dt e;replace e:=ic e;obtain rfl:=eT e;exact h a0 a1
def by3{G:List Value->Prop}(h:∀a0 a1 a2:Value,G [a0,a1,a2])(a:ae5)(e:a.length=3):G a:=by obtain⟨a0,a,rfl⟩:=dt e;replace e:=ic e;obtain⟨a1,a,rfl⟩:=dt e;replace e:=ic e;obtain⟨a2,a,rfl⟩:=dt e;replace e:=ic e;obtain rfl:=eT e;exact h a0 a1 a2
def by4{G:List Value->Prop}(h:∀a0 a1 a2 a3:Value,G [a0,a1,a2,a3])(a:ae5)(e:a.length=4):G a:=by obtain⟨a0,a,rfl⟩:=dt e;replace e:=ic e;obtain⟨a1,a,rfl⟩:=dt e;replace e:=ic e;obtain⟨a2,a,rfl⟩:=dt e;replace e:=ic e;obtain⟨a3,a,rfl⟩:=dt e;replace e:=ic e;obtain rfl:=eT e;exact h a0 a1 a2 a3
inductive FI(K:ae1)(x:Str)(t:Stmt):Prop
 | mk{f:Addr}{oc:Value}{od:af7}{kV dc pm:Value}{an:af7}{cd ct:Value}{sl:af2}(a:PySem.W.nsIn K mainGlobals x=some (some (.ref f)))(l:K.lookup f=some %[oc,od,.func (PySem.W.fnOf x x (iG t) (dI t) (aY t) .none kV dc pm an cd ct)|sl])(c:PySem.W.codeIn K cd x=true)(k:PySem.W.keepIn K (.ref f)=true):FI K x t
def use(X:Ω.K.In h)(G:h.Ns mainGlobals Ω.mg)(i:Ω.cd=none)(q:FI Ω.K x t)(o:OkF Ω x t k ps F)(b:∀(m f p:Value)(j:af7)(e ct:Value)(g:ae5),g.length=ps.length->bindArgs (PySem.W.fnOf x x (iG t) (dI t) (aY t) .none m f p j e ct) %[g|[]]=pure (ps.zip g)):Cal Ω x k ps.length F:=by obtain⟨a,l,c,n⟩:=q;have d:=Qe (st:=t) l c n;exact callee d (o d i) (PySem.W.mg_of X G a) (d.binds b)
def all_mk{l:PySem.W.OpenLaw}{K}(X:K.In h)(G:h.Ns mainGlobals mg)(aP:mg "law"=some (.ref fa))(q:FI K "law" rK)
(q0:FI K "is_whole" qj)
(q1:FI K "is_tuple_of" lu)
(q2:FI K "is_widths" oM)
(q3:FI K "is_form" uh)
(q4:FI K "is_bound" qM)
(q5:FI K "is_loop" ur)
(q6:FI K "is_loops" qd)
(q7:FI K "has_few_figures" ik)
(q8:FI K "is_start" qW)
(q9:FI K "is_place_form" jr)
(aQ:FI K "is_table_with_place" fO)
(aR:FI K "is_read" uA)
(aS:FI K "is_reads" rn)
(aT:FI K "is_deed" ul)
(aU:FI K "is_nest" uo)
(aV:FI K "is_nests" rC)
(aW:FI K "comes_to" qt)
(aX:FI K "with_next_count" g8)
(aZ:FI K "counts_of" oN)
(a0:FI K "number_of_steps" gZ)
(a1:FI K "program_of" my)
(a2:FI K "steps_of" pR)
(a3:FI K "deed_of" uD)
(a4:FI K "cell_at" ug)
(a5:FI K "cells_of_step" jt)
(a6:FI K "cells_of" qI)
(a7:FI K "touched_cells" jl)
(a8:FI K "pairs" zP)
(a9:FI K "is_row" wF)
(ba:FI K "is_order" pQ)
(bb:FI K "refuse_no_order" gY)
(bc:FI K "places_of" oG)
(bd:FI K "broken" vK)
(be:FI K "plain" zJ)
(bf:FI K "led" KJ)
(bg:FI K "refuse_no_row" jo)
(bh:FI K "trace_held" mF)
(bi:FI K "add_times" oF)
(bj:FI K "trace_of_step" jq)
(bk:FI K "told_trace" mQ)
(bl:FI K "traced" wG)
(bm:FI K "trace_by" ql)
(bn:FI K "compared" rD)
(bo:FI K "_law_cell" Ef)
(bp:FI K "_law_pen" J5)
(bq:FI K "_law_take" Ey)
(br:FI K "_law_loops" z7)
(bs:FI K "_law_form" Ed)
(bt:FI K "_law_deed" HR)
(bu:FI K "_law_program" uv)
(bv:FI K "_law_at" Q8)
(bw:FI K "_law_counts" wI)
(bx:FI K "_law_spot" DG)
(bz:FI K "_law_steps" Ai)
(bA:FI K "_law_orders" v4)
(bB:FI K "touches" uf)
(bC:FI K "_law_come_to" uE)
 (g:PySem.W.nsIn K mainGlobals "MOST_STEPS"=some (some (.int 60 d)))
 (O:PySem.W.nsIn K mainGlobals "abs"=some none)
 (P:PySem.W.nsIn K mainGlobals "all"=some none)
 (z:PySem.W.nsIn K mainGlobals "bool"=some none)
 (A:PySem.W.nsIn K mainGlobals "dict"=some none)
 (j:PySem.W.nsIn K mainGlobals "enumerate"=some none)
 (Q:PySem.W.nsIn K mainGlobals "int"=some none)
 (i:PySem.W.nsIn K mainGlobals "isinstance"=some none)
 (R:PySem.W.nsIn K mainGlobals "len"=some none)
 (C:PySem.W.nsIn K mainGlobals "list"=some none)
 (S:PySem.W.nsIn K mainGlobals "max"=some none)
 (T:PySem.W.nsIn K mainGlobals "min"=some none)
 (x:PySem.W.nsIn K mainGlobals "range"=some none)
 (U:PySem.W.nsIn K mainGlobals "set"=some none)
 (p:PySem.W.nsIn K mainGlobals "sorted"=some none)
 (V:PySem.W.nsIn K mainGlobals "sum"=some none)
 (y:PySem.W.nsIn K mainGlobals "tuple"=some none)
 (W:PySem.W.nsIn K mainGlobals "zip"=some none)
 :∃fd:FuncData,(∀(s:ae4)(v:Value),BindsTo s fd %[[v]|[]] [("_law_script",v)])/\∀base:Heap,K.In base->base.Ns mainGlobals mg->FnOk l.prog w K mg base CX0 11 fa fd ["_law_script"] (spC K 1 wC):=by obtain @⟨f,oc,od,kV,dc,pm,an,cd,ct,sl,a,l',c,k⟩:=q;have e:=aP.symm.trans (PySem.W.mg_of X G a);cases e;refine%[PySem.W.fnOf "law" "law" (iG rK) (dI rK) (aY rK) .none kV dc pm an cd ct,λ s v=>.of_eq rfl|λ base _ _=>?_];have B:Bi mg:=%[%[_|PySem.W.mg_of X G g],e7 X G O,e7 X G P,e7 X G z,e7 X G A,e7 X G j,e7 X G Q,e7 X G i,e7 X G R,e7 X G C,e7 X G S,e7 X G T,e7 X G x,e7 X G U,e7 X G p,e7 X G V,e7 X G y|e7 X G W];let Ω:Wd:=%[l.prog,w,K,mg,base|none];have m:=use (Ω:=Ω) X G rfl q0 (By B) %[|43];have b:=use (Ω:=Ω) X G rfl q1 (uZ B) %[|50];have ar:=use (Ω:=Ω) X G rfl q2 (yc B m b) %[|43];have u:=use (Ω:=Ω) X G rfl q3 (HQ B m b) %[|21];have af:=use (Ω:=Ω) X G rfl q4 (Bj B u) %[|21];have ah:=use (Ω:=Ω) X G rfl q5 (Eh b af) %[|21];have ai:=use (Ω:=Ω) X G rfl q6 (Bq B b ah) %[|43];have H:=use (Ω:=Ω) X G rfl q7 (nA B) %[|43];have aq:=use (Ω:=Ω) X G rfl q8 (Bw B u H) %[|21];have am:=use (Ω:=Ω) X G rfl q9 (pZ B u) %[|21];have J:=use (Ω:=Ω) X G rfl aQ (jZ B m b am) λ _ _ _ _ _ _=>by4 λ _ _ _ _=>rfl;have ao:=use (Ω:=Ω) X G rfl aR (Hn m b H J) %[|50];have ap:=use (Ω:=Ω) X G rfl aS (Ce B b ao) %[|50];have ag:=use (Ω:=Ω) X G rfl aT (Ih b aq J ap) %[|50];have aj:=use (Ω:=Ω) X G rfl aU (HH B b ai ag) %[|21];have ak:=use (Ω:=Ω) X G rfl aV (Br B b aj) %[|21];have t:=use (Ω:=Ω) X G rfl aW (CG B) %[|21];have aG:=use (Ω:=Ω) X G rfl aX (nQ B t) %[|50];have E:=use (Ω:=Ω) X G rfl aZ (yg aG) %[|43];have o:=use (Ω:=Ω) X G rfl a0 (nD B E) %[|43];have ax:=use (Ω:=Ω) X G rfl a1 (vP B ar ak o) %[|21];have L:=use (Ω:=Ω) X G rfl a2 (Bx B E) %[|43];have F:=use (Ω:=Ω) X G rfl a3 (HN) %[|21];have ac:=use (Ω:=Ω) X G rfl a4 (GX B t) %[|50];have ad:=use (Ω:=Ω) X G rfl a5 (rB F ac) %[|21];have r:=use (Ω:=Ω) X G rfl a6 (Cm L ad) %[|43];have M:=use (Ω:=Ω) X G rfl a7 (qi B) %[|21];have au:=use (Ω:=Ω) X G rfl a8 (Mi B r M) %[|43];have I:=use (Ω:=Ω) X G rfl a9 (Ir B m o) %[|21];have al:=use (Ω:=Ω) X G rfl ba (Bb B o I) %[|21];have ay:=use (Ω:=Ω) X G rfl bb (nC al) %[|21];have av:=use (Ω:=Ω) X G rfl bc (xX B) %[|43];have D:=use (Ω:=Ω) X G rfl bd (Ji au ay av) %[|21];have aw:=use (Ω:=Ω) X G rfl be (Ms B o) %[|43];have as:=use (Ω:=Ω) X G rfl bf (Wa B aw D) %[|21];have az:=use (Ω:=Ω) X G rfl bg (pP I) %[|21];have aD:=use (Ω:=Ω) X G rfl bh (vO) %[|21];have ab:=use (Ω:=Ω) X G rfl bi (yz) %[|50];have aE:=use (Ω:=Ω) X G rfl bj (qK B t aD ab) λ _ _ _ _ _ _=>by4 λ _ _ _ _=>rfl;have aA:=use (Ω:=Ω) X G rfl bk (vZ B) %[|43];have aF:=use (Ω:=Ω) X G rfl bl (Ja L F r az aE aA) %[|21];have aC:=use (Ω:=Ω) X G rfl bm (BR) %[|21];have ae:=use (Ω:=Ω) X G rfl bn (Bh B aF aC) %[|50];have Y:=use (Ω:=Ω) X G rfl bo (R8 B) %[|21];have aN:=use (Ω:=Ω) X G rfl bp (UV Y) %[|21];have n:=use (Ω:=Ω) X G rfl bq (Q0 Y) %[|21];have aL:=use (Ω:=Ω) X G rfl br (Mz B n) %[|21];have aK:=use (Ω:=Ω) X G rfl bs (Sd B n) %[|50];have aJ:=use (Ω:=Ω) X G rfl bt (RQ B n aK) %[|50];have aO:=use (Ω:=Ω) X G rfl bu (HS B n aL aJ) %[|21];have N:=use (Ω:=Ω) X G rfl bv (W7 B) %[|21];have aI:=use (Ω:=Ω) X G rfl bw (JR B N) %[|43];have Z:=use (Ω:=Ω) X G rfl bx (R7 B N) %[|50];have aa:=use (Ω:=Ω) X G rfl bz (NB N aI Z) %[|43];have aM:=use (Ω:=Ω) X G rfl bA (Je B) %[|43];have aB:=use (Ω:=Ω) X G rfl bB (G6 r M) %[|50];have aH:=use (Ω:=Ω) X G rfl bC (Ep B aB) %[|21];exact abb (Ω:=Ω) B ax D as ae aN aO aa aM aH (Qe (st:=rK) l' c k) rfl
end K40
local macro_rules|`(universe $[$x]*)=>do return Lean.mkNullNode (←x.mapM fun i=>do
 let n:=Lean.mkIdent (.mkSimple s!"tw{i.getId.toString.toList.tail.foldl (fun a c=>a*62+c.toNat-if c.isDigit then 48 else if c.isUpper then 55 else 61) 0}")
 `(def $n:ident:=()))
namespace PySem.W.Fast
universe u4VndXbpSBPh uGmAQx4jtLjR u6IvmCv8LgSu uCNaRDP5feqD uqv0t4nFoXC u2BkojIr58FD u3i4FcxvfZGX uKwzsx6R1ZDd uAFMdQ4Jkmm4 u1snjzsLjIMo u3BjEVBJMM4V uBLm5jLhM7b uLCLe32mijuW u4IwBIefnVuy uAWtroTwWaM7 uJjjdyFzyRO uJp0BHdozWbr u81lEpUsOfIf uB3dY97LwhrV uKMALtYwsX4I uAgdOXCkBTvj u7GaLnBTLwPW uKZ7bSn0eXN2 u5rCqapC6xjc uDewg1S4qsW4 uJUM6LpEAIKS uLJ7KEAnEaFR uLt37tM93APO u2yfdRf2FZpU uFJPr7uzOBQG uJmiKoQ3oKsd uEZCKLRxvbKe uwbsTgWxW4l uEAIeVTSCgOP uAkPz8ve43Et uCGZK4C0NpZt uLhJw8V20o5V uLVMlTDojFhf uEq5qc8pIDNF u2y0LFm7yZkg u37U1UmYqAqH u4Kd57pfrVno uBLLRBtWXxb8 uDhw6IfLpkNK u5S7gIj1PXAC uLOoJlCeCObb uJGEJzT0qzSw u7efknXPqg0k u3pUKcJi77E0 uE9I8zDzNxZP u1vqn18kLivJ uHn04m0A1iyg uG3TswnvfwmT uFJOhGnIPQzE u4i6P08E04ua u4WbsqlA17fI uL4tgWvGNtDy uLS252nI2Ntg u64NxVldaLXn uLQNeQJpdJSO uZslp4s2jnc u6hvn3cTc3qP uKLK8aJoTapx uGIq2eX1nbb3 uARaKizwiEjK u7lFJtgcw44C u4YTWm7FiWcr u1mjZiAQEGSM uBtfA3eWDHwC uArnaH9tqD99 u2uLIxWJ8Dbw u7Y1aiYtusib uJ648vhoiG7d uFV3SEqITbJJ u1GfSdEoNDpY uJwq5fR1sg6q uFwsc4hQvQ3T u6VkLNyQIs0K uHqGPFksGCwz u8pIOWJyigQm uIXOZ9mCq8QU u20MTbCF5Qsl uGGEryHBsXJC u8piTqZILDSj u48yz8OeWWT u26oCL5Vo7dM uChl0aFIwaH uJ5kolmtFg6L u7syc4Gop6uX uJDfi15bO8af uCZtMreqX8NM uCoY1s54MOds u66yNgZS3nyT u79QZiqVkARY uLHEWfGIVNmL u7EcFTGOBQzx uMDlh4yXVfj uGKKvL1PlJUy uFvAO7gGszI6 uID0HNncRayU u9Z7RTK9DPW4 u7QYGzBVs8wQ u5LdPyUs9Tvm u9T66XoNTxFT u6A32owZEvsR uJmWiJnDdrJ4 u2xATKVisFch u58Qv8re0pQ5 u220QFUbHnza u5GjW3vZs8W4 u3u1Dpe8MgMG uFIRjwOjb9e4 uByAYt5q2QN4 u6GTBTuTkw9d u5c0Yx9rYOVY u3ctonAfcaEk u6Bcsx9tuqqY u3LQNMT14cBH u4hEa8RJfglK u9WPeL0MjDQp u4OaDvo1Tk7U u3NNKNYXpmoi uCP8I6UBqHJp uKAmvlsVuwM8 uGPANeVlm6eW uAFTBv057eht u1HOSL6H8Tk2 u7yJKO7JNAeA uCQFgyd5VLPB uD2WLFuVkhxq u6OscQvgPMmc u7fcJ1BQumiw u6vEyoP7ygq3 u7CgR8GJjgrp u2xrd7zCyNTJ uI7LDiedx8N9 u5x6sonwrNMN uIWtUA9WcLKN uIQnPtlpupI8 uKJlvfv3mJM4 u3XjfR1M3GlH uF5Z5KLrje6F uG9BHLsb8P5r uEaXeTZptD4V uK9cAhsFikTk u77EP6nnLtaM u1IJ9t3ZPWsu uKkyYewrzzkN u5pTBPPO0aq3 uXIfEVZA5kj uDBL8z6PDm1i u8YpRSIoju3W uEefc2pnS0Sl uAvWhhYORbHj u1j887pGtEl0 uC1EGJQnFcdO u7fkIF6ipvtE u8R5xMu4ZAk1 uJNigPIo9L7h uHzMfAOVUxW uGgmp8HNtPef uIWJZkvtxSbT uEguIkVAH1TS uKFKOzWL3c1i u6cvJ2LMPYef u3TNpoTP3Cte uAp3zG7ziWUU u6zwhZPMNVeC u6R2XKoDA3Po uGmD1uvdBcMY u1dVugMqKtY4 u1mjxIiCh4rX uAhy6uGg2gAY uAo8hTrwXj5 u1Lul02vtb9b uDYBBJuNEUTd u7DHgEjlXt90 u1Z0XqDF1G0q uBzp4QfI3Bfk u30buYzTQNze u5u9LTh8Ix7a u1EUV8AOC7FU u1vt9QW6iIIB u34JU5je6UmR u9jTYkTEPmc7 u2Pajtv0Rbe0 u5D53ogji4OV u37TEWZEonOC uG4HnGKF2rYa u4bLvIo8Istm u6mQuAI4nFg8 uFkIR5fKhNJg u5M8mHsW0Kkc u7p6OemU6PEq u65McHecJWeD uKAu4lZXt8Ld uJZTQoLrjxSK uDnMT8Gz1oTk uH69nhuJH6QF uFySTfjj5eJE uBMjXEfy5ri2 uCqkOUoNxM09 u1rTVBt3zMVV u3QCFSJQjB0H uIvoOvpvHwZQ uGDxhxwBz7Qr uIhWAZNcJQr u9AOxRr70nAQ u9EoFxcuArY4 u9ZwZWkBmvQC u3YDikAS1WDN uCbIPeQ8mTfr u9phmiPqpGzV u2ZJQYMa3THp uFhu5Jwb8XlJ u3QjksIUOPi3 u32zTiLdwCKm u69fXU3CXj2V u8zPAHDthcoZ uBfxJZztMZNo u4twjJedjPdd u6mJPCjeSsF2 uF7knbJXuL1A uAWotG3m7Pg0 u7JqIMZPG8nM uAOEFfkAGXur uEteANNnMmY6 u4aom0fnSdDt u2zY0NjKYZ2i uCj58qJptk3y uEU5oLs5Qfxq uCG1XGJUcc9u uIPuP6knB4NN u7wShWbwJTOJ uCdgR2RDFhaL uIzcLgSr3s5M u3WCXkj8mG6L u8jeeE26a3m9 u7TrBRjK9tPN uDR5RJb5zp9e u7hMXtCFMVQg uHfvzQUL9xoh uIOTKq4r1nIb uH2qkEtIwnhp uF8xjhRlZ9qe uK9H9XwSCNgb uHBLDoSKzSMv u6zv3njM0SdH u40WsatxaOdG uEGApIj8MJ1B uJC97qzc6I8K uDiOeL7i7Nec u9kbJjFijS8x uE5RemN85YGP u2F1Qyx5QTQC u3cEDKdB4Yhh u2St5NTWBtsn u4r0kkhjvwbu uImW3WdhZbNB u77cY6NUSIlR u2wyJZhNE1kz uGUm7DGcR62o uKwoFpNxjGZF uBuN3GU1ASK4 uB79lwB5qZvi u6sV3375FOs5 uHC4HBLHYP73 u2z2dw0cYzry uXrLsyiKaO6 u44n63H4Os6u u8Mx62uR8cQN u7SMDrnU4f7o u6S480nZr10o uC3bafl7muoV uGywjd1DH2QX uFEcW164LTnc uBzazZW8YMAI uInt8nCOjjNh uDrB08vkug5s uJe6rcTPgnrl uEYib38d7K6A uGSoSySxp9Am uFLkFwwzf9aa uGFmQTEzTfL2 u1a9Y09E6TdP u2l6Enilz3oN uBrVXRSGAfYB uJyCqL8u7ZUN uABSaawRrd0i u42bOogCxPxz u3DcBSxYv6ta u653dKDp6PaB uCYojYcx0cSs u1FmjWCtCRdV uDWWaPg6yHWW uJ4Kba1jwjTn uIVliEpebLKZ u9BzdwWHybkg uKNCRyfkaEYg u2KZuUM22VIp u7AGdfxySFhE uB9AIMQcFVTl u9rmE7jRzKEU u6FxDC6m1812 u2mR2rs8xc17 uTtIXM5meE9 u8cDCzQFBXCe uLyeSGtCGsvP uEcizoNQQF5H u99aUavFvPdw u61oWL7BFn8C uGXExykrDCOT uBv93SDnU5Sf uGsEhmKy4ewS uEWoROoNhUkD u4ka6wxa7Nia u7keAIS8WHaq uHJufpfIGnio u7PTaW4XJ5JN uBEDclmAbi7O u4lhnap9ryyG um7hmaptS0n u2MIj25pfNF9 uzRBncFpAyA u336pBHwAwdH u58MzRvlGqOj uBRsMSAMeyeE uHXxaTom5WIt u9mVAXvJAywY u7VGW8Z9KaUV u6T9LO5QnJuB uBaavpkgGmYX uLXzBqeP8S59 uIT0L8YEFMwF uJkUReBUtKsE u5ib2AKgFQR0 u3uR8lTBb43D uK9MySjVEkIb uEjS9gXhD46b uQoHyQ0EChC u5otguvrTuOZ uAMJgvynC0zL u6gcLxZfjENK uLhn9uRTHetg uKVvLfUZ1jgN u6Fu0L7bk217 uCrJ0qr5yXzV uBjmBStGYq83 uGfYQcH0XzVK uJa0RDScBY6c u9smlyv1U0uk uEUOhMV7Mrg9 uLr3YevnX4SN uUsPSgYfJ0u u4hqC8T72euT u6WKWzqxNJmL uFsACgzsstra u2sgyrQwOoWv u932bjskvHav uLOO1Z6paKqV u7utido3BgSJ u4lHiffcPSnZ u7q3iw4r8v1G u2ho3PaphtUw uBE3QBUVq5DM uHA7cPG3BnB u1qc2ZdjeyVo uHgzHxxbb6hJ u6ZvfoxnTIaz uKPnagycCbxI uG2qM8Wtpn9a uDJYKPoDbDje uzAwXf8oSbQ uYgNT3D0dla uARqt8BQeulx uHTjYNRzidW3 u9hbLMnzDVDH uF0VYc1o3oSh u8HzIpb9Vpta u5DaKsUFGV6F uKHAL9OJRrHn uVtep77yTJL u86rU9pii6mO u2MUiZVFaJtK uNACVmr9hZY uJ3ELQUIjsj u4pi0XtRksmn uHgrizxlhab4 u7Cwn0Jt20Ga uGDSOatGHixz uLIGbYNyXEUR uGgajG625e7B u83TqbkL6Ppn uJ6oNjhhif90 u13Q5IJGOzwF u5Qk0MRtC0TP u3ZebYHGI9mD uII4YrjDCjDw uL0NaxIftYBa uEu5uVcZEbkR uDmb4QVQbFKO uB61lfXTSWJQ
end PySem.W.Fast
open PySem PySem.W PyProof.Rows
set_option maxRecDepth 100000 in
set_option maxHeartbeats 0 in
theorem PySem.Challenge.cw_nestturn_k40_whole_all_orders_of_few_ste_holds : PySem.Challenge.rw_nestturn_k40_whole_all_orders_of_few_ste.Holds := by
 w_on; o_law; k_head; (case hw => w_witness2)
 k_fill
 refine RF.walk (l := PySem.Challenge.rw_nestturn_k40_whole_all_orders_of_few_ste) (lev := 11) (x := "_law_script") rfl rfl %[rfl, %[|1]| %[|1]] (λ w h Y => by first | exact PySem.W.kIn_of Y | exact PySem.W.km_in_of Y) ?F
 case F =>
  intro w mg fa h KX G hmg
  refine' K40.all_mk KX G hmg ?_ ?_ ?_ ?_ ?_ ?_ ?_ ?_ ?_ ?_ ?_ ?_ ?_ ?_ ?_ ?_ ?_ ?_ ?_ ?_ ?_ ?_ ?_ ?_ ?_ ?_ ?_ ?_ ?_ ?_ ?_ ?_ ?_ ?_ ?_ ?_ ?_ ?_ ?_ ?_ ?_ ?_ ?_ ?_ ?_ ?_ ?_ ?_ ?_ ?_ ?_ ?_ ?_ ?_ ?_ ?_ ?_ ?_ ?_ ?_ ?_ ?_ ?_ ?_ ?_ ?_ ?_ ?_ ?_ ?_ ?_ ?_ ?_ ?_ ?_ ?_
  all_goals try first | (refine' K40.FI.mk ?a ?l ?c ?k; (case a => k_is); (case l => k_is); (case c => k_is); (case k => k_is)) | (show _ = _; k_is)
