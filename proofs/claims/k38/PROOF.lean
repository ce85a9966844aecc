import PyProof.Rows.All
import Wide.All
import OpenK.AllK
import Wide.FinOn
import Lean
import PyProof.EqAt
import PyProof.EqKinds
import PyProof.TupleCall
import KE.KEqDict
import PyProof.ZipIter
import PyProof.ListMulAny
import KE.KTryMore
import PyProof.NsDelKeeps
import KE.KUnpack
import KE.KRevIter
import PyProof.DictUpdate
import PyProof.ListRange
import PyProof.Rows.CallKwBuiltin
import PyProof.WalkInts
import KE.KSortTup
import KE.KLam
import KE.KNestM
import PyProof.CollectIter
import OpenK.KMake
import KE.KDictList
import PyProof.Rows.SortRuns
import PyProof.SetScanFacts
import KE.KDictOf
import PyProof.AttrMissHeap
import PySem.Challenge.RW_nestturn_k38_two_rows_compared
set_option bootstrap.genMatcherCode false
set_option compiler.extract_closed false
set_option genSizeOfSpec false
set_option genSizeOf false
def ZU:=@eq_of_beq
def fE{a:Prop}(h:false=true):a:=(Bool.false_ne_true h).elim
noncomputable section
set_option autoImplicit true
set_option relaxedAutoImplicit true
set_option Elab.async false
local macro_rules|`(%[$a,*|$k])=>`(⟨$a,*,$k⟩)
set_option linter.all false
set_option hygiene false
local macro_rules
| `(%[|0]) => `(by omega)
| `(%[|1]) => `(by decide)
| `(%[|2]) => `(Bi Ω.mg)
| `(%[|3]) => `(Inv X pins σ H s)
| `(%[|4]) => `(Store->Prop)
| `(%[|5]) => `(model prog w)
| `(%[|6]) => `(model X.prog X.w)
| `(%[|7]) => `(Ω.cd=none)
local macro_rules
| `(%[|8]) => `(by kernel_rfl!)
| `(%[|9]) => `(.ref s.heap.objs.size)
| `(%[|10]) => `(.type "tuple")
| `(%[|11]) => `(by decide+kernel)
| `(%[|12]) => `((aB p).length)
| `(%[|13]) => `(S++[.non::a.map encC])
| `(%[|14]) => `(StOk X.K O H S)
| `(%[|15]) => `({s with heap:=h'})
local macro_rules
| `(%[|16]) => `(ao m ps f led mv pl)
| `(%[|17]) => `(Value -> Shared -> Prop)
| `(%[|18]) => `(λ _ _ _ _ _ _=>by2 λ _ _=>rfl)
| `(%[|19]) => `(some (.loc S.length))
| `(%[|20]) => `(At Ω X r top N nm)
| `(%[|21]) => `(leap m p.i p.perturb)
| `(%[|22]) => `(Cal Ω "_law_take" 2 2 ui)
| `(%[|23]) => `(s.heap.push %[|28])
local macro_rules
| `(%[|24]) => `(s.heap.get? b=some o->h'.get? b=some o)
| `(%[|25]) => `(X.env.cells.lookup x=some c)
| `(%[|26]) => `(s.heap.push %[|29])
| `(%[|27]) => `({cls:=.type a,data:=.fields #[.ref c,.int 0 0]})
| `(%[|28]) => `({cls:=.type "dict",data:=.dict #[]})
| `(%[|29]) => `({cls:=.type "list",data:=.seq ([]:List Value).toArray})
set_option hygiene true
def z0:=@List.getElem?_eq_some_iff
def y3:=@List.getElem?_eq_getElem
def y4:=@List.mem_of_getElem?
def y6:=@Bool.false_ne_true
def y7:=@List.length_map
def y8:=@List.getElem?_map
def y9:=@Nat.le_refl
def x4:=@List.mem_cons_of_mem
def x5:=@List.size_toArray
def x6:=@List.mem_cons_self
def x8:=@List.length_append
def x9:=@List.getElem?_append_left
def v3:=@Nat.lt_of_lt_of_le
def b0:=@PySem.wpAny_bind
def b9:=@PySem.wpAny_pure
def bE:=@PySem.Heap.get?_push_of_some
def bP:=@if_neg
def bS:=@PySem.Heap.get?_push_size
def bX:=@PySem.Heap.lt_size
def c8:=@List.mem_map
def c9:=@if_pos
def ca:=@List.append_assoc
def cb:=@List.mem_singleton
def cc:=@decide_eq_true
def cf:=@Option.some.inj
def ci:=@List.mem_cons
def ck:=@List.take_of_length_le
def cm:=@List.mem_append
def cn:=@List.map_cons
def cq:=@Nat.ne_of_lt
def cr:=@List.take_length
def cw:=@Bool.false_eq_true
def cy:=@of_decide_eq_true
def cE:=@List.map_append
def cK:=@decide_eq_false
def cS:=@Nat.le_trans
def d6:=@List.getElem?_of_mem
def da:=@PySem.wpAny_newObj_type
def db:=@Nat.zero_le
def de:=@PySem.wpAny_call_entry
def df:=@List.map_map
def dk:=@Bool.and_true
def dr:=@List.exists_cons_of_length_eq_add_one
def dt:=@List.getElem?_append_right
def dA:=@Array.length_toList
def dE:=@PySem.wpAny_dictEntries
def dQ:=@List.length_cons
def dS:=@PySem.Heap.SameBut.update
def dV:=@List.mem_range
def e7:=@if_false
def e8:=@Int.toNat_natCast
def ed:=@PySem.wpAny_holding
def ef:=@PySem.AutoSeq1.wpAny_loadPart'
def eg:=@PySem.W.mg_none_of
def ej:=@List.length_take
def en:=@List.getElem?_set_ne
def eu:=@PyProof.Rows.callWith_type1
def eC:=@PyProof.Rows.slot_tuple_getitem
def eD:=@Array.getElem?_toList
def eI:=@List.getD_eq_getElem?_getD
def eL:=@congrArg
def eM:=@PySem.wpAny_field
def eR:=@PySem.Heap.get?_update_self
def eW:=@Array.getElem?_eq_none
def f7:=@Nat.le_of_lt
def f8:=@List.eq_nil_of_length_eq_zero
def fb:=@List.mem_append_right
def fe:=@List.nodup_cons
def fg:=@Bool.and_eq_true
def fh:=@Bool.not_true
def fk:=@Nat.ne_of_gt
def fm:=@Array.getD_eq_getD_getElem?
def fo:=@PySem.wpAny_seqItems
def fq:=@beq_self_eq_true
def ft:=@PySem.wpAny_isInstance
def fw:=@Array.getElem?_eq_getElem
def fx:=@List.pairwise_iff_getElem
def fy:=@List.getElem?_set_self
def fA:=@PySem.Calls.spliced_cons
def fF:=@PySem.wpAny_setField_rec
def fI:=@PySem.wpAny_dictEpoch
def fN:=@List.filterMap_cons
def fR:=@List.replicate_succ
def fS:=@List.getElem?_eq_none
def fT:=@List.nodup_nil
def g7:=@List.getElem?_take
def g9:=@List.find?_cons
def gc:=@List.all_eq_true
def gd:=@PySem.wpAny_forIn_list
def ge:=@List.mem_flatMap
def gg:=@PySem.F.slot_dict_itemiterator_next
def gi:=@PySem.Calls.spliced_nil
def gl:=@PySem.Heap.size_push
def gp:=@PySem.wpAny_notOrdered_dict
def gt:=@List.take_append_drop
def gu:=@Bool.eq_iff_iff
def gv:=@PySem.wpAny_Call_Name_kw
def gx:=@List.find?_eq_none
def gy:=@PySem.wpAny_mono
def gz:=@Nat.le_add_right
def gE:=@List.getElem_map
def gI:=@PySem.wpAny_truthy_bool
def gL:=@List.ext_getElem?
def gN:=@List.mem_filter
def gS:=@List.append_nil
def gT:=@PySem.wpAny_specialOf
def gX:=@List.getElem?_zip_eq_some
def h8:=@PySem.F.slot_dict_valueiterator_next
def h9:=@List.mem_of_find?_eq_some
def hE:=@Ne.symm
def hH:=@List.length_singleton
def hV:=@List.mem_filterMap
def hY:=@PySem.wpAny_typeOf
def hZ:=@PySem.wpAny_pyIter_tuple
def i0:=@Array.forIn_toList
def i4:=@PySem.wpAny_askSetting
def i5:=@Nat.lt_irrefl
def i6:=@Bool.true_and
def i7:=@List.mem_append_left
def i8:=@PySem.wpAny_setField
def i9:=@PySem.Around.under_plainId
def ia:=@PySem.F.slot_dict_keyiterator_next
def ib:=@decide_eq_true_eq
def ic:=@List.length_range
def ii:=@PySem.mem_of_lookup
def ij:=@if_true
def im:=@Nat.succ.inj
def io:=@List.cons.inj
def ip:=@List.all_cons
def iq:=@PySem.wpAny_attempt
def ix:=@List.map_flatMap
def iA:=@List.any_eq_true
def iE:=@PyProof.Rows.callWith_builtin1
def iF:=@PySem.wpAny_rule
def iL:=@List.mem_of_mem_take
def iN:=@PySem.codeAny_builtin
def iO:=@PySem.wpAny_typeNameOfWhole_itemiter
def iP:=@Nat.mul_le_mul_right
def iS:=@List.flatten_cons
def iX:=@List.nodup_append
def ja:=@Nat.lt_succ_of_lt
def jp:=@List.foldl_append
def jv:=@PySem.wpAny_typeNameOfWhole_keyiter
def jI:=@PySem.wpAny_typeNameOfWhole_valiter
def jS:=@List.flatMap_append
def k6:=@List.length_drop
def k7:=@List.lookup_cons
def k8:=@List.not_mem_nil
def k9:=@PySem.wpAny_fieldsOf
def ke:=@PySem.sizeLine_eq
def kf:=@Nat.pow_pos
def kg:=@PySem.Obj.data_mapFields
def kn:=@Bool.or_eq_true
def ko:=@List.find?_some
def kq:=@PySem.F.slot_tuple_iterator_next
def kr:=@PySem.wpAny_pyIter_list
def kt:=@PySem.F.slot_tuple_hash
def kw:=@PySem.wpAny_pyIter_slot
def ky:=@List.pairwise_map
def kz:=@List.getElem?_mapIdx
def kA:=@PySem.Obj.data_mapDictKeys
def kB:=@Nat.le_succ
def kC:=@List.length_erase_of_mem
def kD:=@PySem.F.called_set
def kF:=@List.map_congr_left
def kG:=@PySem.call_meets
def kH:=@Nat.lt_of_le_of_lt
def kK:=@List.Nodup.length_le_of_subset
def kL:=@PySem.Heap.get?_update_other
def kM:=@Option.map_eq_some_iff
def kN:=@List.take_sublist
def kP:=@PySem.W.kitx_dict
def kQ:=@Nat.le_of_lt_succ
def kR:=@PySem.Heap.get?_push_ne
def kS:=@List.flatMap_cons
def kT:=@List.map_nil
def kU:=@List.forIn_nil
def kX:=@List.take_zero
def l0:=@List.filterMap_append
def l4:=@Int.add_zero
def l8:=@List.range'_succ
def l9:=@PySem.F.slot_tuple_mul
def lh:=@Array.toList_inj
def lj:=@PySem.Heap.size_update
def ll:=@List.ext_getElem
def lm:=@Nat.pow_le_pow_right
def ln:=@List.map_take
def lp:=@PySem.plainId_quiet
def lI:=@List.perm_ext_iff_of_nodup
def lP:=@PySem.Obj.isFreed_of_dict
def lS:=@Std.Legacy.Range.forIn_eq_forIn_range'
def ma:=@PySem.wpAny_passesOwn
def md:=@PySem.PassesOwn.never
def me:=@List.forIn_cons
def mf:=@PySem.SeqAt.EqAt.same
def mh:=@List.range_succ
def mi:=@Nat.div_le_self
def ml:=@List.mem_or_eq_of_mem_set
def mm:=@List.getElem?_eq_none_iff
def mn:=@Option.isSome_iff_exists
def mr:=@PySem.F.args_tuple_add_2
def ms:=@Prod.ext
def mw:=@Nat.le_of_eq
def mx:=@Nat.mul_comm
def mA:=@of_decide_eq_false
def mB:=@PySem.SeqAt.EqAt.of_refs
def mE:=@Nat.zero_add
def mI:=@Int.emod_lt_of_pos
def mM:=@Array.size_setIfInBounds
def mN:=@PySem.F.slot_list_getattribute
def mP:=@List.set_cons_succ
def mS:=@List.set_cons_zero
def mT:=@List.Perm.eq_of_pairwise
def n3:=@PySem.isSubtype_stop
def n4:=@Int.natAbs_mul
def ng:=@Nat.mul_le_mul
def nh:=@PySem.F.entry_tuple_add
def np:=@Nat.le_mul_of_pos_right
def nr:=@PySem.wpAny_sequenceKey
def nv:=@List.reverse_cons
def nw:=@PySem.wpAny_Call_method
def ny:=@PySem.F.plain_list_iadd
def nB:=@Int.natAbs_add_le
def nE:=@PySem.F.slot_tuple_add
def nI:=@PySem.wpAny_of_eq
def nK:=@List.drop_eq_nil_of_le
def nN:=@PySem.wpAny_isOneOf_itemiter
def nS:=@Nat.le_mul_of_pos_left
def nV:=@PySem.wpAny_handled
def nX:=@List.sum_cons
def oe:=@List.filter_cons
def og:=@Nat.lt_succ_self
def oi:=@List.nodup_range
def oj:=@List.length_replicate
def ol:=@PySem.Obj.isFreed_of_fields
def om:=@List.getElem?_zipWith
def oq:=@PySem.isSubtype_tuple_tuple
def ot:=@PySem.builtinLookup_eq_fast
def ox:=@List.getElem?_toArray
def oy:=@PySem.wpAny_isOneOf_valiter
def oz:=@PySem.wpAny_binaryOp_repeat_ref
def oC:=@PySem.wpAny_Name
def oI:=@PySem.wpAny_loadName_local
def oP:=@PySem.codeAny_mono
def oQ:=@PySem.concat_meets
def oS:=@Nat.succ_mul
def oT:=@Nat.lt_trans
def pb:=@Nat.sub_self
def pd:=@PySem.wpAny_updateSeq_pair
def pf:=@PySem.F.slot_zip_next
def pi:=@PySem.F.slot_int_rmul
def pj:=@Nat.min_eq_left
def pk:=@PySem.wpAny_updateDictKeys
def po:=@Nat.mod_lt
def pu:=@Int.emod_nonneg
def pv:=@beq_eq_false_iff_ne
def pE:=@Int.toNat_of_nonneg
def pS:=@PySem.evalArgs_none
def pT:=@or_false
def pV:=@List.zip_cons_cons
def qa:=@List.mem_replicate
abbrev ab1:=List Int
abbrev ab2:=PySem.W.Frag
abbrev ab3:=PySem.Value->PySem.Shared->Prop
abbrev ab4:=List Nat
abbrev ab5:=PySem.Shared
abbrev ab6:=List PySem.Value
abbrev ab7:=List (PySem.Addr×PySem.Obj)
abbrev ab8:=List PySem.Str
abbrev ab9:=PySem.Str->Option PySem.Value
abbrev ac0:=List (Option Nat)
abbrev ac1:=Array PySem.Value
abbrev ac2:=List PySem.Expr
abbrev ac3:=Array (Option PySem.Value)
abbrev ac4:=PySem.Program
abbrev ac5:=List (PySem.Str×PySem.NameKind)
abbrev ac6:=Option Int
abbrev ac7:=Option PySem.Addr
abbrev ac8:=List (PySem.Str×PySem.Addr)
abbrev ac9:=Int×List Int
abbrev ad0:=PySem.Around
abbrev ad1:=List PySem.Addr
abbrev ad2:=(Int×List Int)×PySem.Addr×PySem.Value
abbrev ad3:=List (List Int)
abbrev ad4:=Array (Option Nat)
abbrev ad5:=Bool->PySem.Shared->Prop
abbrev ad6:=Nat->Nat->Bool
set_option bootstrap.genMatcherCode false
set_option maxRecDepth 100000
theorem hideG {G : Prop} (h : ∀ G2 : Prop, (G → G2) → G2) : G := h G id
local macro_rules | `(tactic| obtain ⟨$a:rcasesPatLo,$b:rcasesPatLo,$c:rcasesPatLo,$d:rcasesPatLo,$es:rcasesPatLo,*⟩ := $v) => `(tactic| (refine hideG fun G_ k_ => ?_; rcases $v:term with ⟨$a,$b,$c,$d,$es,*⟩ <;> (refine k_ ?_; clear k_ G_)))
local macro_rules | `(tactic| rintro $p:rintroPat $q:rintroPat $ps*) => `(tactic| (rintro $p; rintro $q $ps*))
local macro_rules | `(tactic| rintro ⟨$a:rcasesPatLo,$b:rcasesPatLo,$c:rcasesPatLo,$d:rcasesPatLo,$es:rcasesPatLo,*⟩) => `(tactic| (intro z_; obtain ⟨$a,$b,$c,$d,$es,*⟩ := z_))
local macro_rules | `(tactic| omega) => `(tactic| first | with_reducible assumption | with_reducible exact Int.natCast_nonneg _ | with_reducible exact Nat.le_trans (by assumption) (by decide) | with_reducible exact Int.le_trans (by decide) (Int.natCast_nonneg _) | with_reducible exact Int.lt_of_le_of_lt (Int.ofNat_le.mpr (by assumption)) (by decide) | (fail_if_success fail_if_success omega +splitNatSub); first | lia -zetaDelta | lia)
local macro_rules|`(def $i:declId $s:optDeclSig $v:declVal)=>`(noncomputable def $i:declId $s:optDeclSig $v:declVal)
local macro_rules|`(abbrev $i:declId $s:optDeclSig $v:declVal)=>`(noncomputable abbrev $i:declId $s:optDeclSig $v:declVal)
namespace L2
open PySem PySem.Spec PyProof.Rows
abbrev Key:=Sum Int Str
def pL:Key->Value->Bool
 | .inl k,v=>Value.isInt k v
 | .inr x,v=>Value.isStrOf x v
def aaI(w:World):Key->Int
 | .inl k=>hashInt k
 | .inr x=>hashStr w x
theorem bY:∀{k:Key}{v:Value},pL k v=true->(∃i t,k=Sum.inl i/\v=Value.int i t)\/(∃x t,k=Sum.inr x/\v=Value.str x t)
 | .inl i,v,h=>by obtain⟨t,e⟩:=Value.isInt_shape (k:=i) (v:=v) h;exact .inl %[i,t,rfl|e]
 | .inr x,v,h=>by obtain⟨t,e⟩:=Value.isStrOf_shape (x:=x) (v:=v) h;exact .inr %[x,t,rfl|e]
def Lz(i:Int)(t:Tok):pL (.inl i) (.int i t)=true:=by simp[pL,Value.isInt]
def My(x:Str)(t:Tok):pL (.inr x) (.str x t)=true:=by simp[pL,Value.isStrOf]
def Zf(a b:Int):decide ((Sum.inl a:Key)=Sum.inl b)=(a==b):=by by_cases e:a=b;{subst e;simp};{have h:¬(Sum.inl a:Key)=Sum.inl b:=λ q=>e (Sum.inl.inj q);rw[cK h];exact(pv.mpr e).symm}
def Xb(a b:Str):decide ((Sum.inr a:Key)=Sum.inr b)=decide (a=b):=by by_cases e:a=b;{subst e;simp};{have h:¬(Sum.inr a:Key)=Sum.inr b:=λ q=>e (Sum.inr.inj q);rw[cK h,cK e]}
def Yo(a:Int)(b:Str):decide ((Sum.inl a:Key)=Sum.inr b)=false:=cK (λ q=>nomatch q)
def Xe(a:Str)(b:Int):decide ((Sum.inr a:Key)=Sum.inl b)=false:=cK (λ q=>nomatch q)
def dD(prog:ac4)(w:World):PySem.KeyKind prog w Key where
 is:=pL
 hash:=aaI w
 inj:=λ v a b f d=>by rcases bY f with⟨i,t,rfl,rfl⟩ | ⟨x,t,rfl,rfl⟩;{rcases bY d with⟨j,u,rfl,e⟩ | ⟨y,u,rfl,e⟩;{injection e with e1 _;rw[e1]};{exact nomatch e}};{rcases bY d with⟨j,u,rfl,e⟩ | ⟨y,u,rfl,e⟩;{exact nomatch e};{injection e with e1 _;rw[e1]}}
 byValue:=λ k v h=>by rcases bY h with⟨i,t,rfl,rfl⟩ | ⟨x,t,rfl,rfl⟩<;>rfl
 pyHash:=λ c h=>by rcases bY c with⟨i,t,rfl,rfl⟩ | ⟨x,t,rfl,rfl⟩;{exact wpAny_pyHash_int h};{exact wpAny_pyHash_str h}
 eqBool:=λ g c h=>by rcases bY g with⟨i,t,rfl,rfl⟩ | ⟨x,t,rfl,rfl⟩;{rcases bY c with⟨j,u,rfl,rfl⟩ | ⟨y,u,rfl,rfl⟩;{rw[Zf]at h;exact wpAny_eqBool_int h};{rw[Yo]at h;exact SeqAt.EqAt.int_str i t y u _ _ _ _ h}};{rcases bY c with⟨j,u,rfl,rfl⟩ | ⟨y,u,rfl,rfl⟩;{rw[Xe]at h;exact SeqAt.EqAt.str_int x t j u _ _ _ _ h};{rw[Xb]at h;exact wpAny_eqBool_str h}}
 «strs»:=λ k x t v h=>by rcases bY h with⟨i,u,rfl,e⟩ | ⟨y,u,rfl,e⟩;{exact nomatch e};{injection e with e1 _;subst e1;cases v<;>rfl}
def Fp(prog:ac4)(w:World)(i:Int)(t:Tok):(dD prog w).is (.inl i) (.int i t)=true:=Lz i t
def Hl(prog:ac4)(w:World)(x:Str)(t:Tok):(dD prog w).is (.inr x) (.str x t)=true:=My x t
variable{b:Addr}
inductive V where
 | non | bl(b:Bool) | int(i:Int) | str(x:Str) | byt(b:Array UInt8) | flt(b:UInt64) | ref(a:Addr) | ty(n:String)
 deriving DecidableEq
def RelV:V->Value->Prop
 | .non,u=>u=Value.none
 | .bl b,u=>u=Value.bool b
 | .int i,u=>∃t,u=Value.int i t
 | .str x,u=>∃t,u=Value.str x t
 | .byt b,u=>∃t,u=Value.bytes b t
 | .flt b,u=>∃t,u=Value.float b t
 | .ref a,u=>u=Value.ref a
 | .ty n,u=>u=Value.type n
abbrev Vals:List V->List Value->Prop:=Paired RelV
def Vals.length(r:Vals xs a):xs.length=a.length:=Paired.length r
theorem Vals.get:∀{xs:List V}{a:ab6}{i:Nat}{x:V},Vals xs a->xs[i]? =some x->∃u,a[i]? =some u/\RelV x u
 | _,_,_,_,.nil,e=>by simp at e
 | _,_,0,_,.cons r _,e=>by simp at e;subst e;exact%[_,rfl|r]
 | _,_,i+1,x,.cons _ t,e=>by obtain⟨u,b,c⟩:=Vals.get (i:=i) (x:=x) t (by simpa using e);exact%[u,by simpa using b|c]
theorem Vals.set(r:RelV x u):∀{xs:List V}{a:ab6}(i:Nat),Vals xs a->Vals (xs.set i x) (a.set i u)
 | _,_,_,.nil=>.nil
 | _,_,0,.cons _ t=>.cons r t
 | _,_,i+1,.cons q t=>.cons q (Vals.set r i t)
theorem Vals.append:∀{xs ys:List V}{a ws:ab6},Vals xs a->Vals ys ws->Vals (xs++ys) (a++ws)
 | _,_,_,_,.nil,s=>s
 | _,_,_,_,.cons r t,s=>.cons r (Vals.append t s)
theorem Vals.take:∀{xs:List V}{a:ab6}(n:Nat),Vals xs a->Vals (xs.take n) (a.take n)
 | _,_,0,_=>.nil
 | _,_,_+1,.nil=>.nil
 | _,_,n+1,.cons r t=>.cons r (Vals.take n t)
theorem Vals.drop:∀{xs:List V}{a:ab6}(n:Nat),Vals xs a->Vals (xs.drop n) (a.drop n)
 | _,_,0,r=>r
 | _,_,_+1,.nil=>.nil
 | _,_,n+1,.cons _ t=>Vals.drop n t
def XN:Option V->Option Value->Prop
 | some v,some u=>RelV v u
 | none,none=>True
 | _,_=>False
def KV{κ:Type}:List (κ×V)->List (κ×Value)->Prop:=Paired λ(p:κ×V) (q:κ×Value)=>p.1=q.1/\RelV p.2 q.2
def kV:Key->V
 | .inl i=>.int i
 | .inr x=>.str x
inductive HO where
 /-- a list -/
 | lst(xs:List V)
 /-- a tuple (never changes) -/
 | tup(xs:List V)
 /-- a dict whose keys are ints and texts; one whose keys are tuples of ints and texts (the empty one is both) -/
 | dK(kvs:List (Key×V)) | dT(kvs:List (List Key×V))
 /-- a set of ints: its members, its size -/
 | set(S:Int->Bool)(n:Nat)
 /-- an instance of the class at C, its dict at dx, its attributes -/
 | ins(C dx:Addr)(fs:List (Str×V))
 /-- the dict of the instance at x -/
 | own(x:Addr)
 /-- the dict of an exception -/
 | xd(fs:List (Str×V))
 /-- a bound method, f of x -/
 | met(f x:Addr)
 /-- a range object lo, lo + 1, .. below hi -/
 | rng(lo hi:Int)
 /-- a thing that is known to the object (the script; a dict while a loop walks it): read, never written while it is so -/
 | frz(o:Obj)(u:HO)
 /-- a code object's table -/
 | tbl(ps:ac1)
 /-- any other thing, by what is true of its one object (a def of one's own: SetO a S n := HO.ext λ h => ..) -/
 | ext(φ:Heap->Prop)
abbrev Hp:=Addr->Option HO
def upd(H:Hp)(a:Addr)(o:HO):Hp:=λ b=>if b=a then some o else H b
def aL:upd H a o a=some o:=by unfold upd;rw[c9 rfl]
def aq(h:b≠a):upd H a o b=H b:=by unfold upd;rw[bP h]
def aJ{H:Hp}(h:H a=some o)(h':H b=none):a≠b:=by intro e;subst e;rw[h]at h';cases h'
section
variable(P:Program)(w:World)
def aN(H:Hp)(h:Heap)(a:Addr):HO->Prop
 | .lst c=>c.length<=sizeLine/\∃(b:ab6) (n:Nat),Vals c b/\h.get? a=some {cls:=.type "list",data:=.seq b.toArray n}
 | .tup c=>c.length<=sizeLine/\∃b:List Value,Vals c b/\IsTup h a b.toArray
 | .dK kvs=>kvs.length<=sizeLine/\(a==sysModules)=false/\∃j,KV kvs j/\h.DictOf (dD P w) a j
 | .dT kvs=>kvs.length<=sizeLine/\(a==sysModules)=false/\∃c:List (List Key×Addr×Value),
  Paired (λ(p:List Key×V) (q:List Key×Addr×Value)=>p.1=q.1/\H q.2.1=some (.tup (p.1.map kV))/\RelV p.2 q.2.2) kvs c/\
  ∃o e k,h.get? a=some o/\o.ExactDict/\o.data=.dict e k/\e.toList=c.map (entryOfKey (tupleKind (dD P w)))/\(c.map (·.1)).Nodup
 | .set S n=>h.SetOf (intKind P w) a S n
 | .ins C dx fs=>H dx=some (.own a)/\fs.length<=1000/\dx≠a/\h.get? a=some (PySem.W.instObj C dx)/\
  ∃d,h.Ns1 dx d/\(∀f,XN (fs.lookup f) (d f))/\PySem.Within d (fs.map (·.1))
 | .own _=>∃o,h.get? a=some o
 | .xd fs=>∃d,h.Ns1 a d/\∀f,XN (fs.lookup f) (d f)
 | .rng lo hi=>∃t u v,h.get? a=some {cls:=.type "range",data:=.fields #[.int lo t,.int hi u,.int 1 v]}
 | .frz o u=>h.get? a=some o/\aN H h a u
 | .tbl ps=>h.get? a=some {cls:=.none,data:=.fields ps}
 | .met f x=>h.get? a=some (PySem.W.methodObj (.ref f) (.ref x))
 | .ext φ=>φ h/\(∃o,h.get? a=some o)/\∀g i:Heap,φ g->(∀o,g.get? a=some o->i.get? a=some o)->φ i
def HOk(H:Hp)(h:Heap):Prop:=∀a o,H a=some o->aN P w H h a o
end
section
variable{P:Program}{w:World}{H H':Hp}{h h':Heap}{a:Addr}{o:HO}
def aN.lt(x:aN P w H h a o):a<h.objs.size:=by
 cases o with
 | lst d=>obtain⟨_,_,_,_,e⟩:=x;exact bX e
 | tup d=>obtain⟨_,_,_,p⟩:=x;exact p.lt
 | dK b=>obtain⟨_,_,_,_,o,_,_,e,_⟩:=x;exact bX e
 | dT b=>obtain⟨_,_,_,_,o,_,_,e,_⟩:=x;exact bX e
 | set S n=>obtain⟨o,_,_,_,e,_⟩:=x;exact bX e
 | ins C g c=>obtain⟨_,_,_,e,_⟩:=x;exact bX e
 | own y=>obtain⟨_,e⟩:=x;exact bX e
 | xd c=>obtain⟨_,⟨_,_,_,e,_⟩,_⟩:=x;exact bX e
 | rng j i=>obtain⟨_,_,_,e⟩:=x;exact bX e
 | frz k u=>obtain⟨e,_⟩:=x;exact bX e
 | tbl l=>exact bX (show h.get? a=some _ from x)
 | met f y=>exact bX (show h.get? a=some _ from x)
 | ext m=>obtain⟨_,⟨_,e⟩,_⟩:=x;exact bX e
def abG:∀{c:List d}{l₂:List e},Paired F c l₂->(∀a b,F a b->G a b)->Paired G c l₂:=by
 intro _ _ h f
 induction h with
 | nil=>exact .nil
 | cons r t g=>exact .cons (f _ _ r) g
def aN.stay(x:aN P w H h a o)(k:∀b u,(b=a\/H b=some (.own a))->h.get? b=some u->h'.get? b=some u)
 (G:∀b,H b=some (.own a)->H' b=some (.own a))(I:∀b xs,H b=some (.tup xs)->H' b=some (.tup xs)):aN P w H' h' a o:=by
 induction o with
 | lst xs=>obtain⟨z,l,n,r,e⟩:=x;exact%[z,l,n,r|k _ _ (.inl rfl) e]
 | tup xs=>obtain⟨z,l,r,g,e,c⟩:=x;exact%[z,l,r,g,k _ _ (.inl rfl) e|c]
 | dK m=>obtain⟨z,y,L,r,g,j,i,e,c⟩:=x;exact%[z,y,L,r,g,j,i,k _ _ (.inl rfl) e|c]
 | dT m=>obtain⟨z,y,xs,r,g,j,i,e,c⟩:=x;exact%[z,y,xs,abG r λ p q z=>%[z.1,I _ _ z.2.1|z.2.2],g,j,i,k _ _ (.inl rfl) e|c]
 | set S n=>obtain⟨g,j,i,t,e,c⟩:=x;exact%[g,j,i,t,k _ _ (.inl rfl) e|c]
 | ins C M F=>obtain⟨d,z,K,e,s,⟨A,j,i,E,c⟩,r⟩:=x;exact%[G _ d,z,K,k _ _ (.inl rfl) e,s,%[A,j,i,k _ _ (.inr d) E|c]|r]
 | own y=>obtain⟨g,e⟩:=x;exact%[g|k _ _ (.inl rfl) e]
 | xd F=>obtain⟨s,⟨A,j,i,e,c⟩,r⟩:=x;exact%[s,%[A,j,i,k _ _ (.inl rfl) e|c]|r]
 | rng O N=>obtain⟨t,u,v,e⟩:=x;exact%[t,u,v|k _ _ (.inl rfl) e]
 | frz g u J=>obtain⟨e,q⟩:=x;exact%[k _ _ (.inl rfl) e|J q]
 | tbl B=>have e:h.get? a=some {cls:=.none,data:=.fields B}:=x;show h'.get? a=some {cls:=.none,data:=.fields B};exact k a _ (.inl rfl) e
 | met f y=>have e:h.get? a=some (PySem.W.methodObj (.ref f) (.ref y)):=x;show h'.get? a=some (PySem.W.methodObj (.ref f) (.ref y));exact k a _ (.inl rfl) e
 | ext Q=>obtain⟨p,⟨o,e⟩,D⟩:=x;exact%[D _ _ p λ o q=>k _ _ (.inl rfl) q,%[o|k _ _ (.inl rfl) e]|D]
def HOk.lt(x:HOk P w H h)(e:H a=some o):a<h.objs.size:=(x a o e).lt
def HOk.fresh(x:HOk P w H h)(e:h.objs.size<=a):H a=none:=by
 cases q:H a with
 | none=>rfl
 | some u=>exact absurd (v3 (x.lt q) e) (i5 _)
def HOk.kept(x:HOk P w H h)(k:∀b u,h.get? b=some u->h'.get? b=some u):HOk P w H h':=λ a o e=>
 (x a o e).stay (λ b u _ q=>k b u q) (λ _ q=>q) λ _ _ q=>q
def HOk.laid(x:HOk P w H h)(k:∀b u,h.get? b=some u->h'.get? b=some u)(i:h.objs.size<=a)(d:aN P w (upd H a o) h' a o):HOk P w (upd H a o) h':=λ b u e=>by have g:=x.fresh i;by_cases f:b=a;{subst f;rw[aL]at e;cases e;exact d};{rw[aq f]at e;exact(x b u e).stay (λ c v _ q=>k c v q) (λ c q=>by rw[aq (aJ q g)];exact q) λ c j q=>by rw[aq (aJ q g)];exact q}
end
def Rd(H:Hp)(a:Addr)(u:HO):Prop:=H a=some u\/∃o,H a=some (.frz o u)
def Rd.ok(r:Rd H a u)(x:HOk P w H h):aN P w H h a u:=by rcases r with r | ⟨o,r⟩;{exact x a u r};{obtain⟨_,q⟩:=x a _ r;exact q}
def Mut:Option HO->Prop
 | some (.lst _)=>True
 | some (.dK _)=>True
 | some (.dT _)=>True
 | some (.set _ _)=>True
 | some (.ins _ _ _)=>True
 | some (.ext _)=>True
 | _=>False
section
variable{P:Program}{w:World}{H:Hp}{h h':Heap}{x e:Addr}{o':HO}
def HOk.write(ok:HOk P w H h)(j:Mut (H x))(o:e=x\/H e=some (.own x))(k:∀b u,b≠e->h.get? b=some u->h'.get? b=some u)(m:∃u,h'.get? e=some u)
 (n:aN P w (upd H x o') h' x o'):HOk P w (upd H x o') h':=λ b u q=>by
 have d:∀c y,H c=some (.own y)->c≠x:=λ c y r z=>by subst z;rw[r]at j;exact j
 have f:∀c l,H c=some (.tup l)->c≠x:=λ c l r z=>by subst z;rw[r]at j;exact j
 by_cases g:b=x;{subst g;rw[aL]at q;cases q;exact n}
 . rw [aq g]at q;by_cases a:b=e
   . have p:H b=some (.own x):=by rcases o with z | z;{exact absurd (a.trans z) g};{rw[a];exact z}
     rw[q]at p;cases p;obtain⟨v,s⟩:=m;exact%[v|by rw[a];exact s]
   . refine(ok b u q).stay (λ c v i r=>k c v ?_ r) (λ c r=>by rw[aq (d c b r)];exact r) λ c l r=>by rw[aq (f c l r)];exact r
     rcases i with rfl | i;{exact a};{rintro rfl;rcases o with z | z;{exact d c b i z};{rw[i]at z;cases z;exact g rfl}}
end
structure Un(fs ex:ad1)(H H':Hp)(h h':Heap):Prop where
 keep:∀b o,h.get? b=some o->H b=none->b∉fs->b∉ex->h'.get? b=some o
 slot:∀b o,h.get? b=some o->H b=none->b∈fs->b∉ex->∃sl,h'.get? b=some {o with slots:=sl}
 free:∀b o,h.get? b=some o->H b=none->b∉ex->H' b=none
 there:∀b o,h.get? b=some o->b∉ex->∃o',h'.get? b=some o'
 tups:∀b xs,H b=some (.tup xs)->H' b=some (.tup xs)
 frzs:∀b o u,H b=some (.frz o u)->H' b=some (.frz o u)
 tbls:∀b ps,H b=some (.tbl ps)->∃more,H' b=some (.tbl (ps++more))
section
variable{fs fs' ex ex':List Addr}{H H1 H2:Hp}{h h1 h2 h':Heap}{a x e:Addr}{o:HO}
def Un.any(u:Un fs ex H H1 h h1){a}(q:h.get? b=some a)(n:H b=none)(d:b∉ex):∃sl,h1.get? b=some {a with slots:=sl}:=by by_cases c:b∈fs;{exact u.slot b a q n c d};{exact%[a.slots|u.keep b a q n c d]}
def Un.kept(k:∀b u,h.get? b=some u->h'.get? b=some u):Un fs ex H H h h':=
 %[λ b a q _ _ _=>k b a q,λ b a q _ _ _=>%[a.slots|k b a q],λ _ _ _ n _=>n,λ b a q _=>%[a|k b a q],λ _ _ q=>q,λ _ _ _ q=>q|λ _ c q=>%[#[]|by rw[q];simp]]
def Un.refl:Un fs ex H H h h:=Un.kept λ _ _ q=>q
theorem Un.laid(k:∀b u,h.get? b=some u->h'.get? b=some u)(d:h.objs.size<=a)(c:H a=none):Un fs ex H (upd H a o) h h' where
 keep:=λ b u q _ _ _=>k b u q
 slot:=λ b u q _ _ _=>%[u.slots|k b u q]
 free:=λ b u q n _=>by rw[aq (cq (v3 (bX q) d))];exact n
 there:=λ b u q _=>%[u|k b u q]
 tups:=λ b e q=>by rw[aq (aJ q c)];exact q
 frzs:=λ b u e q=>by rw[aq (aJ q c)];exact q
 tbls:=λ b f q=>%[#[]|by rw[aq (aJ q c),q];simp]
def Un.write(c:Mut (H x))(j:e=x\/H e=some (.own x))(k:∀b u,b≠e->h.get? b=some u->h'.get? b=some u)(d:∃u,h'.get? e=some u):Un fs ex H (upd H x o) h h':=by
 have i:∀b,H b=none->b≠x:=λ b n z=>by subst z;rw[n]at c;exact c
 have g:∀b,H b=none->b≠e:=λ b n z=>by subst z;rcases j with r | r;{exact i b n r};{rw[n]at r;cases r}
 have f:∀b u,H b=some u->¬Mut (some u)->b≠x:=λ b u q l z=>by subst z;rw[q]at c;exact l c
 refine%[λ b u q n _ _=>k b u (g b n) q,λ b u q n _ _=>%[u.slots|k b u (g b n) q],λ b u q n _=>by rw[aq (i b n)];exact n,λ b u q _=>?_,
  λ b m q=>by rw[aq (f b _ q λ z=>z)];exact q,λ b u m q=>by rw[aq (f b _ q λ z=>z)];exact q|λ b p q=>%[#[]|by rw[aq (f b _ q λ z=>z),q];simp]];by_cases a:b=e;{subst a;exact d};{exact%[u|k b u a q]}
end
def trk(h:Heap)(H:Hp):List Addr:=(List.range h.objs.size).filter λ a=>(H a).isSome
def j9(h:Heap)(H:Hp):Heap:=PySem.W.hideAll h (trk h H)
def Ox(h:Heap)(H:Hp):(j9 h H).objs.size=h.objs.size:=PySem.W.hideAll_size _ _
def Q3(e:h.get? b=some o)(n:H b=none):(j9 h H).get? b=some o:=
 PySem.W.hideAll_get _ e λ a=>by have q:(H b).isSome=true:=(gN.mp a).2;rw[n]at q;simp at q
def VN(e:(j9 h H).get? b=some o):h.get? b=some o/\H b=none:=by
 have a:h.get? b=some o:=PySem.W.of_hideAll (trk h H) e;refine%[a|?_]
 cases q:H b with
 | none=>rfl
 | some x=>have c:b∈trk h H:=gN.mpr %[dV.mpr (bX a)|by simp[q]];have z:(j9 h H).get? b=none:=PySem.W.hideAll_none (trk h H) c;rw[z]at e;cases e
end L2
namespace L2
open PySem PySem.Spec PyProof.Rows
variable{t':Nat}
structure Mod(K:ab2)(mg:ab9)(base:Heap):Prop where
 kin:K.In base
 glob:base.Ns mainGlobals mg
 blt:∃mb,base.Ns builtinsNs mb/\∀x:Str,x≠"__name__"->mb x=bootBuiltins x
 nolimit:base.NoLimit
set_option genInjectivity false in
structure Cx where
 prog:Program
 w:World
 K:PySem.W.Frag
 mg:Str->Option Value
 base:Heap
 A:Around
 N:List Str
 s₀:Shared
 H₀:Hp
 env:Env
 outer:List Env
 stack:List Env
 ex:List Addr
 fn:Str->Bool
 calm:Bool
 pn:List (Addr×Obj)
 xe:Value->Shared->Prop
def frs(l:List Env):List Addr:=l.filterMap (·.frame)
abbrev Cx.fs(X:Cx):List Addr:=frs X.outer
def Vis(sc:Scope)(x:Str):Prop:=sc.names.lookup x=some .local\/sc.names.lookup x=some .cell\/sc.names.lookup x=some .free
def Loc(sc:Scope)(x:Str):Prop:=sc.names.lookup x=some .local\/sc.names.lookup x=some .cell
def Look(env:Env)(h:Heap)(m:ab9)(x:Str)(u:Value):Prop:=
 (env.kindOf x=some .local/\m x=some u)\/((env.kindOf x=some .cell\/env.kindOf x=some .free)/\∃c,env.cells.lookup x=some c/\h.IsCell c (some u))
structure Cx.Ok(X:Cx):Prop where
 mod:Mod X.K X.mg X.base
 kind:X.env.scope.kind=.function
 glob:X.env.globals=mainGlobals
 blt:X.env.builtins=builtinsNs
 above:X.s₀.heap.objs.size<=X.env.locals
 inj:∀x y c,%[|25]->X.env.cells.lookup y=some c->x=y
 has:∀x,(X.env.kindOf x=some .cell\/X.env.kindOf x=some .free)->∃c,%[|25]
 cab:∀x c,X.fn x=true->%[|25]->X.s₀.heap.objs.size<=c
 hd:X.calm=true->X.A.handled=none
 frames:X.A.frames=some X.stack
 stk:X.stack=X.outer\/(X.stack=X.env::X.outer/\X.env.frame=some X.env.locals)
 exf:∀b∈X.ex,b≠X.env.locals/\∀x c,%[|25]->c≠b
 bs:∀b o,X.base.get? b=some o->X.s₀.heap.get? b=some o/\X.H₀ b=none
 bsz:X.base.objs.size<=X.s₀.heap.objs.size
 noex:∀b o,X.base.get? b=some o->b∉X.ex
 exfs:∀b∈X.ex,b∉X.fs
 funs:X.s₀.heap.FunFrames X.base X.outer
 frf:∀b∈X.fs,X.H₀ b=none
structure Inv(X:Cx)(pins:ab7)(σ:List (Option V))(H:Hp)(s:ab5):Prop where
 ok:X.Ok
 os:s.os=X.s₀.os
 bare:AllBare s.gens
 base:Un X.fs X.ex X.H₀ H X.s₀.heap s.heap
 loc:∃m,s.heap.Ns X.env.locals m/\∀(i:Nat)(x:Str)(v:V),X.N[i]? =some x->σ[i]? =some (some v)->Vis X.env.scope x->∃u,RelV v u/\Look X.env s.heap m x u
 cell:∀x c,%[|25]->∃v,s.heap.IsCell c v
 free:H X.env.locals=none
 freeC:∀x c,%[|25]->H c=none
 pin:∀p∈X.pn++pins,s.heap.get? p.1=some p.2/\H p.1=none/\p.1≠X.env.locals/\p.1∉X.fs/\∀v,p.2.data≠.cell v
 hok:HOk X.prog X.w H s.heap
 len:σ.length=X.N.length
section
variable{X:Cx}{pins:List (Addr × Obj)}{σ:List (Option V)}{H H':Hp}{s:Shared}{h':Heap}
def Cx.Ok.nofr(ok:X.Ok)(e:X.base.get? b=some o):b∉X.fs:=λ a=>by have:=(ok.funs.mem a).1;rw[e]at this;cases this
def Inv.bs(I:%[|3]):∀b o,X.base.get? b=some o->s.heap.get? b=some o/\H b=none:=λ b o e=>
 %[I.base.keep b o (I.ok.bs b o e).1 (I.ok.bs b o e).2 (I.ok.nofr e) (I.ok.noex b o e)|I.base.free b o (I.ok.bs b o e).1 (I.ok.bs b o e).2 (I.ok.noex b o e)]
def Inv.bk(I:%[|3]):∀b o,X.base.get? b=some o->s.heap.get? b=some o:=λ b o e=>(I.bs b o e).1
def Inv.mod(I:%[|3]):Mod X.K X.mg X.base:=I.ok.mod
def Inv.kIn(I:%[|3]):X.K.In s.heap:=I.ok.mod.kin.keeps I.bk
def Inv.lt(I:%[|3]):X.env.locals<s.heap.objs.size:=let ⟨_,hn,_⟩:=I.loc;hn.lt
def Inv.sz(I:%[|3]):X.s₀.heap.objs.size<=s.heap.objs.size:=cS I.ok.above (f7 I.lt)
def Inv.nofs(I:%[|3]){a:Addr}(h:s.heap.objs.size<=a):a∉X.fs:=λ b=>by obtain⟨_,o,c,_⟩:=I.ok.funs.mem b;exact absurd (v3 (bX c) (cS I.sz h)) (i5 _)
def Inv.cne(I:%[|3]):∀x c,%[|25]->c≠X.env.locals:=λ x c e z=>by obtain⟨v,o,f,d⟩:=I.cell x c e;obtain⟨m,⟨i,h,g,b,a,_⟩,_⟩:=I.loc;rw[z,b]at f;cases f;rw[a]at d;cases d
def Inv.funs(I:%[|3]):s.heap.FunFrames X.base X.outer:=by
 have a:∀(l:List Env),(∀b∈frs l,b∈X.fs)->X.s₀.heap.FunFrames X.base l->s.heap.FunFrames X.base l:=by
  intro l
  induction l with
  | nil=>intro _ _;trivial
  | cons h r q=>intro g k;obtain⟨j,⟨L,o,f,m,n,i⟩,p⟩:=k;have c:L∈X.fs:=g L (by unfold frs;rw[fN,f];exact x6);obtain⟨t,e⟩:=I.base.slot L o n (I.ok.frf L c) c λ z=>I.ok.exfs L z c;exact%[j,%[L,_,f,m,e|i]|q (λ b d=>g b (by unfold frs;rw[fN,f];exact x4 _ d)) p]
 exact a X.outer (λ _ d=>d) I.ok.funs
def Inv.stack(I:%[|3]):s.heap.FunFrames X.base X.stack:=by rcases I.ok.stk with e | ⟨e,a⟩;{rw[e];exact I.funs};{rw[e];obtain⟨m,b,_⟩:=I.loc;refine .cons (by rw[I.ok.kind];decide) a b ?_ I.funs;exact Heap.get?_none_of_le (cS I.ok.bsz I.ok.above)}
def Inv.stkSub(I:%[|3]):∀b∈frs X.stack,b∈X.env.locals::X.fs:=λ b a=>by rcases I.ok.stk with e | ⟨e,c⟩;{rw[e]at a;exact x4 _ a};{rw[e]at a;unfold frs at a;rw[fN,c]at a;exact a}
def Inv.stkFree(I:%[|3]):∀b∈frs X.stack,H b=none:=λ b a=>by rcases ci.mp (I.stkSub b a)with e | a;{rw[e];exact I.free};{obtain⟨_,o,c,_⟩:=I.ok.funs.mem a;exact I.base.free b o c (I.ok.frf b a) λ z=>I.ok.exfs b z a}
def Inv.step{ch:ad1}(I:%[|3])
 (g:∀b∈ch,(b∈X.ex\/X.s₀.heap.objs.size<=b)/\b≠X.env.locals/\(∀x c,%[|25]->c≠b)/\∀p∈X.pn++pins,p.1≠b)
 (keep:∀b o,b≠X.env.locals->b∉X.fs->b∉ch->s.heap.get? b=some o->H b=none->h'.get? b=some o)
 (slot:∀b o,b≠X.env.locals->b∈X.fs->b∉ch->s.heap.get? b=some o->H b=none->∃sl,h'.get? b=some {o with slots:=sl})(free:∀b o,b∉ch->s.heap.get? b=some o->H b=none->H' b=none)
 (there:∀b o,b∉ch->s.heap.get? b=some o->∃o',h'.get? b=some o')
 (tups:∀b xs,H b=some (.tup xs)->H' b=some (.tup xs))(frzs:∀b o u,H b=some (.frz o u)->H' b=some (.frz o u))(tbls:∀b ps,H b=some (.tbl ps)->∃more,H' b=some (.tbl (ps++more)))
 (ns:∀m,s.heap.Ns X.env.locals m->h'.Ns X.env.locals m)(D:HOk X.prog X.w H' h')(M:AllBare g'):
 Inv X pins σ H' {s with heap:=h',gens:=g',drawn:=d',toks:=t'}:=by
 have B:∀b o,X.s₀.heap.get? b=some o->b≠X.env.locals:=λ b o e=>cq (v3 (bX e) I.ok.above);have t:∀b o,X.s₀.heap.get? b=some o->b∉X.ex->b∉ch:=λ b o e a w=>by rcases(g b w).1 with z | z;{exact a z};{exact absurd (v3 (bX e) z) (i5 _)}
 have f:∀x c,%[|25]->∀v,s.heap.IsCell c v->h'.IsCell c v:=λ x c e v ⟨o,y,C⟩=>by have h:c∉ch:=λ z=>(g c z).2.2.1 x c e rfl;by_cases F:c∈X.fs;{obtain⟨sl,q⟩:=slot c o (I.cne x c e) F h y (I.freeC x c e);exact%[_,q|C]};{exact%[o,keep c o (I.cne x c e) F h y (I.freeC x c e)|C]}
 refine%[I.ok,I.os,M,%[λ b o e n w a=>?_,λ b o e n w a=>?_,λ b o e n a=>?_,λ b o e a=>?_,λ b xs e=>tups b xs (I.base.tups b xs e),λ b o xs e=>frzs b o xs (I.base.frzs b o xs e)|λ b ps e=>?_],?_,λ x c e=>?_,?_,λ x c e=>?_,λ p G=>?_,D|I.len];{exact keep b o (B b o e) w (t b o e a) (I.base.keep b o e n w a) (I.base.free b o e n a)};{obtain⟨sl,j⟩:=I.base.slot b o e n w a;obtain⟨E,A⟩:=slot b _ (B b o e) w (t b o e a) j (I.base.free b o e n a);exact%[E|A]};{obtain⟨o',j⟩:=I.base.there b o e a;exact free b o' (t b o e a) j (I.base.free b o e n a)};{obtain⟨o',j⟩:=I.base.there b o e a;exact there b o' (t b o e a) j};{obtain⟨P,j⟩:=I.base.tbls b ps e;obtain⟨Q,A⟩:=tbls b _ j;exact%[P++Q|by rw[A,Array.append_assoc]]};{obtain⟨m,O,N⟩:=I.loc;refine%[m,ns m O|λ i x v j A L=>?_];obtain⟨u,r,l⟩:=N i x v j A L;refine%[u,r|?_];rcases l with l | ⟨k,c,e,z⟩;{exact .inl l};{exact .inr %[k,c,e|f x c e _ z]}};{obtain⟨v,z⟩:=I.cell x c e;exact%[v|f x c e v z]};{obtain⟨m,⟨o,_,_,y,_⟩,_⟩:=I.loc;exact free _ o (λ z=>(g _ z).2.1 rfl) y I.free};{obtain⟨v,o,y,C⟩:=I.cell x c e;exact free c o (λ z=>(g c z).2.2.1 x c e rfl) y (I.freeC x c e)};{obtain⟨e,n,J,K,d⟩:=I.pin p G;have h:p.1∉ch:=λ z=>(g p.1 z).2.2.2 p G rfl;exact%[keep p.1 p.2 J K h e n,free p.1 p.2 h e n,J,K|d]}
def Inv.un(I:%[|3])(u:Un X.fs [] H H' s.heap h')(g:HOk X.prog X.w H' h'):Inv X pins σ H' {s with heap:=h',toks:=t'}:=by obtain⟨m,⟨o,p,l,h,r⟩,_⟩:=id I.loc;obtain⟨v,i⟩:=u.any h I.free (by simp);exact I.step (g':=s.gens) (d':=s.drawn) (ch:=[]) (λ _ z=>nomatch z) (λ b o _ f _ e n=>u.keep b o e n f (by simp)) (λ b o _ f _ e n=>u.slot b o e n f (by simp)) (λ b o _ e n=>u.free b o e n (by simp)) (λ b o _ e=>u.there b o e (by simp)) u.tups u.frzs u.tbls (λ q j=>by obtain⟨t,d,c,a,k⟩:=j;rw[h]at a;cases a;exact%[_,d,c,i|k]) g I.bare
def Inv.call(I:%[|3])(u:Un (frs X.stack) ch H H' s.heap h')(j:HOk X.prog X.w H' h')(q:AllBare g')
 (d:∀b∈ch,(b∈X.ex\/X.s₀.heap.objs.size<=b)/\b≠X.env.locals/\(∀x c,%[|25]->c≠b)/\∀p∈X.pn++pins,p.1≠b):
 Inv X pins σ H' {s with heap:=h',gens:=g',drawn:=d',toks:=t'}:=by obtain⟨m,⟨o,y,w,k,r⟩,_⟩:=id I.loc;obtain⟨C,i⟩:=u.any k I.free λ z=>(d _ z).2.1 rfl;exact I.step (ch:=ch) d (λ b o i l a e n=>u.keep b o e n (λ z=>(ci.mp (I.stkSub b z)).elim i l) a) (λ b o _ _ a e n=>u.any e n a) (λ b o a e n=>u.free b o e n a) (λ b o a e=>u.there b o e a) u.tups u.frzs u.tbls (λ A t=>by obtain⟨B,h,g,f,v⟩:=t;rw[k]at f;cases f;exact%[_,h,g,i|v]) j q
def Inv.turned(I:%[|3])(k:∀b o,b≠a->%[|24])(w:H a=none)(g:a≠X.env.locals)
 (h1:a∈X.ex\/X.s₀.heap.objs.size<=a)(h2:∀x c,%[|25]->c≠a)(j:∀p∈X.pn++pins,p.1≠a):Inv X pins σ H {s with heap:=h',toks:=t'}:=by
 have f:∀b u,H b=some u->b≠a:=λ b u e z=>by rw[z,w]at e;cases e
 refine I.step (g':=s.gens) (d':=s.drawn) (ch:=[a]) (λ b l=>?_) (λ b o _ _ d e _=>k b o (λ z=>d (by simp[z])) e) (λ b o _ _ d e _=>%[o.slots|k b o (λ z=>d (by simp[z])) e]) (λ _ _ _ _ n=>n)
  (λ b o d e=>%[o|k b o (λ z=>d (by simp[z])) e]) (λ _ _ e=>e) (λ _ _ _ e=>e) (λ b A e=>%[#[]|by rw[e];simp]) (λ m t=>?_) (λ b u e=>?_) I.bare
 . have e:b=a:=by simpa using l
   subst e;exact%[h1,g,h2|j]
 {obtain⟨o,i,h,y,r⟩:=t;exact%[o,i,h,k _ o (hE g) y|r]};{refine(I.hok b u e).stay (λ c v d q=>k c v ?_ q) (λ _ q=>q) λ _ _ q=>q;rcases d with z | z;{rw[z];exact f b u e};{exact f c _ z}}
def Inv.tok(I:%[|3])(t:Nat):Inv X pins σ H {s with toks:=t}:=I.un (h':=s.heap) (t':=t) Un.refl I.hok
def Inv.kept(I:%[|3])(k:∀b u,s.heap.get? b=some u->h'.get? b=some u):Inv X pins σ H {s with heap:=h',toks:=t'}:=I.un (Un.kept k) (I.hok.kept k)
def Inv.laid{a:Addr}(I:%[|3])(k:∀b u,s.heap.get? b=some u->h'.get? b=some u)(c:s.heap.objs.size<=a)(d:aN X.prog X.w (upd H a o) h' a o):
 Inv X pins σ (upd H a o) {s with heap:=h',toks:=t'}:=I.un (Un.laid k c (I.hok.fresh c)) (I.hok.laid k c d)
def Inv.write(I:%[|3])(f:Mut (H x))(d:e=x\/H e=some (.own x))(k:∀b u,b≠e->s.heap.get? b=some u->h'.get? b=some u)(a:∃u,h'.get? e=some u)
 (c:aN X.prog X.w (upd H x o) h' x o):Inv X pins σ (upd H x o) {s with heap:=h',toks:=t'}:=I.un (Un.write f d k a) (I.hok.write f d k a c)
def Inv.pins_of(I:%[|3])(h:∀p∈a,s.heap.get? p.1=some p.2/\H p.1=none/\p.1≠X.env.locals/\p.1∉X.fs/\∀v,p.2.data≠.cell v):Inv X a σ H s:=
 %[I.ok,I.os,I.bare,I.base,I.loc,I.cell,I.free,I.freeC,λ p b=>(cm.mp b).elim (λ z=>I.pin p (i7 _ z)) (h p),I.hok|I.len]
def Fd{N:ab8}(e:N.Nodup){i j:Nat}(a:N[i]? =some x)(b:N[j]? =some x):i=j:=by obtain⟨f,c⟩:=z0.mp a;obtain⟨g,d⟩:=z0.mp b;exact(List.getElem_inj e).mp (c.trans d.symm)
def wU(I:%[|3])(hN:X.N.Nodup)(hi:X.N[i]? =some x)(t:Loc X.env.scope x)(r:RelV v u)
 (h:∀s',Inv X pins (σ.set i (some v)) H s'->(∃a,Heap.SameBut a s.heap s'.heap/\(a=X.env.locals\/X.env.cells.lookup x=some a))->Q () s')(hf:X.fn x=true\/X.env.scope.names.lookup x=some .local:=by first | exact .inl rfl | exact .inr rfl | assumption):wpAny M A (storeName X.env x u) Q E s:=by
 obtain⟨m,Z,hl⟩:=id I.loc;have P:(X.env.scope.kind==.class||(X.env.scope.kind==.module&&X.env.locals !=X.env.globals))=false:=by rw[I.ok.kind];rfl
 have C:i<σ.length:=by rw[I.len];exact(z0.mp hi).1
 have F:=I.cne;have g:∀{a:Addr}{L:Heap},(∃o,s.heap.get? a=some o/\H a=none)->Heap.SameBut a s.heap L->HOk X.prog X.w H L:=λ{a L} ha hs b ob e=>by obtain⟨_,_,w⟩:=ha;refine(I.hok b ob e).stay (λ c W l q=>(hs.2 c ?_).trans q) (λ _ q=>q) λ _ _ q=>q;rintro rfl;rcases l with rfl | l;{rw[w]at e;cases e};{rw[w]at l;cases l}
 rcases t with D | D;{refine wpAny_storeName_local D Z (λ L aa hs=>?_) P;obtain⟨oL,_,_,ab,_⟩:=id Z;refine h _ %[I.ok,I.os,I.bare,%[λ b o e n G t=>?_,λ b o e n G t=>?_,I.base.free,λ b o e t=>?_,I.base.tups,I.base.frzs|I.base.tbls],%[_,aa|λ j y v' f B Y=>?_],λ y c e=>?_,I.free,I.freeC,λ p hp=>?_,g %[oL,ab|I.free] hs|by simpa using I.len] %[_,hs|.inl rfl];{exact(hs.2 b (cq (v3 (bX e) I.ok.above))).trans (I.base.keep b o e n G t)};{obtain⟨sl,f⟩:=I.base.slot b o e n G t;exact%[sl|(hs.2 b (cq (v3 (bX e) I.ok.above))).trans f]};{obtain⟨o',f⟩:=I.base.there b o e t;exact%[o'|(hs.2 b (cq (v3 (bX e) I.ok.above))).trans f]};{by_cases K:j=i;{subst K;rw[hi]at f;cases f;rw[fy C]at B;cases B;exact%[u,r|.inl %[D|by simp]]};{rw[en (hE K)]at B;obtain⟨u',r',q⟩:=hl j y v' f B Y;refine%[u',r'|?_];rcases q with⟨k,e⟩ | ⟨k,c,e,z⟩;{refine .inl %[k|?_];have:y≠x:=λ e=>K (Fd hN f (e▸hi));simp[this,e]};{exact .inr %[k,c,e|z.sameBut hs (F y c e)]}}};{obtain⟨W,z⟩:=I.cell y c e;exact%[W|z.sameBut hs (F y c e)]};{obtain⟨e,n,U,nf,d⟩:=I.pin p hp;exact%[(hs.2 p.1 U).trans e,n,U,nf|d]}}
 . have J:X.fn x=true:=by rcases hf with z | z;{exact z};{rw[z]at D;cases D}
   obtain⟨c,l⟩:=I.ok.has x (.inl D);obtain⟨W,z⟩:=I.cell x c l;refine wpAny_storeName_cell I.ok.kind D l z (λ L N hs=>?_);obtain⟨oc,R,S⟩:=id z;refine h {s with heap:=L} %[I.ok,I.os,I.bare,%[λ b o e n G t=>?_,λ b o e n G t=>?_,I.base.free,λ b o e t=>?_,I.base.tups,I.base.frzs|I.base.tbls],%[m,Z.sameBut hs (hE (F x c l))|λ j y v' f B Y=>?_],λ y T e=>?_,I.free,I.freeC,λ p hp=>?_,g %[oc,R|I.freeC x c l] hs|by simpa using I.len] %[c,hs|.inr l];{exact(hs.2 b (cq (v3 (bX e) (I.ok.cab x c J l)))).trans (I.base.keep b o e n G t)};{obtain⟨sl,f⟩:=I.base.slot b o e n G t;exact%[sl|(hs.2 b (cq (v3 (bX e) (I.ok.cab x c J l)))).trans f]};{obtain⟨o',f⟩:=I.base.there b o e t;exact%[o'|(hs.2 b (cq (v3 (bX e) (I.ok.cab x c J l)))).trans f]};{by_cases K:j=i;{subst K;rw[hi]at f;cases f;rw[fy C]at B;cases B;exact%[u,r|.inr %[.inl D,c,l|N]]};{rw[en (hE K)]at B;obtain⟨u',r',q⟩:=hl j y v' f B Y;refine%[u',r'|?_];rcases q with q | ⟨k,T,e,z'⟩;{exact .inl q};{refine .inr %[k,T,e|z'.sameBut hs ?_];rintro rfl;exact K (Fd hN f (I.ok.inj _ _ _ e l▸hi))}}};{by_cases O:T=c;{subst O;exact%[_|N]};{obtain⟨w2,z2⟩:=I.cell y T e;exact%[w2|z2.sameBut hs O]}};{obtain⟨e,n,U,nf,d⟩:=I.pin p hp;refine%[(hs.2 p.1 ?_).trans e,n,U,nf|d];intro q;rw[q,R]at e;have q':oc=p.2:=cf e;exact d W (by rw[<-q'];exact S)}
def rP(I:%[|3])(b:X.N.Nodup)(hi:X.N[i]? =some x)(d:Loc X.env.scope x)(r:RelV v u)
 (h:∀s',Inv X pins (σ.set i (some v)) H s'->Q () s')(c:X.fn x=true\/X.env.scope.names.lookup x=some .local:=by first | exact .inl rfl | exact .inr rfl | assumption):wpAny M A (storeName X.env x u) Q E s:=
 wU I b hi d r (λ s' a _=>h s' a) c
def Inv.call'(I:%[|3])(g:s'.os=s.os)(u:Un (frs X.stack) ch H H' s.heap s'.heap)(d:HOk X.prog X.w H' s'.heap)(f:AllBare s'.gens)
 (a:∀b∈ch,(b∈X.ex\/X.s₀.heap.objs.size<=b)/\b≠X.env.locals/\(∀x c,%[|25]->c≠b)/\∀p∈X.pn++pins,p.1≠b):Inv X pins σ H' s':=by obtain⟨i,g',d',t',h⟩:=s';have e:h=s.os:=g;subst e;exact I.call (g':=g') (t':=t') (d':=d') u d f a
end
abbrev XK:=Value->Option Addr->Hp->Prop
abbrev St:=List (Option V)
abbrev VK:=V->Hp->Prop
abbrev TE:=St->Hp->VK->Prop
abbrev TT:=St->Hp->(Bool->Hp->Prop)->Prop
abbrev TA:=St->Hp->(List V->Hp->Prop)->Prop
structure Ends where
 nx:St->Hp->Prop
 rt:VK
 bk:St->Hp->Prop:=λ _ _=>False
 ct:St->Hp->Prop:=λ _ _=>False
abbrev TS:=Ends->St->Hp->Prop
inductive EP(X:Cx)(pins:ab7)(σ:St)(Q:VK)(u:Value)(s':ab5):Prop
 | mk(v:V)(H':Hp)(i:Inv X pins σ H' s')(r:RelV v u)(q:Q v H'):EP X pins σ Q u s'
inductive TP(X:Cx)(pins:ab7)(σ:St)(Q:Bool->Hp->Prop)(b:Bool)(s':ab5):Prop
 | mk(H':Hp)(i:Inv X pins σ H' s')(q:Q b H'):TP X pins σ Q b s'
inductive AP(X:Cx)(pins:ab7)(σ:St)(Q:List V->Hp->Prop)(us:ab6)(s':ab5):Prop
 | mk(vs:List V)(H':Hp)(i:Inv X pins σ H' s')(r:Vals vs us)(q:Q vs H'):AP X pins σ Q us s'
inductive NP(X:Cx)(pins:ab7)(Q:St->Hp->Prop)(s':ab5):Prop
 | mk(σ':St)(H':Hp)(i:Inv X pins σ' H' s')(q:Q σ' H'):NP X pins Q s'
inductive RP(X:Cx)(pins:ab7)(Q:VK)(u:Value)(s':ab5):Prop
 | mk(v:V)(σ':St)(H':Hp)(i:Inv X pins σ' H' s')(r:RelV v u)(q:Q v H'):RP X pins Q u s'
def SP(X:Cx)(pins:ab7)(D:Ends)(f:Flow)(s':ab5):Prop:=
 match f with
 | .next=>NP X pins D.nx s'
 | .brk=>NP X pins D.bk s'
 | .cont=>NP X pins D.ct s'
 | .ret u=>RP X pins D.rt u s'
def PE(X:Cx)(e:Expr)(t:TE):Prop:=
 ∀(a:ab7)(s:ab5)(b:St)(H:Hp)(Q:VK),Inv X a b H s->t b H Q->wpAny %[|6] X.A (eval e X.env) (EP X a b Q) X.xe s
def PA(X:Cx)(es:ac2)(t:TA):Prop:=
 ∀(b:Pos)(a:ab7)(s:ab5)(c:St)(H:Hp)(Q:List V->Hp->Prop),Inv X a c H s->t c H Q->wpAny %[|6] X.A (spliced (backTo b (starEach es X.env))) (AP X a c Q) X.xe s
def PS(X:Cx)(st:Stmt)(t:TS):Prop:=
 ∀(a:ab7)(s:ab5)(b:St)(H:Hp)(D:Ends),Inv X a b H s->t D b H->wpAny %[|6] X.A (exec st X.env) (SP X a D) X.xe s
def PSs(X:Cx)(st:List Stmt)(t:TS):Prop:=
 ∀(a:ab7)(s:ab5)(b:St)(H:Hp)(D:Ends),Inv X a b H s->t D b H->wpAny %[|6] X.A (execs st X.env) (SP X a D) X.xe s
def thn{Q b:c->Shared->Prop}(h:wpAny M A t Q E s)(d:∀a s,Q a s->b a s):wpAny M A t b E s:=gy h d λ _ _ x=>x
end L2
namespace L2
open PySem PySem.Spec PyProof.Rows
variable{x:Str}{u:Value}
section
variable{X:Cx}
def aax(i:Nat):TE:=λ a H Q=>∃v,a[i]? =some (some v)/\Q v H
def tC(v:V):TE:=λ _ H Q=>Q v H
def WT{pos}(n:X.N[i]? =some x)(t:Vis X.env.scope x)(j:(x==("__debug__":Str))=false:=by decide)(g:(x==("__classdict__":Str))=false:=by decide):PE X (.Name x pos) (aax i):=by intro f s w H Q I h;obtain⟨v,e,h⟩:=h;obtain⟨m,q,o⟩:=I.loc;obtain⟨u,r,l⟩:=o i x v n e t;have b:EP X f w Q u s:=%[v,H,I,r|h];rcases l with⟨d,p⟩ | ⟨d,c,k,a⟩;{exact oC (oI I.ok.kind d q p b) j};{rcases d with d | d;{exact oC (wpAny_loadName_cell I.ok.kind d k a b) j};{exact oC (wpAny_loadName_free I.ok.kind d k a b g) j}}
def YH{i j pos}:PE X (.Constant (.int i) j pos) (tC (.int i)):=λ _ _ _ H _ I h=>wpAny_Constant_int %[.int i,H,I.tok _,%[_|rfl]|h]
def aap{b j pos}:PE X (.Constant (.bool b) j pos) (tC (.bl b)):=λ _ _ _ H _ I h=>Constant_bool %[.bl b,H,I,rfl|h]
def Yr{j pos}:PE X (.Constant .none j pos) (tC .non):=λ _ _ _ H _ I h=>Constant_none %[.non,H,I,rfl|h]
def YM{x j pos}:PE X (.Constant (.str x) j pos) (tC (.str x)):=λ _ _ _ H _ I h=>Calls.Constant_str %[.str x,H,I.tok _,%[_|rfl]|h]
def Gl(X:Cx)(x:Str):Prop:=X.env.kindOf x=some .globalImplicit
def Hr{σ:St}(I:%[|3])(b:Gl X x)(c:X.mg x=some u)(h:Q u s)
 (a:(x==("__debug__":Str))=false:=by decide):wpAny %[|6] X.A (eval (.Name x pos) X.env) Q E s:=
 Calls.Name_function_global I.ok.kind b (Calls.loadGlobal_global (by rw[I.ok.glob];exact I.mod.glob.keeps I.bk) c h) a
def cz{E}{σ:St}{pos}(I:%[|3])(d:Gl X x)(e:X.mg x=none)(g:bootBuiltins x=some u)(h:Q u s)
 (f:x≠"__name__":=by decide)(c:(x==("__debug__":Str))=false:=by decide):wpAny %[|6] X.A (eval (.Name x pos) X.env) Q E s:=by obtain⟨i,a,b⟩:=I.mod.blt;exact Calls.Name_function_global I.ok.kind d (Calls.loadGlobal_builtin (by rw[I.ok.glob];exact I.mod.glob.keeps I.bk) e (by rw[I.ok.blt];exact a.keeps I.bk) ((b x f).trans g) h) c
def UW(b:Gl X x)(c:X.mg x=some u)(r:RelV v u)(a:(x==("__debug__":Str))=false:=by decide):PE X (.Name x pos) (tC v):=
 λ _ _ _ H _ I h=>Hr I b c %[v,H,I,r|h] a
def Hz{pos}(b:Gl X x)(c:X.mg x=none)(e:bootBuiltins x=some u)(r:RelV v u)(d:x≠"__name__":=by decide)(a:(x==("__debug__":Str))=false:=by decide):PE X (.Name x pos) (tC v):=
 λ _ _ _ H _ I h=>cz I b c e %[v,H,I,r|h] d a
variable{a b:Expr}{ta tb:TE}{pos:Pos}
variable{tA tB':TT}{rest:List Expr}
end
end L2
namespace L2
open PySem PySem.Spec PyProof.Rows
variable{K:PySem.W.Frag}{tg:Expr}
def SqL(K:ab2)(H:Hp)(a:Addr)(xs:List V):Prop:=
 Rd H a (.lst xs)\/
  ∃(o:Obj) (b:ac1) (n:Nat),K.lookup a=some o/\o.cls=.type "list"/\o.dict=none/\o.data=.seq b n/\b.size<=sizeLine/\Vals xs b.toList
def SqT(K:ab2)(H:Hp)(a:Addr)(xs:List V):Prop:=
 Rd H a (.tup xs)\/
  ∃(o:Obj) (b:ac1) (n:Nat),K.lookup a=some o/\o.cls=%[|10]/\o.data=.seq b n/\b.size<=sizeLine/\Vals xs b.toList
def aaw:Value->Option V
 | .none=>some .non
 | .bool b=>some (.bl b)
 | .int i _=>some (.int i)
 | .str x _=>some (.str x)
 | .bytes b _=>some (.byt b)
 | .float b _=>some (.flt b)
 | .ref a=>some (.ref a)
 | .type n=>some (.ty n)
 | _=>none
def RelV.abs(r:RelV x u):aaw u=some x:=by
 cases x with
 | non=>cases r;rfl
 | bl _=>cases r;rfl
 | int _=>obtain⟨t,rfl⟩:=r;rfl
 | str _=>obtain⟨t,rfl⟩:=r;rfl
 | byt _=>obtain⟨t,rfl⟩:=r;rfl
 | flt _=>obtain⟨t,rfl⟩:=r;rfl
 | ref _=>cases r;rfl
 | ty _=>cases r;rfl
def RelV.inj(r:RelV x u)(q:RelV y u):x=y:=cf (r.abs.symm.trans q.abs)
def Vals.inj:∀{xs ys:List V}{a:ab6},Vals xs a->Vals ys a->xs=ys:=by
 intro xs ys a h
 induction h generalizing ys with
 | nil=>intro q;cases q;rfl
 | cons r t b=>intro q;cases q with| cons c d=>rw[r.inj c,b d]
section
variable{X:Cx}{pins:List (Addr × Obj)}{σ:St}{H:Hp}{s:Shared}{a:Addr}{xs ys:List V}
def SqL.of(h:H a=some (.lst xs)):SqL K H a xs:=.inl (.inl h)
def Inv.list(I:%[|3])(h:SqL X.K H a xs):∃its:List Value,Vals xs its/\PlainL s.heap a its.toArray/\xs.length<=sizeLine:=by rcases h with h | ⟨o,its,n,d,b,c,f,g,r⟩;{obtain⟨z,its,n,r,e⟩:=h.ok I.hok;exact%[its,r,%[_,n,e,rfl,rfl|rfl]|z]};{refine%[its.toList,r,%[o,n,I.kIn a o d,b,c|by simpa using f]|?_];have e:=r.length;simp only[dA]at e;omega}
def Inv.tuple(I:%[|3])(h:SqT X.K H a xs):∃its:List Value,Vals xs its/\IsTup s.heap a its.toArray/\xs.length<=sizeLine:=by rcases h with h | ⟨o,its,n,c,b,d,f,r⟩;{obtain⟨z,its,r,p⟩:=h.ok I.hok;exact%[its,r,p|z]};{refine%[its.toList,r,%[o,I.kIn a o c,b,n|by simpa using d]|?_];have e:=r.length;simp only[dA]at e;omega}
def Inv.list_inj(I:%[|3])(h:SqL X.K H a xs)(h':SqL X.K H a ys):xs=ys:=by
 obtain⟨c,r,⟨o,n,e,_,_,d⟩,_⟩:=I.list h;obtain⟨b,i,⟨k,j,g,_,_,f⟩,_⟩:=I.list h';rw[e]at g;cases g;rw[d]at f;injection f with d1 _;have:c=b:=by simpa using congrArg Array.toList d1
 subst this;exact r.inj i
def Inv.tuple_inj(I:%[|3])(h:SqT X.K H a xs)(h':SqT X.K H a ys):xs=ys:=by
 obtain⟨c,r,⟨o,e,_,n,d⟩,_⟩:=I.tuple h;obtain⟨b,i,⟨k,g,_,j,f⟩,_⟩:=I.tuple h';rw[e]at g;cases g;rw[d]at f;injection f with d1 _;have:c=b:=by simpa using congrArg Array.toList d1
 subst this;exact r.inj i
end
abbrev Cx.wish(X:Cx)(E:ab3):Cx:={X with xe:=E}
abbrev Cx.nox(X:Cx):Cx:=X.wish λ _ _=>False
def Cx.Ok.wish{X:Cx}(ok:X.Ok)(E:ab3):(X.wish E).Ok:=
 %[ok.mod,ok.kind,ok.glob,ok.blt,ok.above,ok.inj,ok.has,ok.cab,ok.hd,ok.frames,ok.stk,ok.exf,ok.bs,ok.bsz,ok.noex,ok.exfs,ok.funs|ok.frf]
def Cx.Ok.unwish{X:Cx}(ok:(X.wish E).Ok):X.Ok:=
 %[ok.mod,ok.kind,ok.glob,ok.blt,ok.above,ok.inj,ok.has,ok.cab,ok.hd,ok.frames,ok.stk,ok.exf,ok.bs,ok.bsz,ok.noex,ok.exfs,ok.funs|ok.frf]
section
variable{X:Cx}{pins:List (Addr × Obj)}{σ:St}{H:Hp}{s:Shared}{E:%[|17]}
def Inv.wish(I:%[|3])(E:ab3):Inv (X.wish E) pins σ H s:=%[I.ok.wish E,I.os,I.bare,I.base,I.loc,I.cell,I.free,I.freeC,I.pin,I.hok|I.len]
def Inv.unwish(I:Inv (X.wish E) pins σ H s):%[|3]:=%[I.ok.unwish,I.os,I.bare,I.base,I.loc,I.cell,I.free,I.freeC,I.pin,I.hok|I.len]
def SP.unwish(h:SP (X.wish E) pins D f s'):SP X pins D f s':=by
 cases f with
 | next=>obtain⟨a,b,I,q⟩:=h;exact%[a,b,I.unwish|q]
 | brk=>obtain⟨a,b,I,q⟩:=h;exact%[a,b,I.unwish|q]
 | cont=>obtain⟨a,b,I,q⟩:=h;exact%[a,b,I.unwish|q]
 | ret u=>obtain⟨v,a,b,I,r,q⟩:=h;exact%[v,a,b,I.unwish,r|q]
def PSs.nox{st}(h:PSs X.nox st t):PSs X st t:=λ a s c H D I b=>
 gy (h a s c H D (I.wish _) b) (λ _ _ q=>q.unwish) λ _ _ z=>False.elim z
end
section
variable{X:Cx}{st:Stmt}{rest:List Stmt}{t u:TS}{e:Expr}{te:TE}{pos:Pos}
def Inv.quiet{σ:St}(I:%[|3]):interactive X.env=false:=by simp[interactive,I.ok.kind]
end
abbrev TG:=V->St->Hp->(St->Hp->Prop)->Prop
def PG(X:Cx)(target:Expr)(t:TG):Prop:=
 ∀ (a:ab7)(s:ab5)(b:St)(H:Hp)(v:V)(u:Value)(Q:St->Hp->Prop),Inv X a b H s->RelV v u->t v b H Q->
   wpAny %[|6] X.A (assign target X.env u) (λ _ c=>NP X a Q c) X.xe s
abbrev aaZ:=V->V->V->Hp->(Hp->Prop)->Prop
def aaY(X:Cx)(t:aaZ):Prop:=
 ∀ (a:ab7)(s:ab5)(e:St)(H:Hp)(o i v:V)(d c u:Value)(Q:Hp->Prop),Inv X a e H s->RelV o d->RelV i c->RelV v u->t o i v H Q->
   wpAny %[|6] X.A (setItem d c u) (λ _ f=>∃b,Inv X a e b f/\Q b) X.xe s
abbrev TIp:=V->V->Hp->VK->Prop
def PIp(X:Cx)(op:Operator)(t:TIp):Prop:=
 ∀ (a:ab7)(s:ab5)(b:St)(H:Hp)(x y:V)(v u:Value)(Q:VK),Inv X a b H s->RelV x v->RelV y u->t x y H Q->
   wpAny %[|6] X.A (inplaceOp op v u) (EP X a b Q) X.xe s
section
variable{X:Cx}{pos:Pos}
def aaL(i:Nat)(te:TE)(ti:TIp):TS:=λ D a H=>∃x,a[i]? =some (some x)/\te a H λ y b=>ti x y b λ z c=>D.nx (a.set i (some z)) c
def BX(E:X.N.Nodup)(hi:X.N[i]? =some x)(n:Loc X.env.scope x)(G:PE X e q)(N:PIp X op t)(J:X.fn x=true\/X.env.scope.names.lookup x=some .local:=by first | exact .inl rfl | exact .inr rfl | assumption):
 PS X (.AugAssign (.Name x f) op e pos) (aaL i q t):=by
 intro a s A H D I h;obtain⟨v,C,h⟩:=h;obtain⟨m,M,K⟩:=I.loc;have o:Vis X.env.scope x:=by rcases n with k | k;exact .inl k;exact .inr (.inl k)
 obtain⟨u,r,l⟩:=K i x v hi C o;refine wpAny_AugAssign_Name ?_;have p:wpAny %[|6] X.A (eval e X.env) (λ w g=>wpAny %[|6] X.A (inplaceOp op u w) (λ r j=>wpAny %[|6] X.A (storeName X.env x r) (λ _=>SP X a D .next) X.xe j) X.xe g) X.xe s:=by refine thn (G a s A H _ I h) λ w O ⟨y,H1,I1,r1,q1⟩=>?_;refine thn (N a O A H1 v y u w _ I1 r r1 q1) λ z P ⟨zv,H2,I2,r2,q2⟩=>?_;exact rP I2 E hi n r2 (λ Q B=>%[_,H2,B|q2]) J
 rcases l with⟨b,L⟩ | ⟨b,c,F,d⟩;{exact oI I.ok.kind b M L p};{rcases b with b | b;{exact wpAny_loadName_cell I.ok.kind b F d p};{rcases n with k | k;{have:X.env.scope.names.lookup x=some .free:=b;rw[k]at this;cases this};{have:X.env.scope.names.lookup x=some .free:=b;rw[k]at this;cases this}}}
end
structure It where
 go:Nat->Hp->Prop
 yld:Nat->Hp->V->Hp->Prop
 stop:Nat->Hp->Prop
def gn(X:Cx)(pins:ab7)(H:Hp)(b:Addr):Prop:=
 H b=none/\b≠X.env.locals/\b∉X.fs/\(b∈X.ex\/X.s₀.heap.objs.size<=b)/\(∀x c,%[|25]->c≠b)/\∀p∈X.pn++pins,p.1≠b
def Inv.fpOk{σ:St}{b:Addr}(I:%[|3])(a:s.heap.objs.size<=b)(f:d b=none):gn X pins d b:=by refine%[f,fk (v3 I.lt a),I.nofs a,.inr (cS I.sz a),λ x c e z=>?_|λ p g z=>?_];{obtain⟨v,q⟩:=I.cell x c e;exact absurd (v3 q.lt (by rw[z];exact a)) (i5 _)};{exact absurd (v3 (bX (I.pin p g).1) (by rw[z];exact a)) (i5 _)}
structure Turn(P:ac4)(w:World)(K:ab2)(tg:Expr)(J:It)(fp:ad1)(it:Addr)(tn:Nat->Heap->Prop):Prop where
 mem:it∈fp
 obj:∀i h,tn i h->∀b∈fp,∃o,h.get? b=some o/\∀v,o.data≠.cell v
 keep:∀i h h',tn i h->(∀b∈fp,∀o,h.get? b=some o->h'.get? b=some o)->tn i h'
 item:∀(X:Cx),X.prog=P->X.w=w->X.K=K->X.calm=true->∀(i:Nat)(pins:ab7)(s:ab5)(σ:St)(H:Hp)(E:ab3),%[|3]->(∀b∈fp,gn X pins H b)->tn i s.heap->J.go i H->
  wpAny (model P w) X.A (pyNext (.ref it)) (λ r s1=>∃u,r=some u/\
   wpAny (model P w) X.A (letOwnedTupleGo tg (.ref it) u) (λ _ s2=>∃x H',Inv X pins σ H' s2/\RelV x u/\J.yld i H x H'/\tn (i+1) s2.heap/\∀b∈fp,H' b=none) E s1) E s
 done:∀(X:Cx),X.prog=P->X.w=w->X.K=K->X.calm=true->∀(i:Nat)(pins:ab7)(s:ab5)(σ:St)(H:Hp)(E:ab3),%[|3]->(∀b∈fp,gn X pins H b)->tn i s.heap->J.stop i H->
  wpAny (model P w) X.A (pyNext (.ref it)) (λ r s1=>r=none/\Inv X pins σ H s1) E s
 self:∀(A:ad0)(i:Nat)(s:ab5)(Q:ab3)(E:ab3),tn i s.heap->Q (.ref it) s->wpAny (model P w) A (pyIter (.ref it)) Q E s
abbrev TI:=St->Hp->(It->Hp->Prop)->Prop
def PIE(X:Cx)(pins:ab7)(σ:St)(tg:Expr)(R:It->Hp->Prop)(itv:Value)(s2:ab5):Prop:=
 ∃(d:Addr) (c:ad1) (e:Nat->Heap->Prop) (J:It) (a:Hp),itv=.ref d/\Inv X pins σ a s2/\Turn X.prog X.w X.K tg J c d e/\e 0 s2.heap/\(∀b∈c,gn X pins a b)/\R J a
def PI(X:Cx)(tg iter:Expr)(wi:TI):Prop:=
 ∀ (a:ab7)(s:ab5)(b:St)(H:Hp)(R:It->Hp->Prop),Inv X a b H s->wi b H R->
   wpAny %[|6] X.A (eval iter X.env) (λ v c=>wpAny %[|6] X.A (pyIter v) (PIE X a b tg R) X.xe c) X.xe s
def zx(g:s.heap.get? b=some o)(d:o.cls=.type n)(e:o.data=.fields c)
 (f:["enumerate","zip","dict_itemiterator","dict_reverseitemiterator","odict_iterator","itertools.zip_longest","itertools.pairwise"].contains n=false)(a:Q () s):wpAny M A (letOwnedTupleGo tg (.ref b) u) Q E s:=by
 unfold letOwnedTupleGo;cases tg<;>first
  | exact b9 a
  | (cases u<;>first
   | exact b9 a
   | (refine b0 (wpAny_load g ?_);rw[d,e];show wpAny M A (if(["enumerate","zip","dict_itemiterator","dict_reverseitemiterator","odict_iterator","itertools.zip_longest","itertools.pairwise"].contains n&&c[0]? ==some (rawInt _))=true then _ else _) Q E s;rw[bP (by intro h;rw[f,Bool.false_and]at h;cases h)];exact b9 a))
def Itl(K:ab2)(a:Addr):It:=
 %[λ i H=>∃b x,SqL K H a b/\b[i]? =some x,λ i H x c=>c=H/\∀b,SqL K H a b->b[i]? =some x|λ i H=>∃b,SqL K H a b/\b.length<=i]
def Itt(K:ab2)(a:Addr):It:=
 %[λ i H=>∃b x,SqT K H a b/\b[i]? =some x,λ i H x c=>c=H/\∀b,SqT K H a b->b[i]? =some x|λ i H=>∃b,SqT K H a b/\b.length<=i]
def Itr(lo:Int)(n:Nat):It:=%[λ i _=>i<n,λ i H x a=>a=H/\x=.int (lo+i)|λ i _=>n<=i]
theorem oJ(a l:Addr):Turn P w K tg (Itl K a) [l] l (λ i h=>h.IsListIter l a i) where
 mem:=by simp
 obj:=λ i h f b j=>by
  have e:b=l:=by simpa using j
  subst e;obtain⟨o,e,c,d⟩:=f;exact%[o,e|λ v z=>by rw[d]at z;cases z]
 keep:=λ i h n f k=>f.at λ o e=>k l (by simp) o e
 item:=by intro X F J D O i g s Q H E I q f G;subst F J D;obtain⟨Z,x,r,L⟩:=G;obtain⟨M,N,p,W⟩:=I.list r;obtain⟨u,U,Y⟩:=N.get L;obtain⟨t,y,T,A,B,C⟩:=q l (by simp);refine wpAny_pyNext_list_item f p.isList (x:=u) (by simpa using U) λ n m sb=>?_;have R:Inv X g Q H {s with heap:=n}:=I.turned (t':=s.toks) (λ b o j e=>(sb.2 b j).trans e) t y A B C;obtain⟨o,e,c,d⟩:=id m;exact%[u,rfl|zx (s:={s with heap:=n}) e c d %[|1] %[x,H,R,Y,%[rfl|λ ys V=>by rw[I.list_inj V r];exact L],m|λ b j=>(q b j).1]]
 done:=by intro X F J D O i g s Q H E I q f G;subst F J D;obtain⟨Z,r,L⟩:=G;obtain⟨M,N,p,W⟩:=I.list r;obtain⟨t,y,T,A,B,C⟩:=q l (by simp);have hl:=N.length;exact wpAny_pyNext_list_end (I.ok.hd O) f p.isList (by simp;omega) λ n S=>%[rfl|I.turned (t':=s.toks) (λ b o j e=>S b o j e) t y A B C]
 self:=λ _ _ _ _ _ f h=>wpAny_pyIter_listiter f h
theorem t8(a l:Addr):Turn P w K tg (Itt K a) [l] l (λ i h=>h.IsTupleIter l a i) where
 mem:=by simp
 obj:=λ i h f b j=>by
  have e:b=l:=by simpa using j
  subst e;obtain⟨o,e,c,d⟩:=f;exact%[o,e|λ v z=>by rw[d]at z;cases z]
 keep:=λ i h q f k=>f.at λ o e=>k l (by simp) o e
 item:=by intro X G L F O i g s Q H E I r f J;subst G L F;obtain⟨Z,x,t,M⟩:=J;obtain⟨m,N,p,W⟩:=I.tuple t;obtain⟨u,U,Y⟩:=N.get M;obtain⟨y,A,T,B,C,D⟩:=r l (by simp);refine wpAny_pyNext_tuple_item f (show s.heap.IsTuple a m.toArray from p) (x:=u) (by simpa using U) λ q n sb=>?_;have R:Inv X g Q H {s with heap:=q}:=I.turned (t':=s.toks) (λ b o j e=>(sb.2 b j).trans e) y A B C D;obtain⟨o,e,c,d⟩:=id n;exact%[u,rfl|zx (s:={s with heap:=q}) e c d %[|1] %[x,H,R,Y,%[rfl|λ ys V=>by rw[I.tuple_inj V t];exact M],n|λ b j=>(r b j).1]]
 done:=by intro X G L F O i g s Q H E I r f J;subst G L F;obtain⟨Z,t,M⟩:=J;obtain⟨m,N,p,W⟩:=I.tuple t;obtain⟨y,A,T,B,C,D⟩:=r l (by simp);have hl:=N.length;exact wpAny_pyNext_tuple_end (I.ok.hd O) f (show s.heap.IsTuple a m.toArray from p) (by simp;omega) λ q S=>%[rfl|I.turned (t':=s.toks) (λ b o j e=>S b o j e) y A B C D]
 self:=λ _ _ _ _ _ f h=>wpAny_pyIter_tupleiter f h
theorem Kd(c:Addr)(lo:Int)(n:Nat):Turn P w K tg (Itr lo n) [c] c (λ i h=>IsRangeIter h c (lo+(i:Nat)*1) ((n:Int)-(i:Nat)) 1) where
 mem:=by simp
 obj:=λ i h a b f=>by
  have e:b=c:=by simpa using f
  subst e;exact%[_,a|λ v z=>by have O:Data.fields _=Data.cell v:=z;cases O]
 keep:=λ i h j a k=>k c (by simp) _ a
 item:=by intro X y C x A i d s F H E I l a B;subst y C x;obtain⟨m,p,L,q,r,u⟩:=l c (by simp);have W:=Walks.range (prog:=X.prog) (w:=X.w) (I.ok.hd A) c lo 1 n;refine W.item i s _ _ B a λ v j D M g N=>?_;obtain⟨t,rfl⟩:=M;have G:Inv X d F H {s with heap:=j,toks:=D}:=I.turned (λ b o f e=>N b o (by simpa using f) e) m p q r u;refine%[_,rfl|zx (s:={s with heap:=j,toks:=D}) (n:="range_iterator") g rfl rfl %[|1] %[.int (lo+i),H,G,%[t|?_],%[rfl|rfl],g|λ b f=>(l b f).1]];rw[Int.mul_one]
 done:=by intro X y C x A i d s F H E I l a B;subst y C x;obtain⟨m,p,L,q,r,u⟩:=l c (by simp);exact wpAny_pyNext_range_end (I.ok.hd A) a (by have:n<=i:=B;omega) λ j J=>%[rfl|I.turned (t':=s.toks) (λ b o f e=>J b o f e) m p q r u]
 self:=λ _ _ _ _ _ a h=>wpAny_pyIter_rangeiter a h
end L2
namespace L2
open PySem PySem.Spec PyProof.Rows
section
variable{X:Cx}{tg:Expr}
def zQ{σ:St}{lo hi}(I:%[|3])(h1: -(2 ^ 62)<=lo)(h2:lo<2 ^ 62)(f: -(2 ^ 62)<=hi)(g:hi<2 ^ 62)
 (q:R (Itr lo (hi-lo).toNat) H):wpAny %[|6] X.A (pyIter %[|9]) (PIE X pins σ tg R) E {s with heap:=s.heap.push {cls:=.type "range",data:=.fields #[.int lo t,.int hi u,.int 1 v]},toks:=tk}:=by
 refine wpAny_pyIter_range (IsRange.new ..) (small_one h1 h2 f g) ?_;have a:Inv X pins σ H {s with heap:=s.heap.push {cls:=.type "range",data:=.fields #[.int lo t,.int hi u,.int 1 v]},toks:=tk}:=I.kept λ b o e=>bE _ e;refine%[(s.heap.push {cls:=.type "range",data:=.fields #[.int lo t,.int hi u,.int 1 v]}).objs.size,[(s.heap.push {cls:=.type "range",data:=.fields #[.int lo t,.int hi u,.int 1 v]}).objs.size],_,_,H,rfl,
  a.kept (t':=tk) λ b o e=>bE _ e,Kd _ lo (hi-lo).toNat,?_,λ b h=>?_|q]
 . have c:lo+((0:Nat):Int)*1=lo:=by simp
   have d:(((hi-lo).toNat:Nat):Int)-((0:Nat):Int)=Builtin.Range.rangeSize lo hi 1:=by rw[rangeSize_one];split<;>omega
   show IsRangeIter _ _ (lo+((0:Nat):Int)*1) ((((hi-lo).toNat:Nat):Int)-((0:Nat):Int)) 1;rw[c,d];exact bS _ rfl
 . have e:b=(s.heap.push {cls:=.type "range",data:=.fields #[.int lo t,.int hi u,.int 1 v]}).objs.size:=by simpa using h
   subst e;exact a.fpOk (y9 _) (a.hok.fresh (y9 _))
def aaf(ta:TA):TI:=λ c H R=>ta c H λ b a=>∃j:Int,b=[.int j]/\ -(2 ^ 62)<=j/\j<2 ^ 62/\R (Itr 0 j.toNat) a
def Zv(ta:TA):TI:=λ c H R=>ta c H λ b a=>∃i j:Int,b=[.int i,.int j]/\(-(2 ^ 62)<=i/\i<2 ^ 62/\ -(2 ^ 62)<=j/\j<2 ^ 62)/\R (Itr i (j-i).toNat) a
def Ph(g:Gl X "range")(i:X.mg "range"=none)(f:PA X [a] d)(hs:starEach [a] X.env=[(false,eval a X.env)]:=by rfl):PI X tg (.Call (.Name "range" p) [a] [] pos) (aaf d):=by intro b s m H R I h;refine Call_ (cz I g i boot_range (eu (thn (f pos b s m H _ I h) λ o n ⟨vs,H1,I1,r1,c⟩=>?_) hs rfl));obtain⟨j,e,c,k,q⟩:=c;subst e;cases r1 with| cons r l=>cases l;obtain⟨t,rfl⟩:=r;exact call_range_1 (zQ I1 %[|0] %[|0] c k (by simpa using q))
def Pq{p pos}(m:Gl X "range")(n:X.mg "range"=none)(l:PA X [a,b] k)(hs:starEach [a,b] X.env=[(false,eval a X.env),(false,eval b X.env)]:=by rfl)(c:starEach [b] X.env=[(false,eval b X.env)]:=by rfl):
 PI X tg (.Call (.Name "range" p) [a,b] [] pos) (Zv k):=by intro d s x H R I h;refine Call_ (cz I m n boot_range (eu (thn (l pos d s x H _ I h) λ A y ⟨vs,H1,I1,r1,f⟩=>?_) (by rw[hs,c]) (by rw[c];rfl)));obtain⟨i,j,e,⟨f,o,u,v⟩,q⟩:=f;subst e;cases r1 with| cons r g=>cases g with| cons w g=>cases g;obtain⟨t,rfl⟩:=r;obtain⟨z,rfl⟩:=w;exact call_range_2 (zQ I1 f o u v q)
def aaH(wi:TI)(g:TG)(tb:TS):TS:=λ D a H=>wi a H λ J f=>∃W:Nat->Nat->St->Hp->Prop,(∃m,W 0 m a f)/\∀i m a H,W i m a H->
 (J.stop i H/\D.nx a H)\/(J.go i H/\∃N:St->Hp->Prop,(∀c b,N c b->∃e,e<m/\W (i+1) e c b)/\∀x b,J.yld i H x b->g x a b λ d h=>tb {D with nx:=N,ct:=N,bk:=D.nx} d h)
def nC(fp:ad1)(h:Heap):List (Addr×Obj):=fp.filterMap λ b=>(h.get? b).map λ o=>(b,o)
def gW(c:b∈a)(e:h.get? b=some o):(b,o)∈nC a h:=hV.mpr %[b,c|by rw[e];rfl]
def Nq(f:p∈nC a h):p.1∈a/\h.get? p.1=some p.2:=by
 obtain⟨b,d,e⟩:=hV.mp f
 cases q:h.get? b with
 | none=>rw[q]at e;cases e
 | some o=>rw[q]at e;have c:(b,o)=p:=cf e;subst c;exact%[d|q]
def Inv.pinned{σ:St}(I:%[|3])(j:∀b∈a,gn X pins H b)(k:∀b∈a,∃o,s.heap.get? b=some o/\∀v,o.data≠.cell v):Inv X (pins++nC a s.heap) σ H s:=
 I.pins_of λ p l=>(cm.mp l).elim (λ z=>I.pin p (fb _ z)) λ z=>by obtain⟨f,e⟩:=Nq z;obtain⟨g,h,i,_⟩:=j p.1 f;obtain⟨o,c,d⟩:=k p.1 f;rw[e]at c;cases c;exact%[e,g,h,i|d]
def Inv.unpinned{σ:St}(I:Inv X (pins++pl) σ H s):%[|3]:=I.pins_of λ p a=>I.pin p (fb _ (i7 _ a))
def Lj(E:PassesOwn %[|6] X.A X.env X.xe)(V:X.calm=true)(hi:PI X tg iter wi)(hg:PG X tg g)(p:PSs X z tb)
 (hs:∀x,foldedSetIterable iter X.env x=pure x:=by intro _;rfl):PS X (.For tg iter z [] pos) (aaH wi g tb):=by
 intro a s σ H D I h;refine wpAny_For (thn (hi a s σ H _ I h) λ v s1 h1=>thn h1 λ aa s2 h2=>?_) hs;obtain⟨it,B,tn,J,H2,e,I2,T,R,U,W,⟨m0,w0⟩,M⟩:=h2;subst e;have q:∀{y:Hp},(∀b∈B,y b=none)->∀b∈B,gn X a y b:=λ hn b p=>%[hn b p|(U b p).2];refine codeAny_forLoop_any (λ n Y=>∃i t y,Inv X a t y Y/\tn i Y.heap/\(∀b∈B,y b=none)/\W i n t y) ?_ m0 %[0,σ,H2,I2,R,λ b p=>(U b p).1|w0];rintro n Z ⟨i,w,O,S,G,C,w3⟩;rcases M i n w O w3 with⟨L,qn⟩ | ⟨go,N,hN,K⟩;{refine ma E (thn (T.done X rfl rfl rfl V i a Z w O X.xe S (q C) G L) λ r s4 ⟨hr,I4⟩=>?_);subst hr;exact wpAny_execs_nil %[w,O,I4|qn]}
 . refine ma E (thn (T.item X rfl rfl rfl V i a Z w O X.xe S (q C) G go) λ r s4 ⟨u,hr,h4⟩=>?_);subst hr;refine ma E (thn h4 λ _ s5 ⟨x,H5,I5,r5,y5,st5,fr5⟩=>?_);have P:=I5.pinned (q fr5) (T.obj _ _ st5);refine ma E (thn (hg _ s5 w H5 x u _ P r5 (K x H5 y5)) λ _ s6 ⟨σ6,H6,I6,q6⟩=>?_);refine ma E (thn (p _ s6 σ6 H6 _ I6 q6) λ f Q A=>?_);have l:∀{c:St}{j:Hp},Inv X (a++nC B s5.heap) c j Q->N c j->∃m,m<n/\∃i t y,Inv X a t y Q/\tn i Q.heap/\(∀b∈B,y b=none)/\W i m t y:=λ{c j} k F=>by obtain⟨m',hm,w7⟩:=hN c j F;refine%[m',hm,i+1,c,j,k.unpinned,T.keep _ _ _ st5 λ b p o e=>(k.pin (b,o) (fb _ (fb _ (gW p e)))).1,λ b p=>?_|w7];obtain⟨o,e,d⟩:=T.obj _ _ st5 b p;exact(k.pin (b,o) (fb _ (fb _ (gW p e)))).2.1
   cases f with
   | next=>obtain⟨c,j,k,F⟩:=A;exact l k F
   | cont=>obtain⟨c,j,k,F⟩:=A;exact l k F
   | brk=>obtain⟨c,j,k,A⟩:=A;exact%[c,j,k.unpinned|A]
   | ret v=>obtain⟨x7,c,j,k,r7,A⟩:=A;exact%[x7,c,j,k.unpinned,r7|A]
end
abbrev R2:=V->V->Hp->VK->Prop
def OpR(X:Cx)(f:Value->Value->Sem Value)(r:R2):Prop:=
 ∀ (a:ab7)(s:ab5)(b:St)(H:Hp)(x y:V)(v u:Value)(Q:VK),Inv X a b H s->RelV x v->RelV y u->r x y H Q->
   wpAny %[|6] X.A (f v u) (EP X a b Q) X.xe s
def UnR(X:Cx)(f:Value->Sem Value)(r:V->Hp->VK->Prop):Prop:=
 ∀ (a:ab7)(s:ab5)(b:St)(H:Hp)(x:V)(v:Value)(Q:VK),Inv X a b H s->RelV x v->r x H Q->
   wpAny %[|6] X.A (f v) (EP X a b Q) X.xe s
def eZ(X:Cx)(f:Value)(r:List V->Hp->VK->Prop):Prop:=
 ∀ (a:ab7)(s:ab5)(d:St)(H:Hp)(c:List V)(b:ab6)(Q:VK),Inv X a d H s->Vals c b->r c H Q->
   wpAny %[|6] X.A (call f b) (EP X a d Q) X.xe s
def rI(C:Int->Int->Prop)(g:Int->Int->V):R2:=λ x y H Q=>∃i j,x=.int i/\y=.int j/\C i j/\Q (g i j) H
def rI0(g:Int->Int->V):R2:=λ x y H Q=>∃i j,x=.int i/\y=.int j/\Q (g i j) H
def rU(g:Int->V):V->Hp->VK->Prop:=λ x H Q=>∃i,x=.int i/\Q (g i) H
section
variable{X:Cx}{a b c:Expr}{ta tb tc:TE}{pos:Pos}
def opI{g:Int->Int->Int}
 (a:∀(i j:Int)(t u:Tok)(s:ab5)(Q:ab3)(E:ab3),C i j->Q (.int (g i j) s.toks) {s with toks:=s.toks+1}->wpAny %[|6] X.A (f (.int i t) (.int j u)) Q E s):
 OpR X f (rI C λ i j=>.int (g i j)):=by intro b s l H x y v u Q I d e h;obtain⟨i,j,rfl,rfl,c,q⟩:=h;obtain⟨t,rfl⟩:=d;obtain⟨k,rfl⟩:=e;exact a i j t k s _ _ c %[.int (g i j),H,I.tok _,%[_|rfl]|q]
def Kg{g:Int->Int->Int}
 (a:∀(i j:Int)(t u:Tok)(s:ab5)(Q:ab3)(E:ab3),Q (.int (g i j) s.toks) {s with toks:=s.toks+1}->wpAny %[|6] X.A (f (.int i t) (.int j u)) Q E s):
 OpR X f (rI0 λ i j=>.int (g i j)):=by intro b s k H x y v u Q I c d h;obtain⟨i,j,rfl,rfl,q⟩:=h;obtain⟨t,rfl⟩:=c;obtain⟨e,rfl⟩:=d;exact a i j t e s _ _ %[.int (g i j),H,I.tok _,%[_|rfl]|q]
def JB{g:Int->Int->Bool}
 (a:∀(i j:Int)(t u:Tok)(s:ab5)(Q:ab3)(E:ab3),Q (.bool (g i j)) s->wpAny %[|6] X.A (f (.int i t) (.int j u)) Q E s):
 OpR X f (rI0 λ i j=>.bl (g i j)):=by intro b s k H x y v u Q I c d h;obtain⟨i,j,rfl,rfl,q⟩:=h;obtain⟨t,rfl⟩:=c;obtain⟨e,rfl⟩:=d;exact a i j t e s _ _ %[.bl (g i j),H,I,rfl|q]
def aaN(i j:Int):Prop:=0<j/\j<1073741824
def CPow(i j:Int):Prop:=0<=j/\j<=1000000/\i.natAbs<2 ^ 64
def CMul(i j:Int):Prop:=(-(2 ^ 64)<i/\i<2 ^ 64)\/(-(2 ^ 64)<j/\j<2 ^ 64)
def CMul.ok(h:CMul i j):IntMulOk i j:=by rcases h with⟨a,b⟩ | ⟨a,b⟩;{exact .of_left (intBits_le_64 a b)};{exact .of_right (intBits_le_64 a b)}
def YW:OpR X (binaryOp .Add) (rI0 λ i j=>.int (i+j)):=Kg λ _ _ _ _ _ _ _ q=>add_int q
def XM:OpR X (binaryOp .Sub) (rI0 λ i j=>.int (i-j)):=Kg λ _ _ _ _ _ _ _ q=>sub_int q
def X6:OpR X (binaryOp .Mult) (rI CMul λ i j=>.int (i*j)):=opI λ _ _ _ _ _ _ _ a q=>mul_int q a.ok
def VV:OpR X (binaryOp .FloorDiv) (rI aaN λ i j=>.int (i/j)):=opI λ i j _ _ _ _ _ hc q=>by have a:(0:Int)<j:=hc.1;have b:j<1073741824:=hc.2;exact floordiv_int %[|0] (by rw[Int.fdiv_eq_ediv_of_nonneg i %[|0]];exact q) (.inl (PyProof.noPylong_small %[|0]))
def XS:OpR X (binaryOp .Mod) (rI (λ _ j=>0<j) λ i j=>.int (i % j)):=opI λ i j _ _ _ _ _ a q=>by have b:(0:Int)<j:=a;exact mod_int' %[|0] (by rw[Int.fmod_eq_emod_of_nonneg i %[|0]];exact q)
def Yx:OpR X (binaryOp .Pow) (rI CPow λ i j=>.int (i ^ j.toNat)):=opI λ _ _ _ _ _ _ _ hc q=>pow_int_small hc.1 hc.2.1 hc.2.2 q
def UT:OpR X (inplaceOp .Add) (rI0 λ i j=>.int (i+j)):=Kg λ _ _ _ _ _ _ _ q=>iadd_int q
def Wy:OpR X (inplaceOp .Sub) (rI0 λ i j=>.int (i-j)):=Kg λ _ _ _ _ _ _ _ q=>isub_int q
def We:OpR X (inplaceOp .Mult) (rI CMul λ i j=>.int (i*j)):=opI λ _ _ _ _ _ _ _ a q=>imul_int q a.ok
def unI{g:Int->Int}
 (a:∀(i:Int)(t:Tok)(s:ab5)(Q:ab3)(E:ab3),Q (.int (g i) s.toks) {s with toks:=s.toks+1}->wpAny %[|6] X.A (f (.int i t)) Q E s):
 UnR X f (rU λ i=>.int (g i)):=by intro b s d H x v Q I c h;obtain⟨i,rfl,q⟩:=h;obtain⟨t,rfl⟩:=c;exact a i t s _ _ %[.int (g i),H,I.tok _,%[_|rfl]|q]
def W2:UnR X (unaryOp .USub) (rU λ i=>.int (-i)):=unI λ _ _ _ _ _ q=>neg_int q
end
def WR:V->V->Bool
 | .non,.non=>true | .non,.int _=>true | .int _,.non=>true | .non,.bl _=>true | .bl _,.non=>true | .non,.str _=>true | .str _,.non=>true
 | .int _,.int _=>true | .bl _,.bl _=>true | .str _,.str _=>true | .byt _,.byt _=>true
 | .int _,.str _=>true | .str _,.int _=>true | .bl _,.str _=>true | .str _,.bl _=>true
 | _,_=>false
def rEq:R2:=λ x y H Q=>WR x y=true/\Q (.bl (decide (x=y))) H
def rNe:R2:=λ x y H Q=>WR x y=true/\Q (.bl (!decide (x=y))) H
def pA:decide (V.int i=V.int j)=(i==j):=by rw[gu];simp
def uf:decide (V.bl i=V.bl j)=(i==j):=by rw[gu];simp
def Hw:decide (V.str i=V.str j)=(i==j):=by rw[gu];simp
def Hv:decide (V.byt i=V.byt j)=(i.toList==j.toList):=by rw[gu];cases i;cases j;simp
section
variable{X:Cx}{a b c:Expr}{ta tb tc:TE}{pos:Pos}
def aP{σ:St}{k a}(I:%[|3])(q:Q (.bl k) H)(e:k=a):EP X pins σ Q (.bool a) s:=by subst e;exact%[.bl k,H,I,rfl|q]
def Tw:OpR X (compareOp .Eq) rEq:=by
 intro e s f H x y v u Q I d a h;obtain⟨c,q⟩:=h
 cases x with
 | non=>
   cases d
   cases y with
   | non=>cases a;exact PySem.EqNone.eq_none_none (aP I q (by simp))
   | bl j=>cases a;exact PySem.EqNone.eq_none_bool (aP I q (by simp))
   | int j=>obtain⟨b,rfl⟩:=a;exact PySem.EqNone.eq_none_int (aP I q (by simp))
   | str j=>obtain⟨b,rfl⟩:=a;exact PySem.EqNone.eq_none_str (aP I q (by simp))
   | _=>exact absurd (show false=true from c) y6
 | bl i=>
   cases d
   cases y with
   | non=>cases a;exact PySem.EqNone.eq_bool_none (aP I q (by simp))
   | bl j=>cases a;exact eq_bool (aP I q uf)
   | str j=>obtain⟨b,rfl⟩:=a;exact PySem.EqMixed.eq_bool_str (aP I q (by simp))
   | _=>exact absurd (show false=true from c) y6
 | int i=>
   obtain⟨t,rfl⟩:=d
   cases y with
   | non=>cases a;exact PySem.EqNone.eq_int_none (aP I q (by simp))
   | int j=>obtain⟨b,rfl⟩:=a;exact eq_int (aP I q pA)
   | str j=>obtain⟨b,rfl⟩:=a;exact PySem.EqMixed.eq_int_str (aP I q (by simp))
   | _=>exact absurd (show false=true from c) y6
 | str i=>
   obtain⟨t,rfl⟩:=d
   cases y with
   | non=>cases a;exact PySem.EqNone.eq_str_none (aP I q (by simp))
   | bl j=>cases a;exact PySem.EqMixed.eq_str_bool (aP I q (by simp))
   | int j=>obtain⟨b,rfl⟩:=a;exact PySem.EqMixed.eq_str_int (aP I q (by simp))
   | str j=>obtain⟨b,rfl⟩:=a;exact eq_str (aP I q Hw)
   | _=>exact absurd (show false=true from c) y6
 | byt i=>
   obtain⟨t,rfl⟩:=d
   cases y with
   | byt j=>obtain⟨b,rfl⟩:=a;exact PySem.W.eq_bytes (aP I q Hv)
   | _=>exact absurd (show false=true from c) y6
 | _=>cases y<;>exact absurd (show false=true from c) y6
def Tj:OpR X (compareOp .NotEq) rNe:=by
 intro e s f H x y v u Q I d a h;obtain⟨c,q⟩:=h
 cases x with
 | non=>
   cases d
   cases y with
   | non=>cases a;exact PySem.EqNone.ne_none_none (aP I q (by simp))
   | bl j=>cases a;exact PySem.EqNone.ne_none_bool (aP I q (by simp))
   | int j=>obtain⟨b,rfl⟩:=a;exact PySem.EqNone.ne_none_int (aP I q (by simp))
   | str j=>obtain⟨b,rfl⟩:=a;exact PySem.EqNone.ne_none_str (aP I q (by simp))
   | _=>exact absurd (show false=true from c) y6
 | bl i=>
   cases d
   cases y with
   | non=>cases a;exact PySem.EqNone.ne_bool_none (aP I q (by simp))
   | bl j=>cases a;exact ne_bool (aP I q (eL not uf))
   | str j=>obtain⟨b,rfl⟩:=a;exact PySem.EqMixed.ne_bool_str (aP I q (by simp))
   | _=>exact absurd (show false=true from c) y6
 | int i=>
   obtain⟨t,rfl⟩:=d
   cases y with
   | non=>cases a;exact PySem.EqNone.ne_int_none (aP I q (by simp))
   | int j=>obtain⟨b,rfl⟩:=a;exact ne_int (aP I q (eL not pA))
   | str j=>obtain⟨b,rfl⟩:=a;exact PySem.EqMixed.ne_int_str (aP I q (by simp))
   | _=>exact absurd (show false=true from c) y6
 | str i=>
   obtain⟨t,rfl⟩:=d
   cases y with
   | non=>cases a;exact PySem.EqNone.ne_str_none (aP I q (by simp))
   | bl j=>cases a;exact PySem.EqMixed.ne_str_bool (aP I q (by simp))
   | int j=>obtain⟨b,rfl⟩:=a;exact PySem.EqMixed.ne_str_int (aP I q (by simp))
   | str j=>obtain⟨b,rfl⟩:=a;exact ne_str (aP I q (eL not Hw))
   | _=>exact absurd (show false=true from c) y6
 | byt i=>
   obtain⟨t,rfl⟩:=d
   cases y with
   | byt j=>obtain⟨b,rfl⟩:=a;exact PySem.W.ne_bytes (aP I q (eL not Hv))
   | _=>exact absurd (show false=true from c) y6
 | _=>cases y<;>exact absurd (show false=true from c) y6
def Z3:OpR X (compareOp .Lt) (rI0 λ i j=>.bl (decide (i<j))):=JB λ _ _ _ _ _ _ _ q=>lt_int q
def Zy:OpR X (compareOp .LtE) (rI0 λ i j=>.bl (decide (i<=j))):=JB λ _ _ _ _ _ _ _ q=>le_int q
def Zi:OpR X (compareOp .Gt) (rI0 λ i j=>.bl (decide (j<i))):=JB λ _ _ _ _ _ _ _ q=>gt_int q
def Zk:OpR X (compareOp .GtE) (rI0 λ i j=>.bl (decide (j<=i))):=JB λ _ _ _ _ _ _ _ q=>ge_int q
def Xj:OpR X (compareOp .Is) (λ x y H Q=>y=.non/\Q (.bl (decide (x=.non))) H):=by
 intro a s d H x y v u Q I b c h;obtain⟨rfl,q⟩:=h;cases c;refine is_none_gen (aP I q ?_);cases x<;>first
  | (cases b;rfl)
  | (obtain⟨t,rfl⟩:=b;rfl)
def Vy:OpR X (compareOp .IsNot) (λ x y H Q=>y=.non/\Q (.bl (!decide (x=.non))) H):=by
 intro a s d H x y v u Q I b c h;obtain⟨rfl,q⟩:=h;cases c;refine isnot_none_gen (aP I q ?_);cases x<;>first
  | (cases b;rfl)
  | (obtain⟨t,rfl⟩:=b;rfl)
def sZ:(sizeLine:Nat)<2 ^ 63:=by rw[ke];decide
def vals1{a}(r:Vals [x] a):∃u,a=[u]/\RelV x u:=by cases r with| cons b c=>cases c;exact%[_,rfl|b]
def vals2{a}(r:Vals [x,y] a):∃u w',a=[u,w']/\RelV x u/\RelV y w':=by cases r with| cons b c=>cases c with| cons d e=>cases e;exact%[_,_,rfl,b|d]
def Rf:eZ X (.builtin "abs") (λ xs H Q=>∃i,xs=[.int i]/\Q (.int (if i<0 then-i else i)) H):=by intro a s d H xs c Q I r h;obtain⟨i,rfl,q⟩:=h;obtain⟨u,rfl,t,rfl⟩:=vals1 r;exact call_abs_int λ u b=>%[.int (if i<0 then-i else i),H,I.tok _,%[_|rfl]|q]
def LR(c:X.calm=true):eZ X (.builtin "max") (λ xs H Q=>∃i j,xs=[.int i,.int j]/\Q (.int (if j>i then j else i)) H):=by intro b s m H xs g Q I r h;obtain⟨i,j,rfl,q⟩:=h;obtain⟨u,l,rfl,⟨t,rfl⟩,⟨e,rfl⟩⟩:=vals2 r;refine max_two_ints (I.ok.hd c) λ d f k=>%[_,H,I.kept k,?_|q];by_cases a:j>i;{rw[c9 a,c9 a];exact%[_|rfl]};{rw[bP a,bP a];exact%[_|rfl]}
def PJ(c:X.calm=true):eZ X (.builtin "min") (λ xs H Q=>∃i j,xs=[.int i,.int j]/\Q (.int (if j<i then j else i)) H):=by intro b s m H xs g Q I r h;obtain⟨i,j,rfl,q⟩:=h;obtain⟨u,l,rfl,⟨t,rfl⟩,⟨e,rfl⟩⟩:=vals2 r;refine min_two_ints (I.ok.hd c) λ d f k=>%[_,H,I.kept k,?_|q];by_cases a:j<i;{rw[c9 a,c9 a];exact%[_|rfl]};{rw[bP a,bP a];exact%[_|rfl]}
def xW:eZ X (.type "int") (λ xs H Q=>(∃i,xs=[.int i]/\Q (.int i) H)\/∃k,xs=[.bl k]/\Q (.int (if k then 1 else 0)) H):=by intro a s d H xs c Q I r h;rcases h with⟨i,rfl,q⟩ | ⟨k,rfl,q⟩;{obtain⟨u,rfl,t,rfl⟩:=vals1 r;exact call_int_int %[.int i,H,I,%[_|rfl]|q]};{obtain⟨u,rfl,b⟩:=vals1 r;cases b;exact call_int_bool %[.int (if k then 1 else 0),H,I.tok _,%[_|rfl]|q]}
end
structure Room(k:Nat)(A:ad0):Prop where
 hd:A.handled=none
 dp:A.depth+3*k+5<recursionLimit
 un:A.units+16*k+200<cLine
def Room.mono(r:Room k A)(h:j<=k):Room j A:=%[r.hd,by have:=r.dp;omega|by have:=r.un;omega]
def Room.deeper(r:Room (k+1) A)(env:Env):Room k (A.deeper env):=
 %[r.hd,by have:=r.dp;show A.depth+1+3*k+5<_;omega|by have:=r.un;show A.units+3+16*k+200<_;omega]
def Room.depth(r:Room k A):A.depth<recursionLimit:=by have:=r.dp;omega
def aaB:TA:=λ _ H Q=>Q [] H
def Z1(ta:TE)(tr:TA):TA:=λ a H Q=>ta a H λ x b=>tr a b λ d c=>Q (x::d) c
section
variable{X:Cx}{e:Expr}{es:List Expr}{te:TE}{t:TA}{pos:Pos}
def uo:PA X [] aaB:=λ _ _ _ _ H Q I h=>gi %[[],H,I,.nil|h]
def iw(d:PE X e te)(f:PA X es t)(hs:starEach (e::es) X.env=(false,eval e X.env)::starEach es X.env:=by rfl):PA X (e::es) (Z1 te t):=by intro b a s c H Q I h;rw[hs];show wpAny _ _ (spliced ((false,eval e X.env)::backTo b (starEach es X.env))) _ _ s;refine fA (thn (d a s c H _ I h) λ u g ⟨x,H1,I1,r1,q1⟩=>?_);exact thn (f b a g c H1 _ I1 q1) λ j i ⟨xs,H2,I2,r2,q2⟩=>%[x::xs,H2,I2,.cons r1 r2|q2]
end
abbrev Sp:=List V->Hp->VK->XK->Prop
abbrev CXT:=List Env->Hp->Shared->XK->Value->Shared->Prop
structure Env0(P:ac4)(w:World)(K:ab2)(mg:ab9)(base:Heap)(A:ad0)(outer:List Env)(s:ab5)(H:Hp):Prop where
 frames:A.frames=some outer
 mod:Mod K mg base
 bs:∀b o,base.get? b=some o->s.heap.get? b=some o/\H b=none
 bsz:base.objs.size<=s.heap.objs.size
 funs:s.heap.FunFrames base outer
 frf:∀b∈frs outer,H b=none
 hok:HOk P w H s.heap
 bare:AllBare s.gens
def CE(outer:List Env)(P:ac4)(w:World)(H:Hp)(s:ab5)(Q:VK)(u:Value)(s':ab5):Prop:=
 ∃v a,s'.os=s.os/\AllBare s'.gens/\Un (frs outer) [] H a s.heap s'.heap/\HOk P w a s'.heap/\RelV v u/\Q v a
def CR(CX:CXT)(outer:List Env)(P:ac4)(w:World)(H:Hp)(s:ab5)(Q:VK)(E:XK)(r:Result)(s':ab5):Prop:=
 match r with
 | .ok (.ret u)=>CE outer P w H s Q u s'
 | .ok _=>False
 | .error e=>CX outer H s E e s'
structure FnOk(P:ac4)(w:World)(K:ab2)(mg:ab9)(base:Heap)(CX:CXT)(k:Nat)(f:Addr)(fd:FuncData)(ps:ab8)(sp:Sp):Prop where
 len:∀vs H Q E,sp vs H Q E->vs.length=ps.length
 run:∀(A:ad0)(outer:List Env)(s:ab5)(H:Hp)(args:Args)(us:ab6)(vs:List V)(Q:VK)(E:XK),Room k A->Env0 P w K mg base A outer s H->BindsTo s fd args (ps.zip us)->Vals vs us->sp vs H Q E->
  codeAny (model P w) A (.call (.ref f) args) (CR CX outer P w H s Q E) s
section
variable{X:Cx}{pins:List (Addr × Obj)}{σ:St}{H:Hp}{s s':Shared}
def Inv.env0(I:%[|3]):Env0 X.prog X.w X.K X.mg X.base X.A X.stack s H:=
 %[I.ok.frames,I.ok.mod,I.bs,cS I.ok.bsz I.sz,I.stack,I.stkFree,I.hok|I.bare]
def Inv.after(I:%[|3])(h:CE X.stack X.prog X.w H s Q u s'):EP X pins σ Q u s':=by obtain⟨v,f,i,a,j,c,r,q⟩:=h;obtain⟨hh,g,d,t,e⟩:=s';obtain rfl:e=s.os:=i;exact%[v,f,I.call (h':=hh) (g':=g) (d':=d) (t':=t) (ch:=[]) j c a (λ b z=>absurd z (by simp)),r|q]
end
def Binds(K:ab2)(fd:FuncData)(ps:ab8)(ds:ab6):Prop:=
 ∀(s:ab5)(a:ab6),K.In s.heap->(a++ds).length=ps.length->BindsTo s fd %[a|[]] (ps.zip (a++ds))
def Binds.all{K}(h:∀us:List Value,us.length=ps.length->bindArgs a %[us|[]]=pure (ps.zip us)):Binds K a ps []:=λ s us _ b=>by rw[gS]at b ⊢;exact .of_eq (h us b)
def Oe(CX:CXT)(X:Cx)(E:XK):Prop:=∀(a:ab7)(c:St)(H:Hp)(s:ab5)(e:Value)(b:ab5),Inv X a c H s->CX X.stack H s E e b->X.xe e b
section
variable{X:Cx}{CX:CXT}{k:Nat}{f C:Addr}{fd:FuncData}{ps:List Str}{sp:Sp}{dvs:List V}{ds:List Value}{E:XK}{x m:Str}{p pos apos:Pos}{e o:Expr}{es:List Expr}{ta:TE}{t:TA}
def W9{σ:St}(F:FnOk X.prog X.w X.K X.mg X.base CX k f fd ps sp)(m:Room k X.A)(i:Binds X.K fd ps ds)(j:Vals dvs ds)(n:Oe CX X E)
 (I:%[|3])(r:Vals c a)(h:sp (c++dvs) H Q E):wpAny %[|6] X.A (call (.ref f) a) (EP X pins σ Q) X.xe s:=by
 have d:Vals (c++dvs) (a++ds):=r.append j;have l:(a++ds).length=ps.length:=by rw[<-d.length];exact F.len _ _ _ _ h
 refine wpAny_call (oP (F.run X.A X.stack s H %[a|[]] (a++ds) (c++dvs) Q E m I.env0 (i s a I.kIn l) d h) λ r o b=>?_)
 cases r with
 | error e=>exact n pins σ H s e o I b
 | ok g=>
   cases g with
   | ret u=>exact I.after b
   | next=>exact False.elim b
   | brk=>exact False.elim b
   | cont=>exact False.elim b
end
structure FnScope(N P:ab8)(sc:Scope):Prop where
 kind:sc.kind=.function
 co:sc.isCoroutine=false
 gen:sc.isGenerator=false
 nd:N.Nodup
 pre:N.take P.length=P
 par:∀x∈P,sc.names.lookup x=some .local\/sc.names.lookup x=some .cell
 nofree:∀y∈sc.names,y.2≠.free
theorem wX:∀{a:List (Str×Value)}{m:ab9},(∀v,(x,v)∉a)->bindL b a m x=m x
 | [],_,_=>rfl
 | (n,v)::r,m,h=>by
   unfold bindL;rw[wX λ w c=>h w (x4 _ c)];split
   . have:x≠n:=by rintro rfl;exact h v x6
     simp[this]
   {rfl}
theorem wV:∀{a:List (Str×Value)}{m:ab9},(∀v,(x,v)∉a)->bindC b a m x=m x
 | [],_,_=>rfl
 | (n,v)::r,m,h=>by
   unfold bindC;rw[wV λ w c=>h w (x4 _ c)];split;{rfl}
   . have:x≠n:=by rintro rfl;exact h v x6
     simp[this]
theorem xO:∀{P:ab8}{b:ab6}{i:Nat}{m:ab9},P.Nodup->P[i]? =some x->b[i]? =some v->a x=some .local->
 bindL a (P.zip b) m x=some v
 | [],_,_,_,_,h,_,_=>by simp at h
 | _::_,[],_,_,_,_,h,_=>by simp at h
 | p::P,w::b,0,m,nd,h1,h2,hk=>by simp at h1 h2;subst h1;subst h2;show bindL a ((p,w)::P.zip b) m p=_;unfold bindL;rw[wX λ v c=>(fe.mp nd).1 (List.of_mem_zip c).1,c9 hk];simp
 | p::P,w::b,i+1,m,nd,h1,h2,hk=>by show bindL a ((p,w)::P.zip b) m x=_;unfold bindL;exact xO (i:=i) (fe.mp nd).2 (by simpa using h1) (by simpa using h2) hk
theorem wO:∀{P:ab8}{b:ab6}{i:Nat}{m:ab9},P.Nodup->P[i]? =some x->b[i]? =some v->a x≠some .local->
 bindC a (P.zip b) m x=some v
 | [],_,_,_,_,h,_,_=>by simp at h
 | _::_,[],_,_,_,_,h,_=>by simp at h
 | p::P,w::b,0,m,nd,h1,h2,hk=>by simp at h1 h2;subst h1;subst h2;show bindC a ((p,w)::P.zip b) m p=_;unfold bindC;rw[wV λ v c=>(fe.mp nd).1 (List.of_mem_zip c).1,bP hk];simp
 | p::P,w::b,i+1,m,nd,h1,h2,hk=>by show bindC a ((p,w)::P.zip b) m x=_;unfold bindC;exact wO (i:=i) (fe.mp nd).2 (by simpa using h1) (by simpa using h2) hk
def start(N:ab8)(vs:List V):St:=vs.map some++List.replicate (N.length-vs.length) none
def mY(CX:CXT)(P:ac4)(w:World)(K:ab2)(mg:ab9)(base:Heap)(N:ab8)(qual:Str)(scope:Scope)(f:Addr)(cd:Value)(A:ad0)(outer:List Env)(s:ab5)(H:Hp)(E:XK):Cx where
 prog:=P
 w:=w
 K:=K
 mg:=mg
 base:=base
 A:=A.deeper (envOfC qual scope s.heap.objs.size f cd)
 N:=N
 s₀:=s
 H₀:=H
 env:=envOfC qual scope s.heap.objs.size f cd
 outer:=outer
 stack:=envOfC qual scope s.heap.objs.size f cd::outer
 ex:=[]
 calm:=true
 fn:=λ _=>true
 pn:=[]
 xe:=λ e c=>wpAny (model P w) (A.deeper (envOfC qual scope s.heap.objs.size f cd)) (leaving (envOfC qual scope s.heap.objs.size f cd) e) (λ _ a=>CX outer H s E e a) (λ b a=>CX outer H s E b a) c
def Eh{a:Scope}(h:a.names.lookup x=some .cell):∃c,(cellsFrom n a.names []).lookup x=some c:=by have q:=PySem.W.cellsFrom_some a.names n [] (.inl h);exact mn.mp q
def Nv{K}
 (S:FnScope N ps scope)(L:A.handled=none)(j:Env0 P w K mg base A outer s H)(R:o.length=ps.length)(r:Vals o F)
 (x:InCallC s s.heap.objs.size (bindL (envOfC d scope s.heap.objs.size f cd).kindOf (ps.zip F) λ _=>none) (cellsFrom (s.heap.objs.size+1) scope.names []) (bindC (envOfC d scope s.heap.objs.size f cd).kindOf (ps.zip F) λ _=>none) s1):
 Inv (mY CX P w K mg base N d scope f cd A outer s H E) [] (start N o) H s1:=by
 have M:ps.length<=N.length:=by have:=eL List.length S.pre;rw[ej]at this;omega
 obtain⟨C,T,rfl,G⟩:=x.done;have m:∀b:Addr,b∉(mY CX P w K mg base N d scope f cd A outer s H E).ex:=λ b z=>absurd (show b∈([]:List Addr)from z) (by simp);refine%[%[j.mod,S.kind,rfl,rfl,y9 _,λ y z c C g=>?_,λ y l=>?_,λ y c _ h=>?_,λ _=>L,Around.frames_deeper j.frames,.inr %[rfl|rfl],λ b z=>absurd z (m b),j.bs,j.bsz,λ b _ _=>m b,λ b z=>absurd z (m b),j.funs|j.frf],
  rfl,j.bare,Un.kept G,%[_,x.toInCall.ns|λ i y v C g Q=>?_],λ y c h=>%[_|x.cell y c h],j.hok.fresh (y9 _),λ y c h=>?_,λ p t=>absurd (show p∈([]:List (Addr×Obj))from t) (by simp),j.hok.kept G|?_];{exact name_of_addr x.apart (ii C) (ii g)};{have l:scope.names.lookup y=some .cell\/scope.names.lookup y=some .free:=l;rcases l with l | l;{exact Eh l};{exact absurd rfl (S.nofree _ (ii l))}};{exact f7 (x.above y c (ii h))}
 . have D:i<o.length:=by unfold start at g;by_cases D:i<o.length;{exact D};{rw[dt (by simpa using D)]at g;rw[List.getElem?_replicate]at g;split at g<;>cases g}
   have J:o[i]? =some v:=by
    unfold start at g;rw[x9 (by simpa using D),y8]at g
    cases e:o[i]? with
    | none=>rw[e]at g;cases g
    | some a=>rw[e]at g;cases g;rfl
   obtain⟨u,I,O⟩:=r.get J;have t:ps[i]? =some y:=by rw[<-S.pre,List.getElem?_take_of_lt %[|0]];exact C
   have B:ps.Nodup:=by rw[<-S.pre];exact S.nd.sublist (kN _ _)
   refine%[u,O|?_];rcases S.par y (y4 t)with k | k;{exact .inl %[k|xO B t I k]};{obtain⟨c,e⟩:=Eh (n:=s.heap.objs.size+1) k;refine .inr %[.inl k,c,e|?_];have q:=x.cell y c e;rw[wO B t I (by show scope.names.lookup y≠_;rw[k];decide)]at q;exact q}
 {exact j.hok.fresh (f7 (x.above y c (ii h)))};{unfold start;show _=N.length;rw[x8,y7,oj];omega}
def aah{K}
 (lk:K.lookup f=some %[oc,od,.func (PySem.W.fnOf name a d g scope X Y p Z U c ct)|M])(F:PySem.W.codeIn K c a=true)(S:FnScope N ps scope)
 (D:∀h H Q E,sp h H Q E->h.length=ps.length)
 (j:∀(A:ad0)(outer:List Env)(s:ab5)(H:Hp)(h:List V)(Q:VK)(E:XK),Room k (A.deeper (envOfC a scope s.heap.objs.size f c))->sp h H Q E->
  ∃t,PSs (mY CX P w K mg base N a scope f c A outer s H E) g t/\t {nx:=λ _ H'=>Q .non H',rt:=Q} (start N h) H):
 FnOk P w K mg base CX (k+1) f (PySem.W.fnOf name a d g scope X Y p Z U c ct) ps sp:=by
 refine%[D|λ A outer s H W us h Q E G z hb r C=>?_];have hl:=D _ _ _ _ C;have T:K.In s.heap:=z.mod.kin.keeps λ b o e=>(z.bs b o e).1;have L:s.heap.NoLimit:=z.mod.nolimit.keeps λ b o e=>(z.bs b o e).1;have l:∀y∈ps.zip us,scope.names.lookup y.1=some .local\/(scope.names.lookup y.1=some .cell/\((cellsFrom (s.heap.objs.size+1) scope.names []).lookup y.1).isSome=true):=λ⟨n,v⟩ hy=>by rcases S.par n (List.of_mem_zip hy).1 with q | q;{exact .inl q};{exact .inr %[q|PySem.W.cellsFrom_some _ _ _ (.inl q)]}
 refine codeAny_call_function G.depth (T _ _ lk) rfl S.co S.gen rfl (PySem.W.codeRec_of T F) (hb _ _ _ _ ?_);refine wpAny_newFunctionEnv_cells S.kind l λ aa he s1 x=>?_;subst he;refine%[L.keeps x.toInCall.keep|codeAny_func ?_];obtain⟨t,ht,hq⟩:=j A outer s H h Q E (G.deeper _) C;have I:Inv (mY CX P w K mg base N a scope f c A outer s H E) [] (start N h) H s1:=Nv S G.hd z hl r x;refine gy (ht [] s1 (start N h) H _ I hq) (λ fl R m=>?_) λ e R m=>m;have B:∀{i:St}{H':Hp}{v:V}{u:Value},Inv (mY CX P w K mg base N a scope f c A outer s H E) [] i H' R->RelV v u->Q v H'->CE outer P w H s Q u R:=
  λ{i H' v u} J O q=>%[v,H',J.os,J.bare,J.base,J.hok,O|q]
 cases fl with
 | ret u=>obtain⟨v,i,H',J,O,q⟩:=m;exact B J O q
 | next=>obtain⟨i,H',J,q⟩:=m;exact B (v:=V.non) (u:=Value.none) J rfl q
 | brk=>obtain⟨_,_,_,q⟩:=m;exact False.elim q
 | cont=>obtain⟨_,_,_,q⟩:=m;exact False.elim q
section
variable{X:Cx}{x:Str}{p pos:Pos}{e:Expr}{es:List Expr}{t:TA}{id T:String}{r:List V -> Hp -> VK -> Prop}
def tCB(r:List V->Hp->VK->Prop)(t:TA):TE:=λ c H Q=>t c H λ b a=>r b a Q
def zL(g:eZ X (.builtin id) r)(j:Gl X x)(k:X.mg x=none)(m:bootBuiltins x=some (.builtin id))(f:PA X (e::es) t)(l:x≠"__name__":=by decide)(b:(x==("__debug__":Str))=false:=by decide)
 (i:starEach (e::es) X.env=(false,eval e X.env)::starEach es X.env:=by rfl)(c:(backTo pos (starEach es X.env)).any (·.1)=false:=by rfl):PE X (.Call (.Name x p) (e::es) [] pos) (tCB r t):=by intro a s d H Q I h;refine gv (cz I j k m ?_ l b);exact iE (thn (f pos a s d H _ I h) λ o n ⟨vs,H1,I1,r1,q1⟩=>g a n d H1 vs o Q I1 r1 q1) i c
end
end L2
namespace HT
open PySem PyProof.Rows
section
variable{prog:Program}{w:World}{A:Around}{E:%[|17]}{s:Shared}
def cat_tup(y:IsTup s.heap t c.toArray)(x:IsTup s.heap b ws.toArray)(r:c≠[])
 (h1:ws=[]->Q (.ref t) s)(h2:ws≠[]->Q %[|9] {s with heap:=s.heap.push {cls:=%[|10],data:=.seq (c++ws).toArray}})
 (l:c.length+ws.length<=sizeLine):wpAny %[|5] A (binaryOp .Add (.ref t) (.ref b)) Q E s:=by
 obtain⟨⟨cls,o,data,v⟩,i,p,n,q⟩:=id y;obtain⟨⟨m,d,k,h⟩,a,f,u,g⟩:=id x;simp only at p q f g;subst p q f g;have e:c.toArray++ws.toArray=(c++ws).toArray:=by simp
 by_cases j:ws=[]
 . exact oQ %[_,i|rfl] %[_,a|rfl] noFill_tuple_add seq_tuple_add nE nh (mr _ _)
    (tuple_addW1 t b c.toArray ws.toArray n u o d v h (by simpa using r) (by simp[j])) %[i,a|h1 j]
 . refine oQ %[_,i|rfl] %[_,a|rfl] noFill_tuple_add seq_tuple_add nE nh (mr _ _)
    (tuple_addW2 t b c.toArray ws.toArray n u o d v h (by simpa using r) (by simpa using j) (by rw[x5,x5];exact l)) %[i,a|?_];rw[e];exact h2 j
def sIx(n d:Nat):Option Int->Nat
 | none=>d
 | some v=>if v<0 then(v+(n:Int)).toNat else min v.toNat n
def sIx_none(n d:Nat):sIx n d none=d:=rfl
def sIx_nat(n d k:Nat):sIx n d (some (k:Int))=min k n:=by show(if(k:Int)<0 then((k:Int)+(n:Int)).toNat else min (k:Int).toNat n)=min k n;rw[bP %[|0],e8]
def Xp(n d:Nat)(b:d<=n)(o:ac6):sIx n d o<=n:=by
 cases o with
 | none=>exact b
 | some v=>show(if v<0 then(v+(n:Int)).toNat else min v.toNat n)<=n;by_cases a:v<0;{rw[c9 a];omega};{rw[bP a];exact Nat.min_le_right _ _}
def Jc(v:Int)(n d:Nat):(if v<0 then max (v+(n:Int)) 0 else min v (n:Int))=((sIx n d (some v):Nat):Int):=by show(if v<0 then max (v+(n:Int)) 0 else min v (n:Int))=(((if v<0 then(v+(n:Int)).toNat else min v.toNat n):Nat):Int);by_cases a:v<0;{simp only[c9 a];omega};{simp only[bP a];omega}
def K3(lo hi:ac6)(n:Nat):Builtin.Slice.sliceAdjust lo hi 1 (n:Int)=(((sIx n 0 lo:Nat):Int),((sIx n n hi:Nat):Int)):=by
 have a:¬((1:Int)<0):=%[|0]
 unfold Builtin.Slice.sliceAdjust;simp only[a,e7];refine ms ?_ ?_
 . cases lo with
   | none=>rfl
   | some v=>exact Jc v n 0
 . cases hi with
   | none=>rfl
   | some v=>exact Jc v n n
def JF(i j:Nat):Builtin.Slice.slicePlaces (i:Int) (j:Int) 1=j-i:=by
 unfold Builtin.Slice.slicePlaces;have a:(1:Int)>0:=%[|0]
 simp only[a,ij,Int.ediv_one];split<;>omega
def uA(p:IsPart v o)(h:Q o s):wpAny %[|5] A (Builtin.Slice.slicePartIndex v) Q E s:=by
 cases p with
 | none=>exact slicePart_none h
 | int i t=>exact slicePart_int h
def sliceApplied_gen{lo hi}{Q:Int×Int×Nat->Shared->Prop}(hs:s.heap.IsSliceOf c vl vu .none)(pl:IsPart vl lo)(e:IsPart vu hi)
 (h:Q (((sIx n 0 lo:Nat):Int),1,sIx n n hi-sIx n 0 lo) s):wpAny %[|5] A (Builtin.Slice.sliceApplied (.ref c) (pure (n:Int))) Q E s:=by obtain⟨f,b,d,a⟩:=id hs;unfold Builtin.Slice.sliceApplied Builtin.Slice.sliceFields;refine b0 (b0 (eM b a (x:=vl) rfl (b0 (eM b a (x:=vu) rfl (b0 (eM b a (x:=.none) rfl (b9 ?_)))))));refine b0 (slicePart_none ?_);show wpAny _ _ (if((1:Int)==0)=true then _ else _) _ _ s;rw[bP %[|1]];refine b0 (uA pl (b0 (uA e (b0 (b9 ?_)))));show wpAny _ _ (match Builtin.Slice.sliceAdjust lo hi 1 (n:Int)with | (lo,hi)=>pure (lo,(1:Int),Builtin.Slice.slicePlaces lo hi 1)) _ _ s;rw[K3 lo hi n];show wpAny _ _ (pure (((sIx n 0 lo:Nat):Int),(1:Int),Builtin.Slice.slicePlaces ((sIx n 0 lo:Nat):Int) ((sIx n n hi:Nat):Int) 1)) _ _ s;rw[JF];exact b9 h
def RC(xs:ac1)(i k:Nat):((List.range k).filterMap λ(m:Nat)=>xs[((i:Int)+(m:Int)*1).toNat]?).toArray=((xs.toList.drop i).take k).toArray:=by
 have e:(λ(m:Nat)=>xs[((i:Int)+(m:Int)*1).toNat]?)=λ m=>xs[i+m]?:=by
  funext m;have:((i:Int)+(m:Int)*1).toNat=i+m:=%[|0]
  rw[this]
 rw[e];have:=pick_run xs i k;rw[List.filterMap_map]at this;have a:((λ x=>xs[x]?) ∘ λ x=>i+x)=λ m=>xs[i+m]?:=rfl;rw[a]at this;rw[this]
def getItem_tuple_cut{lo hi}(b:IsTup s.heap t items)(hs:s.heap.IsSliceOf g vl vu .none)(pl:IsPart vl lo)(l:IsPart vu hi)
 (hw:¬(sIx items.size 0 lo=0/\sIx items.size items.size hi=items.size))
 (h:Q %[|9] {s with heap:=s.heap.push {cls:=%[|10],data:=.seq ((items.toList.drop (sIx items.size 0 lo)).take (sIx items.size items.size hi-sIx items.size 0 lo)).toArray}})
 (j:items.size<=sizeLine):wpAny %[|5] A (getItem (.ref t) (.ref g)) Q E s:=by
 have a:sizeOk (.seq ((items.toList.drop (sIx items.size 0 lo)).take (sIx items.size items.size hi-sIx items.size 0 lo)).toArray):=by show((items.toList.drop (sIx items.size 0 lo)).take (sIx items.size items.size hi-sIx items.size 0 lo)).toArray.size<=sizeLine;rw[x5,ej,k6,dA];omega
 have n:sIx items.size items.size hi<=items.size:=Xp _ _ (y9 _) hi;obtain⟨k,f,d,i⟩:=id hs;have c:s.TypeIs (.ref g) "slice":=%[k,f|d];unfold getItem;try with_reducible refine ed ?_
 first | refine b0 (b9 ?_) | skip
 refine b0 (nr b.typeIs %[|1] ?_);refine b0 (wpAny_callSpecial?_slot (name:=Str.ofString "__getitem__") b.typeIs eC
  (de eC b.typeIs entry_tuple_getitem ?_ (args_tuple_getitem _ _)));show wpAny _ _ (Builtin.Tuple.tupleItemsOf (.ref t)>>=_) _ _ s;refine b0 (tupleItemsOf_ b ?_);refine b0 (hY c ?_);rw[c9 %[|1]];refine b0 (sliceApplied_gen hs pl l ?_);have e:¬((((sIx items.size 0 lo:Nat):Int)==0&&(1:Int)==1&&(sIx items.size items.size hi-sIx items.size 0 lo)==items.size)=true):=by intro q;rw[fg,fg]at q;have o:((sIx items.size 0 lo:Nat):Int)=0:=ZU q.1.1;have p:sIx items.size items.size hi-sIx items.size 0 lo=items.size:=ZU q.2;exact hw %[%[|0]|%[|0]]
 show wpAny _ _ (if(((sIx items.size 0 lo:Nat):Int)==0&&(1:Int)==1&&(sIx items.size items.size hi-sIx items.size 0 lo)==items.size)=true then _ else _) _ _ s;rw[bP e,RC];first
  | exact b0 (m:=Builtin.Tuple.tupleExact _) (da (b9 %[_,rfl|b9 h]) a)
  | exact b0 (m:=Builtin.Tuple.tupleExact _) (da (b0 (b9 (b9 %[_,rfl|b9 h]))) a)
  | exact b0 (b0 (m:=Builtin.Tuple.tupleExact _) (da (b9 (b9 %[_,rfl|b9 h])) a))
  | exact b0 (b0 (m:=Builtin.Tuple.tupleExact _) (da (b9 %[_,rfl|b9 h]) a))
end
end HT
namespace L2
open PySem PySem.Spec PyProof.Rows
abbrev TO:=St->Hp->(Option Int->Hp->Prop)->Prop
def intsAre_of:∀{a:ab6},Vals (ns.map V.int) a->IntsAre a ns:=by
 induction ns with
 | nil=>intro a r;rw[kT]at r;cases r;exact .nil
 | cons n ns b=>intro a r;rw[cn]at r;cases r with| cons c d=>obtain⟨t,e⟩:=c;subst e;exact .cons n t (b d)
section
variable{X:Cx}{e:Expr}{te:TE}{lo hi:Option Expr}{tl th:TO}{pos p2:Pos}
def SlR(X:Cx)(r:V->Option Int->Option Int->Hp->VK->Prop):Prop:=
 ∀ (a:ab7)(s:ab5)(g:St)(H:Hp)(x:V)(v e f:Value)(c b:ac6)(d:Addr)(Q:VK),Inv X a g H s->RelV x v->s.heap.IsSliceOf d e f .none->IsPart e c->IsPart f b->r x c b H Q->
   ∃T h,typeLookup (.type T) "__getitem__"=pure (some (.builtin h))/\s.TypeIs v T/\wpAny %[|6] X.A (getItem v (.ref d)) (EP X a g Q) X.xe s
def oG(xs:List V)(lo hi:ac6):List V:=(xs.drop (HT.sIx xs.length 0 lo)).take (HT.sIx xs.length xs.length hi-HT.sIx xs.length 0 lo)
def qx(xs:List V)(lo hi:ac6):(oG xs lo hi).length<=xs.length:=by unfold oG;rw[ej,k6];omega
def aaW(K:ab2):V->Option Int->Option Int->Hp->VK->Prop:=λ x d c H Q=>∃a b,x=.ref a/\SqT K H a b/\
 ¬(HT.sIx b.length 0 d=0/\HT.sIx b.length b.length c=b.length)/\∀p,H p=none->Q (.ref p) (upd H p (.tup (oG b d c)))
def WY:SlR X (aaW X.K):=by
 intro k s B H x v z A e f y Q I u l p t h;obtain⟨a,d,rfl,n,m,q⟩:=h;cases u;obtain⟨g,r,i,j⟩:=I.tuple n;have c:g.toArray.size=d.length:=by rw[x5];exact r.length.symm
 refine%["tuple",_,eC.lookup,i.typeIs|?_];refine HT.getItem_tuple_cut i l p t (by rw[c];exact m) ?_ (by rw[c];exact j);rw[c];refine%[%[|9],_,I.laid (t':=s.toks) (o:=.tup (oG d e f)) (λ b w q=>bE _ q) (y9 _) ?_,rfl|q _ (I.hok.fresh (y9 _))];exact%[cS (qx d e f) j,_,(r.drop (HT.sIx d.length 0 e)).take (HT.sIx d.length d.length f-HT.sIx d.length 0 e)|IsTup.new _ _]
def ZS(K:ab2):R2:=λ x y H Q=>∃a b d c,x=.ref a/\y=.ref b/\SqT K H a d/\SqT K H b c/\d≠[]/\d.length+c.length<=sizeLine/\
 (c=[]->Q (.ref a) H)/\(c≠[]->∀p,H p=none->Q (.ref p) (upd H p (.tup (d++c))))
def Vals.nil_iff(r:Vals xs a):a=[]↔xs=[]:=by
 cases r with
 | nil=>simp
 | cons _ _=>simp
def V1:OpR X (binaryOp .Add) (ZS X.K):=by intro g s E H x y v u Q I t A h;obtain⟨a,b,B,C,rfl,rfl,i,j,k,e,p,r⟩:=h;cases t;cases A;obtain⟨l,d,m,_⟩:=I.tuple i;obtain⟨f,c,n,_⟩:=I.tuple j;refine HT.cat_tup m n (λ z=>k (d.nil_iff.mp z)) (λ z=>%[.ref a,H,I,rfl|p (c.nil_iff.mp z)]) (λ z=>?_) (by rw[<-d.length,<-c.length];exact e);refine%[%[|9],_,I.laid (t':=s.toks) (o:=.tup (B++C)) (λ b D q=>bE _ q) (y9 _) ?_,rfl|r (λ w=>z (c.nil_iff.mpr w)) _ (I.hok.fresh (y9 _))];exact%[by rw[x8];exact e,_,d.append c|IsTup.new _ _]
end
def ixN(n:Nat)(i:Int):Option Nat:=if 0<=i then(if i<n then some i.toNat else none)else if-(n:Int)<=i then some (i+n).toNat else none
def atI{α:Type}(xs:List α)(i:Int):Option α:=(ixN xs.length i).bind λ j=>xs[j]?
def Jp(h:ixN n i=some j):seqIndex? i n=some j/\j<n/\ -(n:Int)<=i/\i<n:=by unfold ixN at h;by_cases b:0<=i;{rw[c9 b]at h;by_cases a:i<n;{rw[c9 a]at h;have e:i.toNat=j:=cf h;exact%[by rw[seqIndex_of b a,e],%[|0],%[|0]|a]};{rw[bP a]at h;cases h}};{rw[bP b]at h;by_cases a: -(n:Int)<=i;{rw[c9 a]at h;have e:(i+n).toNat=j:=cf h;exact%[by rw[seqIndex_neg %[|0] a,e],%[|0],a|%[|0]]};{rw[bP a]at h;cases h}}
def Iz{v:a}(h:atI xs i=some v):∃j,seqIndex? i xs.length=some j/\xs[j]? =some v/\j<xs.length/\ -(xs.length:Int)<=i/\i<xs.length:=by
 unfold atI at h
 cases e:ixN xs.length i with
 | none=>rw[e]at h;cases h
 | some j=>rw[e]at h;obtain⟨b,c,d,f⟩:=Jp e;exact%[j,b,h,c,d|f]
def cG{j:Nat}{v:a}(h:xs[j]? =some v):atI xs (j:Int)=some v:=by
 have b:j<xs.length:=(z0.mp h).1;have e:ixN xs.length (j:Int)=some j:=by unfold ixN;rw[c9 %[|0],c9 %[|0]];simp
 unfold atI;rw[e];exact h
def Je(b:Expr):Prop:=∀o i,subscripted b false o i=operate [o,i] (getItem o i)
def IxR(X:Cx)(r:R2):Prop:=
 ∀ (c a:Expr)(b:ab7)(s:ab5)(d:St)(H:Hp)(x y:V)(v u:Value)(Q:VK),Inv X b d H s->RelV x v->RelV y u->r x y H Q->
   subscripted a false v u=operate [v,u] (getItem v u)->wpAny %[|6] X.A (subscriptTail c a v u) (EP X b d Q) X.xe s
def MtR(X:Cx)(id:String)(r:V->List V->Hp->VK->Prop):Prop:=
 ∀ (a:ab7)(s:ab5)(d:St)(H:Hp)(x:V)(c:List V)(v:Value)(b:ab6)(Q:VK),Inv X a d H s->RelV x v->Vals c b->r x c H Q->
   wpAny %[|6] X.A (call (.builtin id) (v::b)) (EP X a d Q) X.xe s
section
variable{X:Cx}{a b:Expr}{ta tb:TE}{pos:Pos}
def aaG(K:ab2):R2:=λ x y H Q=>∃p a i v,x=.ref p/\y=.int i/\SqL K H p a/\atI a i=some v/\Q v H
def aaA(K:ab2):R2:=λ x y H Q=>∃p a i v,x=.ref p/\y=.int i/\SqT K H p a/\atI a i=some v/\Q v H
def Jb:IxR X (aaG X.K):=by
 intro l k a s A H x y v u Q I J K h o;obtain⟨p,P,i,z,rfl,rfl,G,E,q⟩:=h;cases J;obtain⟨t,rfl⟩:=K;obtain⟨e,r,f,O⟩:=I.list G;obtain⟨j,c,B,M,C,D⟩:=Iz E;obtain⟨w,m,g⟩:=r.get B;have F:=r.length;have N:=sZ;have b:EP X a A Q w s:=%[z,H,I,g|q];by_cases n:0<=i
 . have d:i.toNat=j:=by rw[seqIndex_of n D]at c;exact cf c
   exact item_listR f.isList n %[|0] (by rw[d];simpa using m) b o
 . have d:(i+(e.toArray.size:Int)).toNat=j:=by rw[seqIndex_neg %[|0] C]at c;rw[x5,<-F];exact cf c
   exact subscriptTail_builtinR (x:=w) f.isList.typeIs slot_list_getitem.lookup
    (wpAny_getItem_list_neg (Q:=λ r L=>r=w/\EP X a A Q r L) f.isList %[|0] (by rw[x5]<;>omega) %[|0] (by rw[d];simpa using m) %[rfl|b]) o
def Yz:IxR X (aaA X.K):=by
 intro e d a s g H x y v u Q I D E h B;obtain⟨p,N,i,z,rfl,rfl,A,n,q⟩:=h;cases D;obtain⟨t,rfl⟩:=E;obtain⟨C,r,f,M⟩:=I.tuple A;obtain⟨j,l,m,G,J,K⟩:=Iz n;obtain⟨w,k,c⟩:=r.get m;have o:=r.length;have L:=sZ;have b:EP X a g Q w s:=%[z,H,I,c|q];exact subscriptTail_builtinR (x:=w) f.typeIs slot_tuple_getitem.lookup
  (getItem_tuple (j:=j) (Q:=λ r F=>r=w/\EP X a g Q r F) f %[|0] %[|0] (by rw[x5,<-o];exact l) (by simpa using k) %[rfl|b]) B
def Jy(its:ab6)(n j:Nat)(u:Value):Obj.mapSeq (·.setIfInBounds j u) {cls:=.type "list",data:=.seq its.toArray n}={cls:=.type "list",data:=.seq (its.set j u).toArray n}:=by simp[Obj.mapSeq]
def Inv.lst{σ:St}(I:%[|3])(h:H p=some (.lst xs)):
 ∃(its:ab6) (n:Nat),Vals xs its/\s.heap.get? p=some {cls:=.type "list",data:=.seq its.toArray n}/\xs.length<=sizeLine:=by obtain⟨z,its,n,r,e⟩:=I.hok p _ h;exact%[its,n,r,e|z]
def Inv.lstUpd{σ:St}{its its':ab6}{n a}(I:%[|3])(h:H p=some (.lst xs))
 (g:s.heap.get? p=some {cls:=.type "list",data:=.seq its.toArray n})(c:f {cls:=.type "list",data:=.seq its.toArray n}={cls:=.type "list",data:=.seq its'.toArray a})(r:Vals ys its')(hz:ys.length<=sizeLine)(t:Nat):
 Inv X pins σ (upd H p (.lst ys)) {s with heap:=s.heap.update p f,toks:=t}:=by
 have e:(s.heap.update p f).get? p=some {cls:=.type "list",data:=.seq its'.toArray a}:=by rw[eR f g (by rw[c]<;>rfl),c]
 refine I.write (x:=p) (e:=p) (by rw[h];trivial) (.inl rfl) (λ b u d q=>(kL _ _ (hE d)).trans q) %[_|e] ?_;exact%[hz,its',a,r|e]
def Z5:V->V->V->Hp->(Hp->Prop)->Prop:=λ o i v H Q=>∃p a k j,o=.ref p/\i=.int k/\H p=some (.lst a)/\ixN a.length k=some j/\Q (upd H p (.lst (a.set j v)))
def set_list:aaY X Z5:=by
 intro b s E H o i v K J u Q I B A C h;obtain⟨p,D,k,j,rfl,rfl,x,y,q⟩:=h;cases B;obtain⟨t,rfl⟩:=A;obtain⟨a,n,r,f,z⟩:=I.lst x;obtain⟨c,F,m,w⟩:=Jp y;have e:=r.length;have G:=sZ;have g:Inv X b E (upd H p (.lst (D.set j v))) {s with heap:=s.heap.update p (Obj.mapSeq (·.setIfInBounds j u))}:=
  I.lstUpd x f (Jy a n j u) (r.set C j) (by rw[List.length_set];exact z) s.toks;by_cases l:0<=k
 . have d:k.toNat=j:=by rw[seqIndex_of l w]at c;exact cf c
   exact PySem.W.ki_setAt f l %[|0] (by rw[x5,<-e];exact w) (by rw[d];exact%[_,g|q])
 . have d:(k+(a.toArray.size:Int)).toNat=j:=by rw[seqIndex_neg %[|0] m]at c;rw[x5,<-e];exact cf c
   exact PySem.W.ki_setBack f %[|0] (by rw[x5,<-e];exact m) %[|0] (by rw[d];exact%[_,g|q])
def Ff(lo hi:ac6)(n:Nat):(sliceBounds lo hi none n).1=((HT.sIx n 0 lo:Nat):Int)/\(sliceBounds lo hi none n).2.1=((HT.sIx n n hi:Nat):Int)/\(sliceBounds lo hi none n).2.2=1:=by
 refine%[?_,?_|rfl]
 . cases lo with
   | none=>simp[sliceBounds,HT.sIx]
   | some i=>simp only[sliceBounds,HT.sIx,Option.getD_none,show(1:Int)>0 by decide,ij];by_cases h:i<0;{simp only[h,ij]<;>omega};{simp only[h,e7]<;>omega}
 . cases hi with
   | none=>simp[sliceBounds,HT.sIx]
   | some i=>simp only[sliceBounds,HT.sIx,Option.getD_none,show(1:Int)>0 by decide,ij];by_cases h:i<0;{simp only[h,ij]<;>omega};{simp only[h,e7]<;>omega}
def yO(its:ab6)(lo hi:ac6):slicePick its.toArray lo hi none=((its.drop (HT.sIx its.length 0 lo)).take (HT.sIx its.length its.length hi-HT.sIx its.length 0 lo)).toArray:=by obtain⟨a,b,c⟩:=Ff lo hi its.toArray.size;unfold slicePick;rw[a,b,c];simp only[sliceRange_one,pick_run,x5]<;>rfl
def aaE(K:ab2):V->Option Int->Option Int->Hp->VK->Prop:=λ x d c H Q=>∃a b,x=.ref a/\SqL K H a b/\∀p,H p=none->Q (.ref p) (upd H p (.lst (oG b d c)))
def Jk:SlR X (aaE X.K):=by intro i s A H x v y z e f w Q I t j n p h;obtain⟨a,c,rfl,k,q⟩:=h;cases t;obtain⟨m,r,g,l⟩:=I.list k;have d:=r.length;refine%["list",_,slot_list_getitem.lookup,g.isList.typeIs|?_];refine wpAny_getItem_list_slice g.isList j n p .none (by simp) ?_ (by rw[x5]<;>omega);rw[yO,<-d];refine%[%[|9],_,I.laid (t':=s.toks) (o:=.lst (oG c e f)) (λ b u q=>bE _ q) (y9 _) ?_,rfl|q _ (I.hok.fresh (y9 _))];exact%[cS (qx c e f) l,_,0,(r.drop (HT.sIx c.length 0 e)).take (HT.sIx c.length c.length f-HT.sIx c.length 0 e)|bS _ rfl]
def iY:eZ X (.builtin "len") (λ xs H Q=>∃p ys,xs=[.ref p]/\(SqL X.K H p ys\/SqT X.K H p ys)/\Q (.int ys.length) H):=by intro f s l H xs k Q I r h;obtain⟨p,ys,rfl,b,q⟩:=h;obtain⟨u,rfl,i⟩:=vals1 r;cases i;have j:=sZ;rcases b with b | b;{obtain⟨c,e,d,g⟩:=I.list b;have a:=e.length;exact Calls.call_len_list d.isList (by simp only[x5]<;>omega) %[.int ys.length,H,I.tok _,%[s.toks+1|by rw[x5,a]]|q]};{obtain⟨c,e,d,g⟩:=I.tuple b;have a:=e.length;exact len_tuple d (by simp only[x5]<;>omega) %[.int ys.length,H,I.tok _,%[s.toks+1|by rw[x5,a]]|q]}
def nP:eZ X (.type "list") (λ xs H Q=>∃p ys,xs=[.ref p]/\(SqL X.K H p ys\/SqT X.K H p ys)/\∀l,H l=none->Q (.ref l) (upd H l (.lst ys))):=by
 intro t s B H xs C Q I r h;obtain⟨p,ys,rfl,j,q⟩:=h;obtain⟨u,rfl,A⟩:=vals1 r;cases A;have g:∀(a:ab6),Vals ys a->ys.length<=sizeLine->∀(c:Heap)(d:Nat),(∀b z,s.heap.get? b=some z->c.get? b=some z)->
  c.get? s.heap.objs.size=some {cls:=.type "list",dict:=none,data:=.seq a.toArray d,slots:=#[]}->EP X t B Q %[|9] {s with heap:=c}:=λ a f k c d m e=>
  %[%[|9],_,I.laid (t':=s.toks) m (y9 _) (show aN X.prog X.w _ c _ (.lst ys)from%[k,a,d,f|e]),rfl|q _ (I.hok.fresh (y9 _))];rcases j with j | j;{obtain⟨a,f,y,k⟩:=I.list j;have i:=f.length;obtain⟨o,x,v,n,w⟩:=y.isList;exact call_list_seq p (.inl rfl) x v w (λ c d m e=>g a f k c d m e) (by simp only[x5]<;>omega)};{obtain⟨a,f,y,k⟩:=I.tuple j;have i:=f.length;obtain⟨o,x,v,n,w⟩:=y;exact call_list_seq p (.inr rfl) x v w (λ c d m e=>g a f k c d m e) (by simp only[x5]<;>omega)}
def lK:eZ X %[|10] (λ xs H Q=>∃p ys,xs=[.ref p]/\((SqL X.K H p ys/\∀l,H l=none->Q (.ref l) (upd H l (.tup ys)))\/(SqT X.K H p ys/\Q (.ref p) H))):=by
 intro a s n H xs x Q I r h;obtain⟨p,ys,rfl,h⟩:=h;obtain⟨u,rfl,w⟩:=vals1 r;cases w;rcases h with⟨f,q⟩ | ⟨f,q⟩
 . obtain⟨c,i,g,m⟩:=I.list f;have k:=i.length;refine call_tuple_list g.isList (λ d v=>?_) (by simp only[x5]<;>omega);have j:Inv X a n H {s with heap:=d}:=I.kept (t':=s.toks) v;have t:Inv X a n (upd H d.objs.size (.tup ys)) {s with heap:=d.push {cls:=%[|10],data:=.seq c.toArray}}:=
    j.laid (t':=s.toks) (λ b o e=>bE _ e) (y9 _) (show aN X.prog X.w _ _ _ (.tup ys)from%[m,c,i|IsTup.new _ _]);exact%[.ref d.objs.size,_,t,rfl|q _ (j.hok.fresh (y9 _))]
 {obtain⟨c,i,g,m⟩:=I.tuple f;exact call_tuple_same g %[.ref p,H,I,rfl|q]}
def tyV(K:ab2)(T:String)(x:V)(H:Hp):Prop:=match x with
 | .str _=>T="str"
 | .int _=>T="int"
 | .ref p=>(T="list"/\∃b,SqL K H p b)\/(T="tuple"/\∃o,K.lookup p=some o/\o.cls=%[|10]/\o.dict=none)\/
  (T="dict"/\((∃a,H p=some (.dK a))\/∃a,H p=some (.dT a)))\/(T="set"/\∃S n,H p=some (.set S n))
 | _=>False
def Xz{σ:St}(I:%[|3])(r:RelV x v)(d:tyV X.K T x H):
 s.TypeIs v T/\∀a,v=.ref a->∃ob,s.heap.get? a=some ob/\ob.dict=none:=by
 cases x with
 | str z=>obtain⟨t,rfl⟩:=r;cases (show T="str" from d);exact%[typeIs_str s z t|λ _ e=>nomatch e]
 | int i=>obtain⟨t,rfl⟩:=r;cases (show T="int" from d);exact%[typeIs_int s i t|λ _ e=>nomatch e]
 | ref p=>
   cases r;rcases d with⟨rfl,q,l⟩ | ⟨rfl,o,b,k,g⟩ | ⟨rfl,b⟩ | ⟨rfl,S,n,b⟩;{obtain⟨m,_,j,_⟩:=I.list l;refine%[j.isList.typeIs|λ a e=>?_];cases e;obtain⟨o,n,e,c,g,_⟩:=j;exact%[o,e|g]};{refine%[%[o,I.kIn p o b|k]|λ a e=>?_];cases e;exact%[o,I.kIn _ o b|g]}
   . have z:∃o,s.heap.get? p=some o/\o.ExactDict:=by rcases b with⟨h,b⟩ | ⟨h,b⟩;{obtain⟨_,_,_,_,o,_,_,e,ex,_⟩:=I.hok p _ b;exact%[o,e|ex]};{obtain⟨_,_,_,_,o,_,_,e,ex,_⟩:=I.hok p _ b;exact%[o,e|ex]}
     obtain⟨o,e,ex⟩:=z;refine%[%[o,e|ex.1]|λ a f=>?_];cases f;exact%[o,e|ex.2.1]
   {obtain⟨o,_,_,_,e,ex,_⟩:=I.hok p _ b;refine%[%[o,e|ex.1]|λ a f=>?_];cases f;exact%[o,e|ex.2.1]}
 | _=>exact False.elim d
def tBM(K:ab2)(T:String)(r:V->List V->Hp->VK->Prop)(to:TE)(t:TA):TE:=λ b H Q=>to b H λ x a=>tyV K T x a/\t b a λ d c=>r x d c Q
variable{o e:Expr}{es:List Expr}{to:TE}{t:TA}{name:Str}{apos cpos:Pos}{T id:String}{r:V -> List V -> Hp -> VK -> Prop}
def TJ(q:PlainAttrs T)(slot:Slot T name id)(g:typeOf (.builtin id)=pure (.type "method_descriptor"))(n:MtR X id r)(p:PE X o to)(m:PA X (e::es) t)
 (c:attributeBase o name X.env (eval o X.env)=eval o X.env:=by rfl)
 (f:((backTo cpos (starEach (e::es) X.env)).all (λ x=>!x.1)&&(backToKw cpos (keywordEach [] X.env)).all (λ x=>x.1.isSome)
  &&decide ((e::es).length+([]:List Keyword).length+(if([]:List Keyword).isEmpty then 0 else 1)<30))=true:=by rfl)
 (d:(apos.endLine==cpos.line)=true:=by rfl)(hs:starEach (e::es) X.env=(false,eval e X.env)::starEach es X.env:=by rfl)(b:(backTo cpos (starEach es X.env)).any (·.1)=false:=by rfl):
 PE X (.Call (.Attribute o name apos) (e::es) [] cpos) (tBM X.K T r to t):=by intro a s i H Q I h;refine wpAny_Call_method_late c f d rfl (thn (p a s i H _ I h) λ v u ⟨x,H1,I1,r1,ty,q1⟩=>?_);obtain⟨k,l⟩:=Xz I1 r1 ty;refine%[T,id,q,slot,g,k,l|?_];have j:=m cpos a u i H1 _ I1 q1;rw[hs]at j ⊢;refine Calls.callWith_builtin (by show(false||(backTo cpos (starEach es X.env)).any (·.1))=false;rw[b]<;>rfl) (Calls.evalArgs_plain ?_);exact thn j λ y w ⟨vs,H2,I2,r2,q2⟩=>n a w i H2 x vs v y Q I2 r1 r2 q2
end
def MtM(X:Cx)(id:String)(r:V->List V->Hp->VK->Prop):Prop:=
 ∀ (a:ab7)(s:ab5)(d:St)(H:Hp)(x:V)(c:List V)(v:Value)(b:ab6)(Q:VK),Inv X a d H s->RelV x v->Vals c b->r x c H Q->
   wpAny %[|6] X.A (call (.builtin id) (v::b)) (EP X a d Q) X.xe s
def Vals.one:∀{x:V}{a:ab6},Vals [x] a->∃u,a=[u]/\RelV x u:=by intro _ _ h;cases h with| cons r t=>cases t;exact%[_,rfl|r]
def Vals.reverse(h:Vals xs a):Vals xs.reverse a.reverse:=by
 induction h with
 | nil=>exact .nil
 | cons r t b=>rw[nv,nv];exact Vals.append b (.cons r .nil)
theorem Vals.rep(h:Vals xs a):∀k:Nat,Vals (List.replicate k xs).flatten (List.replicate k a).flatten
 | 0=>.nil
 | k+1=>by rw[fR,fR,iS,iS];exact Vals.append h (Vals.rep h k)
theorem foldl_rep(its:ab6):∀(k:Nat)(acc:ab6),
 List.foldl (λ x1 x2=>x1++x2) acc.toArray (List.replicate k its.toArray)=(acc++(List.replicate k its).flatten).toArray
 | 0,acc=>by simp
 | k+1,acc=>by
   have e:acc.toArray++its.toArray=(acc++its).toArray:=by simp
   have a:(acc++its)++(List.replicate k its).flatten=acc++(List.replicate (k+1) its).flatten:=by rw[fR,iS,ca]
   rw[<-a,<-foldl_rep its k (acc++its),<-e,fR,List.foldl_cons]
section
variable{X:Cx}{pins:List (Addr × Obj)}{σ:St}{H:Hp}{s:Shared}{l b:Addr}{xs ys zs:List V}
def Inv.lset{its its':ab6}(I:%[|3])(a:H l=some (.lst xs))
 (e:s.heap.get? l=some {cls:=.type "list",data:=.seq its.toArray n})(c:f its.toArray=its'.toArray)(g:Vals ys its')(hz:ys.length<=sizeLine):
 Inv X pins σ (upd H l (.lst ys)) {s with heap:=s.heap.update l (Obj.mapSeq f),toks:=t'}:=by have q:=PySem.IsL.update e f;rw[c]at q;refine I.write (x:=l) (e:=l) (by rw[a];exact trivial) (.inl rfl) (λ h u b d=>(kL s.heap (Obj.mapSeq f) (hE b)).trans d) %[_|q] ?_;exact%[hz,its',_,g|q]
def Inv.lnew(I:%[|3])(a:Vals ys its)(hz:ys.length<=sizeLine):
 Inv X pins σ (upd H s.heap.objs.size (.lst ys)) {s with heap:=s.heap.push {cls:=.type "list",data:=.seq its.toArray},toks:=t'}:=
 I.laid (λ _ _ q=>bE _ q) (y9 _) %[hz,its,0,a|bS _ rfl]
def Inv.fresh(I:%[|3]):H s.heap.objs.size=none:=I.hok.fresh (y9 _)
def Inv.lstM(I:%[|3])(a:H l=some (.lst xs)):xs.length<=sizeLine/\∃(its:ab6) (n:Nat),Vals xs its/\xs.length=its.length/\s.heap.get? l=some {cls:=.type "list",data:=.seq its.toArray n}:=by obtain⟨z,its,n,r,e⟩:=I.hok l _ a;exact%[z,its,n,r,r.length|e]
end
section
variable{X:Cx}
def VD:V->List V->Hp->VK->Prop:=λ x b H Q=>∃l a y,x=.ref l/\b=[y]/\H l=some (.lst a)/\a.length<sizeLine/\Q .non (upd H l (.lst (a++[y])))
def wQ:MtM X "list.append" VD:=by intro c s p H x m v k Q I g f h;obtain⟨l,o,y,rfl,rfl,b,j,q⟩:=h;cases g;obtain⟨u,rfl,d⟩:=f.one;obtain⟨z,a,n,r,i,e⟩:=I.lstM b;refine kG F.slot_list_append %[_,e|rfl] F.entry_list_append (F.args_list_append_2 _ _) (PySem.list_append l a.toArray n u (by rw[x5];omega)) %[e|?_];refine%[.non,_,I.lset (its':=a++[u]) b e (by simp) (r.append (.cons d .nil)) ?_,rfl|q];rw[x8,hH];omega
def len_rep{b:Type}(xs:List b)(k:Nat):(List.replicate k xs).flatten.length=k*xs.length:=by
 induction k with
 | zero=>simp
 | succ k a=>rw[fR,iS,x8,a,oS,Nat.add_comm]
end
end L2
namespace Att
open PySem PySem.W PySem.Calls PyProof.Rows
def ue:∀(ns:ab1)(c:ab6),WellAll P h c (ns.map WData.int)->IntsAre c ns:=by
 intro ns
 induction ns with
 | nil=>intro c w;rw[kT]at w;cases w;exact .nil
 | cons n ns d=>intro c w;rw[cn]at w;cases w with| cons a b=>cases a;exact .cons _ _ (d _ b)
def Nh{l:OpenLaw}(t:l.most=some n)
 (b:l.row.toRowW.claim.pre args=true)(k:WellAll P h c args):
 ∃a vs ns,c=[Value.ref a]/\args=[WData.list (ns.map WData.int)]/\h.get? a=some {cls:=.type "list",data:=.seq vs.toArray}/\IntsAre vs ns/\ns.length<=n:=by
 have j:WShape.hasAll [] args [.list .int]=true:=(pre_splitW b).1;have m:l.pre.holds [] {args:=args}=true:=(pre_splitW b).2;obtain⟨d,r,rfl,o,p⟩:=hasAllW_cons j;obtain rfl:=hasAllW_nil p;obtain⟨y,rfl,s⟩:=hasW_list o;obtain⟨ns,rfl⟩:=items_int s;have f:ns.length<=n:=by
  unfold OpenLaw.pre at m;have g:(WTm.not (.lt (.lit (.int (n:Int))) (.len (.arg 0)))).holds [] {args:=[.list (ns.map .int)]}=true:=by have g:=(holds_andW m).1;rw[t]at g;exact g
  have i:=condW_of g (w_not (w_lt w_lit (w_len_list (w_arg rfl))));rw[y7]at i;refine Nat.le_of_not_lt λ q=>?_;have v:(n:Int)<((ns.length:Nat):Int):=%[|0]
  first
   | (rw[cc v]at i;exact absurd i %[|1])
   | (simp at i;omega)
 cases k with| cons w x=>cases x;cases w with| list u e=>exact%[_,_,ns,rfl,rfl,u,ue ns _ e|f]
def Ot(l:OpenLaw)(args:List WData):l.row.toRowW.claim.post args (.bool true) args=true:=
 postW_of (r:=l.row.toRowW) (X:=(true==true))
  (show WShape.has [] (.bool true) .bool=true by first | rfl | decide | simp[WShape.has,WShape.arms,WShape.armsAll])
  (show(WTm.eq .res (.lit (.bool true))).value [] {args:=args,res:=some (.bool true),after:=args}=some (.bool (true==true))from w_eq_bool (w_res rfl) w_lit) rfl
def attach_call{l:OpenLaw}
 (M:l.most=some n)(p:d.params.defaults=[])
 (call:∀(w:World)(s₀ b:ab5)(mg u:ab9)(fa:Addr)(o:Obj)(v cd e:Value)(a:Addr)(h:ab6)(ns:ab1),
  Ground q c [] x w s₀ mg u b.heap->y w b.heap->
  b.heap.get? fa=some o->o.data=.func (docDef d.name d.params d.body d.scope v cd e)->b.heap.CodeRec cd d.name->mg d.name=some (.ref fa)->
  b.heap.get? a=some {cls:=.type "list",data:=.seq h.toArray}->IntsAre h ns->ns.length<=n->b.gens=#[]->
  codeAny (model l.prog w) callerA (.call (.ref fa) %[[.ref a]|[]]) (λ r s'=>r=.ok (.ret (.bool true))/\OldK b.heap s'.heap/\s'.os=b.os/\AllBare s'.gens) b):
 WalkO q c x y l.row.toRowW d [] (λ f h=>PySem.call f h):=by intro w s₀ b mg u G Y fa o v cd e D Q N I m A s J z C R k B P t K;obtain rfl:D=.none:=Dflts.none A p;obtain rfl:Q=.none:=Dflts.noKw A;obtain⟨a,h,ns,rfl,rfl,j,g,i⟩:=Nh M k t;refine enter_call (oP (call w s₀ b mg u fa o v cd e a h ns G Y N (fd_plain I) m s j g i J) λ r s' O=>?_);obtain⟨rfl,E,F,H⟩:=O;exact%[.inl %[.bool true,.bool true,[],rfl,λ _=>rfl,.bool true,Ot l _|λ _=>%[List.Pairwise.nil|λ _ L=>(nomatch L)]],E,F|H]
end Att
namespace L2
open PySem PySem.Spec PyProof.Rows
theorem gD:∀{a:ab6}{ns:ab1},IntsAre a ns->Vals (ns.map V.int) a
 | _,_,.nil=>.nil
 | _,_,.cons n t h=>.cons %[t|rfl] (gD h)
def Only(H:Hp):Prop:=∀b,H b=none\/∃o a,H b=some (.frz o (.lst a))
def Ro{K}
 (U:K.In c.heap)(D:c.heap.Ns mainGlobals mg)(g:c.heap.Ns builtinsNs S)(O:∀x:Str,x≠"__name__"->S x=bootBuiltins x)(C:c.heap.NoLimit)(hg:c.gens=#[])
 (L:c.heap.get? a=some {cls:=.type "list",data:=.seq p.toArray})(hi:IntsAre p ns)(hl:ns.length<=sizeLine)(hr:Room k callerA)
 (F:∀base:Heap,K.In base->base.Ns mainGlobals mg->FnOk P w K mg base CX k fa X [x] sp)(l:∀(s:ab5)(u:Value),BindsTo s X %[[u]|[]] [(x,u)])
 (R:∀H:Hp,Only H->SqL K H a (ns.map V.int)->sp [.ref a] H (λ v _=>v=.bl true) λ _ _ _=>False)
 (N:∀H e s',CX [] H c (λ _ _ _=>False) e s'->False):
 codeAny (model P w) callerA (.call (.ref fa) %[[.ref a]|[]]) (λ r s'=>r=.ok (.ret (.bool true))/\OldK c.heap s'.heap/\s'.os=c.os/\AllBare s'.gens) c:=by
 have rv:=gD hi;have I:=hi.length;have j:∀H:Hp,Only H->SqL K H a (ns.map V.int)->HOk P w H c.heap->(∀b,H b≠none->b=a)->(H a≠none->K.lookup a=none)->
  codeAny (model P w) callerA (.call (.ref fa) %[[.ref a]|[]]) (λ r s'=>r=.ok (.ret (.bool true))/\OldK c.heap s'.heap/\s'.os=c.os/\AllBare s'.gens) c:=by
  intro H Z hS E Y hK;have f:∀{b:Addr}{o:Obj},c.heap.get? b=some o->H b=none->(j9 c.heap H).get? b=some o:=λ e n=>Q3 e n;have T:∀{b:Addr}{o:Obj}{A:Array DictEntry}{y:Nat},c.heap.get? b=some o->o.data=.dict A y->H b=none:=λ{b o A y} e d=>by
   cases q:H b with
   | none=>rfl
   | some u=>have M:b=a:=Y b (by rw[q];simp);subst M;rw[L]at e;cases e;have d':Data.seq p.toArray _=Data.dict A y:=d;cases d'
  have i:∀{b:Addr}{m:ab9},c.heap.Ns b m->(j9 c.heap H).Ns b m:=λ{b m} ⟨o,A,y,e,d,r⟩=>%[o,A,y,f e (T e d),d|r];have B:K.In (j9 c.heap H):=λ b o e=>f (U b o e) (by
   cases q:H b with
   | none=>rfl
   | some u=>have M:b=a:=Y b (by rw[q];simp);subst M;rw[hK (by rw[q];simp)]at e;cases e);have hM:Mod K mg (j9 c.heap H):=%[B,i D,%[S,i g|O]|let ⟨mc,h1,h2⟩:=C;%[mc,i h1|h2]];have e0:Env0 P w K mg (j9 c.heap H) callerA [] c H:=%[rfl,hM,λ b o e=>VN e,mw (Ox _ _),trivial,λ b g=>absurd (show b∈([]:List Addr)from g) (by simp),E|.of_eq hg];refine oP ((F _ B (i D)).run callerA [] c H %[[.ref a]|[]] [.ref a] [.ref a] _ _ hr e0 (l c (.ref a)) (.cons rfl .nil) (R H Z hS)) λ r s' h=>?_
  cases r with
  | error e=>exact(N H e s' h).elim
  | ok fl =>
    cases fl with
    | next=>exact False.elim h
    | brk=>exact False.elim h
    | cont=>exact False.elim h
    | ret u=>
      obtain⟨v,H',os,t,un,G,r',q⟩:=h;have q':v=.bl true:=q;subst q';obtain rfl:u=Value.bool true:=r';refine%[rfl,OldK.of_keep λ b o e=>?_,os|t]
      cases q:H b with
      | none=>exact un.keep b o e q (by intro z;exact absurd (show b∈([]:List Addr)from z) (by simp)) (by simp)
      | some u=>rcases Z b with z | ⟨ob,xs,z⟩;{rw[q]at z;cases z};{have z2:=un.frzs b ob _ z;obtain⟨W,_⟩:=E b _ z;obtain⟨e2,_⟩:=G b _ z2;rw[e]at W;cases W;exact e2}
 cases Q:K.lookup a with
 | some o=>have e:=U a o Q;rw[L]at e;cases e;refine j (λ _=>none) (λ _=>.inl rfl) (.inr %[_,p.toArray,_,Q,rfl,rfl,rfl,by rw[x5,I];exact hl|by simpa using rv]) (λ b u z=>by have J:(none:Option HO)=some u:=z;cases J) (λ b z=>absurd rfl z) λ z=>absurd rfl z
 | none=>refine j (λ b=>if b=a then some (.frz {cls:=.type "list",data:=.seq p.toArray} (.lst (ns.map V.int)))else none) (λ b=>?_) (.inl (.inr %[{cls:=.type "list",data:=.seq p.toArray}|c9 rfl])) (λ b u z=>?_) (λ b z=>?_) λ _=>Q;{by_cases g:b=a;{exact .inr %[_,_|c9 g]};{exact .inl (bP g)}};{by_cases g:b=a;{have J:=(c9 g).symm.trans z;cases J;subst g;exact%[L,by rw[y7];exact hl,p,_,rv|L]};{have J:=(bP g).symm.trans z;cases J}};{by_cases g:b=a;{exact g};{exact absurd (bP g) z}}
abbrev KOf{K:ab2}{h:Heap}(_:K.In h):PySem.W.Frag:=K
def walk_of{l:PySem.W.OpenLaw}{K:Params->PySem.W.Frag}{CX:World->CXT}{sp:World->Sp}
 (P:l.most=some n)(t:n<=sizeLine)(p:d.params.defaults=[])(Q:Room k callerA)
 (L:∀(w:World)(h:Heap),A w h->(K w.params).In h)
 (F :∀(w:World)(mg:ab9)(fa:Addr)(h:Heap),(K w.params).In h->h.Ns mainGlobals mg->mg d.name=some (.ref fa)->
  ∃ fd:FuncData,(∀(s:ab5)(u:Value),BindsTo s fd %[[u]|[]] [(x,u)])/\
    ∀base:Heap,(K w.params).In base->base.Ns mainGlobals mg->FnOk l.prog w (K w.params) mg base (CX w) k fa fd [x] (sp w))
 (y:∀(w:World)(H:Hp)(a:Addr)(ns:ab1),ns.length<=n->Only H->SqL (K w.params) H a (ns.map V.int)->sp w [.ref a] H (λ v _=>v=.bl true) λ _ _ _=>False)
 (m:∀(w:World)(H:Hp)(s:ab5)(e:Value)(s':ab5),CX w [] H s (λ _ _ _=>False) e s'->False):
 PySem.W.WalkO q g C A l.row.toRowW d [] (λ f vs=>PySem.call f vs):=by refine Att.attach_call P p λ w B j mg U fa o W R D a vs ns G Y T S N r i c b O=>?_;have z:=L w _ Y;obtain⟨fd,M,E⟩:=F w mg fa _ z G.T.g r;exact Ro z G.T.g G.T.b G.T.builtins G.T.nolimit O i c (cS b t) Q E M (λ H I J=>y w H a ns b I J) λ H e s'=>m w H j e s'
def f9(s:Stmt):Arguments:=match s with
 | .FunctionDef _ a _ _ _ _ _ _ _ _=>a
 | _=>{posonlyargs:=[],args:=[],vararg:=none,kwonlyargs:=[],kw_defaults:=[],kwarg:=none,defaults:=[]}
def cY(s:Stmt):List Stmt:=match s with
 | .FunctionDef _ _ b _ _ _ _ _ _ _=>b
 | _=>[]
def aW(s:Stmt):Scope:=match s with
 | .FunctionDef _ _ _ _ _ _ sc _ _ _=>sc
 | _=>{kind:=.function,names:=[],isGenerator:=false,isCoroutine:=false}
abbrev CX0:CXT:=λ _ _ _ _ _ _=>False
abbrev E0:XK:=λ _ _ _=>False
def Zh:Oe CX0 X E0:=λ _ _ _ _ _ _ _ h=>h.elim
structure Fun(K:ab2)(x qual:Str)(st:Stmt)(f:Addr)(fd:FuncData):Prop where
 ex:∃(oc:Value) (od:ac7) (kV doc pm:Value) (an:ac7) (cdv ct:Value) (osl:ac3),
  fd=PySem.W.fnOf x qual (f9 st) (cY st) (aW st) .none kV doc pm an cdv ct/\K.lookup f=some %[oc,od,.func fd|osl]/\PySem.W.codeIn K cdv qual=true
 kp:PySem.W.keepIn K (.ref f)=true
section
variable{P:Program}{w:World}{K:PySem.W.Frag}{mg:Str -> Option Value}{base:Heap}
def Fun.binds{st}(F:Fun K x a st f j)
 (h:∀(e c g:Value)(d:ac7)(b ct:Value)(i:ab6),i.length=ps.length->bindArgs (PySem.W.fnOf x a (f9 st) (cY st) (aW st) .none e c g d b ct) %[i|[]]=pure (ps.zip i)):Binds K j ps []:=by obtain⟨n,o,e,c,g,d,b,ct,l,rfl,m,k⟩:=F.ex;exact .all (h e c g d b ct)
def MF{st}(l:K.lookup f=some %[j,od,.func (PySem.W.fnOf x a (f9 st) (cY st) (aW st) .none h d i g b ct)|e])
 (c:PySem.W.codeIn K b a=true)(k:PySem.W.keepIn K (.ref f)=true):Fun K x a st f (PySem.W.fnOf x a (f9 st) (cY st) (aW st) .none h d i g b ct):=%[%[j,od,h,d,i,g,b,ct,e,rfl,l|c]|k]
end
def dR(H H':Hp):Prop:=∀b o,H b=some o->H' b=some o
def dR.refl(H:Hp):dR H H:=λ _ _ h=>h
def Z9(r:RelV (kV k) u):(dD P w).is k u=true:=by
 cases k with
 | inl i=>obtain⟨t,e⟩:=(show ∃t,u=Value.int i t from r);subst e;exact Fp P w i t
 | inr x=>obtain⟨t,e⟩:=(show ∃t,u=Value.str x t from r);subst e;exact Hl P w x t
theorem xP:∀{ks:List Key}{a:ab6},Vals (ks.map kV) a->ItemsAre (dD P w) ks a
 | [],_,r=>by rw[kT]at r;cases r;exact .nil
 | k::ks,_,r=>by rw[cn]at r;cases r with| cons h t=>exact .cons (Z9 h) (xP t)
abbrev KT(H:Hp):List (List Key×V)->List (List Key×Addr×Value)->Prop:=Paired λ p q=>p.1=q.1/\H q.2.1=some (.tup (p.1.map kV))/\RelV p.2 q.2.2
section
variable{P:Program}{w:World}{H:Hp}{h:Heap}{a:Addr}
def T4(ok:HOk P w H h)(e:Rd H a u):aN P w H h a u:=e.ok ok
def Z4(ok:HOk P w H h)(e:Rd H a (.dK kvs)):kvs.length<=sizeLine/\(a==sysModules)=false/\∃vs,KV kvs vs/\h.DictOf (dD P w) a vs:=
 show aN P w H h a (.dK kvs)from T4 ok e
def Xc(ok:HOk P w H h)(e:H a=some (.tup (ks.map kV))):(tupleKind (dD P w)).is h ks a:=by obtain⟨_,b,r,o,c,d,n,f⟩:=(show aN P w H h a (.tup (ks.map kV))from ok a _ e);exact%[o,b.toArray,n,c,d,f|by simpa using xP r]
def aaq(ok:HOk P w H h)(e:Rd H a (.dT kvs)):kvs.length<=sizeLine/\(a==sysModules)=false/\
 ∃xs,KT H kvs xs/\h.DictOfH (tupleKind (dD P w)) a xs:=by
 obtain⟨z,y,xs,r,o,f,d,g,i,j,k,n⟩:=(show aN P w H h a (.dT kvs)from T4 ok e);refine%[z,y,xs,r,o,f,d,g,i,j,k,λ x b=>?_|n];have c:∀{l:List (List Key×V)}{m:List (List Key×Addr×Value)},KT H l m->∀x∈m,(tupleKind (dD P w)).is h x.1 x.2.1:=by
  intro l m q
  induction q with
  | nil=>intro x b;exact nomatch b
  | @cons p q u v hq t s=>intro x b;rcases ci.mp b with e | b;{subst e;exact Xc ok (by rw[<-hq.1];exact hq.2.1)};{exact s x b}
 exact c r x b
end
section
variable{X:Cx}{pins:List (Addr × Obj)}{σ:St}{H:Hp}{s:Shared}{a:Addr}{y v:V}{u r:Value}{o:Option V}{A:Around}{E:%[|17]}
def Inv.big(I:%[|3]):sysModules<s.heap.objs.size:=by have h:mainGlobals<s.heap.objs.size:=(I.mod.glob.keeps I.bk).lt;exact oT %[|1] h
def v9(I:%[|3])(h:Mut (H a))(hs:Heap.SameBut a s.heap h')(g:∃q,h'.get? a=some q)(c:aN X.prog X.w (upd H a d) h' a d):
 Inv X pins σ (upd H a d) {s with heap:=h',toks:=t'}:=
 I.write (x:=a) (e:=a) h (.inl rfl) (λ b q f z=>(hs.2 b f).trans z) g c
end
def Yv(i:Expr):Prop:=∀b a,subscripted i false b a=operate [b,a] (getItem b a)
def Wk{T id}
 (k:typeLookup (.type T) "__getitem__"=pure (some (.builtin id)))(hs:Yv a)
 (h:wpAny %[|5] A (eval b env) (λ o s₁=>wpAny %[|5] A (eval a env) (λ i s₂=>s₂.TypeIs o T/\wpAny %[|5] A (getItem o i) Q E s₂) E s₁) E s):
 wpAny %[|5] A (eval (.Subscript b a pos) env) Q E s:=by
 refine Subscript_ (gy h (λ o s₁ f=>gy f (λ i s₂ c=>?_) λ _ _ x=>x) λ _ _ x=>x);obtain⟨j,c⟩:=c;unfold subscriptTail;refine b0 ?_;rw[getitemInPython_of_ne j.not_modules];refine b0 (gT j k ?_);have e:wpAny %[|5] A (subscripted a false o i) (λ r d=>wpAny %[|5] A (letTemporaryGo b o r>>=λ _=>pure r) Q E d) E s₂:=by rw[hs o i];exact wpAny_operating (gy c (λ r d g=>b0 (wpAny_letTemporaryGo (b9 g))) λ _ _ x=>x)
 first
  | exact b9 (b0 e)
  | exact b0 (b9 (b0 e))
  | exact b0 e
structure M2(X:Cx)(o:Expr)(m:Str)(apos:Pos)(e f:Expr)(cpos:Pos):Prop where
 base:attributeBase o m X.env (eval o X.env)=eval o X.env
 few:((backTo cpos (starEach [e,f] X.env)).all (λ x=>!x.1)&&(backToKw cpos (keywordEach [] X.env)).all (λ x=>x.1.isSome)
  &&decide (([e,f]:List Expr).length+([]:List Keyword).length+(if([]:List Keyword).isEmpty then 0 else 1)<30))=true
 line:(apos.endLine==cpos.line)=true
 trees:backTo cpos (starEach [e,f] X.env)=[(false,eval e X.env),(false,eval f X.env)]
def IsD(H:Hp)(a:Addr):Prop:=(∃b,Rd H a (.dK b))\/∃b,Rd H a (.dT b)
def X8{σ:St}(I:%[|3])(d:IsD H a):
 s.TypeIs (.ref a) "dict"/\(∀b,Value.ref a=.ref b->∃ob,s.heap.get? b=some ob/\ob.dict=none)/\(a==sysModules)=false:=by rcases d with⟨h,e⟩ | ⟨h,e⟩;{obtain⟨_,g,i,_,c⟩:=Z4 I.hok e;refine%[c.typeIs,λ b q=>?_|g];cases q;obtain⟨ob,_,_,f,h2,_⟩:=c;exact%[ob,f|h2.2.1]};{obtain⟨_,g,j,_,c⟩:=aaq I.hok e;refine%[c.typeIs,λ b q=>?_|g];cases q;obtain⟨ob,_,_,f,h2,_⟩:=c;exact%[ob,f|h2.2.1]}
end L2
set_option maxHeartbeats 4000000
namespace DL
open PySem PySem.Spec L2
open PyProof.Rows
variable{a p:Addr}{K:PySem.W.Frag}{O O':Own}{H H':Hp}{xs vs:List V}{ds:List D}{S:Store}
abbrev St:=L2.St
inductive D where
 | non | bl(b:Bool) | int(i:Int) | str(x:Str) | tup(ds:List D) | lst(ds:List D) | loc(k:Nat) | dic | dlo(k:Nat)
abbrev Store:=List (List D)
abbrev Gam:=List (Option D)
structure Own where
 A:List (Addr×Bool)
 B:List Addr
abbrev adr(A:List (Addr×Bool)):List Addr:=A.map Prod.fst
def cI{k:Nat}(h:A[k]? =some (a,q)):a∈adr A:=c8.mpr %[_,y4 h|rfl]
def cF(A N:List (Addr×Bool)):adr (A++N)=adr A++adr N:=cE
abbrev Own.has(O:Own)(a:Addr):Prop:=a∈adr O.A\/a∈O.B
def Tp(K:ab2)(O:Own)(H:Hp)(a:Addr)(xs:List V):Prop:=¬O.has a/\H a=some (.tup xs)
def Ls(K:ab2)(O:Own)(H:Hp)(a:Addr)(xs:List V):Prop:=(¬O.has a/\Rd H a (.lst xs))\/SqL K (λ _=>none) a xs
def Tp.sq(h:Tp K O H a xs):SqT K H a xs:=.inl (.inl h.2)
def Ls.sq(h:Ls K O H a xs):SqL K H a xs:=by rcases h with⟨_,h⟩ | (h | h);{exact .inl h};{rcases h with h | ⟨_,h⟩<;>cases h};{exact .inr h}
def Abv(K:ab2)(a:Addr):Prop:=∀c o,K.lookup c=some o->c<a
mutual
inductive Rep(K:ab2)(O:Own)(H:Hp):V->D->Prop
 | non:Rep K O H .non .non
 | bl(b:Bool):Rep K O H (.bl b) (.bl b)
 | int(i:Int):Rep K O H (.int i) (.int i)
 | str(x:Str):Rep K O H (.str x) (.str x)
 | tup{a:Addr}{xs:List V}{ds:List D}(h:Tp K O H a xs)(r:Reps K O H xs ds):Rep K O H (.ref a) (.tup ds)
 | lst{a:Addr}{xs:List V}{ds:List D}(h:Ls K O H a xs)(r:Reps K O H xs ds):Rep K O H (.ref a) (.lst ds)
 | loc{a:Addr}{k:Nat}(h:O.A[k]? =some (a,false)):Rep K O H (.ref a) (.loc k)
 | dlo{a:Addr}{k:Nat}(h:O.A[k]? =some (a,true))(n:Abv K a):Rep K O H (.ref a) (.dlo k)
 | dic{a:Addr}(h:¬O.has a)(e:H a=some (.dK [])):Rep K O H (.ref a) .dic
inductive Reps(K:ab2)(O:Own)(H:Hp):List V->List D->Prop
 | nil:Reps K O H [] []
 | cons{v:V}{d:D}{vs:List V}{ds:List D}(r:Rep K O H v d)(t:Reps K O H vs ds):Reps K O H (v::vs) (d::ds)
end
structure Step(O O':Own)(H H':Hp):Prop where
 kept:∀b o,b∉adr O.A->H b=some o->H' b=some o
 dom:∀b,H b≠none->H' b≠none
 ext:∃N,O'.A=O.A++N/\∀b∈adr N,H b=none
 hid:O'.B=O.B
def Step.refl(O:Own)(H:Hp):Step O O H H:=%[λ _ _ _ h=>h,λ _ h=>h,%[[],by simp|λ _ h=>nomatch h]|rfl]
def Step.trans(a:Step O O1 H H1)(b:Step O1 O2 H1 H2):Step O O2 H H2:=by
 obtain⟨g,e,f⟩:=a.ext;obtain⟨i,j,k⟩:=b.ext;refine%[λ c o d h=>b.kept c o (λ z=>?_) (a.kept c o d h),λ c h=>b.dom c (a.dom c h),%[g++i,by rw[j,e,ca]|λ c d=>?_]|b.hid.trans a.hid];{rw[e,cF]at z;rcases cm.mp z with z | z;{exact d z};{rw[f c z]at h;cases h}}
 . rw[cF]at d;rcases cm.mp d with z | z;{exact f c z}
   . cases q:H c with
     | none=>rfl
     | some o=>exact absurd (k c z) (a.dom c (by rw[q];simp))
def Step.nothas(s:Step O O' H H')(h:¬O.has a)(t:H a≠none):¬O'.has a:=by obtain⟨N,e,f⟩:=s.ext;rintro(z | z);{rw[e,cF]at z;rcases cm.mp z with z | z;{exact h (.inl z)};{exact t (f a z)}};{rw[s.hid]at z;exact h (.inr z)}
structure Conv(O O':Own)(H H':Hp):Prop where
 tr:∀a u,¬O.has a->H a=some u->¬O'.has a/\H' a=some u
 lc:∀(k:Nat)(a:Addr×Bool),O.A[k]? =some a->O'.A[k]? =some a
def Step.conv(s:Step O O' H H'):Conv O O' H H':=
 %[λ a u h t=>%[s.nothas h (by rw[t];simp)|s.kept a u (λ z=>h (.inl z)) t]|λ k a h=>by obtain⟨N,e,_⟩:=s.ext;rw[e,x9 (z0.mp h).1];exact h]
def Rd.conv(s:Conv O O' H H')(h:¬O.has a)(r:Rd H a u):¬O'.has a/\Rd H' a u:=by rcases r with r | ⟨o,r⟩;{obtain⟨x,y⟩:=s.tr a _ h r;exact%[x|.inl y]};{obtain⟨x,y⟩:=s.tr a _ h r;exact%[x|.inr %[o|y]]}
def Tp.conv(h:Tp K O H a xs)(s:Conv O O' H H'):Tp K O' H' a xs:=s.tr a _ h.1 h.2
def Ls.conv(h:Ls K O H a xs)(s:Conv O O' H H'):Ls K O' H' a xs:=by rcases h with⟨n,r⟩ | h;{exact .inl (Rd.conv s n r)};{exact .inr h}
def Reps.ind{P:List V->List D->Prop}(n:P [] [])(c:∀{v:V}{d:D}{a:List V}{ds:List D},Rep K O H v d->Reps K O H a ds->P a ds->P (v::a) (d::ds)){a}(h:Reps K O H a ds):P a ds:=
 Reps.rec (motive_1:=λ _ _ _=>True) (motive_2:=λ a ds _=>P a ds) trivial (λ _=>trivial) (λ _=>trivial) (λ _=>trivial) (λ _ _ _=>trivial) (λ _ _ _=>trivial) (λ _=>trivial) (λ _ _=>trivial) (λ _ _=>trivial) n (λ r t _ b=>c r t b) h
def Rep.conv(s:Conv O O' H H')(h:Rep K O H v d):Rep K O' H' v d:=
 Rep.rec (motive_1:=λ v d _=>Rep K O' H' v d) (motive_2:=λ c b _=>Reps K O' H' c b) .non .bl .int .str (λ h _ a=>.tup (h.conv s) a) (λ h _ a=>.lst (h.conv s) a) (λ h=>.loc (s.lc _ _ h)) (λ h n=>.dlo (s.lc _ _ h) n) (λ h e=>.dic (s.tr _ _ h e).1 (s.tr _ _ h e).2) .nil (λ _ _ i j=>.cons i j) h
def Reps.conv(s:Conv O O' H H'){a}(h:Reps K O H a ds):Reps K O' H' a ds:=
 h.ind .nil λ r _ i=>.cons (r.conv s) i
def Rep.mono(h:Rep K O H v d)(s:Step O O' H H'):Rep K O' H' v d:=h.conv s.conv
def Reps.mono(h:Reps K O H v d)(s:Step O O' H H'):Reps K O' H' v d:=h.conv s.conv
abbrev Own.hide(O:Own)(p:Addr):Own:=%[O.A|p::O.B]
def Conv.hide(h:H p=none)(o:HO):Conv O (O.hide p) H (upd H p o):=
 ⟨λ a u n t=>by have b:a≠p:=aJ t h;refine%[λ z=>?_|by rw[aq b];exact t];rcases z with z | z;{exact n (.inl z)};{rcases ci.mp z with z | z;{exact b z};{exact n (.inr z)}},λ _ _ h=>h⟩
def Conv.unhide:Conv %[A|p::B] %[A|B] H H:=
 %[λ a u n t=>%[λ z=>n (z.elim .inl λ z=>.inr (x4 _ z))|t]|λ _ _ h=>h]
def Conv.updHid(h:p∈O.B)(o:HO):Conv O O H (upd H p o):=
 %[λ a u n t=>%[n|by rw[aq (λ e=>n (.inr (by rw[e];exact h)))];exact t]|λ _ _ h=>h]
def Reps.length(h:Reps K O H vs ds):vs.length=ds.length:=
 h.ind (P:=λ vs ds=>vs.length=ds.length) rfl λ _ _ i=>eL Nat.succ i
def Reps.get{i:Nat}(h:Reps K O H vs ds)(e:ds[i]? =some d):∃v,vs[i]? =some v/\Rep K O H v d:=by
 revert i;refine h.ind (P:=λ vs ds=>∀{i:Nat},ds[i]? =some d->∃v,vs[i]? =some v/\Rep K O H v d) (λ e=>by simp at e) λ r t a i e=>?_
 cases i with
 | zero=>exact%[_,rfl|cf e▸r]
 | succ i=>exact a e
def Reps.append(h:Reps K O H vs ds)(s:Reps K O H ws es):Reps K O H (vs++ws) (ds++es):=
 h.ind (P:=λ vs ds=>Reps K O H (vs++ws) (ds++es)) s λ r _ i=>.cons r i
def Reps.take(n:Nat)(h:Reps K O H vs ds):Reps K O H (vs.take n) (ds.take n):=by
 revert n;refine h.ind (P:=λ vs ds=>∀n:Nat,Reps K O H (vs.take n) (ds.take n)) (λ n=>?_) λ r t a n=>?_;{cases n<;>exact .nil}
 . cases n with
   | zero=>exact .nil
   | succ n=>exact .cons r (a n)
def Reps.drop(n:Nat)(h:Reps K O H vs ds):Reps K O H (vs.drop n) (ds.drop n):=by
 revert n;refine h.ind (P:=λ vs ds=>∀n:Nat,Reps K O H (vs.drop n) (ds.drop n)) (λ n=>?_) λ r t a n=>?_;{cases n<;>exact .nil}
 . cases n with
   | zero=>exact .cons r t
   | succ n=>exact a n
def Reps.set(r:Rep K O H v d){a}(i:Nat)(h:Reps K O H a ds):Reps K O H (a.set i v) (ds.set i d):=by
 revert i;refine h.ind (P:=λ a ds=>∀i:Nat,Reps K O H (a.set i v) (ds.set i d)) (λ _=>.nil) λ q t b i=>?_
 cases i with
 | zero=>exact .cons r t
 | succ i=>exact .cons q (b i)
def Reps.ints{ns:ab1}(h:Reps K O H vs (ns.map D.int)):vs=ns.map V.int:=by
 induction ns generalizing vs with
 | nil=>cases h;rfl
 | cons n ns a=>cases h with| cons r t=>cases r;rw[a t];rfl
theorem abv:∀ns:List Int,Reps K O H (ns.map V.int) (ns.map D.int)
 | []=>.nil
 | n::ns=>.cons (.int n) (abv ns)
def Reps.bools{ns:List Bool}(h:Reps K O H vs (ns.map D.bl)):vs=ns.map V.bl:=by
 induction ns generalizing vs with
 | nil=>cases h;rfl
 | cons n ns a=>cases h with| cons r t=>cases r;rw[a t];rfl
def aaV(ns:ab1):List Key:=ns.map Sum.inl
inductive Kps(K:ab2)(O:Own)(H:Hp):List (List Key×V)->List D->Prop
 | nil:Kps K O H [] []
 | cons{ns:ab1}{v:V}{d:D}{kvs:List (List Key×V)}{ds:List D}(r:Rep K O H v d)(t:Kps K O H kvs ds):Kps K O H ((aaV ns,v)::kvs) (.tup [.tup (ns.map .int),d]::ds)
def Kps.conv(s:Conv O O' H H')(h:Kps K O H kvs ds):Kps K O' H' kvs ds:=by
 induction h with
 | nil=>exact .nil
 | cons r t a=>exact .cons (r.conv s) a
def hC0(c:ac9):Int:=reduceHash (Builtin.Tuple.tupleHashOf [hashInt c.1,reduceHash (Builtin.Tuple.tupleHashOf (c.2.map hashInt))])
abbrev Cy:=List ((Int×List Int)×Addr×Value)
def QV(a:Addr)(ys:Cy)(h:Heap):Prop:=ys.length<=sizeLine/\(a==sysModules)=false/\(ys.map (·.1)).Nodup/\
 ∃o b c,h.get? a=some o/\o.ExactDict/\o.data=.dict b c/\b.toList=ys.map λ y=>(%[hC0 y.1,.ref y.2.1|y.2.2]:DictEntry)
def bc(a:Addr)(ys:Cy)(h:Heap):Prop:=ys.length<=sizeLine/\(a==sysModules)=false/\(ys.map (·.1)).Nodup/\
 ∃o b,h.get? a=some o/\o.ExactDict/\o.data=.dict b ys.length/\b.toList=ys.map λ y=>(%[hC0 y.1,.ref y.2.1|y.2.2]:DictEntry)
inductive Kcs(K:ab2)(O:Own)(H:Hp):Cy->List D->Prop
 | nil:Kcs K O H [] []
 | cons{c:ac9}{b:Addr}{u:Value}{v:V}{k d:D}{ys:Cy}{ds:List D}(e:k=.tup [.int c.1,.tup (c.2.map .int)])(rk:Rep K O H (.ref b) k)(rv:RelV v u)(r:Rep K O H v d)(t:Kcs K O H ys ds):Kcs K O H ((c,b,u)::ys) (.tup [k,d]::ds)
def Kcs.conv(s:Conv O O' H H')(h:Kcs K O H ys ds):Kcs K O' H' ys ds:=by
 induction h with
 | nil=>exact .nil
 | cons e b c r t a=>exact .cons e (b.conv s) c (r.conv s) a
def isO:Option Int->Value->Bool
 | some i,.int j _=>decide (i=j)
 | none,.none=>true
 | _,_=>false
def hO0:Option Int->Int
 | some i=>hashInt i
 | none=>4238894112
abbrev Oy:=List (Option Int×Value)
inductive OEs:List DictEntry->Oy->Prop
 | nil:OEs [] []
 | cons{e:DictEntry}{k:ac6}{v:Value}{es:List DictEntry}{ys:Oy}(i:isO k e.key=true)(h:e.hash=hO0 k)(q:e.val=v)(t:OEs es ys):OEs (e::es) ((k,v)::ys)
def Sx(a:Addr)(ys:Oy)(h:Heap):Prop:=ys.length<=sizeLine/\(a==sysModules)=false/\(ys.map (·.1)).Nodup/\
 ∃o b c,h.get? a=some o/\o.ExactDict/\o.data=.dict b c/\OEs b.toList ys
def oD:Option Int->D
 | some i=>.int i
 | none=>.non
inductive Kos(K:ab2)(O:Own)(H:Hp):Oy->List D->Prop
 | nil:Kos K O H [] []
 | cons{c:ac6}{u:Value}{v:V}{k d:D}{ys:Oy}{ds:List D}(e:k=oD c)(rv:RelV v u)(r:Rep K O H v d)(t:Kos K O H ys ds):Kos K O H ((c,u)::ys) (.tup [k,d]::ds)
def Kos.conv(s:Conv O O' H H')(h:Kos K O H ys ds):Kos K O' H' ys ds:=by
 induction h with
 | nil=>exact .nil
 | cons e b r t a=>exact .cons e b (r.conv s) a
abbrev tbD(b:Bool)(l c:Nat)(q:Str)(z:Nat):List D:=[.bl b,.int l,.int c,.str q,.int z,.tup (List.replicate (sizeLine+1) .non)]
def aac(K:ab2)(z a:Addr):Prop:=∃o b,K.lookup z=some o/\o.data=.fields b/\b[11]? =some (.ref a)
def aaJ(x:Addr)(q:Str)(h:Heap):Prop:=h.CodeRec (.ref x) q
inductive DOb(K:ab2)(O:Own)(H:Hp)(a:Addr)(ds:List D):Prop
 | t(kvs:List (List Key×V))(e:H a=some (.dT kvs))(r:Kps K O H kvs ds):DOb K O H a ds
 | c(ys:Cy)(n:ys≠[])(e:H a=some (.ext (QV a ys)))(r:Kcs K O H ys ds):DOb K O H a ds
 | o(ys:Oy)(n:ys≠[])(e:H a=some (.ext (Sx a ys)))(r:Kos K O H ys ds):DOb K O H a ds
 | m(ys:Cy)(ds':List D)(hd:ds=.non::ds')(e:H a=some (.ext (bc a ys)))(r:Kcs K O H ys ds'):DOb K O H a ds
 | p(ps:ac1)(n:¬Abv K a)(b:Bool)(l c z:Nat)(q:Str)(k:aac K z a)(e:H a=some (.tbl ps))(hd:ds=tbD b l c q z)
   (g:(b=false/\ps=#[])\/(b=true/\∃x,ps=#[rawInt l,rawInt c,.ref x]/\¬O.has x/\H x=some (.ext (aaJ x q)))):DOb K O H a ds
def DOb.move(s:Conv O O' H H')(b:DOb K O H a ds)(h:∀o,H a=some o->H' a=some o):DOb K O' H' a ds:=by
 cases b with
 | t i e r=>exact .t i (h _ e) (r.conv s)
 | c d n e r=>exact .c d n (h _ e) (r.conv s)
 | o d n e r=>exact .o d n (h _ e) (r.conv s)
 | m d j f e r=>exact .m d j f (h _ e) (r.conv s)
 | p u n b l c z q k e f g=>exact .p u n b l c z q k (h _ e) f (g.imp id λ⟨g1,x,g2,g3,g4⟩=>%[g1,x,g2|s.tr _ _ g3 g4])
def DOb.there(b:DOb K O H a ds):H a≠none:=by
 cases b with
 | t h e r=>rw[e];simp
 | c d n e r=>rw[e];simp
 | o d n e r=>rw[e];simp
 | m d i f e r=>rw[e];simp
 | p j n b l c z q k e f g=>rw[e];simp
structure StOk(K:ab2)(O:Own)(H:Hp)(S:Store):Prop where
 nd:(adr O.A).Nodup
 len:O.A.length=S.length
 obj:∀(k:Nat)(a:Addr)(ds:List D),O.A[k]? =some (a,false)->S[k]? =some ds->∃xs,H a=some (.lst xs)/\Reps K O H xs ds
 dob:∀(k:Nat)(a:Addr)(ds:List D),O.A[k]? =some (a,true)->S[k]? =some ds->DOb K O H a ds
 apart:∀a∈adr O.A,a∉O.B
 hidden:∀b∈O.B,H b≠none
structure EnvOk(K:ab2)(O:Own)(H:Hp)(σ:St)(Γ:Gam):Prop where
 len:σ.length=Γ.length
 at_:∀(i:Nat)(d:D),Γ[i]? =some (some d)->∃v,σ[i]? =some (some v)/\Rep K O H v d
def EnvOk.mono(e:EnvOk K O H σ c)(s:Step O O' H H'):EnvOk K O' H' σ c:=
 %[e.len|λ i d h=>let ⟨v,a,b⟩:=e.at_ i d h;%[v,a|b.mono s]]
def EnvOk.set(e:EnvOk K O H σ b)(r:Rep K O H v d)(i:Nat):EnvOk K O H (σ.set i (some v)) (b.set i (some d)):=by
 refine%[by simp[e.len]|λ j c h=>?_];by_cases a:i=j
 . subst a;have f:i<b.length:=by have:=(z0.mp h).1;simpa using this
   rw[fy f]at h;cases h;exact%[v,fy (by rw[e.len];exact f)|r]
 {rw[en a]at h;rw[en a];exact e.at_ j c h}
def StOk.tracked(s:StOk K O H S)(h:O.has a):H a≠none:=by
 rcases h with h | h
 . obtain⟨⟨b,c⟩,f,rfl⟩:=c8.mp h;obtain⟨k,d⟩:=d6 f;have e:k<S.length:=by rw[<-s.len];exact(z0.mp d).1
   cases c with
   | false=>obtain⟨g,q,_⟩:=s.obj k b S[k] d (y3 e);rw[show(b,false).1=b from rfl,q];simp
   | true=>exact(s.dob k b S[k] d (y3 e)).there
 {exact s.hidden a h}
def Step.fresh(h:H p=none)(o:HO):Step O O H (upd H p o):=
 %[λ b u _ q=>by rw[aq (aJ q h)];exact q,λ b q=>by by_cases e:b=p;{subst e;rw[aL];simp};{rw[aq e];exact q},%[[],by simp|λ _ z=>nomatch z]|rfl]
def Step.same(h:dR H H'):Step O O H H':=
 ⟨λ b o _ q=>h b o q,λ b q=>by
  cases e:H b with
  | none=>exact absurd e q
  | some o=>rw[h b o e];simp,%[[],by simp|λ _ z=>nomatch z],rfl⟩
def dR.fresh(h:H p=none)(o:HO):dR H (upd H p o):=λ b u q=>by rw[aq (aJ q h)];exact q
def StOk.same(s:StOk K O H S)(h:dR H H'):StOk K O H' S:=
 %[s.nd,s.len,λ k a c d e=>let ⟨xs,q,r⟩:=s.obj k a c d e;%[xs,h _ _ q|r.mono (Step.same h)],λ k a c d e=>(s.dob k a c d e).move (Step.same h).conv λ o q=>h _ _ q,s.apart|λ b f=>(Step.same (O:=O) h).dom b (s.hidden b f)]
def StOk.fresh_not(s:StOk K O H S)(h:H p=none):¬O.has p:=λ z=>s.tracked z h
def StOk.fresh(s:StOk K O H S)(h:H p=none)(o:HO):StOk K O (upd H p o) S:=s.same (dR.fresh h o)
abbrev Own.more(O:Own)(p:Addr)(q:Bool:=false):Own:=%[O.A++[(p,q)]|O.B]
def Step.own(h:H p=none)(o:HO)(q:Bool:=false):Step O (O.more p q) H (upd H p o):=
 %[(Step.fresh (O:=O) h o).kept,(Step.fresh (O:=O) h o).dom,%[[(p,q)],rfl|λ b z=>by rw[cb.mp z];exact h]|rfl]
def jW{p}{x:Addr×Bool}(h:(A++[p])[k]? =some x):A[k]? =some x\/(k=A.length/\x=p):=by
 by_cases b:k<A.length;{rw[x9 b]at h;exact .inl h}
 . rw[dt %[|0]]at h;have a:k-A.length=0:=by have:=(z0.mp h).1;simp at this;omega
   rw[a]at h;exact .inr %[%[|0]|(cf h).symm]
def Cm(h:(adr A).Nodup)(n:p∉adr A):(adr (A++[(p,q)])).Nodup:=by rw[cF];refine iX.mpr %[h,by simp|λ a c b d e=>?_];rw[cb.mp d]at e;rw[e]at c;exact n c
def StOk.own(s:StOk K O H S)(h:H p=none)(r:Reps K O H xs ds):
 StOk K (O.more p) (upd H p (.lst xs)) (S++[ds]):=by have f:=Step.own (O:=O) h (.lst xs);have l:=s.fresh_not h;refine%[Cm s.nd λ z=>l (.inl z),by simp[s.len],λ k a g c d=>?_,λ k a g c d=>?_,λ a j=>?_|λ b m=>f.dom b (s.hidden b m)];{rcases jW c with c | ⟨rfl,e⟩;{have i:=(z0.mp c).1;rw[x9 (by rw[<-s.len];exact i)]at d;obtain⟨t,q,n⟩:=s.obj k a g c d;exact%[t,by rw[aq (aJ q h)];exact q|n.mono f]};{cases e;rw[dt (by rw[s.len];exact y9 _),s.len,pb]at d;cases d;exact%[xs,aL|r.mono f]}};{rcases jW c with c | ⟨rfl,e⟩;{have i:=(z0.mp c).1;rw[x9 (by rw[<-s.len];exact i)]at d;exact(s.dob k a g c d).move f.conv λ o q=>by rw[aq (aJ q h)];exact q};{cases e}};{rw[cF]at j;rcases cm.mp j with z | z;{exact s.apart a z};{rw[cb.mp z];exact λ q=>l (.inr q)}}
def Step.put(h:a∈adr O.A)(o:HO):Step O O H (upd H a o):=
 %[λ b u c q=>by rw[aq (λ e=>c (by rw[e];exact h))];exact q,λ b q=>by by_cases e:b=a;{subst e;rw[aL];simp};{rw[aq e];exact q},%[[],by simp|λ _ z=>nomatch z]|rfl]
def sO(nd:(adr A).Nodup){k j:Nat}{p q}(h:A[k]? =some (a,p))(h2:A[j]? =some (b,q))(i:k≠j):b≠a:=λ e=>i (by
 have f:(adr A)[k]? =some a:=by rw[y8,h];rfl
 have g:(adr A)[j]? =some b:=by rw[y8,h2];rfl
 obtain⟨l,c⟩:=z0.mp f;obtain⟨h2,d⟩:=z0.mp g;exact(List.getElem_inj nd).mp (c.trans (e.symm.trans d.symm)))
def StOk.put(s:StOk K O H S)(h:O.A[k]? =some (a,false))(r:Reps K O H xs ds):
 StOk K O (upd H a (.lst xs)) (S.set k ds):=by
 have g:=Step.put (O:=O) (H:=H) (cI h) (.lst xs);refine%[s.nd,by simp[s.len],λ j b i c d=>?_,λ j b i c d=>?_,s.apart|λ b l=>g.dom b (s.hidden b l)];{by_cases f:k=j;{subst f;rw[h]at c;cases c;have m:=(z0.mp d).1;rw[fy (by simpa using m)]at d;cases d;exact%[xs,aL|r.mono g]};{rw[en f]at d;obtain⟨p,q,n⟩:=s.obj j b i c d;exact%[p,by rw[aq (sO s.nd h c f)];exact q|n.mono g]}}
 . have f:k≠j:=λ e=>by subst e;rw[h]at c;cases c
   rw[en f]at d;exact(s.dob j b i c d).move g.conv λ o q=>by rw[aq (sO s.nd h c f)];exact q
def StOk.putO(s:StOk K O H S)(h:O.A[k]? =some (a,true))(r:DOb K O (upd H a o) a ds):
 StOk K O (upd H a o) (S.set k ds):=by
 have i:=Step.put (O:=O) (H:=H) (cI h) o;refine%[s.nd,by simp[s.len],λ j b g c d=>?_,λ j b g c d=>?_,s.apart|λ b l=>i.dom b (s.hidden b l)]
 . have f:k≠j:=λ e=>by subst e;rw[h]at c;cases c
   rw[en f]at d;obtain⟨p,q,n⟩:=s.obj j b g c d;exact%[p,by rw[aq (sO s.nd h c f)];exact q|n.mono i]
 {by_cases f:k=j;{subst f;rw[h]at c;cases c;have m:=(z0.mp d).1;rw[fy (by simpa using m)]at d;cases d;exact r};{rw[en f]at d;exact(s.dob j b g c d).move i.conv λ o q=>by rw[aq (sO s.nd h c f)];exact q}}
def StOk.hide(s:StOk K O H S)(h:H p=none)(o:HO):StOk K (O.hide p) (upd H p o) S:=by have i:=Step.fresh (O:=O) h o;refine%[s.nd,s.len,λ k a c d e=>?_,λ k a c d e=>?_,λ a f z=>?_|λ b g=>?_];{obtain⟨j,q,r⟩:=s.obj k a c d e;exact%[j,by rw[aq (aJ q h)];exact q|r.conv (Conv.hide h o)]};{exact(s.dob k a c d e).move (Conv.hide h o) λ o q=>by rw[aq (aJ q h)];exact q};{rcases ci.mp z with z | z;{exact s.tracked (.inl f) (z▸h)};{exact s.apart a f z}};{rcases ci.mp g with z | z;{subst z;rw[aL];simp};{exact i.dom b (s.hidden b z)}}
def StOk.unhide(s:StOk K %[A|p::B] H S):StOk K %[A|B] H S:=
 %[s.nd,s.len,λ k a c d e=>let ⟨xs,q,r⟩:=s.obj k a c d e;%[xs,q|r.conv Conv.unhide],λ k a c d e=>(s.dob k a c d e).move Conv.unhide λ _ q=>q,λ a f z=>s.apart a f (x4 _ z)|λ b g=>s.hidden b (x4 _ g)]
def StOk.updHid(s:StOk K O H S)(h:p∈O.B)(o:HO):StOk K O (upd H p o) S:=
 %[s.nd,s.len,λ k a d c f=>by obtain⟨j,q,r⟩:=s.obj k a d c f;have g:a≠p:=λ e=>s.apart a (cI c) (e▸h);exact%[j,by rw[aq g];exact q|r.conv (Conv.updHid h o)],λ k a d c f=>by have g:a≠p:=λ e=>s.apart a (cI c) (e▸h);exact(s.dob k a d c f).move (Conv.updHid h o) λ _ q=>by rw[aq g];exact q,s.apart|λ b i=>by by_cases e:b=p;{subst e;rw[aL];simp};{rw[aq e];exact s.hidden b i}]
def Step.adopt(s:Step O %[A|O.B] H H')(h:H p=none):Step O %[A++[(p,false)]|O.B] H H':=by obtain⟨N,e,f⟩:=s.ext;refine%[s.kept,s.dom,%[N++[(p,false)],?_|λ b a=>?_]|rfl];{show A++[(p,false)]=_;rw[show A=O.A++N from e,ca]};{rw[cF]at a;rcases cm.mp a with z | z;{exact f b z};{rw[cb.mp z];exact h}}
def Conv.adopt:Conv %[A|p::B] %[A++[(p,false)]|B] H H:=
 %[λ a u n t=>%[λ z=>n (z.elim (λ z=>(cm.mp (by rw[<-cF];exact z)).elim .inl λ z=>.inr (by rw[cb.mp z];exact x6)) λ z=>.inr (x4 _ z))|t]|
  λ k a h=>by show(A++[(p,false)])[k]? =some a;rw[x9 (z0.mp h).1];exact h]
def StOk.adopt(s:StOk K %[A|p::B] H S)(m:p∉B)(h:H p=some (.lst xs))(r:Reps K %[A|p::B] H xs ds):StOk K %[A++[(p,false)]|B] H (S++[ds]):=by have n:p∉adr A:=λ z=>s.apart p z x6;have i:A.length=S.length:=s.len;refine%[Cm s.nd n,by simp[i],λ k a g c d=>?_,λ k a g c d=>?_,λ a f=>?_|λ b j=>s.hidden b (x4 _ j)];{rcases jW c with c | ⟨rfl,e⟩;{have l:=(z0.mp c).1;rw[x9 %[|0]]at d;obtain⟨t,q,o⟩:=s.obj k a g c d;exact%[t,q|o.conv Conv.adopt]};{cases e;rw[dt %[|0],i,pb]at d;cases d;exact%[xs,h|r.conv Conv.adopt]}};{rcases jW c with c | ⟨rfl,e⟩;{have l:=(z0.mp c).1;rw[x9 %[|0]]at d;exact(s.dob k a g c d).move Conv.adopt λ _ q=>q};{cases e}};{have f:a∈adr (A++[(p,false)]):=f;rw[cF]at f;rcases cm.mp f with z | z;{exact λ q=>s.apart a z (x4 _ q)};{rw[cb.mp z];exact m}}
def Step.inner(a:Step O %[d|B] H H1)(b:Step %[d|p::B] %[f|p::B] H1 H2)(h:H p=none)(o:HO):Step O %[f|B] H (upd H2 p o):=by have g:Step %[d|B] %[f|B] H1 H2:=%[b.kept,b.dom,b.ext|rfl];have c:=a.trans g;refine%[λ x u i t=>?_,λ x t=>?_,c.ext|c.hid];{rw[aq (aJ t h)];exact c.kept x u i t};{by_cases e:x=p;{subst e;rw[aL];simp};{rw[aq e];exact c.dom x t}}
end DL
namespace DL
open PySem PySem.Spec L2
open PyProof.Rows
variable{K:PySem.W.Frag}{O:Own}{H:Hp}{x:D}{ds:List D}{i j:Int}{p:Addr}{xs:List V}
abbrev Pins:=List (Addr×Obj)
abbrev WD:=D->%[|4]
inductive And3(a b c:Prop):Prop
 | mk(x:a)(y:b)(z:c):And3 a b c
inductive QG(K:ab2)(O:Own)(H:Hp)(W:WD)(v:V)(H':Hp):Prop
 | mk(O':Own)(d:D)(S':Store)(w:W d S')(q:And3 (Step O O' H H') (StOk K O' H' S') (Rep K O' H' v d)):QG K O H W v H'
inductive QA(K:ab2)(O:Own)(H:Hp)(W:List D->%[|4])(vs:List V)(H':Hp):Prop
 | mk(O':Own)(ds:List D)(S':Store)(w:W ds S')(q:And3 (Step O O' H H') (StOk K O' H' S') (Reps K O' H' vs ds)):QA K O H W vs H'
inductive QT(K:ab2)(O:Own)(H:Hp)(W:Bool->%[|4])(b:Bool)(H':Hp):Prop
 | mk(O':Own)(S':Store)(w:W b S')(q:Step O O' H H'/\StOk K O' H' S'):QT K O H W b H'
def Ev(X:Cx)(Γ:Gam)(S:Store)(e:Expr)(W:WD):Prop:=
 ∀ (a:Pins)(s:ab5)(b:St)(H:Hp)(O:Own),Inv X a b H s->EnvOk X.K O H b Γ->%[|14]->
   wpAny %[|6] X.A (eval e X.env) (EP X a b (QG X.K O H W)) X.xe s
def EvA(X:Cx)(Γ:Gam)(S:Store)(es:ac2)(W:List D->%[|4]):Prop:=
 ∀ (b:Pos)(a:Pins)(s:ab5)(c:St)(H:Hp)(O:Own),Inv X a c H s->EnvOk X.K O H c Γ->%[|14]->
   wpAny %[|6] X.A (spliced (backTo b (starEach es X.env))) (AP X a c (QA X.K O H W)) X.xe s
def TsW(X:Cx)(Γ:Gam)(S:Store)(e:Expr)(W:Bool->%[|4]):Prop:=
 ∀ (b:Sem Value)(a:Pins)(s:ab5)(c:St)(H:Hp)(O:Own),Inv X a c H s->EnvOk X.K O H c Γ->%[|14]->
   wpAny %[|6] X.A (isTrue e X.env b) (TP X a c (QT X.K O H W)) X.xe s
def Ts(X:Cx)(Γ:Gam)(S:Store)(e:Expr)(W:Bool->%[|4]):Prop:=
 ∀ (a:Pins)(s:ab5)(b:St)(H:Hp)(O:Own),Inv X a b H s->EnvOk X.K O H b Γ->%[|14]->
   wpAny %[|6] X.A (isTrue e X.env (eval e X.env)) (TP X a b (QT X.K O H W)) X.xe s
def OpW(X:Cx)(f:Value->Value->Sem Value)(x y:D)(S:Store)(W:WD):Prop:=
 ∀ (a:Pins)(s:ab5)(c:St)(H:Hp)(O:Own)(v w:V)(u b:Value),Inv X a c H s->%[|14]->Rep X.K O H v x->Rep X.K O H w y->RelV v u->RelV w b->
   wpAny %[|6] X.A (f u b) (EP X a c (QG X.K O H W)) X.xe s
def dw(X:Cx)(f:Value)(ds:List D)(S:Store)(W:WD):Prop:=
 ∀ (a:Pins)(s:ab5)(d:St)(H:Hp)(O:Own)(c:List V)(b:ab6),Inv X a d H s->%[|14]->Reps X.K O H c ds->Vals c b->
   wpAny %[|6] X.A (call f b) (EP X a d (QG X.K O H W)) X.xe s
abbrev d7(X:Cx)(op:Operator):=OpW X (binaryOp op)
abbrev bW(X:Cx)(op:CmpOp):=OpW X (compareOp op)
section
variable{X:Cx}{Γ:Gam}{S S1:Store}{W:WD}{a b e:Expr}{es rest:List Expr}{pos:Pos}
def QG.pre(st:Step O O1 H H1){a}(q:QG K O1 H1 W v a):QG K O H W v a:=by obtain⟨b,d,c,w,f,e,r⟩:=q;exact%[b,d,c,w,st.trans f,e|r]
def eF{pins:Pins}{σ:St}(st:Step O O1 H H1)(q:EP X pins σ (QG X.K O1 H1 W) u s'):EP X pins σ (QG X.K O H W) u s':=by obtain⟨v,a,I,r,q⟩:=q;exact%[v,a,I,r|q.pre st]
def Tz{pins:Pins}{σ:St}(st:Step O O1 H H1){W}(q:TP X pins σ (QT X.K O1 H1 W) u s'):TP X pins σ (QT X.K O H W) u s':=by obtain⟨a,I,b,c,w,e,d⟩:=q;exact%[a,I,b,c,w,st.trans e|d]
def Ev.mono(h:Ev X Γ S e W)(k:∀d S',W d S'->f d S'):Ev X Γ S e f:=λ a s m H O I b l=>
 thn (h a s m H O I b l) λ _ _ c=>by obtain⟨v,g,i,r,j,d,S',w,q⟩:=c;exact%[v,g,i,r,j,d,S',k d S' w|q]
def OpW.mono(h:OpW X f x y S W)(k:∀d S',W d S'->c d S'):OpW X f x y S c:=λ a s t H O v w u p I o j l m n=>
 thn (h a s t H O v w u p I o j l m n) λ _ _ b=>by obtain⟨v,e,g,r,i,d,S',w,q⟩:=b;exact%[v,e,g,r,i,d,S',k d S' w|q]
def fD(b:OpR X f r)(h:∀O H v w,%[|14]->Rep X.K O H v x->Rep X.K O H w y->r v w H (QG X.K O H W)):OpW X f x y S W:=
 λ a s k H O v w u j I i c d e g=>b a s k H v w u j _ I e g (h O H v w i c d)
def cM(b:eZ X f r)(h:∀O H vs,%[|14]->Reps X.K O H vs ds->r vs H (QG X.K O H W)):dw X f ds S W:=
 λ a s i H O vs g I e c d=>b a s i H vs g _ I d (h O H vs e c)
def J3(w:W d S)(st:StOk K O H S)(r:Rep K O H v d):QG K O H W v H:=%[O,d,S,w,Step.refl O H,st|r]
def Y5(i:Nat){x}(f:Γ[i]? =some (some d))(w:W d S)(g:X.N[i]? =some x:=by rfl)
 (j:Vis X.env.scope x:=by first | exact Or.inl rfl | exact Or.inr (Or.inl rfl) | exact Or.inr (Or.inr rfl))(h:(x==("__debug__":Str))=false:=by decide)(c:(x==("__classdict__":Str))=false:=by decide):
 Ev X Γ S (.Name x pos) W:=by intro a s l H O I b k;obtain⟨v,e,r⟩:=b.at_ i d f;exact WT g j h c a s l H _ I %[v,e|J3 w k r]
def MN{j}(w:W (.int i) S):Ev X Γ S (.Constant (.int i) j pos) W:=λ a s c H O I _ b=>YH a s c H _ I (J3 w b (.int i))
def ZC{i}{j}(w:W (.bl i) S):Ev X Γ S (.Constant (.bool i) j pos) W:=λ a s c H O I _ b=>aap a s c H _ I (J3 w b (.bl i))
def Ys{j}(w:W .non S):Ev X Γ S (.Constant .none j pos) W:=λ a s c H O I _ b=>Yr a s c H _ I (J3 w b .non)
def XJ{x}{j}(w:W (.str x) S):Ev X Γ S (.Constant (.str x) j pos) W:=λ a s c H O I _ b=>YM a s c H _ I (J3 w b (.str x))
def RG{x}(d:X.mg x=some (.int i t))(w:W (.int i) S)(c:Gl X x:=by rfl)(b:(x==("__debug__":Str))=false:=by decide):Ev X Γ S (.Name x pos) W:=
 λ a s f H O I _ e=>UW c d (v:=.int i) %[t|rfl] b a s f H _ I (J3 w e (.int i))
def tX(h:Ev X Γ S a λ x S1=>Ev X Γ S1 b λ y S2=>d7 X op x y S2 W):Ev X Γ S (.BinOp a op b pos) W:=by intro c s m H O I e G;refine wpAny_BinOp (thn (h c s m H O I e G) λ u E d=>?_);obtain⟨v,n,p,C,t,x,S1,A,i,k,f⟩:=d;refine thn (A c E m n t p (e.mono i) k) λ J F d=>?_;obtain⟨w,o,r,D,z,y,S2,B,j,l,g⟩:=d;exact thn (B c F m o z v w u J r l (f.mono j) g C D) λ _ _ q=>eF (i.trans j) q
def Mz(h:Ev X Γ S a λ x S1=>Ev X Γ S1 b λ y S2=>bW X op x y S2 W)(B:behindInMarks op b=false:=by first | exact nomark _ | (with_unfolding_all rfl)):Ev X Γ S (.Compare a [op] [b] pos) W:=by intro c s m H O I e J;refine wpAny_Compare1 (thn (h c s m H O I e J) λ u F d=>?_) B;obtain⟨v,n,p,D,t,x,S1,A,i,k,f⟩:=d;refine thn (A c F m n t p (e.mono i) k) λ K G d=>?_;obtain⟨w,o,r,E,z,y,S2,C,j,l,g⟩:=d;exact thn (C c G m o z v w u K r l (f.mono j) g D E) λ _ _ q=>eF (i.trans j) q
abbrev asB(W:Bool->%[|4]):WD:=λ d S=>∃c,d=.bl c/\W c S
def Yq{W}(h:Ev X Γ S a λ x S1=>Ev X Γ S1 b λ y S2=>bW X op x y S2 (asB W))(N:behindInMarks op b=false:=by first | exact nomark _ | (with_unfolding_all rfl)):Ts X Γ S (.Compare a [op] [b] pos) W:=by intro f s r H O I g Y;refine wpAny_isTrue_Compare1 (thn (h f s r H O I g Y) λ u U e=>?_) N;obtain⟨v,t,C,Q,F,x,S1,L,l,n,i⟩:=e;refine thn (L f U r t F C (g.mono l) n) λ Z V e=>?_;obtain⟨w,A,D,R,G,y,S2,P,m,o,j⟩:=e;refine thn (P f V r A G v w u Z D o (i.mono m) j Q R) λ _ _ e=>?_;obtain⟨z,B,E,T,J,d,K,⟨c,M,wc⟩,q,p,k⟩:=e;subst M;cases k;cases T;exact gI %[B,E,J,K,wc,(l.trans m).trans q|p]
def Xq{W}(h:Ev X Γ S e (asB W))(p:∀whole,isTrue e X.env whole=(do let v <-whole;standAt e.pos;holding [v] (truthy v)):=by intro _;rfl):Ts X Γ S e W:=by intro a s u H O I f r;refine isTrue_plain (thn (h a s u H O I f r) λ _ _ g=>?_) (p _);obtain⟨z,k,l,q,m,d,n,⟨c,o,t⟩,j,i,b⟩:=g;subst o;cases b;cases q;exact gI %[k,l,m,n,t,j|i]
def TsW.ts{W}(h:TsW X Γ S e W):Ts X Γ S e W:=λ a s d H O I b c=>h _ a s d H O I b c
def tw_and1{W}(h:Ts X Γ S a W):TsW X Γ S (.BoolOp .And [a] pos) W:=by
 intro j b s g H O I d f;refine isTrue_and (thn (h b s g H O I d f) λ c i e=>?_)
 cases c with
 | true=>exact isTrue_and_nil e
 | false=>exact e
def tw_or1{W}(h:Ts X Γ S a W):TsW X Γ S (.BoolOp .Or [a] pos) W:=by
 intro j b s g H O I d f;refine isTrue_or (thn (h b s g H O I d f) λ c i e=>?_)
 cases c with
 | false=>exact isTrue_or_nil e
 | true=>exact e
def tw_and{W}(h:Ts X Γ S a λ c S1=>(c=true->TsW X Γ S1 (.BoolOp .And (b::rest) pos) W)/\(c=false->W false S1)):TsW X Γ S (.BoolOp .And (a::b::rest) pos) W:=by
 intro p d s m H O I f o;refine isTrue_and (thn (h d s m H O I f o) λ c n i=>?_);obtain⟨j,k,l,S1,w1,e,g⟩:=i
 cases c with
 | true=>exact thn (w1.1 rfl p d n m j l k (f.mono e) g) λ _ _ q=>Tz e q
 | false=>exact%[j,k,l,S1,w1.2 rfl,e|g]
def tw_or{W}(h:Ts X Γ S a λ c S1=>(c=true->W true S1)/\(c=false->TsW X Γ S1 (.BoolOp .Or (b::rest) pos) W)):TsW X Γ S (.BoolOp .Or (a::b::rest) pos) W:=by
 intro p d s m H O I f o;refine isTrue_or (thn (h d s m H O I f o) λ c n i=>?_);obtain⟨j,k,l,S1,w1,e,g⟩:=i
 cases c with
 | false=>exact thn (w1.2 rfl p d n m j l k (f.mono e) g) λ _ _ q=>Tz e q
 | true=>exact%[j,k,l,S1,w1.1 rfl,e|g]
def WP{W}(h:Ts X Γ S a λ c S1=>W (!c) S1):Ts X Γ S (.UnaryOp .Not a pos) W:=by intro b s f H O I d e;exact isTrue_not (thn (h b s f H O I d e) λ c g ⟨H1,I1,O1,S1,w1,st1,ok1⟩=>%[H1,I1,O1,S1,w1,st1|ok1])
def PB{op}(h:Ev X Γ S a W):Ev X Γ S (.BoolOp op [a] pos) W:=λ b s e H O I c d=>BoolOp_one (h b s e H O I c d)
def YS(h:Ev X Γ S a λ x S1=>∃c,x=.bl c/\(c=true->Ev X Γ S1 (.BoolOp .And (b::rest) pos) W)/\(c=false->W (.bl false) S1)):Ev X Γ S (.BoolOp .And (a::b::rest) pos) W:=by
 intro d s n H O I f y;refine BoolOp_and (thn (h d s n H O I f y) λ u w j=>?_);obtain⟨v,k,l,t,m,x,S1,⟨c,r,o,p⟩,e,g,i⟩:=j;subst r;cases i;cases t;refine gI ?_
 cases c with
 | true=>exact thn (o rfl d w n k m l (f.mono e) g) λ _ _ q=>eF e q
 | false=>exact%[.bl false,k,l,rfl,m,.bl false,S1,p rfl,e,g|.bl false]
def aad(h:Ev X Γ S a λ x S1=>∃c,x=.bl c/\(c=true->W (.bl true) S1)/\(c=false->Ev X Γ S1 (.BoolOp .Or (b::rest) pos) W)):Ev X Γ S (.BoolOp .Or (a::b::rest) pos) W:=by
 intro d s n H O I f y;refine BoolOp_or (thn (h d s n H O I f y) λ u w j=>?_);obtain⟨v,k,l,t,m,x,S1,⟨c,r,o,p⟩,e,g,i⟩:=j;subst r;cases i;cases t;refine gI ?_
 cases c with
 | false=>exact thn (p rfl d w n k m l (f.mono e) g) λ _ _ q=>eF e q
 | true=>exact%[.bl true,k,l,rfl,m,.bl true,S1,o rfl,e,g|.bl true]
def Ze(h:Ev X Γ S a λ x S1=>∃c,x=.bl c/\W (.bl (!c)) S1):Ev X Γ S (.UnaryOp .Not a pos) W:=by intro b s q H O I e p;refine UnaryOp_ (thn (h b s q H O I e p) λ u r f=>?_);obtain⟨v,j,k,o,l,x,S1,⟨c,n,m⟩,i,g,d⟩:=f;subst n;cases d;cases o;exact not_of (gI %[.bl (!c),j,k,rfl,l,.bl (!c),S1,m,i,g|.bl (!c)])
def Oz(h:Ev X Γ S a λ x S1=>∃i,x=.int i/\W (.int (-i)) S1):Ev X Γ S (.UnaryOp .USub a pos) W:=by intro b s k H O I e t;refine UnaryOp_ (thn (h b s k H O I e t) λ u r f=>?_);obtain⟨v,l,m,q,n,x,S1,⟨c,p,o⟩,j,g,d⟩:=f;subst p;cases d;exact W2 b r k l _ _ _ m q %[c,rfl,n,.int (-c),S1,o,j,g|.int (-c)]
def Qj(h:Ev X Γ S a λ x S1=>Ev X Γ S1 b λ y S2=>bW X op x y S2 λ z S3=>∃k,z=.bl k/\(k=false->W (.bl false) S3)/\(k=true->Ev X Γ S3 c λ t S4=>bW X n y t S4 W))
 (hm:lastMarks [op,n] [b,c]=false:=by with_unfolding_all rfl):Ev X Γ S (.Compare a [op,n] [b,c] pos) W:=by
 intro e s C H O I m st;refine Compare_chain (thn (h e s C H O I m st) λ u s1 f=>?_) hm;obtain⟨v,N,R,r1,V,x,S1,hb,g,D,p⟩:=f;refine chain_link (thn (hb e s1 C N V R (m.mono g) D) λ M s2 f=>?_);obtain⟨w,P,T,L,Y,y,S2,hw,i,E,l⟩:=f;refine thn (hw e s2 C P Y v w u M T E (p.mono i) l r1 L) λ _ s3 f=>?_;obtain⟨z,G,J,r3,K,d,S3,⟨k,hd,k1,k2⟩,j,o,r⟩:=f;subst hd;cases r;cases r3;refine gI ?_
 cases k with
 | false=>exact ite_ff %[.bl false,G,J,rfl,K,.bl false,S3,k1 rfl,(g.trans i).trans j,o|.bl false]
 | true=>refine ite_tt (chain_last (thn (k2 rfl e s3 C G K J (((m.mono g).mono i).mono j) o) λ u4 s4 f=>?_));obtain⟨w4,Q,U,r4,Z,t,S4,h4,B,F,A⟩:=f;exact thn (h4 e s4 C Q Z w w4 M u4 U F ((l.mono j).mono B) A L r4) λ _ _ q=>eF (((g.trans i).trans j).trans B) q
def ik{W}(w:W [] S):EvA X Γ S [] W:=λ _ a s c H O I _ b=>gi %[[],H,I,.nil,O,[],S,w,Step.refl O H,b|.nil]
def cT{W}(h:Ev X Γ S e λ d S1=>EvA X Γ S1 es λ ds S2=>W (d::ds) S2)(hs:starEach (e::es) X.env=(false,eval e X.env)::starEach es X.env:=by rfl):EvA X Γ S (e::es) W:=by intro f a s n H O I c E;rw[hs];show wpAny _ _ (spliced ((false,eval e X.env)::backTo f (starEach es X.env))) _ _ s;refine fA (thn (h a s n H O I c E) λ u C b=>?_);obtain⟨v,o,q,A,t,x,S1,z,j,l,g⟩:=b;exact thn (z f a C n o t q (c.mono j) l) λ J G b=>by obtain⟨F,p,r,B,y,ds,S2,w,k,m,i⟩:=b;exact%[v::F,p,r,.cons A B,y,x::ds,S2,w,j.trans k,m|.cons (g.mono k) i]
def small(h:n<=1000000):n<=sizeLine:=cS h %[|1]
def XH(st:StOk K O H S)(h:H p=none):Tp K O (upd H p (.tup xs)) p xs:=%[st.fresh_not h|aL]
def Ln(st:StOk K O H S)(h:H p=none):Ls K O (upd H p (.lst xs)) p xs:=.inl %[st.fresh_not h|.inl aL]
def je(w:W (.tup ds) S)(st:StOk K O H S)(h:H p=none)(r:Reps K O H xs ds):QG K O H W (.ref p) (upd H p (.tup xs)):=
 %[O,.tup ds,S,w,Step.fresh h _,st.fresh h _|.tup (XH st h) (r.mono (Step.fresh h _))]
def dM(w:W (.lst ds) S)(st:StOk K O H S)(h:H p=none)(r:Reps K O H xs ds):QG K O H W (.ref p) (upd H p (.lst xs)):=
 %[O,.lst ds,S,w,Step.fresh h _,st.fresh h _|.lst (Ln st h) (r.mono (Step.fresh h _))]
def By(w:W (.loc S.length) (S++[ds]))(st:StOk K O H S)(h:H p=none)(r:Reps K O H xs ds):QG K O H W (.ref p) (upd H p (.lst xs)):=
 %[O.more p,.loc S.length,S++[ds],w,Step.own h _,st.own h r|.loc (by show(O.A++[(p,false)])[S.length]? =some (p,false);rw[<-st.len];simp)]
def YT{o}(h:EvA X Γ S es λ ds S1=>ds.length<=1000000/\W (.tup ds) S1):Ev X Γ S (.Tuple es o pos) W:=by intro c s q H O I d m;refine wpAny_Tuple_spliced (thn (h pos c s q H O I d m) λ n s1 f=>?_);obtain⟨p,j,k,r,t,ds,S1,⟨z,w⟩,i,g,a⟩:=f;refine%[by rw[<-r.length,a.length];exact small z|?_];have l:j s1.heap.objs.size=none:=k.hok.fresh (y9 _);refine%[.ref s1.heap.objs.size,upd j s1.heap.objs.size (.tup p),k.laid (t':=s1.toks) (λ b u e=>bE _ e) (y9 _) ?_,rfl|(je w g l a).pre i];exact%[by rw[a.length];exact small z,n,r|%[_,bS _ rfl,rfl,_|rfl]]
def YG(h:EvA X Γ S es λ ds S1=>ds.length<=1000000/\W (.lst ds) S1):Ev X Γ S (.List es pos) W:=by intro c s p H O I d m;refine wpAny_List_spliced (thn (h pos c s p H O I d m) λ n s1 f=>?_);obtain⟨o,j,k,r,q,ds,S1,⟨z,w⟩,i,g,a⟩:=f;refine%[by rw[<-r.length,a.length];exact small z|?_];have l:j s1.heap.objs.size=none:=k.hok.fresh (y9 _);refine%[.ref s1.heap.objs.size,upd j s1.heap.objs.size (.lst o),k.laid (t':=s1.toks) (λ b u e=>bE _ e) (y9 _) ?_,rfl|(dM w g l a).pre i];exact%[by rw[a.length];exact small z,n,0,r|bS _ rfl]
def UV(h:EvA X Γ S es λ ds S1=>ds.length<=1000000/\W (.loc S1.length) (S1++[ds])):Ev X Γ S (.List es pos) W:=by intro c s p H O I d m;refine wpAny_List_spliced (thn (h pos c s p H O I d m) λ n s1 f=>?_);obtain⟨o,j,k,r,q,ds,S1,⟨z,w⟩,i,g,a⟩:=f;refine%[by rw[<-r.length,a.length];exact small z|?_];have l:j s1.heap.objs.size=none:=k.hok.fresh (y9 _);refine%[.ref s1.heap.objs.size,upd j s1.heap.objs.size (.lst o),k.laid (t':=s1.toks) (λ b u e=>bE _ e) (y9 _) ?_,rfl|(By w g l a).pre i];exact%[by rw[a.length];exact small z,n,0,r|bS _ rfl]
def ie{g:Int->Int->Int}(a:OpR X (binaryOp op) (rI C λ i j=>.int (g i j)))(c:C i j)(w:W (.int (g i j)) S):d7 X op (.int i) (.int j) S W:=
 fD a λ O H v f e b d=>by cases b;cases d;exact%[i,j,rfl,rfl,c|J3 w e (.int _)]
def Cg{g:Int->Int->Int}(a:OpR X (binaryOp op) (rI0 λ i j=>.int (g i j)))(w:W (.int (g i j)) S):d7 X op (.int i) (.int j) S W:=
 fD a λ O H v e d b c=>by cases b;cases c;exact%[i,j,rfl,rfl|J3 w d (.int _)]
def aam(w:W (.int (i+j)) S):d7 X .Add (.int i) (.int j) S W:=Cg YW w
def Zq(w:W (.int (i-j)) S):d7 X .Sub (.int i) (.int j) S W:=Cg XM w
def Z6(c:CMul i j)(w:W (.int (i*j)) S):d7 X .Mult (.int i) (.int j) S W:=ie X6 c w
def ZG(c:0<j)(w:W (.int (i % j)) S):d7 X .Mod (.int i) (.int j) S W:=ie XS c w
def Yi(c:0<j/\j<1073741824)(w:W (.int (i/j)) S):d7 X .FloorDiv (.int i) (.int j) S W:=ie VV c w
def aae(c:CPow i j)(w:W (.int (i ^ j.toNat)) S):d7 X .Pow (.int i) (.int j) S W:=ie Yx c w
def pB{g:Int->Int->Bool}(a:OpR X (compareOp op) (rI0 λ i j=>.bl (g i j)))(w:W (.bl (g i j)) S):bW X op (.int i) (.int j) S W:=
 fD a λ O H v e d b c=>by cases b;cases c;exact%[i,j,rfl,rfl|J3 w d (.bl _)]
def aaK(w:W (.bl (decide (i<j))) S):bW X .Lt (.int i) (.int j) S W:=pB Z3 w
def aaD(w:W (.bl (decide (i<=j))) S):bW X .LtE (.int i) (.int j) S W:=pB Zy w
def aaF(w:W (.bl (decide (j<i))) S):bW X .Gt (.int i) (.int j) S W:=pB Zi w
def aa0(w:W (.bl (decide (j<=i))) S):bW X .GtE (.int i) (.int j) S W:=pB Zk w
def ZX(w:W (.bl (decide (i=j))) S):bW X .Eq (.int i) (.int j) S W:=
 fD Tw λ O H v d c a b=>by
  cases a;cases b;have e:decide (V.int i=V.int j)=decide (i=j):=by rw[pA];exact(Bool.beq_eq_decide_eq i j)
  exact%[rfl|by rw[e];exact J3 w c (.bl _)]
def Zg(w:W (.bl (!decide (i=j))) S):bW X .NotEq (.int i) (.int j) S W:=
 fD Tj λ O H v d c a b=>by
  cases a;cases b;have e:decide (V.int i=V.int j)=decide (i=j):=by rw[pA];exact(Bool.beq_eq_decide_eq i j)
  exact%[rfl|by rw[e];exact J3 w c (.bl _)]
def Zo{i j}(w:W (.bl (i==j)) S):bW X .Eq (.bl i) (.bl j) S W:=
 fD Tw λ O H v d c a b=>by cases a;cases b;exact%[rfl|by rw[uf];exact J3 w c (.bl _)]
def aav{i j}(w:W (.bl (!(i==j))) S):bW X .NotEq (.bl i) (.bl j) S W:=
 fD Tj λ O H v d c a b=>by cases a;cases b;exact%[rfl|by rw[uf];exact J3 w c (.bl _)]
def Zx(w:W (.bl (match x with | .non=>true | _=>false)) S):bW X .Is x .non S W:=
 fD Xj λ O H v d c a b=>by cases b;refine%[rfl|?_];cases a<;>exact J3 w c (.bl _)
def VM(w:W (.bl (match x with | .non=>false | _=>true)) S):bW X .IsNot x .non S W:=
 fD Vy λ O H v d c a b=>by cases b;refine%[rfl|?_];cases a<;>exact J3 w c (.bl _)
def WM{es}(hz:ds.length+es.length<=1000000)(w:W (.tup (ds++es)) S):d7 X .Add (.tup ds) (.tup es) S W:=by
 intro h s Z H O v w' u U I r Q R C E
 cases Q with
 | @tup a F _ m i=>
   cases R with
   | @tup b Y _ o j=>
     by_cases B:F=[]
     . subst B;have e:ds=[]:=by have:=i.length;simpa using this.symm
       subst e;cases C;cases E;obtain⟨L,V,N,_⟩:=I.tuple m.sq;obtain⟨g,v2,P,_⟩:=I.tuple o.sq;cases V;obtain⟨⟨G,J,x,T⟩,A,y,n,z⟩:=id N;obtain⟨⟨t,l,k,q⟩,f,c,M,d⟩:=id P;simp only at y z c d;subst y z c d;exact oQ %[_,A|rfl] %[_,f|rfl] noFill_tuple_add seq_tuple_add nE nh (mr _ _)
        (tuple_addW0 a b ([]:List Value).toArray g.toArray n M J l T q rfl) %[A,f|%[.ref b,H,I,rfl|J3 w r (.tup o j)]]
     . refine V1 h s Z H _ _ u U _ I C E %[a,b,F,Y,rfl,rfl,m.sq,o.sq,B,by rw[i.length,j.length];exact small hz,λ e=>?_|λ _ p K=>je w r K (i.append j)];subst e;have e:es=[]:=by have:=j.length;simpa using this.symm
       subst e;rw[gS]at w;exact J3 w r (.tup m i)
def Xv{es}(hz:ds.length+es.length<=1000000)(w:W (.lst (ds++es)) S):d7 X .Add (.lst ds) (.lst es) S W:=by
 intro x s σ H O v Y u V I U N P Q R
 cases N with
 | @lst a Z _ F j=>
   cases P with
   | @lst b ys _ G k=>
     cases Q;cases R;obtain⟨d,y,L,_⟩:=I.list F.sq;obtain⟨c,A,M,_⟩:=I.list G.sq;obtain⟨⟨B,C,o,T⟩,n,t,p,J,q⟩:=id L;obtain⟨⟨m,i,h,l⟩,K,g,e,r,f⟩:=id M;simp only at p q e f;subst p q e f;have z:d.length+c.length<=sizeLine:=by rw[<-y.length,<-A.length,j.length,k.length];exact small hz
     refine oQ %[_,t|rfl] %[_,g|rfl] noFill_list_add seq_list_add PySem.F.slot_list_add PySem.F.entry_list_add (PySem.F.args_list_add_2 _ _)
      (list_addW a b d.toArray c.toArray n K C i T l (by simpa using z)) %[t,g|?_];have E:d.toArray++c.toArray=(d++c).toArray:=by simp
     rw[E];refine%[%[|9],_,I.lnew (t':=s.toks) (y.append A) (by rw[x8,j.length,k.length];exact small hz),rfl|dM w U I.fresh (j.append k)]
end
end DL
namespace DL
open PySem PySem.Spec L2
open PyProof.Rows
variable{K:PySem.W.Frag}{O:Own}{H:Hp}{xs:List V}{ds:List D}{i:Int}{d:D}{k:Nat}{x:Str}{p:Pos}
section
variable{X:Cx}{Γ:Gam}{S:Store}{W:WD}{a b e:Expr}{es:List Expr}{pos:Pos}
def IxW(X:Cx)(a b:Expr)(x y:D)(S:Store)(W:WD):Prop:=
 ∀ (c:Pins)(s:ab5)(e:St)(H:Hp)(O:Own)(v w:V)(u d:Value),Inv X c e H s->%[|14]->Rep X.K O H v x->Rep X.K O H w y->RelV v u->RelV w d->
   subscripted b false u d=operate [u,d] (getItem u d)->wpAny %[|6] X.A (subscriptTail a b u d) (EP X c e (QG X.K O H W)) X.xe s
def Zw(h:Ev X Γ S a λ x S1=>Ev X Γ S1 b λ y S2=>IxW X a b x y S2 W)(hs:Je b:=by intro _ _;rfl):Ev X Γ S (.Subscript a b pos) W:=by intro c s m H O I e G;refine Subscript_ (thn (h c s m H O I e G) λ u E d=>?_);obtain⟨v,n,p,C,t,x,S1,A,i,k,f⟩:=d;refine thn (A c E m n t p (e.mono i) k) λ J F d=>?_;obtain⟨w,o,r,D,z,y,S2,B,j,l,g⟩:=d;exact thn (B c F m o z v w u J r l (f.mono j) g C D (hs _ _)) λ _ _ q=>eF (i.trans j) q
def vN(r:Reps K O H xs ds)(h:atI ds i=some d):∃v,atI xs i=some v/\Rep K O H v d:=by
 unfold atI at h ⊢;rw[r.length]
 cases e:ixN ds.length i with
 | none=>rw[e]at h;cases h
 | some j=>rw[e]at h;exact r.get (i:=j) h
def aab(h:atI ds i=some d)(w:W d S):IxW X a b (.tup ds) (.int i) S W:=by intro c s x H O v y u r I q k l m n f;cases l;cases k with| @tup p t _ e j=>obtain⟨z,g,o⟩:=vN j h;exact Yz a b c s x H _ _ u r _ I m n %[p,t,i,z,rfl,rfl,e.sq,g|J3 w q o] f
def aal(h:atI ds i=some d)(w:W d S):IxW X a b (.lst ds) (.int i) S W:=by intro c s x H O v y u r I q k l m n f;cases l;cases k with| @lst p t _ e j=>obtain⟨z,g,o⟩:=vN j h;exact Jb a b c s x H _ _ u r _ I m n %[p,t,i,z,rfl,rfl,e.sq,g|J3 w q o] f
def ZM(g:S[k]? =some ds)(h:atI ds i=some d)(w:W d S):IxW X a b (.loc k) (.int i) S W:=by intro c s B H O v C u y I e o q r t j;cases q;cases o with| @loc p _ f=>obtain⟨A,l,n⟩:=e.obj k p ds f g;obtain⟨z,m,x⟩:=vN n h;exact Jb a b c s B H _ _ u y _ I r t %[p,A,i,z,rfl,rfl,SqL.of l,m|J3 w e x] j
def PoD(X:Cx)(Γ:Gam)(S:Store)(o:Option Expr)(W:Option Int->%[|4]):Prop:=match o with
 | none=>W none S
 | some e=>Ev X Γ S e λ d a=>∃i,d=.int i/\W (some i) a
def SlW(X:Cx)(x:D)(lo hi:ac6)(S:Store)(W:WD):Prop:=
 ∀ (a:Pins)(s:ab5)(e:St)(H:Hp)(O:Own)(v:V)(u c d:Value)(b:Addr),Inv X a e H s->%[|14]->Rep X.K O H v x->RelV v u->s.heap.IsSliceOf b c d .none->IsPart c lo->IsPart d hi->
   ∃T f,typeLookup (.type T) "__getitem__"=pure (some (.builtin f))/\s.TypeIs u T/\wpAny %[|6] X.A (getItem u (.ref b)) (EP X a e (QG X.K O H W)) X.xe s
def Oj{W}(h:PoD X Γ S o W){pins:Pins}{σ:St}(I:%[|3])(env:EnvOk X.K O H σ Γ)(st:%[|14]):
 wpAny %[|6] X.A (evalPart o X.env) (λ u s'=>∃p H' O' S',Inv X pins σ H' s'/\IsPart u p/\W p S'/\Step O O' H H'/\StOk X.K O' H' S') X.xe s:=by
 cases o with
 | none=>rw[evalPart_none];exact b9 %[none,H,O,S,I,.none,h,Step.refl O H|st]
 | some e=>rw[evalPart_some];refine thn (h pins s σ H O I env st) λ u n b=>?_;obtain⟨v,f,g,m,j,x,k,⟨i,l,w⟩,d,c,a⟩:=b;subst l;cases a;obtain⟨t,rfl⟩:=m;exact%[some i,f,j,k,g,.int i t,w,d|c]
def Rb{lo hi}(h:Ev X Γ S e λ x S1=>PoD X Γ S1 lo λ l S2=>PoD X Γ S2 hi λ r S3=>SlW X x l r S3 W):Ev X Γ S (.Subscript e (.Slice lo hi none w) pos) W:=by intro c s t H O I d Q;refine Subscript_ (thn (h c s t H O I d Q) λ v s1 a=>?_);obtain⟨y,R,z,P,V,x,S1,F,f,n,i⟩:=a;refine wpAny_Slice (thn (Oj F z (d.mono f) n) λ k s2 a=>?_);obtain⟨l,U,Y,S2,A,M,G,g,o⟩:=a;refine thn (Oj G A ((d.mono f).mono g) o) λ m s3 a=>?_;obtain⟨r,u,D,S3,B,N,J,j,p⟩:=a;rw[evalPart_none];refine b9 ?_;have C:Inv X c t u {s3 with heap:=s3.heap.push {cls:=.type "slice",data:=.fields #[k,m,.none]}}:=B.kept (t':=s3.toks) λ b ob q=>bE _ q;obtain⟨T,Z,E,L,K⟩:=J c {s3 with heap:=s3.heap.push {cls:=.type "slice",data:=.fields #[k,m,.none]}} t u D y v k m s3.heap.objs.size C p ((i.mono g).mono j) P (Heap.IsSliceOf.new ..) M N;show wpAny %[|6] X.A (subscriptTail e (.Slice lo hi none w) v (.ref s3.heap.objs.size)) _ X.xe {s3 with heap:=s3.heap.push {cls:=.type "slice",data:=.fields #[k,m,.none]}};exact tail_any (ops:=[.ref s3.heap.objs.size,v]) L E (thn K λ _ _ q=>eF ((f.trans g).trans j) q) (by with_unfolding_all rfl)
def cutD(ds:List D)(lo hi:ac6):List D:=(ds.drop (HT.sIx ds.length 0 lo)).take (HT.sIx ds.length ds.length hi-HT.sIx ds.length 0 lo)
def uJ(r:Reps K O H xs ds)(lo hi:ac6):Reps K O H (oG xs lo hi) (cutD ds lo hi):=by unfold oG cutD;rw[r.length];exact(r.drop _).take _
def Gw{t e}{lo hi}(a:IsTup s.heap t items)(hs:s.heap.IsSliceOf e vl vu .none)(pl:IsPart vl lo)(j:IsPart vu hi)
 (f:HT.sIx items.size 0 lo=0)(h1:HT.sIx items.size items.size hi=items.size)(h:Q (.ref t) s):wpAny %[|5] A (getItem (.ref t) (.ref e)) Q E s:=by
 obtain⟨i,c,b,g⟩:=id hs;have d:s.TypeIs (.ref e) "slice":=%[i,c|b];unfold getItem;try with_reducible refine ed ?_
 first | refine b0 (b9 ?_) | skip
 refine b0 (nr a.typeIs %[|1] ?_);refine b0 (wpAny_callSpecial?_slot (name:=Str.ofString "__getitem__") a.typeIs eC
  (de eC a.typeIs entry_tuple_getitem ?_ (args_tuple_getitem _ _)));show wpAny _ _ (Builtin.Tuple.tupleItemsOf (.ref t)>>=_) _ _ s;refine b0 (tupleItemsOf_ a (b0 (hY d ?_)));rw[c9 %[|1]];refine b0 (HT.sliceApplied_gen hs pl j ?_);rw[f,h1];show wpAny _ _ (if(((0:Nat):Int)==0&&(1:Int)==1&&(items.size-0)==items.size)=true then _ else _) _ _ s;rw[c9 (by simp)];unfold Builtin.Tuple.tupleIsExact;first
  | exact b0 (b0 (hY a.typeIs (b9 (by rw[c9 %[|1]];exact b0 (iF (b9 %[_,rfl|b9 h]))))))
  | (refine b0 (b0 (hY a.typeIs (b9 ?_)));simp only[fq,ij];exact b0 (iF (b9 %[_,rfl|b9 h])))
def aan{lo hi}(w:W (.tup (cutD ds lo hi)) S):SlW X (.tup ds) lo hi S W:=by
 intro c s y H O v u t x q I m o l h j k
 cases o with
 | @tup p b _ f d=>
   by_cases hw:HT.sIx b.length 0 lo=0/\HT.sIx b.length b.length hi=b.length
   . cases l;obtain⟨g,r,i,z⟩:=I.tuple f.sq;have a:g.toArray.size=b.length:=by rw[x5];exact r.length.symm
     refine%["tuple",_,eC.lookup,i.typeIs|Gw i h j k (by rw[a];exact hw.1) (by rw[a];exact hw.2) %[.ref p,H,I,rfl|?_]];have e:cutD ds lo hi=ds:=by unfold cutD;rw[<-d.length,hw.1,hw.2,List.drop_zero,ck (by rw[<-d.length];omega)]
     rw[e]at w;exact J3 w m (.tup f d)
   {exact WY c s y H _ u t x lo hi q _ I l h j k %[p,b,rfl,f.sq,hw|λ A n=>je w m n (uJ d lo hi)]}
def ZK{lo hi}(w:W (.lst (cutD ds lo hi)) S):SlW X (.lst ds) lo hi S W:=by intro a s o H O v u l m j I k h i d e f;cases h with| @lst p n _ b g=>exact Jk a s o H _ u l m lo hi j _ I i d e f %[p,n,rfl,b.sq|λ q c=>dM w k c (uJ g lo hi)]
def QZ{id}(h:EvA X Γ S (e::es) λ ds S1=>dw X (.builtin id) ds S1 W)(t:X.mg x=none)(v:bootBuiltins x=some (.builtin id))(r:Gl X x:=by rfl)(u:x≠"__name__":=by decide)(c:(x==("__debug__":Str))=false:=by decide)
 (o:starEach (e::es) X.env=(false,eval e X.env)::starEach es X.env:=by rfl)(d:(backTo pos (starEach es X.env)).any (·.1)=false:=by rfl):Ev X Γ S (.Call (.Name x p) (e::es) [] pos) W:=by intro a s k H O I b A;refine gv (cz I r t v ?_ u c);exact iE (thn (h pos a s k H O I b A) λ B z f=>by obtain⟨C,l,m,y,n,ds,S1,w,j,g,i⟩:=f;exact thn (w a z k l n C B m g i y) λ _ _ q=>eF j q) o d
def Rz(h:EvA X Γ S (e::es) λ ds S1=>dw X (.type T) ds S1 W)(t:X.mg x=none)(v:bootBuiltins x=some (.type T))(r:Gl X x:=by rfl)(u:x≠"__name__":=by decide)(c:(x==("__debug__":Str))=false:=by decide)
 (o:starEach (e::es) X.env=(false,eval e X.env)::starEach es X.env:=by rfl)(d:(backTo pos (starEach es X.env)).any (·.1)=false:=by rfl):Ev X Γ S (.Call (.Name x p) (e::es) [] pos) W:=by intro a s k H O I b A;refine gv (cz I r t v ?_ u c);exact eu (thn (h pos a s k H O I b A) λ B z f=>by obtain⟨C,l,m,y,n,ds,S1,w,j,g,i⟩:=f;exact thn (w a z k l n C B m g i y) λ _ _ q=>eF j q) o d
def cO{b}(r:Reps K O H b [d]):∃v,b=[v]/\Rep K O H v d:=by cases r with| cons a t=>cases t;exact%[_,rfl|a]
def Y4(w:W (.int ds.length) S):dw X (.builtin "len") [.tup ds] S W:=cM iY λ O H f d r=>by obtain⟨v,rfl,c⟩:=cO r;cases c with| @tup p e _ a b=>exact%[p,e,rfl,.inr a.sq|by rw[b.length];exact J3 w d (.int _)]
def W3(w:W (.int ds.length) S):dw X (.builtin "len") [.lst ds] S W:=cM iY λ O H f d r=>by obtain⟨v,rfl,c⟩:=cO r;cases c with| @lst p e _ a b=>exact%[p,e,rfl,.inl a.sq|by rw[b.length];exact J3 w d (.int _)]
def Xn(c:S[k]? =some ds)(w:W (.int ds.length) S):dw X (.builtin "len") [.loc k] S W:=cM iY λ O H h a r=>by obtain⟨v,rfl,f⟩:=cO r;cases f with| @loc p _ b=>obtain⟨g,d,e⟩:=a.obj k p ds b c;exact%[p,g,rfl,.inl (SqL.of d)|by rw[e.length];exact J3 w a (.int _)]
def W0(w:W (.tup ds) S):dw X %[|10] [.lst ds] S W:=cM lK λ O H g e r=>by obtain⟨v,rfl,d⟩:=cO r;cases d with| @lst p f _ a c=>exact%[p,f,rfl|.inl %[a.sq|λ l b=>je w e b c]]
def WQ(c:S[k]? =some ds)(w:W (.tup ds) S):dw X %[|10] [.loc k] S W:=cM lK λ O H i a r=>by obtain⟨v,rfl,g⟩:=cO r;cases g with| @loc p _ b=>obtain⟨h,e,f⟩:=a.obj k p ds b c;exact%[p,h,rfl|.inl %[SqL.of e|λ l d=>je w a d f]]
def YC(w:W (.lst ds) S):dw X (.type "list") [.tup ds] S W:=cM nP λ O H g e r=>by obtain⟨v,rfl,d⟩:=cO r;cases d with| @tup p f _ a c=>exact%[p,f,rfl,.inr a.sq|λ l b=>dM w e b c]
def Y7(w:W (.lst ds) S):dw X (.type "list") [.lst ds] S W:=cM nP λ O H g e r=>by obtain⟨v,rfl,d⟩:=cO r;cases d with| @lst p f _ a c=>exact%[p,f,rfl,.inl a.sq|λ l b=>dM w e b c]
abbrev Ct:=List D->Store->WD->Prop
def spC(K:ab2)(n:Nat)(F:Ct):Sp:=λ c H Q _=>∃O a S W,a.length=n/\Reps K O H c a/\StOk K O H S/\F a S W/\∀v b,QG K O H W v b->Q v b
structure Callee(P:ac4)(w:World)(K:ab2)(mg:ab9)(base:Heap)(x:Str)(k n:Nat)(F:Ct):Prop where
 ex:∃f fd ps,FnOk P w K mg base CX0 k f fd ps (spC K n F)/\mg x=some (.ref f)/\PySem.W.keepIn K (.ref f)=true/\Binds K fd ps []
def WF(C:Callee X.prog X.w X.K X.mg X.base x k n F)(D:Room k X.A)(h:EvA X Γ S (e::es) λ ds S1=>ds.length=n/\F ds S1 W)(y:Gl X x:=by rfl)(c:(x==("__debug__":Str))=false:=by decide)
 (u:starEach (e::es) X.env=(false,eval e X.env)::starEach es X.env:=by rfl)(d:(backTo pos (starEach es X.env)).any (·.1)=false:=by rfl):Ev X Γ S (.Call (.Name x p) (e::es) [] pos) W:=by intro a s J H O I b G;obtain⟨f,M,N,r,B,z,t⟩:=C.ex;refine gv (Hr I y B ?_ c);refine PySem.W.callWith_K (h₀:=X.base) I.ok.mod.kin z (thn (h pos a s J H O I b G) λ Q P g=>?_) u d;obtain⟨R,L,m,E,o,ds,S1,⟨A,w⟩,l,i,j⟩:=g;refine%[m.kIn|?_];refine W9 r D t .nil Zh m E ?_;rw[gS];exact%[o,ds,S1,W,A,j,i,w|λ v K q=>q.pre l]
structure Fin where
 nx:Gam->%[|4]
 rt:WD
 bk:Gam->%[|4]:=λ _ _=>False
 ct:Gam->%[|4]:=λ _ _=>False
inductive QN(K:ab2)(O:Own)(H:Hp)(W:Gam->%[|4])(σ':St)(H':Hp):Prop
 | mk(O':Own)(Γ':Gam)(S':Store)(w:W Γ' S')(q:And3 (Step O O' H H') (StOk K O' H' S') (EnvOk K O' H' σ' Γ')):QN K O H W σ' H'
def ends(K:ab2)(O:Own)(H:Hp)(W:Fin):Ends:={nx:=QN K O H W.nx,rt:=QG K O H W.rt,bk:=QN K O H W.bk,ct:=QN K O H W.ct}
def Rn(X:Cx)(Γ:Gam)(S:Store)(st:Stmt)(W:Fin):Prop:=
 ∀ (a:Pins)(s:ab5)(b:St)(H:Hp)(O:Own),Inv X a b H s->EnvOk X.K O H b Γ->%[|14]->
   wpAny %[|6] X.A (exec st X.env) (SP X a (ends X.K O H W)) X.xe s
def Rns(X:Cx)(Γ:Gam)(S:Store)(sts:List Stmt)(W:Fin):Prop:=
 ∀ (a:Pins)(s:ab5)(b:St)(H:Hp)(O:Own),Inv X a b H s->EnvOk X.K O H b Γ->%[|14]->
   wpAny %[|6] X.A (execs sts X.env) (SP X a (ends X.K O H W)) X.xe s
def QN.pre(st:Step O O1 H H1){W}{a}(q:QN K O1 H1 W v a):QN K O H W v a:=by obtain⟨b,d,c,w,f,e,r⟩:=q;exact%[b,d,c,w,st.trans f,e|r]
def Jv{pins:Pins}{W}(st:Step O O1 H H1)(q:SP X pins (ends X.K O1 H1 W) f s'):SP X pins (ends X.K O H W) f s':=by
 cases f with
 | next=>obtain⟨b,a,I,q⟩:=q;exact%[b,a,I|QN.pre st q]
 | brk=>obtain⟨b,a,I,q⟩:=q;exact%[b,a,I|QN.pre st q]
 | cont=>obtain⟨b,a,I,q⟩:=q;exact%[b,a,I|QN.pre st q]
 | ret u=>obtain⟨v,b,a,I,r,q⟩:=q;exact%[v,b,a,I,r|QG.pre st q]
variable{W:Fin}{st:Stmt}{sts:List Stmt}
def W6(w:W.nx Γ S):Rns X Γ S [] W:=λ b s d H O I a c=>wpAny_execs_nil %[d,H,I,O,Γ,S,w,Step.refl O H,c|a]
def VG(h:Rn X Γ S st {W with nx:=λ Γ1 S1=>Rns X Γ1 S1 sts W}):Rns X Γ S (st::sts) W:=by
 intro a s n H O I c l;refine wpAny_execs_cons (thn (h a s n H O I c l) λ f m q=>?_)
 cases f with
 | next=>obtain⟨g,i,j,k,Γ1,S1,w,e,d,b⟩:=q;exact thn (w a m g i k j b d) λ _ _ q=>Jv e q
 | ret v=>exact q
 | brk=>exact q
 | cont=>exact q
def aat(h:Ev X Γ S e W.rt):Rn X Γ S (.Return (some e) pos) W:=by intro a s c H O I b d;exact wpAny_Return_some (thn (h a s c H O I b d) λ v f ⟨x,H1,I1,r1,q1⟩=>%[x,c,H1,I1,r1|q1])
def aaz{xs ys}(h:Ts X Γ S c λ k S1=>(k=true->Rns X Γ S1 xs W)/\(k=false->Rns X Γ S1 ys W)):Rn X Γ S (.If c xs ys pos) W:=by
 intro a s i H O I e o;refine wpAny_If (thn (h a s i H O I e o) λ d n g=>?_);obtain⟨j,l,m,S1,w,b,f⟩:=g
 cases d with
 | true=>exact thn (w.1 rfl a n i j m l (e.mono b) f) λ _ _ q=>Jv b q
 | false=>exact thn (w.2 rfl a n i j m l (e.mono b) f) λ _ _ q=>Jv b q
def Tf(i:Nat){a}(h:Ev X Γ S e λ d S1=>W.nx (Γ.set i (some d)) S1)(p:X.N.Nodup)(hi:X.N[i]? =some x:=by rfl)(r:Loc X.env.scope x:=by first | exact Or.inl rfl | exact Or.inr rfl)
 (hs:swapsWith e (some (.Name x a)) pos.line X.env=pure false:=by rfl)(q:X.fn x=true\/X.env.scope.names.lookup x=some .local:=by first | exact .inl rfl | exact .inr rfl):Rn X Γ S (.Assign [.Name x a] e pos) W:=by intro c s z H O I b t;refine wpAny_Assign_Name (thn (h c s z H O I b t) λ v A j=>?_) hs;obtain⟨y,l,m,u,o,d,S1,w,g,k,f⟩:=j;exact rP m p hi r u (λ B n=>%[_,l,n,o,_,S1,w,g,k|(b.mono g).set f i]) q
def XF(h:Ev X Γ S e λ d S1=>W.nx Γ S1)(hs:swapsWith e none pos.line X.env=pure false:=by rfl):Rn X Γ S (.Expr e pos) W:=by intro b s j H O I a n;exact wpAny_Expr_any (thn (h b s j H O I a n) λ v p f=>by obtain⟨x,k,l,o,m,d,S1,w,c,g,i⟩:=f;exact%[j,k,l,m,Γ,S1,w,c,g|a.mono c]) I.quiet hs
def tE(K:ab2)(Γ:Gam)(S:Store)(W:WD):TE:=λ b H Q=>∃O,EnvOk K O H b Γ/\StOk K O H S/\∀v a,QG K O H W v a->Q v a
def Yb{pins:Pins}{σ:St}{Q a}(q:EP X pins σ Q u s')(k:∀v H',Q v H'->a v H'):EP X pins σ a u s':=by obtain⟨v,H',I,r,q⟩:=q;exact%[v,H',I,r|k v H' q]
def Ev.pe{W}(h:Ev X Γ S e W):PE X e (tE X.K Γ S W):=λ a s b H Q I ⟨O,env,st,k⟩=>thn (h a s b H O I env st) λ _ _ q=>Yb q k
def tEA(K:ab2)(Γ:Gam)(S:Store)(W:List D->%[|4]):TA:=λ b H Q=>∃O,EnvOk K O H b Γ/\StOk K O H S/\∀v a,QA K O H W v a->Q v a
def EvA.pa{W}(h:EvA X Γ S es W):PA X es (tEA X.K Γ S W):=λ b a s c H Q I ⟨O,env,st,k⟩=>thn (h b a s c H O I env st) λ _ _ ⟨v,H',I',r,q⟩=>%[v,H',I',r|k v H' q]
def Wa{o i}{a}(h:Ev X Γ S e λ d S1=>Ev X Γ S1 o λ x S2=>Ev X Γ S2 i λ y S3=>∃k n ds j,x=.loc k/\y=.int n/\S3[k]? =some ds/\ixN ds.length n=some j/\W.nx Γ (S3.set k (ds.set j d)))
 (ha:∀v,assign (.Subscript o i a) X.env v=(do
  let ov <-holding [v] (eval o X.env)
  let iv <-holding [v,ov] (eval i X.env)
  standAt a
  holding [v,ov,iv] (setItem ov iv v)
  release [v,ov,iv] []):=by intro _;rfl)(hs:swapsWithSole [.Subscript o i a] e pos.line X.env=pure false:=by rfl)(hw:swappedStores [.Subscript o i a] e X.env=pure none:=by rfl)
 (h1:(assignEach [.Subscript o i a] X.env).map (·.2)=[assign (.Subscript o i a) X.env]:=by rfl):Rn X Γ S (.Assign [.Subscript o i a] e pos) W:=by intro c s B H O I f ok;refine wpAny_Assign_stores (thn (h c s B H O I f ok) λ u s1 b=>?_) hs hw;obtain⟨v,K,M,r1,R,d,S1,w1,g,D,t⟩:=b;rw[h1];show wpAny _ _ (assign (.Subscript o i a) X.env u) _ _ _;rw[ha];refine b0 (ed (thn (w1 c s1 B K R M (f.mono g) D) λ ov s2 b=>?_));obtain⟨x,L,N,r2,T,dx,S2,w2,l,E,z⟩:=b;refine b0 (ed (thn (w2 c s2 B L T N ((f.mono g).mono l) E) λ iv s3 b=>?_));obtain⟨y,F,P,r3,U,dy,S3,⟨k,n,ds,j,Y,Z,hk,hj,w⟩,m,r,A⟩:=b;subst Y;subst Z;have rx:=z.mono m;cases rx with| @loc p _ C=>cases A;obtain⟨G,hx,q⟩:=r.obj k p ds C hk;have rd:=(t.mono l).mono m;refine b0 (wpAny_standAt (b0 (ed (thn (set_list c s3 B F _ _ v ov iv u (λ J=>J=upd F p (.lst (G.set j v))) P r2 r3 r1 %[p,G,n,j,rfl,rfl,hx,by rw[q.length];exact hj|rfl]) λ _ s4 b=>?_))));obtain⟨H4,Q,V⟩:=b;subst V;refine wpAny_release %[B,_,Q,U,Γ,_,w,((g.trans l).trans m).trans (Step.put (cI C) _),r.put C (q.set rd j)|(((f.mono g).mono l).mono m).mono (Step.put (cI C) _)]
def BdW(X:Cx)(tg:Expr)(d:D)(Γ:Gam)(S:Store)(W:Gam->%[|4]):Prop:=
 ∀ (a:Pins)(s:ab5)(b:St)(H:Hp)(O:Own)(v:V)(u:Value),Inv X a b H s->EnvOk X.K O H b Γ->%[|14]->Rep X.K O H v d->RelV v u->
   wpAny %[|6] X.A (assign tg X.env u) (λ _ c=>NP X a (QN X.K O H W) c) X.xe s
def DW(X:Cx)(ts:ac2)(ds:List D)(Γ:Gam)(S:Store)(W:Gam->%[|4]):Prop:=
 ∀ (a:Pins)(s:ab5)(d:St)(H:Hp)(O:Own)(c:List V)(b:ab6),Inv X a d H s->EnvOk X.K O H d Γ->%[|14]->Reps X.K O H c ds->Vals c b->
   wpAny %[|6] X.A (assignInOrder ((assignEach ts X.env).map (·.2)) b) (λ _ e=>NP X a (QN X.K O H W) e) X.xe s
def UL(i:Nat){W}(w:W (Γ.set i (some d)) S)(e:X.N.Nodup)(hi:X.N[i]? =some x:=by rfl)(g:Loc X.env.scope x:=by first | exact Or.inl rfl | exact Or.inr rfl)
 (f:X.fn x=true\/X.env.scope.names.lookup x=some .local:=by first | exact .inl rfl | exact .inr rfl):BdW X (.Name x pos) d Γ S W:=λ b s l H O v u I a j r h=>
 wpAny_assign_Name (rP I e hi g h (λ k c=>%[_,H,c,O,_,S,w,Step.refl O H,j|a.set r i]) f)
def Vz{W}(w:W Γ S):DW X [] [] Γ S W:=λ b s e H O g f I a d r c=>by cases r;cases c;exact assignInOrder_nil %[e,H,I,O,Γ,S,w,Step.refl O H,d|a]
def Qq{W}(h:BdW X t d Γ S λ Γ1 S1=>DW X f ds Γ1 S1 W)
 (hs:(assignEach (t::f) X.env).map (·.2)=assign t X.env::(assignEach f X.env).map (·.2):=by rfl):DW X (t::f) (d::ds) Γ S W:=λ a s A H O D C I g z r k=>by cases r with| cons r x=>cases k with| cons k j=>rw[hs];refine assignInOrder_cons (thn (h a s A H O _ _ I g z r k) λ _ y b=>?_);obtain⟨l,n,p,v,Γ1,S1,w,e,i,c⟩:=b;refine thn (w a y l n v _ _ p c i (x.mono e) j) λ _ B b=>by obtain⟨m,o,u,q⟩:=b;exact%[m,o,u|QN.pre e q]
def YJ{W}(h:DW X c ds Γ S W)(q:X.calm=true:=by rfl)(t:(assignEach c X.env).length=ds.length:=by rfl)(f:(assignEach c X.env).findIdx? (·.1)=none:=by rfl):BdW X (.Tuple c k pos) (.tup ds) Γ S W:=λ a s j H O v u I d A r z=>by cases r with| @tup p B _ n g=>cases z;obtain⟨y,i,w,C⟩:=I.tuple n.sq;refine assign_Tuple_tuple (I.ok.hd q) w (by simp[t,<-g.length,i.length]) f λ m x=>?_;have l:Inv X a j H {s with heap:=m}:=I.kept (t':=s.toks) λ b o e=>x b o (cq (bX e)) e;exact h a _ j H O B _ l d A g (by simpa using i)
def iB(K:ab2)(J:It)(O:Own)(H:Hp)(ds:List D):Prop:=
 ∀(e:Own)(c:Hp),Conv O e H c->(∀a,e.has a->c a≠none)->∀i:Nat,(∀d,ds[i]? =some d->J.go i c/\∀x b,J.yld i c x b->dR c b/\Rep K e b x d)/\(i=ds.length->J.stop i c)
inductive QI(K:ab2)(O:Own)(H:Hp)(W:List D->%[|4])(J:It)(H':Hp):Prop
 | mk(O':Own)(ds:List D)(S':Store)(w:W ds S')(q:And3 (Step O O' H H') (StOk K O' H' S') (iB K J O' H' ds)):QI K O H W J H'
def ItW(X:Cx)(Γ:Gam)(S:Store)(tg iter:Expr)(W:List D->%[|4]):Prop:=
 ∀ (a:Pins)(s:ab5)(b:St)(H:Hp)(O:Own),Inv X a b H s->EnvOk X.K O H b Γ->%[|14]->
   wpAny %[|6] X.A (eval iter X.env) (λ v c=>wpAny %[|6] X.A (pyIter v) (PIE X a b tg (QI X.K O H W)) X.xe c) X.xe s
def qD{a}(h:Ls K O H a xs)(r:Reps K O H xs ds):iB K (Itl K a) O H ds:=by intro n m f _ i;have b:=(h.conv f).sq;refine%[λ d j=>?_|λ k=>%[xs,b|by rw[r.length];exact mw k.symm]];obtain⟨v,c,l⟩:=r.get j;refine%[%[xs,v,b|c]|λ x g y=>?_];obtain⟨e,y⟩:=y;subst e;have e:=y xs b;rw[c]at e;cases e;exact%[dR.refl _|l.conv f]
def sW{a}(h:Tp K O H a xs)(r:Reps K O H xs ds):iB K (Itt K a) O H ds:=by intro n m f _ i;have b:=(h.conv f).sq;refine%[λ d j=>?_|λ k=>%[xs,b|by rw[r.length];exact mw k.symm]];obtain⟨v,c,l⟩:=r.get j;refine%[%[xs,v,b|c]|λ x g y=>?_];obtain⟨e,y⟩:=y;subst e;have e:=y xs b;rw[c]at e;cases e;exact%[dR.refl _|l.conv f]
def upTo(lo:Int)(n:Nat):List D:=(List.range n).map λ(k:Nat)=>D.int (lo+(k:Int))
def aF(lo:Int)(n:Nat):(upTo lo n).length=n:=by simp[upTo]
def cU{lo}{n i}(h:(upTo lo n)[i]? =some d):i<n/\d=.int (lo+i):=by
 unfold upTo at h;rw[y8]at h
 cases e:(List.range n)[i]? with
 | none=>rw[e]at h;cases h
 | some k=>rw[e]at h;obtain⟨b,a⟩:=z0.mp e;simp at b a;subst a;cases h;exact%[b|rfl]
def nq(lo:Int)(n:Nat):iB K (Itr lo n) O H (upTo lo n):=by intro j h k _ i;refine%[λ d g=>?_|λ a=>by rw[aF]at a;exact mw a.symm];obtain⟨a,c⟩:=cU g;subst c;refine%[a|λ x b y=>?_];obtain⟨e,f⟩:=y;subst e;subst f;exact%[dR.refl _|.int _]
def LC{u a}{W}(h:Ev X Γ S a λ d S1=>∃j:Int,d=.int j/\ -(2 ^ 62)<=j/\j<2 ^ 62/\W (upTo 0 j.toNat) S1)(r:X.mg "range"=none)(o:Gl X "range":=by rfl)(hs:starEach [a] X.env=[(false,eval a X.env)]:=by rfl):
 ItW X Γ S u (.Call (.Name "range" p) [a] [] pos) W:=by intro b s x H O I c t;refine Ph o r (iw h.pe uo hs) hs b s x H _ I %[O,c,t|λ v y q=>?_];obtain⟨i,d,k,⟨j,l,m,n,w⟩,g,e,f⟩:=q;subst l;cases f;exact%[j,rfl,m,n,i,_,k,w,g,e|nq 0 _]
def Mt{F a b}{W}(h:Ev X Γ S a λ d S1=>Ev X Γ S1 b λ d' S2=>∃i j:Int,d=.int i/\d'=.int j/\(-(2 ^ 62)<=i/\i<2 ^ 62/\ -(2 ^ 62)<=j/\j<2 ^ 62)/\W (upTo i (j-i).toNat) S2)(A:X.mg "range"=none)(z:Gl X "range":=by rfl)
 (hs:starEach [a,b] X.env=[(false,eval a X.env),(false,eval b X.env)]:=by rfl)(c:starEach [b] X.env=[(false,eval b X.env)]:=by rfl):
 ItW X Γ S F (.Call (.Name "range" p) [a,b] [] pos) W:=by
 intro e s G H O I f E;have y:EvA X Γ S [a,b] λ o S2=>∃i j:Int,o=[.int i,.int j]/\(-(2 ^ 62)<=i/\i<2 ^ 62/\ -(2 ^ 62)<=j/\j<2 ^ 62)/\W (upTo i (j-i).toNat) S2:=
  cT (h.mono λ d S1 x=>cT (x.mono λ d' S2 ⟨i,j,e1,e2,g,w⟩=>ik %[i,j,by rw[e1,e2],g|w]) c) (by rw[hs,c]);refine Pq z A y.pa hs c e s G H _ I %[O,f,E|λ v J q=>?_];obtain⟨r,o,t,⟨i,j,u,g,w⟩,n,k,m⟩:=q;subst u;cases m with| cons B l=>cases l with| cons l C=>cases C;cases B;cases l;exact%[i,j,rfl,g,r,_,t,w,n,k|nq i _]
def ZL(h:ItW X Γ S M iter λ ds S1=>∃Pv:Nat->Gam->%[|4],Pv 0 Γ S1/\
 (∀i d Γ' S',ds[i]? =some d->Pv i Γ' S'->BdW X M d Γ' S' λ Γ2 S2=>Rns X Γ2 S2 l {W with nx:=Pv (i+1),ct:=Pv (i+1),bk:=W.nx})/\(∀Γ' S',Pv ds.length Γ' S'->W.nx Γ' S'))
 (hp:PassesOwn %[|6] X.A X.env X.xe:=by exact md)(hc:X.calm=true:=by rfl)(hs:∀x,foldedSetIterable iter X.env x=pure x:=by intro _;rfl):Rn X Γ S (.For M iter l [] pos) W:=by
 intro j s o H O I n ok;let WI:List D->%[|4]:=λ ds S1=>∃Pv:Nat->Gam->%[|4],Pv 0 Γ S1/\
     (∀i d Γ' S',ds[i]? =some d->Pv i Γ' S'->BdW X M d Γ' S' λ Γ2 S2=>Rns X Γ2 S2 l {W with nx:=Pv (i+1),ct:=Pv (i+1),bk:=W.nx})/\(∀Γ' S',Pv ds.length Γ' S'->W.nx Γ' S');have hI:PI X M iter (λ o H R=>∃O,EnvOk X.K O H o Γ/\%[|14]/\∀J g,QI X.K O H WI J g->R J g):=λ j s o H R I T=>by obtain⟨O,n,U,k⟩:=T;refine thn (h j s o H O I n U) λ _ _ q=>thn q λ _ _ q2=>?_;obtain⟨it,fp,tn,J,g,e1,e2,e3,e4,e5,e6⟩:=q2;exact%[it,fp,tn,J,g,e1,e2,e3,e4,e5|k J g e6]
 have hG:PG X M (λ v o H Q=>∃O d Γ S t,EnvOk X.K O H o Γ/\%[|14]/\Rep X.K O H v d/\BdW X M d Γ S t/\∀c g,QN X.K O H t c g->Q c g):=λ j s o H v u Q I ru T=>by obtain⟨O,d,Γ,S,t,n,U,r,b,k⟩:=T;refine thn (b j s o H O v u I n U r ru) λ _ _ q2=>?_;obtain⟨c,g,w,q⟩:=q2;exact%[c,g,w|k c g q]
 have hB:PSs X l (λ D o H=>∃O Γ S t,EnvOk X.K O H o Γ/\%[|14]/\Rns X Γ S l t/\(∀c g,QN X.K O H t.nx c g->D.nx c g)/\(∀v g,QG X.K O H t.rt v g->D.rt v g)/\(∀c g,QN X.K O H t.bk c g->D.bk c g)/\∀c g,QN X.K O H t.ct c g->D.ct c g):=
  λ j s o H D I T=>by
   obtain⟨O,Γ,S,t,n,U,b,k1,k2,k3,k4⟩:=T;refine thn (b j s o H O I n U) λ f s' q=>?_
   cases f with
   | next=>obtain⟨c,g,w,q⟩:=q;exact%[c,g,w|k1 c g q]
   | brk=>obtain⟨c,g,w,q⟩:=q;exact%[c,g,w|k3 c g q]
   | cont=>obtain⟨c,g,w,q⟩:=q;exact%[c,g,w|k4 c g q]
   | ret u=>obtain⟨v,c,g,w,r,q⟩:=q;exact%[v,c,g,w,r|k2 v g q]
 refine Lj hp hc hI hG hB hs j s o H _ I %[O,n,ok|λ J H1 q=>?_];obtain⟨Y,ds,S1,⟨Pv,p0,pt,pe⟩,A,aa,yl⟩:=q;refine%[λ i m c g=>m=ds.length-i/\i<=ds.length/\∃E Γ' S',Pv i Γ' S'/\Step Y E H1 g/\StOk X.K E g S'/\EnvOk X.K E g c Γ',%[ds.length,by simp,db _,Y,Γ,S1,p0,Step.refl _ _,aa|n.mono A]|?_];rintro i m af H2 ⟨rfl,hi,O2,Γ2,S2,p2,K,F,C⟩;obtain⟨y1,y2⟩:=yl O2 H2 K.conv (λ a ha=>F.tracked ha) i;by_cases z:i<ds.length;{obtain⟨go,yy⟩:=y1 ds[i] (y3 z);refine .inr %[go,λ c g=>i+1<=ds.length/\∃E Γ' S',Pv (i+1) Γ' S'/\Step Y E H1 g/\StOk X.K E g S'/\EnvOk X.K E g c Γ',λ c g q=>%[ds.length-(i+1),%[|0],rfl,q.1|q.2]|λ x H3 y=>?_];obtain⟨sm,rx⟩:=yy x H3 y;have V:=Step.same (O:=O2) sm;refine%[O2,ds[i],Γ2,S2,_,C.mono V,F.same sm,rx,pt i ds[i] Γ2 S2 (y3 z) p2|λ ag H4 q4=>?_];obtain⟨O4,ad,S4,w4,ac,ab,P⟩:=q4;have B:=(K.trans V).trans ac;refine%[O4,ad,S4,_,P,ab,w4,?_,?_,?_|?_];{rintro ae H5 ⟨Z,N,S5,w5,L,G,p⟩;exact%[z,Z,N,S5,w5,B.trans L,G|p]};{exact λ v g q=>QG.pre (A.trans B) q};{exact λ c g q=>QN.pre (A.trans B) q};{rintro ae H5 ⟨Z,N,S5,w5,L,G,p⟩;exact%[z,Z,N,S5,w5,B.trans L,G|p]}}
 . have e:i=ds.length:=%[|0]
   subst e;exact .inl %[y2 rfl,O2,Γ2,S2,pe Γ2 S2 p2,A.trans K,F|C]
def Z0 (FF:Fun K x g m f C)(SC:FnScope N ps (aW m))
 (p:∀(l:Value)(A:ad0)(outer:List Env)(s:ab5)(H:Hp)(E:XK)(ds:List D)(S:Store)(W:WD),C.code=l->Room k (A.deeper (envOfC g (aW m) s.heap.objs.size f l))->ds.length=ps.length->F ds S W->
  Rns (mY CX0 P w K mg base N g (aW m) f l A outer s H E).nox (ds.map some++List.replicate (N.length-ds.length) none) S (cY m) {nx:=λ _ S1=>W .non S1,rt:=W}):FnOk P w K mg base CX0 (k+1) f C ps (spC K ps.length F):=by
 obtain⟨oc,od,kV,aa,pm,an,l,ct,ab,rfl,lk,G⟩:=FF.ex;refine aah lk G SC (λ V H Q E h=>?_) λ A outer s H V Q E hr h=>?_;{obtain⟨O,ds,S,W,L,r,_⟩:=h;rw[r.length,L]}
 . obtain ⟨O,ds,S,W,L,r,T,hF,q⟩:=h;have hB:=p l A outer s H E ds S W rfl hr L hF;suffices key:∃t,PSs (mY CX0 P w K mg base N g (aW m) f l A outer s H E).nox (cY m) t/\t {nx:=λ _ c=>Q .non c,rt:=Q} (L2.start N V) H from key.elim λ t h=>%[t,h.1.nox|h.2];refine%[λ D Y c=>∃O X S o,EnvOk K O c Y X/\StOk K O c S/\Rns (mY CX0 P w K mg base N g (aW m) f l A outer s H E).nox X S (cY m) o/\(∀a j,QN K O c o.nx a j->D.nx a j)/\(∀v j,QG K O c o.rt v j->D.rt v j)/\(∀a j,QN K O c o.bk a j->D.bk a j)/\∀a j,QN K O c o.ct a j->D.ct a j,?_|?_]
   . rintro y s Y c D I ⟨O,X,S,o,B,T,b,k1,k2,k3,k4⟩;refine thn (b y s Y c O I B T) λ f s' q=>?_
     cases f with
     | next=>obtain⟨a,c,n,q⟩:=q;exact%[a,c,n|k1 a c q]
     | brk=>obtain⟨a,c,n,q⟩:=q;exact%[a,c,n|k3 a c q]
     | cont=>obtain⟨a,c,n,q⟩:=q;exact%[a,c,n|k4 a c q]
     | ret u=>obtain⟨v,a,c,n,r,q⟩:=q;exact%[v,a,c,n,r|k2 v c q]
   . refine%[O,_,S,_,?_,T,hB,?_,?_,?_|?_]
     . have Z:V.length=ds.length:=r.length;refine%[by simp[L2.start,Z]|λ i d h=>?_];by_cases J:i<ds.length
       . rw[x9 (by simpa using J),y8]at h
         cases e:ds[i]? with
         | none=>rw[e]at h;cases h
         | some d'=>rw[e]at h;cases h;obtain⟨v,M,rv⟩:=r.get e;refine%[v,?_|rv];unfold L2.start;rw[x9 (by rw[y7,Z];exact J),y8,M];rfl
       {rw[dt (by simpa using J),List.getElem?_replicate]at h;split at h<;>cases h}
     {rintro a j ⟨O',ac,S',w,U,R,_⟩;exact q _ _ %[O',.non,S',w,U,R|.non]};{exact λ v j z=>q v j z};{rintro a j ⟨_,_,_,w,_⟩;exact w.elim};{rintro a j ⟨_,_,_,w,_⟩;exact w.elim}
end
end DL
namespace DL
open PySem PySem.Spec L2
open PyProof.Rows
variable{x:Str}{K:PySem.W.Frag}{O:Own}{H:Hp}{s:Shared}
def rk(env:Env)(n:Str)(k:NameKind):NameKind:=if(k==NameKind.free&&env.scope.kind==.function&&env.kindOf n==some .cell)=true then .cell else k
def j8(a:Scope)(env:Env):(relabel a env).names=a.names.map λ p=>(p.1,rk env p.1 p.2):=by show a.names.map _=_;congr 1;funext p;obtain⟨n,k⟩:=p;unfold rk;by_cases h:(k==NameKind.free&&env.scope.kind==.function&&env.kindOf n==some .cell)=true;{simp only[h,ij]};{simp only[h,e7,cw]}
theorem fH(g:Str->NameKind->NameKind)(x:Str):∀names:List (Str×NameKind),(names.map λ p=>(p.1,g p.1 p.2)).lookup x=(names.lookup x).map (g x)
 | []=>rfl
 | (n,k)::r=>by
   have b:=fH g x r;rw[cn,k7,k7]
   cases a:x==n with
   | true=>rw[ZU a];rfl
   | false=>exact b
def rB(env:Env)(n:Str)(k:NameKind):rk env n k=k\/(k=.free/\rk env n k=.cell):=by unfold rk;by_cases h:(k==NameKind.free&&env.scope.kind==.function&&env.kindOf n==some .cell)=true;{rw[c9 h];rw[fg,fg]at h;exact .inr %[ZU h.1.1|rfl]};{rw[bP h];exact .inl rfl}
def jV(h:(relabel a env).names.lookup x=some k):∃k0,a.names.lookup x=some k0/\(k=k0\/(k0=.free/\k=.cell)):=by
 rw[j8,fH]at h
 cases e:a.names.lookup x with
 | none=>rw[e]at h;cases h
 | some k0=>rw[e]at h;have b:rk env x k0=k:=cf h;refine%[k0,rfl|?_];rcases rB env x k0 with q | ⟨c,d⟩;{exact .inl (b.symm.trans q)};{exact .inr %[c|b.symm.trans d]}
def Cj(h:a.names.lookup x=some .free):(relabel a env).names.lookup x=some .cell\/(relabel a env).names.lookup x=some .free:=by rw[j8,fH,h];rcases rB env x .free with q | ⟨_,q⟩;{exact .inr (eL some q)};{exact .inl (eL some q)}
def closes(env:Env):List (Str×NameKind)->List (Str×Addr)->List (Str×Addr)
 | [],cs=>cs
 | (n,k)::r,cs=>closes env r (if k==.free then(n,(env.cells.lookup n).getD 0)::cs else cs)
def Ho:∀(names:ac5)(cs:ac8),(∀y∈names,y.2=.free->∃c,env.cells.lookup y.1=some c)->
 (forIn (m:=Sem) names cs λ x r=>if(x.2==.free)=true then do let a <-cellOf env x.1;pure (ForInStep.yield ((x.1,a)::r))else pure (ForInStep.yield r))=pure (closes env names cs):=by
 intro names
 induction names with
 | nil=>intro cs _;rw[kU];rfl
 | cons l r g=>
   obtain⟨n,k⟩:=l;intro cs h;rw[me];have f:=λ cs=>g cs λ y j=>h y (x4 _ j);by_cases d:(k==NameKind.free)=true
   . obtain⟨c,i⟩:=h (n,k) x6 (ZU d);have b:env.cells.lookup n=some c:=i;have e:cellOf env n=pure c:=by unfold cellOf;rw[b]
     have q:=f ((n,c)::cs);simp only[d,ij,e,pure_bind];rw[q];simp[closes,d,b]
   {have q:=f cs;simp only[d,e7,pure_bind,cw];rw[q];simp[closes,d]}
def lV(h:∀y∈a.names,y.2=.free->∃c,env.cells.lookup y.1=some c):closureFor a env=pure (closes env a.names []):=by
 have q:=Ho (env:=env) a.names [] h;unfold closureFor;first
  | (simp only[bind_pure];exact q)
  | (rw[show(forIn a.names ([]:List (Str×Addr)) _:Sem _)=_ from q];rfl)
  | (refine Eq.trans (eL (λ t=>t>>=pure) q) ?_;simp)
def Gb:∀(names:ac5)(cs:ac8),(∀y∈names,y.2=.free->∃c,env.cells.lookup y.1=some c)->(∀c,cs.lookup x=some c->env.cells.lookup x=some c)->(closes env names cs).lookup x=some c->env.cells.lookup x=some c:=by
 intro names
 induction names with
 | nil=>intro cs _ d h;exact d c h
 | cons p r l=>
   obtain⟨n,k⟩:=p;intro cs j d h;refine l _ (λ y o=>j y (x4 _ o)) ?_ h;intro i a;by_cases f:(k==NameKind.free)=true
   . rw[c9 f]at a;obtain⟨m,b⟩:=j (n,k) x6 (ZU f);have b:env.cells.lookup n=some m:=b;rw[k7]at a
     cases g:x==n with
     | true=>rw[g,b]at a;have e:x=n:=ZU g;subst e;simp only[Option.getD_some]at a;cases a;exact b
     | false=>rw[g]at a;exact d i a
   {rw[bP f]at a;exact d i a}
def lw:∀(names:ac5)(cs:ac8),((∃c,cs.lookup x=some c)\/names.lookup x=some .free)->∃c,(closes env names cs).lookup x=some c:=by
 intro names
 induction names with
 | nil=>intro cs h;rcases h with h | h;{exact h};{simp at h}
 | cons e r d=>
   obtain⟨n,k⟩:=e;intro cs h;refine d _ ?_;rcases h with⟨c,h⟩ | h
   . refine .inl ?_;by_cases b:(k==NameKind.free)=true
     . rw[c9 b,k7]
       cases a:x==n with
       | true=>exact%[_|rfl]
       | false=>exact%[c|h]
     {rw[bP b];exact%[c|h]}
   . rw[k7]at h
     cases a:x==n with
     | true=>rw[a]at h;simp only at h;cases h;refine .inl %[(env.cells.lookup n).getD 0|?_];simp[k7,a]
     | false=>rw[a]at h;exact .inr h
def gw(X:Cx)(sc:Scope)(N:ab8)(C:Addr)(s:ab5)(H:Hp)(ex:ad1)(cl:ac8):Cx:=
 {X with N:=N,s₀:=s,H₀:=H,env:=compEnvC sc cl C X.env,outer:=X.stack,stack:=X.stack,ex:=ex,fn:=λ x=>sc.names.lookup x==some .cell,pn:=[]}
def capt{α:Type}(cap:ac0)(xs:List (Option α)):List (Option α):=cap.map λ o=>o.bind λ j=>(xs[j]?).join
def bK(N:ab8)(names:ac5)(N':ab8)(names':ac5):List (Option Nat)->List Str->Bool
 | [],[]=>true
 | none::r,_::t=>bK N names N' names' r t
 | some j::r,x::t=>(N[j]? ==some x)&&(names.lookup x==some .cell||names.lookup x==some .free)&&(names'.lookup x==some .free)&&bK N names N' names' r t
 | _,_=>false
def M6:∀{a:ac0}{t:ab8},bK N names d b a t=true->a.length=t.length:=by
 intro a
 induction a with
 | nil=>
   intro t h
   cases t with
   | nil=>rfl
   | cons=>simp[bK]at h
 | cons o r c=>
   intro t h
   cases t with
   | nil=>cases o<;>simp[bK]at h
   | cons x t=>
     cases o with
     | none=>simp only[bK]at h;simp[c h]
     | some j=>simp only[bK,fg]at h;simp[c h.2]
def RW:∀{d:ac0}{t:ab8}{i j:Nat},bK N names l c d t=true->d[i]? =some (some j)->
 ∃x,t[i]? =some x/\N[j]? =some x/\(names.lookup x=some .cell\/names.lookup x=some .free)/\c.lookup x=some .free:=by
 intro d
 induction d with
 | nil=>intro t i j _ h;simp at h
 | cons o r f=>
   intro t i j h e
   cases t with
   | nil=>cases o<;>simp[bK]at h
   | cons x t=>
     cases o with
     | none=>
       cases i with
       | zero=>simp at e
       | succ i=>simp only[bK]at h;obtain⟨y,a,b⟩:=f (i:=i) h (by simpa using e);exact%[y,by simpa using a|b]
     | some k=>
       simp only[bK,fg]at h
       cases i with
       | zero=>obtain⟨⟨⟨m,g⟩,n⟩,_⟩:=h;simp at e;subst e;rw[kn]at g;exact%[x,rfl,ZU m,g.imp ZU ZU|ZU n]
       | succ i=>obtain⟨y,a,b⟩:=f (i:=i) h.2 (by simpa using e);exact%[y,by simpa using a|b]
def IW{i:Nat}{d:b}(h:(capt a xs)[i]? =some (some d)):∃j,a[i]? =some (some j)/\xs[j]? =some (some d):=by
 unfold capt at h;rw[y8]at h
 cases e:a[i]? with
 | none=>rw[e]at h;cases h
 | some o=>
   rw[e]at h
   cases o with
   | none=>simp at h
   | some j=>
     simp at h;refine%[j,rfl|?_]
     cases q:xs[j]? with
     | none=>rw[q]at h;cases h
     | some z=>rw[q]at h;simp at h;rw[h]
def EnvOk.capt(e:EnvOk K O H σ b)(a:ac0):EnvOk K O H (capt a σ) (capt a b):=by refine%[by simp[DL.capt]|λ i d h=>?_];obtain⟨j,f,c⟩:=IW h;obtain⟨v,g,r⟩:=e.at_ j d c;refine%[v,?_|r];unfold DL.capt;rw[y8,f];simp[g]
def Sub(Γ Γ':Gam):Prop:=Γ.length=Γ'.length/\∀(i:Nat)(d:D),Γ[i]? =some (some d)->Γ'[i]? =some (some d)
def Sub.refl(a:Gam):Sub a a:=%[rfl|λ _ _ h=>h]
def Sub.set(s:Sub b Γ')(i:Nat)(d:Option D)(h:b[i]? =some none:=by rfl):Sub b (Γ'.set i d):=%[by rw[List.length_set];exact s.1|λ j c a=>by
 have f:i≠j:=λ e=>by subst e;rw[h]at a;cases a
 rw[en f];exact s.2 j c a]
def EnvOk.sub(e:EnvOk K O H σ Γ')(s:Sub a Γ'):EnvOk K O H σ a:=%[e.len.trans s.1.symm|λ i d h=>e.at_ i d (s.2 i d h)]
def EnvOk.conv(e:EnvOk K O H σ g)(s:Conv O f H c):EnvOk K f c σ g:=
 %[e.len|λ i d h=>let ⟨v,a,b⟩:=e.at_ i d h;%[v,a|b.conv s]]
def freeOk(names names':ac5):Bool:=names'.all λ y=>!(y.2==.free)||(names.lookup y.1==some .cell||names.lookup y.1==some .free)
def ou(h:freeOk names a=true):∀y∈a,y.2=.free->names.lookup y.1=some .cell\/names.lookup y.1=some .free:=λ y b e=>by have q:=gc.mp h y b;simp only[e,fq,fh,Bool.false_or,kn,beq_iff_eq]at q;exact q
def uY(names:ac5):Bool:=match names.filter (λ y=>y.2==.cell)with
 | []=>true
 | [y]=>names.lookup y.1==some .cell
 | _=>false
def Ah(h:names.filter (λ y=>y.2==.cell)=[])(n:Nat)(acc:ac8)(b:Heap):cellsFrom n names acc=acc/\pushCells b names=b:=by
 induction names with
 | nil=>exact%[rfl|rfl]
 | cons y r e=>obtain⟨x,k⟩:=y;rw[oe]at h;by_cases a:(k==NameKind.cell)=true;{rw[c9 a]at h;cases h};{rw[bP a]at h;obtain⟨c,d⟩:=e h;unfold cellsFrom pushCells;rw[bP a,bP a];exact%[c|d]}
def xu(h:names.filter (λ y=>y.2==.cell)=[t])(n:Nat)(acc:ac8)(b:Heap):cellsFrom n names acc=(t.1,n)::acc/\pushCells b names=b.push {cls:=.type "cell",data:=.cell none}:=by
 induction names with
 | nil=>cases h
 | cons y r f=>obtain⟨x,k⟩:=y;rw[oe]at h;by_cases a:(k==NameKind.cell)=true;{rw[c9 a]at h;have e:=io h;obtain⟨c,d⟩:=Ah e.2 (n+1) ((x,n)::acc) (b.push {cls:=.type "cell",data:=.cell none});unfold cellsFrom pushCells;rw[c9 a,c9 a,c,d,<-e.1];exact%[rfl|rfl]};{rw[bP a]at h;obtain⟨c,d⟩:=f h;unfold cellsFrom pushCells;rw[bP a,bP a];exact%[c|d]}
def Wz
 (h:Q (newEnv scope s.heap.objs.size b (cellsFrom (s.heap.objs.size+1) scope.names a) c none .none (some outer) builtinsNs) {s with heap:=pushCells %[|23] scope.names}):
 wpAny M A (newFunctionEnv scope b a [] c none .none (some outer)) Q E s:=by simp only[newFunctionEnv,Option.isSome_some,ij];refine b0 (wpAny_alloc ?_);refine b0 (wpAny_layCells _ (λ g d e=>by cases f:d==NameKind.cell<;>simp[f]) _ _ _ _ ?_);rw[show({s with heap:=%[|23]}:Shared).heap.objs.size=s.heap.objs.size+1 from gl ..];rw[kU];exact b0 (b9 (b9 h))
structure CelsB(X:Cx)(sc:Scope)(cl:ac8)(z:Nat)(h1:Heap):Prop where
 lk:∀x c,cl.lookup x=some c->%[|25]\/(c=z/\sc.names.lookup x=some .cell/\h1.IsCell c none/\∀y,cl.lookup y=some c->y=x)
 has:∀x,sc.names.lookup x=some .cell\/sc.names.lookup x=some .free->∃c,cl.lookup x=some c
 cp:∀x c,sc.names.lookup x=some .free->%[|25]->cl.lookup x=some c
 ow:∀x c,sc.names.lookup x=some .cell->cl.lookup x=some c->z<=c
section
variable{X:Cx}
def Vr{pins:Pins}{σ:St}(I:%[|3])(A:∀b∈J,gn X pins H b)(R:∀b∈J,∃o,s.heap.get? b=some o)
 (D:n.kind=.function)(f:CelsB X n cl (s.heap.objs.size+2) h1)(P:∀y∈n.names,y.2=.free->X.env.kindOf y.1=some .cell\/X.env.kindOf y.1=some .free)(B:bK X.N X.env.scope.names F n.names C F=true)
 (k:∀b u,s.heap.get? b=some u->h1.get? b=some u)(hD:h1.get? s.heap.objs.size=some {cls:=.type "list",data:=.seq #[] 0})(hC:∃m,h1.Ns (s.heap.objs.size+1) m):
 Inv (gw X n F (s.heap.objs.size+1) s H J cl) [] (capt C σ) (upd H s.heap.objs.size (.lst [])) {s with heap:=h1,toks:=t}:=by
 have L:H s.heap.objs.size=none:=I.hok.fresh (y9 _);have M:H (s.heap.objs.size+1)=none:=I.hok.fresh (kB _);have N:H (s.heap.objs.size+2)=none:=I.hok.fresh %[|0];have V:∀b∈J,b<s.heap.objs.size:=λ b g=>let ⟨o,e⟩:=R b g;bX e;have K:∀{x c},%[|25]->c<s.heap.objs.size:=λ{x c} h=>by obtain⟨v,q⟩:=I.cell x c h;exact q.lt
 refine%[%[I.ok.mod,D,I.ok.glob,I.ok.blt,kB _,λ x y c a b=>?_,λ x hx=>?_,λ x c z e=>?_,I.ok.hd,I.ok.frames,.inl rfl,λ b g=>%[cq (ja (V b g))|λ x c h=>?_],
  I.bs,cS I.ok.bsz I.sz,λ b o e g=>?_,λ b g z=>?_,I.stack|I.stkFree],rfl,I.bare,Un.laid k (y9 _) L,?_,λ x c h=>?_,?_,λ x c h=>?_,λ p hp=>absurd (show p∈([]:Pins)from hp) (by simp),I.hok.laid k (y9 _) %[db _,[],0,.nil|hD]|?_];{rcases f.lk x c a with q | ⟨_,_,_,q⟩;{rcases f.lk y c b with E | ⟨_,_,_,E⟩;{exact I.ok.inj x y c q E};{exact E x a}};{exact(q y b).symm}}
 . have S:(relabel n X.env).names.lookup x=some .cell\/(relabel n X.env).names.lookup x=some .free:=hx;have z:n.names.lookup x=some .cell\/n.names.lookup x=some .free:=by rcases S with q | q;{obtain⟨k0,e,r⟩:=jV q;rcases r with r | r;{exact .inl (by rw[e,r])};{exact .inr (by rw[e,r.1])}};{obtain⟨k0,e,r⟩:=jV q;rcases r with r | r;{exact .inr (by rw[e,r])};{exact absurd r.2 %[|1]}}
   exact f.has x z
 {have z':n.names.lookup x=some .cell:=ZU z;have:=f.ow x c z' e;show s.heap.objs.size<=c;omega};{rcases f.lk x c h with q | ⟨q,_⟩;{exact(A b g).2.2.2.2.1 x c q};{exact λ e=>i5 _ (v3 (V b g) (by rw[<-e,q];exact gz _ _))}};{rcases(A b g).2.2.2.1 with z | z;{exact I.ok.noex b o e z};{exact absurd (v3 (bX e) (cS I.ok.bsz z)) (i5 _)}};{rcases ci.mp (I.stkSub b z)with q | q;{exact(A b g).2.1 q};{exact(A b g).2.2.1 q}}
 . obtain⟨m,hm⟩:=hC;refine%[m,hm|λ i x v W Y e3=>?_];obtain⟨j,hj,hv⟩:=IW Y;obtain⟨y,a,b,c,d⟩:=RW B hj;have G:F[i]? =some x:=W;rw[a]at G;cases G;obtain⟨m0,aa,hl⟩:=I.loc;have T:Vis X.env.scope x:=by rcases c with c | c;{exact .inr (.inl c)};{exact .inr (.inr c)}
   obtain⟨u,r,l⟩:=hl j x v b hv T;refine%[u,r|?_];rcases l with⟨q,_⟩ | ⟨q,U,hc,w⟩;{exfalso;have E:X.env.scope.names.lookup x=some .local:=q;rcases c with c | c<;>· rw[c]at E;cases E};{have Z:=f.cp x U d hc;obtain⟨o,Q,O⟩:=w;refine .inr %[?_,U,Z|%[o,k _ _ Q|O]];exact Cj d}
 {rcases f.lk x c h with q | ⟨_,_,q,_⟩;{obtain⟨v,o,Q,O⟩:=I.cell x c q;exact%[v,o,k _ _ Q|O]};{exact%[_|q]}};{show upd H s.heap.objs.size (.lst []) (s.heap.objs.size+1)=none;rw[aq (Nat.succ_ne_self _)];exact M};{rcases f.lk x c h with q | ⟨q,_⟩;{rw[aq (cq (K q))];exact I.freeC x c q};{subst q;rw[aq (fk (Nat.lt_add_of_pos_right %[|1]))];exact N}};{show(capt C σ).length=F.length;rw[<-M6 B];simp[capt]}
def uR{Q:a->Shared->Prop}(b:E=λ _ _=>False)(h:wpAny M A t Q E s):wpAny M A t Q E' s:=gy h (λ _ _ q=>q) λ _ _ z=>by rw[b]at z;exact z.elim
def TsA(X:Cx)(Γ:Gam)(S:Store):List Expr->(Bool->%[|4])->Prop
 | [],W=>W true S
 | [c],W=>Ts X Γ S c W
 | _,_=>False
def V3(h:TsA X b S a W){pins:Pins}{σ:St}(I:%[|3])(env:EnvOk X.K O H σ b)(st:%[|14]):
 wpAny %[|6] X.A (forIn a true λ c r=>if r=true then do let ok <-isTrue c X.env (eval c X.env);pure (ForInStep.yield ok)else pure (ForInStep.yield r)) (TP X pins σ (QT X.K O H W)) X.xe s:=by
 match a,h with
 | [],h=>exact wpAny_tests_nil %[H,I,O,S,h,Step.refl O H|st]
 | [c],h=>exact wpAny_tests_one (h pins s σ H O I env st)
 | _::_::_,h=>exact h.elim
def jH(K:ab2)(J:It)(O:Own)(H:Hp)(C:%[|4])(ds:List D):Prop:=
 ∀(c:Own)(b:Hp)(e:Store),Conv O c H b->StOk K c b e->C e->∀i:Nat,(∀d,ds[i]? =some d->J.go i b/\∀x a,J.yld i b x a->dR b a/\Rep K c a x d)/\(i=ds.length->J.stop i b)
inductive QIc(K:ab2)(O:Own)(H:Hp)(W:List D->%[|4]->%[|4])(J:It)(H':Hp):Prop
 | mk(O':Own)(ds:List D)(C:%[|4])(S':Store)(w:W ds C S')(q:And3 (Step O O' H H') (StOk K O' H' S') (jH K J O' H' C ds)):QIc K O H W J H'
def ItC(X:Cx)(Γ:Gam)(S:Store)(tg iter:Expr)(W:List D->%[|4]->%[|4]):Prop:=
 ∀ (a:Pins)(s:ab5)(b:St)(H:Hp)(O:Own),Inv X a b H s->EnvOk X.K O H b Γ->%[|14]->
   wpAny %[|6] X.A (eval iter X.env) (λ v c=>wpAny %[|6] X.A (pyIter v) (PIE X a b tg (QIc X.K O H W)) X.xe c) X.xe s
def rY(y:iB K J O H ds):jH K J O H (λ _=>True) ds:=λ c b g f e _ i=>y c b f (λ a d=>e.tracked d) i
def abI(h:ItW X e S d iter λ ds S1=>W ds (λ _=>True) S1):ItC X e S d iter W:=λ a s y H O I b r=>
 thn (h a s y H O I b r) λ _ _ q=>thn q λ _ _ c=>by obtain⟨p,o,t,J,f,j,k,l,m,n,g,ds,i,w,u,v,x⟩:=c;exact%[p,o,t,J,f,j,k,l,m,n,g,ds,_,i,w,u,v|rY x]
abbrev zF(X:Cx)(sc:Scope)(N':ab8)(cap:ac0)(Γ:Gam)(elt tg:Expr)(ifs:ac2)(W:WD):List D->%[|4]->%[|4]:=λ g l m=>
 g.length<=1000000/\∃e:Nat->List D->%[|4],e 0 [] m/\(∀i a b,e i a b->l b)/\
  (∀i d a b,g[i]? =some d->e i a b->∀(C:Addr)(s:ab5)(H:Hp)(h:ad1)(f:ac8),BdW (gw X sc N' C s H h f) tg d (capt cap Γ) b λ c n=>Sub (capt cap Γ) c/\
   TsA (gw X sc N' C s H h f) c n ifs λ k j=>(k=true->Ev (gw X sc N' C s H h f) c j elt λ y o=>e (i+1) (a++[y]) o)/\(k=false->e (i+1) a j))/\
  ∀a b,e g.length a b->W (.lst a) b\/W (.loc b.length) (b++[a])
def xF{pins:Pins}{σ:St}
 {RR:Value->Addr->Result->Shared->Prop}
 (hx:X.xe=λ _ _=>False)(hc:X.calm=true)(az:f.kind=.function)(F:uY f.names=true)(ae:∀y∈f.names,y.2=.free->X.env.kindOf y.1=some .cell\/X.env.kindOf y.1=some .free)
 (aQ:bK X.N X.env.scope.names N' f.names N N'=true)(h:ItC X Γ S tg iter (zF X f N' N Γ al tg ar W))(I:%[|3])(env:EnvOk X.K O H σ Γ)(st:%[|14])
 (fin:∀(s':ab5)(g:Hp)(D0 C:Addr)(m:ab9),Inv X pins σ g s'->s'.heap.Ns C m->gn X pins g C->D0≠C->QG X.K O H W (.ref D0) g->RR (.ref D0) C (.ok .next) s'):
 wpAny %[|6] X.A (eval iter X.env) (λ x s₁=>wpAny %[|6] X.A (pyIter x) (λ it s₂=>wpAny %[|6] X.A (newList []) (λ acc s₃=>
  wpAny %[|6] X.A (newFunctionEnv f X.env.globals (closes X.env f.names []) [] X.env.qual none .none (some X.env)) (λ cenv s₄=>
   codeAny %[|6] X.A (.compStart (.ListComp al [%[tg,iter,ar|0]] f ab) 0 it acc {cenv with scope:=relabel f X.env}) (RR acc cenv.locals) s₄) E s₃) E s₂) E s₁) E s:=by
 refine thn (uR hx (h pins s σ H O I env st)) λ xv s1 h1=>thn (uR hx h1) λ bk s2 h2=>?_;obtain⟨it,fp,tn,J,H2,e,I2,T,aG,f2,l,ds,C0,S2,⟨hz,Pv,p0,pC,pt,pe⟩,aI,aE,yl⟩:=h2;subst e;refine da (Wz ?_);dsimp only;have L:H2 s2.heap.objs.size=none:=I2.hok.fresh (y9 _);have aB:(s2.heap.push {cls:=.type "list",dict:=none,data:=.seq ([]:List Value).toArray}).objs.size=s2.heap.objs.size+1:=gl ..;rw[aB];have aX:=Heap.Ns.new (s2.heap.push {cls:=.type "list",dict:=none,data:=.seq ([]:List Value).toArray}) (.type "dict");rw[aB]at aX;obtain⟨cl,P⟩:∃cl,cellsFrom (s2.heap.objs.size+1+1) f.names (closes X.env f.names [])=cl:=%[_|rfl];obtain⟨h₁,an⟩:∃h₁,pushCells ((s2.heap.push {cls:=.type "list",dict:=none,data:=.seq ([]:List Value).toArray}).push %[|28]) f.names=h₁:=%[_|rfl];have ao:h₁.Ns (s2.heap.objs.size+1) (λ _=>none):=by rw[<-an];exact aX.keeps (pushCells_keeps _ _)
 have aW:∀b u,(s2.heap.push {cls:=.type "list",dict:=none,data:=.seq ([]:List Value).toArray}).get? b=some u->h₁.get? b=some u:=λ b u e=>by rw[<-an];exact pushCells_keeps _ _ b u (bE _ e)
 have kp:∀b u,s2.heap.get? b=some u->h₁.get? b=some u:=λ b u e=>aW b u (bE _ e);have ba:h₁.get? s2.heap.objs.size=some {cls:=.type "list",data:=.seq #[] 0}:=aW _ _ (bS _ rfl);have hf:∀y∈f.names,y.2=.free->∃c,X.env.cells.lookup y.1=some c:=λ y hy e=>I.ok.has y.1 (ae y hy e);have bb :CelsB X f cl (s2.heap.objs.size+2) h₁:=by
  have U:∀{x c},(closes X.env f.names []).lookup x=some c->%[|25]:=λ{x c} h=>Gb f.names [] hf (λ c h=>by simp at h) h;have aJ:∀x c,f.names.lookup x=some .free->%[|25]->(closes X.env f.names []).lookup x=some c:=λ x c d hc=>by obtain⟨c2,h2⟩:=lw (env:=X.env) f.names [] (.inr d);have e:=U h2;rw[hc]at e;cases e;exact h2
  unfold uY at F;split at F
  . rename_i aa;have e1:=(Ah aa (s2.heap.objs.size+1+1) (closes X.env f.names []) s2.heap).1;rw[P]at e1;have no:∀x,f.names.lookup x≠some .cell:=λ x z=>by have:(x,NameKind.cell)∈f.names.filter (λ y=>y.2==.cell):=gN.mpr %[ii z|rfl];rw[aa]at this;cases this
    rw[e1];exact%[λ x c h=>.inl (U h),λ x hx=>hx.elim (λ z=>absurd z (no x)) λ z=>lw f.names [] (.inr z),aJ|λ x c z=>absurd z (no x)]
  . rename_i y aa;have hy:f.names.lookup y.1=some .cell:=ZU F;obtain⟨e1,_⟩:=xu aa (s2.heap.objs.size+1+1) (closes X.env f.names []) s2.heap;rw[P]at e1;have e2:=(xu aa 0 [] ((s2.heap.push {cls:=.type "list",dict:=none,data:=.seq ([]:List Value).toArray}).push %[|28])).2;rw[an]at e2;have e3:((s2.heap.push {cls:=.type "list",dict:=none,data:=.seq ([]:List Value).toArray}).push %[|28]).objs.size=s2.heap.objs.size+2:=by rw[gl,aB]
    have a3:h₁.IsCell (s2.heap.objs.size+2) none:=by rw[e2,<-e3];exact%[_,bS _ rfl|rfl]
    have only:∀x,f.names.lookup x=some .cell->x=y.1:=λ x z=>by have:(x,NameKind.cell)∈f.names.filter (λ y=>y.2==.cell):=gN.mpr %[ii z|rfl];rw[aa]at this;have:=cb.mp this;rw[<-this]
    have bg:∀{x c},(closes X.env f.names []).lookup x=some c->c<s2.heap.objs.size:=λ{x c} h=>by obtain⟨v,q⟩:=I2.cell x c (U h);exact q.lt
    have af:∀x,cl.lookup x=if x=y.1 then some (s2.heap.objs.size+1+1)else(closes X.env f.names []).lookup x:=λ x=>by rw[e1,k7];by_cases z:x=y.1;{subst z;simp};{rw[bP z,pv.mpr z]}
    refine%[λ x c h=>?_,λ x hx=>?_,λ x c d hc=>?_|λ x c z h=>?_];{rw [af]at h;by_cases z:x=y.1;{rw[c9 z]at h;cases h;refine .inr %[rfl,by rw[z];exact hy,a3|λ u hu=>?_];rw[af]at hu;by_cases z2:u=y.1;{rw[z2,z]};{rw[bP z2]at hu;exact(i5 _ (kH (gz _ 2) (bg hu))).elim}};{rw[bP z]at h;exact .inl (U h)}};{rw[af];by_cases z:x=y.1;{exact%[_|c9 z]};{rw[bP z];exact hx.elim (λ q=>absurd (only x q) z) λ q=>lw f.names [] (.inr q)}};{rw[af,bP (λ z=>by rw[z,hy]at d;cases d)];exact aJ x c d hc};{rw[af,c9 (only x z)]at h;cases h;exact y9 _}
  {cases F}
 rw[P,an];have aS:∀b∈fp,∃o,s2.heap.get? b=some o:=λ b k=>let ⟨o,e,_⟩:=T.obj _ _ aG b k;%[o|e];have I4:=Vr (t:=s2.toks) (h1:=h₁) I2 f2 aS az bb ae aQ kp ba %[_|ao];generalize hX':gw X f N' (s2.heap.objs.size+1) s2 H2 fp cl=X' at I4;have aZ:=λ i d acc S' a b=>pt i d acc S' a b (s2.heap.objs.size+1) s2 H2 fp cl;rw[hX']at aZ;have eP:X'.prog=X.prog:=by rw[<-hX'];rfl
 have ew:X'.w=X.w:=by rw[<-hX'];rfl
 have eK:X'.K=X.K:=by rw[<-hX'];rfl
 have eA:X'.A=X.A:=by rw[<-hX'];rfl
 have ec:X'.calm=true:=by rw[<-hX'];exact hc
 have am:X'.xe=λ _ _=>False:=by rw[<-hX'];exact hx
 have ac:X'.env=compEnvC f cl (s2.heap.objs.size+1) X.env:=by rw[<-hX'];rfl
 have ad:X'.ex=fp:=by rw[<-hX'];rfl
 have aN:X'.outer=X.stack:=by rw[<-hX'];rfl
 have aO:X'.s₀=s2:=by rw[<-hX'];rfl
 have a5:X'.H₀=H2:=by rw[<-hX'];rfl
 have a6:X'.pn=[]:=by rw[<-hX'];rfl
 have aj:∀{H':Hp},(∀b∈fp,H' b=none)->∀b∈fp,gn X' [] H' b:=λ hn b k=>by refine%[hn b k,(I4.ok.exf b (by rw[ad];exact k)).1,I4.ok.exfs b (by rw[ad];exact k),.inl (by rw[ad];exact k),(I4.ok.exf b (by rw[ad];exact k)).2|λ p hp=>?_];rw[a6]at hp;exact absurd hp (by simp)
 have av:∀s₃:Shared,s₃={s2 with heap:=h₁}->
  codeAny %[|6] X.A (.compLoop (.ListComp al [%[tg,iter,ar|0]] f ab) 0 (.ref it) (.ref s2.heap.objs.size) (compEnvC f cl (s2.heap.objs.size+1) X.env))
   (RR (.ref s2.heap.objs.size) (s2.heap.objs.size+1)) s₃:=by
  intro s₃ es;rw[<-ac];refine codeAny_loop rfl (λ n s'=>∃i acc Y g A Z G,n=ds.length-i/\i<=ds.length/\Inv X' [] G g s'/\tn i s'.heap/\(∀b∈fp,g b=none)/\Pv i acc Z/\g s2.heap.objs.size=some (.lst Y)/\Y.length<=i/\
   Reps X.K %[A|s2.heap.objs.size::l.B] g Y acc/\Step l %[A|l.B] H2 g/\StOk X.K %[A|s2.heap.objs.size::l.B] g Z/\EnvOk X.K %[A|s2.heap.objs.size::l.B] g G (capt N Γ)) ?_ ds.length ?_
  . rintro n s' ⟨i,acc,Y,g,A,Z,G,rfl,hi,Ic,a0,aP,pc,aC,aU,rc,ag,Q,aM⟩;show wpAny _ _ ((compTurn (.ListComp al [%[tg,iter,ar|0]] f ab) 0 (.ref it) (.ref s2.heap.objs.size) X'.env).onRaise (λ x=>do noteFrame x X'.env;theTreesLotGoes x)) _ _ s';refine wpAny_noted ?_;rw[compTurn_list];refine b0 (wpAny_standAt (b0 ?_));have cv:Conv l %[A|s2.heap.objs.size::l.B] H2 g:=by refine%[λ a u n t=>?_|ag.conv.lc];obtain⟨x1,x2⟩:=ag.conv.tr a u n t;refine%[λ z=>?_|x2];rcases z with z | z;{exact x1 (.inl z)};{rcases ci.mp z with z | z;{subst z;rw[L]at t;cases t};{exact x1 (.inr z)}}
    obtain⟨y1,y2⟩:=yl _ _ _ cv Q (pC _ _ _ pc) i;by_cases aA:i<ds.length
    . obtain⟨go,yy⟩:=y1 ds[i] (y3 aA);have aV:=T.item X' eP ew eK ec i [] s' G g (λ _ _=>False) Ic (aj aP) a0 go;rw[eA]at aV;refine gy aV (λ r s3 j=>?_) λ _ _ z=>z.elim;obtain⟨u,hr,h3⟩:=j;subst hr;refine b0 (gy h3 (λ _ s5 j=>?_) λ _ _ z=>z.elim);obtain⟨x,H5,I5,r5,y5,aH,a8⟩:=j;obtain⟨sm,rx⟩:=yy x H5 y5;have a2:=I5.pinned (aj a8) (T.obj _ _ aH);have ax:=Step.same (O:=%[A|s2.heap.objs.size::l.B]) sm;have bd:=aZ i ds[i] acc Z (y3 aA) pc _ s5 G H5 %[A|s2.heap.objs.size::l.B] x u a2 (by rw[eK];exact aM.mono ax) (by rw[eK];exact Q.same sm) (by rw[eK];exact rx) r5;rw[eP,ew,eA]at bd;refine b0 (gy (uR (E':=λ _ _=>False) am bd) (λ _ s6 j=>?_) λ _ _ z=>z.elim);obtain⟨ak,H6,I6,O6,bl,S6,⟨ay,w6⟩,bi,aY,K⟩:=j;have a1:=V3 w6 I6 K aY;rw[eP,ew,eA]at a1;refine b0 (gy (uR (E':=λ _ _=>False) am a1) (λ ok s7 j=>?_) λ _ _ z=>z.elim);obtain⟨H7,I7,O7,S7,w7,au,aF⟩:=j;have M:Step %[A|s2.heap.objs.size::l.B] O7 g H7:=ax.trans (bi.trans au);have bj:O7.B=s2.heap.objs.size::l.B:=M.hid;have next:∀(s9:ab5)(H8:Hp)(O8:Own)(S8:Store)(ys:List V)(R:List D),Step %[A|s2.heap.objs.size::l.B] O8 g H8->
       StOk X.K O8 H8 S8->EnvOk X.K O8 H8 ak (capt N Γ)->Pv (i+1) R S8->Inv X' ([]++nC fp s5.heap) ak (upd H8 s2.heap.objs.size (.lst ys)) s9->Reps X.K O8 H8 ys R->ys.length<=i+1->
       ∃ m,m<ds.length-i/\∃i acc Y g A Z G,m=ds.length-i/\i<=ds.length/\Inv X' [] G g s9/\tn i s9.heap/\(∀b∈fp,g b=none)/\Pv i acc Z/\g s2.heap.objs.size=some (.lst Y)/\Y.length<=i/\
         Reps X.K %[A|s2.heap.objs.size::l.B] g Y acc/\Step l %[A|l.B] H2 g/\StOk X.K %[A|s2.heap.objs.size::l.B] g Z/\EnvOk X.K %[A|s2.heap.objs.size::l.B] g G (capt N Γ):=by
       intro s9 H8 O8 S8 ys R ai as aK p8 I8 r8 bc;have eB:O8.B=s2.heap.objs.size::l.B:=ai.hid;obtain⟨A8,B8⟩:=O8;have a4:B8=s2.heap.objs.size::l.B:=eB;subst a4;have aD:s2.heap.objs.size∈(%[A8|s2.heap.objs.size::l.B]:Own).B:=x6;refine%[ds.length-(i+1),%[|0],i+1,R,ys,_,A8,S8,ak,rfl,aA,I8.unpinned,T.keep _ _ _ aH λ b k o e=>(I8.pin (b,o) (fb _ (fb _ (gW k e)))).1,λ b k=>?_,p8,aL,bc,
        r8.conv (Conv.updHid aD _),ag.inner ai L _,as.updHid aD _|aK.conv (Conv.updHid aD _)];obtain⟨o,e,d⟩:=T.obj _ _ aH b k;exact(I8.pin (b,o) (fb _ (fb _ (gW k e)))).2.1
      rw[eK]at aF K aY;have aR:∀{O':Own}{H':Hp}{S':Store},Step %[A|s2.heap.objs.size::l.B] O' g H'->H' s2.heap.objs.size=some (.lst Y):=λ bh=>
       bh.kept _ _ (λ z=>Q.apart _ z x6) aC
      cases ok with
      | false=>
        refine b9 %[rfl|?_];have be:=aR (S':=S7) M;have a7:upd H7 s2.heap.objs.size (.lst Y)=H7:=by funext b;by_cases k:b=s2.heap.objs.size;{subst k;rw[aL];exact be.symm};{exact aq k}
        exact next s7 H7 O7 S7 Y acc M aF ((K.mono au).sub ay) (w7.2 rfl) (by rw[a7];exact I7) (rc.mono M) (Nat.le_succ_of_le aU)
      | true=>
        have el:=w7.1 rfl _ s7 ak H7 O7 I7 (by rw[eK];exact K.mono au) (by rw[eK];exact aF);rw[eP,ew,eA]at el;refine b0 (b0 (gy (uR (E':=λ _ _=>False) am el) (λ xe s8 j=>?_) λ _ _ z=>z.elim));obtain⟨v8,H8,I8,r8,O8,y,S8,w8,ai,as,aw⟩:=j;rw[eK]at as aw;have ah:=M.trans ai;have bf:=aR (S':=S8) ah;have ap:=wQ (X:=X') _ s8 ak H8 (.ref s2.heap.objs.size) [v8] (.ref s2.heap.objs.size) [xe] (λ v H'=>H'=upd H8 s2.heap.objs.size (.lst (Y++[v8]))) I8 rfl (.cons r8 .nil)
         %[s2.heap.objs.size,Y,v8,rfl,rfl,bf,kH (cS aU (cS hi hz)) %[|1]|rfl];rw[eP,ew,eA]at ap;refine b0 (gy (uR (E':=λ _ _=>False) am ap) (λ _ s9 j=>b9 (b9 %[rfl|?_])) λ _ _ z=>z.elim);obtain⟨_,H9,I9,_,e9⟩:=j;subst e9;exact next s9 H8 O8 S8 (Y++[v8]) (acc++[y]) ah as (((K.mono au).mono ai).sub ay) w8 I9 ((rc.mono ah).append (.cons aw .nil)) (by rw[x8,hH];omega)
    . have e:i=ds.length:=%[|0]
      subst e;have dn:=T.done X' eP ew eK ec ds.length [] s' G g (λ _ _=>False) Ic (aj aP) a0 (y2 rfl);rw[eA]at dn;refine gy dn (λ r s3 j=>?_) λ _ _ z=>z.elim;obtain⟨hr,I3⟩:=j;subst hr;refine b9 ?_;obtain⟨m,hm,_⟩:=I3.loc;have un:Un (frs X.stack) fp H2 g s2.heap s3.heap:=by have:=I3.base;rw[ad,a5,aO]at this;show Un (frs X.stack) fp H2 g s2.heap s3.heap;rw[<-aN];exact this
      have os:s3.os=s2.os:=by have:=I3.os;rw[aO]at this;exact this
      have aT:HOk X.prog X.w g s3.heap:=by have:=I3.hok;rw[eP,ew]at this;exact this
      have IX:Inv X pins σ g s3:=I2.call' os un aT I3.bare (λ b k=>%[(f2 b k).2.2.2.1,(f2 b k).2.1,(f2 b k).2.2.2.2.1|(f2 b k).2.2.2.2.2]);have a9:g (s2.heap.objs.size+1)=none:=by have:=I3.free;rw[ac]at this;exact this
      refine fin s3 g _ _ m IX (by rw[ac]at hm;exact hm) (I2.fpOk (kB _) a9) (cq (og _)) ?_;rcases pe acc Z pc with w | w;{refine%[%[A|l.B],.lst acc,Z,w,aI.trans ag,Q.unhide|.lst (.inl %[λ z=>?_|.inl aC]) (rc.conv Conv.unhide)];rcases z with z | z;{exact Q.apart _ z x6};{exact aE.hidden _ z L}};{refine%[%[A++[(s2.heap.objs.size,false)]|l.B],.loc Z.length,Z++[acc],w,aI.trans (ag.adopt L),Q.adopt (λ z=>aE.hidden _ z L) aC rc|.loc ?_];have el:A.length=Z.length:=Q.len;show(A++[(s2.heap.objs.size,false)])[Z.length]? =some _;rw[<-el];simp}
  {refine%[0,[],[],upd H2 s2.heap.objs.size (.lst []),l.A,S2,capt N σ,rfl,db _,by rw[es];exact I4,by rw[es];exact T.keep 0 s2.heap h₁ aG λ b k o e=>kp b o e,λ b k=>?_,p0,aL,y9 0,.nil,Step.fresh L _,aE.hide L _|((env.mono aI).capt N).conv (Conv.hide L _)];obtain⟨o,e⟩:=aS b k;rw[aq (cq (bX e))];exact(f2 b k).1}
 exact codeAny_compStart_list (av _ rfl) (T.self _ 0 _ _ _ (T.keep 0 s2.heap h₁ aG λ b k o e=>kp b o e) (av _ rfl))
variable{Γ:Gam}{S:Store}{elt tg iter:Expr}{ifs:List Expr}{sc:Scope}{pos:Pos}{N':List Str}{cap:List (Option Nat)}
def V2(n:ab8)(j:ac0)(h:ItC X Γ S tg iter (zF X sc n j Γ elt tg ifs W))(M:X.xe=λ _ _=>False:=by rfl)(J:X.calm=true:=by rfl)(d:sc.kind=.function:=by rfl)
 (i:uY sc.names=true:=by rfl)(t:freeOk X.env.scope.names sc.names=true:=by rfl)
 (f:∀y∈sc.names,y.2=.local->sc.names.lookup y.1=some .local:=by decide+kernel)(k:bK X.N X.env.scope.names n sc.names j n=true:=by rfl)(hs:∀x,foldedSetIterable iter X.env x=pure x:=by intro _;rfl):
 Ev X Γ S (.ListComp elt [%[tg,iter,ifs|0]] sc pos) W:=by intro l s Q H O I r P;have a:∀y∈sc.names,y.2=.free->X.env.kindOf y.1=some .cell\/X.env.kindOf y.1=some .free:=ou t;have K:∀y∈sc.names,y.2=.free->∃c,X.env.cells.lookup y.1=some c:=λ y N e=>I.ok.has y.1 (a y N e);rw[eval_ListComp];refine wpAny_comprehension_free (use:=none) (g:=%[tg,iter,ifs|0]) (gs:=[]) rfl hs (lV K) d f ?_;refine xF (RR:=λ p C=>compPost %[|6] X.A X.xe none (EP X l Q (QG X.K O H W)) p C) M J d i a k h I r P ?_;intro s' v u C m w L F U q;refine%[m,L|λ T sb=>%[.ref u,v,?_,rfl|q]];obtain⟨z,A,R,B,D,E⟩:=F;exact w.turned (t':=s'.toks) (λ b o G e=>(sb.2 b G).trans e) z A B D E
def Mg(i:Nat){f p}{W}(E:ab8)(t:ac0)(h:ItC X Γ S tg iter (zF X sc E t Γ elt tg ifs λ d S1=>W.nx (Γ.set i (some d)) S1))(hN:X.N.Nodup)(hi:X.N[i]? =some x:=by rfl)
 (hl:Loc X.env.scope x:=by first | exact Or.inl rfl | exact Or.inr rfl)(L:swapsWith (.ListComp elt [%[tg,iter,ifs|0]] sc pos) (some (.Name x f)) p.line X.env=pure true:=by rfl)
 (G:X.fn x=true\/X.env.scope.names.lookup x=some .local:=by first | exact .inl rfl | exact .inr rfl)(hx:X.xe=λ _ _=>False:=by rfl)(hc:X.calm=true:=by rfl)(k:sc.kind=.function:=by rfl)
 (r:uY sc.names=true:=by rfl)(J:freeOk X.env.scope.names sc.names=true:=by rfl)
 (l:∀y∈sc.names,y.2=.local->sc.names.lookup y.1=some .local:=by decide+kernel)(v:bK X.N X.env.scope.names E sc.names t E=true:=by rfl)(hs:∀x,foldedSetIterable iter X.env x=pure x:=by intro _;rfl):
 Rn X Γ S (.Assign [.Name x f] (.ListComp elt [%[tg,iter,ifs|0]] sc pos) p) W:=by
 intro n s σ H O I u st;have j:∀y∈sc.names,y.2=.free->X.env.kindOf y.1=some .cell\/X.env.kindOf y.1=some .free:=ou J;have hf:∀y∈sc.names,y.2=.free->∃c,X.env.cells.lookup y.1=some c:=λ y hy e=>I.ok.has y.1 (j y hy e);rw[exec_Assign_Name_used _ _ _ _ L];refine b0 (wpAny_standAt (b0 ?_));show wpAny _ X.A (do let _ <-comprehension (.ListComp elt [%[tg,iter,ifs|0]] sc pos) sc X.env _ (newList []) false (eval iter X.env) (some (assign (.Name x f) X.env))) _ _ s;refine b0 (gy (wpAny_comprehension_free (use:=some (assign (.Name x f) X.env)) (g:=%[tg,iter,ifs|0]) (gs:=[]) (Q:=λ _ A=>SP X n (ends X.K O H W) .next A) rfl hs (lV hf) k l ?_) (λ _ A hq=>b9 (b9 hq)) λ _ _ e=>e);refine xF (RR:=λ F C=>compPost %[|6] X.A X.xe (some (assign (.Name x f) X.env)) (λ _ A=>SP X n (ends X.K O H W) .next A) F C) hx hc k r j v h I u st ?_;intro A U D C m V hm fp ne q;show wpAny _ X.A (assign (.Name x f) X.env (.ref D)) _ _ _;refine wpAny_assign_Name (wU V hN hi hl (show RelV (.ref D) (.ref D)from rfl) (λ s2 Y K=>?_) G);obtain⟨a,sa,ha⟩:=K;obtain⟨f0,R,f2,f3,T,f5⟩:=fp;have M:C≠a:=by rcases ha with z | z;{rw[z];exact R};{exact(T x a z).symm}
 refine%[m,hm.sameBut sa M|λ h' sb=>?_];obtain⟨Z,d,S',w,B,N,P⟩:=q;exact%[_,U,Y.turned (t':=s2.toks) (λ b o hb e=>(sb.2 b hb).trans e) f0 R f3 T f5,Z,_,S',w,B,N|(u.mono B).set P i]
end
end DL
namespace DL
open PySem PySem.Spec L2
open PyProof.Rows
def tyD:D->String
 | .non=>"NoneType" | .bl _=>"bool" | .int _=>"int" | .str _=>"str" | .tup _=>"tuple" | .lst _=>"list" | .loc _=>"list" | .dic=>"dict" | .dlo _=>"dict"
def isi(t c:String):Bool:=t==c||(t=="bool"&&c=="int")
def isT(c:String):Bool:=c=="int"||c=="bool"||c=="tuple"||c=="list"||c=="str"
def kit_at(K:ab2)(d:D)(a:isT c=true):PySem.W.kitOne K (.type (tyD d)) (.type c)=some (isi (tyD d) c):=by simp only[isT,kn,beq_iff_eq]at a;rcases a with(((h | h) | h) | h) | h<;>subst h<;>cases d<;>kernel_rfl
section
variable{X:Cx}{Γ:Gam}{S:Store}{W:WD}{a b e:Expr}{es:List Expr}{pos:Pos}
def Ij{pins:Pins}{σ:St}(I:%[|3])(st:%[|14])(r:Rep X.K O H v d)(f:RelV v u)
 (b:∀{x t:Value}{G:Heap->Prop},PySem.W.KitX X.K x t G->t=.type (tyD d)->G s.heap->x≠.builtin "__main__.__loader__#opaque"->wpAny %[|6] A (call (.builtin "isinstance") [x,c]) Q E s):
 wpAny %[|6] A (call (.builtin "isinstance") [u,c]) Q E s:=by
 cases r with
 | non=>cases f;exact b PySem.W.kitx_none rfl True.intro (λ z=>nomatch z)
 | bl y=>cases f;exact b PySem.W.kitx_bool rfl True.intro (λ z=>nomatch z)
 | int y=>obtain⟨t,rfl⟩:=f;exact b PySem.W.kitx_int rfl True.intro (λ z=>nomatch z)
 | str y=>obtain⟨t,rfl⟩:=f;exact b PySem.W.kitx_str rfl True.intro (λ z=>nomatch z)
 | tup q K=>cases f;obtain⟨i,_,⟨o,g,a,_⟩,_⟩:=I.tuple q.sq;exact b PySem.W.kitx_tuple rfl %[o,g|a] (λ z=>nomatch z)
 | lst q K=>cases f;obtain⟨i,_,F,_⟩:=I.list q.sq;obtain⟨o,g,a,_⟩:=F.isList;exact b PySem.W.kitx_list rfl %[o,g|a] (λ z=>nomatch z)
 | @loc p k h=>
   cases f;have B:k<S.length:=by rw[<-st.len];exact(z0.mp h).1
   obtain⟨L,e,_⟩:=st.obj k p S[k] h (y3 B);obtain⟨i,_,F,_⟩:=I.list (SqL.of e);obtain⟨o,g,a,_⟩:=F.isList;exact b PySem.W.kitx_list rfl %[o,g|a] (λ z=>nomatch z)
 | @dic p q g=>cases f;obtain⟨_,_,M,_,o,l,w,a,h4,_⟩:=(show aN X.prog X.w H s.heap p (.dK [])from I.hok p _ g);exact b kP rfl %[o,a|h4.1] (λ z=>nomatch z)
 | @dlo p k h J=>
   cases f;have B:k<S.length:=by rw[<-st.len];exact(z0.mp h).1
   cases st.dob k p S[k] h (y3 B)with
   | t C e _=>obtain⟨_,_,L,_,o,l,w,a,h4,_⟩:=(show aN X.prog X.w H s.heap p (.dT C)from I.hok p _ e);exact b kP rfl %[o,a|h4.1] (λ z=>nomatch z)
   | c j _ e _=>obtain⟨⟨_,_,_,o,l,w,a,h4,_⟩,_,_⟩:=(show aN X.prog X.w H s.heap p (.ext (QV p j))from I.hok p _ e);exact b kP rfl %[o,a|h4.1] (λ z=>nomatch z)
   | o j _ e _=>obtain⟨⟨_,_,_,o,l,w,a,h4,_⟩,_,_⟩:=(show aN X.prog X.w H s.heap p (.ext (Sx p j))from I.hok p _ e);exact b kP rfl %[o,a|h4.1] (λ z=>nomatch z)
   | m j _ _ e _=>obtain⟨⟨_,_,_,o,l,a,h4,_⟩,_,_⟩:=(show aN X.prog X.w H s.heap p (.ext (bc p j))from I.hok p _ e);exact b kP rfl %[o,a|h4.1] (λ z=>nomatch z)
   | p _ n=>exact absurd J n
def Xh{p q}(h:Ev X Γ S a λ x S1=>W (.bl (isi (tyD x) Tn)) S1)(C:isT Tn=true)(D:bootBuiltins T=some (.type Tn))(t:X.mg "isinstance"=none)(G:X.mg T=none)(o:Gl X "isinstance":=by rfl)(F:Gl X T:=by rfl)
 (J:T≠"__name__":=by decide)(n:(T==("__debug__":Str))=false:=by decide)(i:starEach [a,.Name T q] X.env=(false,eval a X.env)::starEach [.Name T q] X.env:=by rfl)(j:starEach [.Name T q] X.env=[(false,eval (.Name T q) X.env)]:=by rfl):
 Ev X Γ S (.Call (.Name "isinstance" p) [a,.Name T q] [] pos) W:=by
 intro b s B H O I m N;have E:eZ X (.builtin "isinstance") (λ A l Q=>∃v,A=[v,.ty Tn]/\∃f d g,StOk X.K f l g/\Rep X.K f l v d/\Q (.bl (isi (tyD d) Tn)) l):=by intro b s B H A U Q I r h;obtain⟨v,rfl,f,d,g,y,c,q⟩:=h;obtain⟨u,R,rfl,L,M⟩:=vals2 r;cases M;refine Ij I y c L λ Z e p K=>?_;subst e;exact PySem.W.kia_one Z I.kIn p (kit_at X.K d C) K λ P=>%[.bl _,H,I.tok P,rfl|q]
 refine zL E o t PyProof.Rows.boot_isinstance (iw h.pe (iw (Hz F G D (v:=.ty Tn) rfl J n) uo j) i) %[|1] %[|1] i (by rw[j];rfl) b s B H _ I %[O,m,N|λ v l q=>?_];obtain⟨f,d,g,w,z,k,c⟩:=q;exact%[v,rfl,f,d,g,k,c,f,_,g,w,z,k|.bl _]
def range_all{n:Type}(f:n->Bool)(d:n):∀(a:List n)(k:Nat),((List.range' k a.length).all λ i=>f ((List.replicate k d++a).getD i d))=a.all f:=by
 intro a
 induction a with
 | nil=>intro _;simp
 | cons b a o=>
   intro k;have q:=o (k+1);rw[dQ,l8,ip,ip];congr 1;{simp[List.getD]}
   . rw[<-q];have e:List.replicate k d++b::a=(List.replicate k d++[b])++a:=by simp
     rw[List.all_eq,List.all_eq];congr 1;apply propext;constructor
     . intro h i c;have:=h i c;rw[List.mem_range']at c;obtain⟨j,p,rfl⟩:=c;simp only[List.getD,List.getElem?_append,oj]at this ⊢;have l:¬(k+1+1*j<k):=%[|0]
       have m:¬(k+1+1*j<k+1):=%[|0]
       rw[bP l]at this;rw[bP m];have g:k+1+1*j-k=(k+1+1*j-(k+1))+1:=%[|0]
       rw[g,List.getElem?_cons_succ]at this;exact this
     . intro h i c;have:=h i c;rw[List.mem_range']at c;obtain⟨j,p,rfl⟩:=c;simp only[List.getD,List.getElem?_append,oj]at this ⊢;have l:¬(k+1+1*j<k):=%[|0]
       have m:¬(k+1+1*j<k+1):=%[|0]
       rw[bP m]at this;rw[bP l];have g:k+1+1*j-k=(k+1+1*j-(k+1))+1:=%[|0]
       rw[g,List.getElem?_cons_succ];exact this
def KJ(a:List Bool):((List.range a.length).all λ i=>a.getD i false)=a.all id:=by have:=range_all id false a 0;simpa[List.range_eq_range']using this
def k_all{c:List Bool}(w:W (.bl (c.all id)) S)(C:X.calm=true:=by rfl):dw X (.builtin "all") [.lst (c.map .bl)] S W:=by
 intro n s σ H O Z Y I N r K;obtain⟨v,rfl,J⟩:=cO r;obtain⟨u,rfl,l⟩:=vals1 K
 cases J with
 | @lst a xs _ B G=>
   cases l;obtain⟨d,p,k,T⟩:=I.list B.sq;have y:=G.bools;subst y;have f:d.length=c.length:=by rw[<-p.length];simp
   refine call_all_walk (kr k.isList ?_);have F:a≠s.heap.objs.size:=by obtain⟨o,e,_⟩:=k.isList;exact cq (bX e)
   refine%[_,_,_,_,_,_,λ i=>c.getD i false,rfl,Walks.list (A:=X.A.in1) (I.ok.hd C) _ a F d.toArray,%[%[_,bS _ rfl,rfl|rfl]|k.isList.push _],λ i v M t Q j E=>?_|λ R U D=>?_]
   . have j:d[i]? =some v:=by simpa using j
     have m:i<c.length:=by rw[<-f];exact(z0.mp j).1
     obtain⟨z,h,L⟩:=p.get (i:=i) (x:=V.bl c[i]) (by rw[y8,y3 m];rfl);rw[j]at h;cases h;cases L;have e:c.getD i false=c[i]:=by simp[List.getD,m]
     have g:t (c.getD i false) M:=E;rw[e]at g;exact gI g
   . have e:(List.range d.toArray.size).all (λ i=>c.getD i false)=c.all id:=by rw[x5,f];exact KJ c
     rw[e];refine%[.bl _,H,I.kept (λ b o q=>D b o (λ z=>?_) (bE _ q)),rfl|J3 w N (.bl _)];have P:b=s.heap.objs.size:=by simpa using z
     exact absurd (bX q) (by rw[P];exact i5 _)
def ZW{ns:ab1}(w:W (.int ns.sum) S)(l:X.calm=true:=by rfl):dw X (.builtin "sum") [.lst (ns.map .int)] S W:=by
 intro h s F H O D C I x r q;obtain⟨v,rfl,p⟩:=cO r;obtain⟨u,rfl,c⟩:=vals1 q
 cases p with
 | @lst a E _ k o=>
   cases c;obtain⟨b,t,n,z⟩:=I.list k.sq;have j:=o.ints;subst j;have g:IntsAre b ns:=intsAre_of t;obtain⟨i,d⟩:=g.allInts.items;have f:=n.isList;rw[d]at f;refine sum_intListG (I.ok.hd l) f λ y B A m=>?_;have e:preSum (numAt i) i.size=ns.sum:=by rw[preSum_eq,ck (by simp),<-nums_intItems,<-d];exact eL List.sum g.numsOf
   rw[e];exact%[.int _,H,I.kept m,%[_|rfl]|J3 w x (.int _)]
mutual
def deep:D->Nat
 | .tup ds=>bC ds+1
 | .lst ds=>bC ds+1
 | .dic=>1
 | _=>0
def bC:List D->Nat
 | []=>0
 | d::ds=>max (deep d) (bC ds)
end
mutual
def az:D->Bool
 | .tup ds=>aa ds
 | .lst ds=>aa ds
 | .loc _=>false
 | .dlo _=>false
 | _=>true
def aa:List D->Bool
 | []=>true
 | d::ds=>az d&&aa ds
end
theorem rT:∀{ds:List D}{i:Nat},ds[i]? =some d->deep d<=bC ds
 | [],_,h=>by simp at h
 | c::ds,0,h=>by simp at h;subst h;simp[bC];omega
 | c::ds,i+1,h=>by have:=rT (ds:=ds) (i:=i) (by simpa using h);simp[bC];omega
end
end DL
namespace DL
open PySem PySem.Spec L2
open PyProof.Rows
variable{pins:Pins}{H:Hp}{s:Shared}
set_option genInjectivity false in
structure SqKind(P:ac4)(w:World)(K:ab2) where
 Sq:Hp->Addr->List V->Prop
 It:Heap->Addr->Addr->Nat->Prop
 Ob:Heap->Addr->Array Value->Prop
 itObj:∀{h it a i},It h it a i->∃o vs,h.get? it=some o/\o.data=.fields vs
 itAt:∀{h h' it a i},It h it a i->(∀o,h.get? it=some o->h'.get? it=some o)->It h' it a i
 obObj:∀{h a its},Ob h a its->∃o n,h.get? a=some o/\o.data=.seq its n
 draws:∀(A:ad0),A.handled=none->∀(it a:Addr),a≠it->∀items:Array Value,Draws P w A it [it,a] items.size (λ i v=>items[i]? =some v) (λ i h=>It h it a i/\Ob h a items)
 get:∀{X:Cx}{pins:Pins}{σ:St}{H:Hp}{s:ab5}{a:Addr}{xs:List V},X.prog=P->X.w=w->X.K=K->%[|3]->Sq H a xs->∃its:List Value,Vals xs its/\Ob s.heap a its.toArray
 inj:∀{X:Cx}{pins:Pins}{σ:St}{H:Hp}{s:ab5}{a:Addr}{xs ys:List V},X.prog=P->X.w=w->X.K=K->%[|3]->Sq H a xs->Sq H a ys->xs=ys
 far:∀{X:Cx}{pins:Pins}{σ:St}{H:Hp}{s:ab5}{a b:Addr}{xs:List V},X.K=K->%[|3]->Sq H a xs->gn X pins H b->a≠b
section
variable{P:Program}{w:World}{K:PySem.W.Frag}
def SqKind.ne(q:SqKind P w K)(x:q.It h d a i)(y:q.Ob h a its):a≠d:=λ e=>by obtain⟨o,k,f,g⟩:=q.itObj x;obtain⟨j,n,b,c⟩:=q.obObj y;rw[e,f]at b;cases b;rw[g]at c;cases c
def Y9{σ:St}(I:%[|3])(h:X.K.lookup a=some o)(f:gn X pins H b):a≠b:=λ z=>by have e:=I.ok.mod.kin a o h;rw[z]at e;rcases f.2.2.2.1 with q | q;{exact I.ok.noex b o e q};{exact absurd (v3 (bX e) (cS I.ok.bsz q)) (i5 _)}
def Td(P:ac4)(w:World)(K:ab2):SqKind P w K where
 Sq:=SqL K
 It:=λ h m a i=>h.IsListIter m a i
 Ob:=λ h a c=>h.IsList a c
 itObj:=λ x=>let ⟨o,e,_,d⟩:=x;%[o,_,e|d]
 itAt:=λ x k=>x.at k
 obObj:=λ x=>let ⟨o,e,_,n,d⟩:=x;%[o,n,e|d]
 draws:=λ A r m a s b=>Draws.list r m a s b
 get:=λ j l g I h=>by subst j l g;obtain⟨c,t,p,_⟩:=I.list h;exact%[c,t|p.isList]
 inj:=λ j l g I h q=>by subst j l g;exact I.list_inj h q
 far:=λ g I h f=>by subst g;rcases h with(h | ⟨_,h⟩) | ⟨o,_,_,h,_⟩;{exact aJ h f.1};{exact aJ h f.1};{exact Y9 I h f}
def Xg(hi:s.heap.IsTupleIter a t i)(h:s.heap.IsTuple t items)(j:items[i]? =some x)
 (f:∀h',h'.IsTupleIter a t (i+1)->Heap.SameBut a s.heap h'->Q x %[|15]):wpAny %[|5] A (Builtin.SmallTypes.nextOf (.ref a)) Q E s:=by obtain⟨o,c,g,b⟩:=id hi;obtain⟨l,e,_,k,d⟩:=h;unfold Builtin.SmallTypes.nextOf;refine b0 (wpAny_callSpecial?_slot (name:=Str.ofString "__next__") hi.typeIs kq (de kq hi.typeIs F.entry_tuple_iterator_next ?_ (F.args_tuple_iterator_next_1 _)));refine b0 (m:=field (.ref a) 0) (eM c b (x:=.ref t) rfl ?_);rw[bP (show ¬((Value.ref t==Value.none)=true)from y6)];refine b0 (m:=field (.ref a) 1) (eM c b (x:=.int i 0) rfl ?_);refine b0 (m:=seqItems? (.ref t)) (fo e d ?_);simp only[e8,j];refine b0 (i8 c b (by simp) (b9 %[x,rfl|b9 (f _ %[_,eR _ c (ol (kg b _)),(Obj.cls_mapFields ..).trans g|by rw[kg b];simp[rawInt]] (dS ..))]))
def Ni(hh:A.handled=none)(hi:s.heap.IsTupleIter b t i)(j:s.heap.IsTuple t items)(k:items[i]? =none)
 (h:∀h' e,Heap.ExtBut b s.heap h'->(∃o,h'.get? e=some o/\o.cls=.type "StopIteration")->E (.ref e) %[|15]):wpAny %[|5] A (Builtin.SmallTypes.nextOf (.ref b)) Q E s:=by
 obtain⟨o,f,l,c⟩:=id hi;obtain⟨p,g,_,n,d⟩:=j;unfold Builtin.SmallTypes.nextOf;refine b0 (wpAny_callSpecial?_slot (name:=Str.ofString "__next__") hi.typeIs kq (de kq hi.typeIs F.entry_tuple_iterator_next ?_ (F.args_tuple_iterator_next_1 _)));refine b0 (m:=field (.ref b) 0) (eM f c (x:=.ref t) rfl ?_);rw[bP (show ¬((Value.ref t==Value.none)=true)from y6)];refine b0 (m:=field (.ref b) 1) (eM f c (x:=.int i 0) rfl ?_);refine b0 (m:=seqItems? (.ref t)) (fo g d ?_);simp only[e8,k];refine b0 (iF (b0 (i8 f c (by simp) (b0 (m:=newExc (.type "StopIteration") []) ?_))));simp only[newExc,newTuple];refine b0 (da (b0 (m:=firstArgMember _ _) (nI (a:=Value.none) (by first | rfl | (simp only[firstArgMember];rfl)) (da ?_ (by size_fits)))) (by size_fits));simp only[raiseNew];refine b0 (nV ?_);first | rw[show A.in1.handled=none from hh] | rw[hh]
 exact b0 (b9 (wpAny_throw (h _ _ (((dS ..).extBut.push _).push _) %[_,bS _ rfl|rfl])))
theorem QD(hh:A.handled=none)(a t:Addr)(ne:t≠a)(items:ac1):
 Draws prog w A a [a,t] items.size (λ i v=>items[i]? =some v) (λ i h=>h.IsTupleIter a t i/\h.IsTuple t items) where
 live:=λ i h x=>let ⟨o,e,_⟩:=x.1;%[o|e]
 frame:=λ i h b x k=>by obtain⟨⟨o,e,r⟩,⟨d,g,m⟩⟩:=x;exact%[%[o,k a (by simp) o e|r]|%[d,k t (by simp) d g|m]]
 item:=λ i s Q E c x l=>Xg x.1 x.2 (x:=items[i]) (by simp[c]) λ b y f=>l _ b s.toks (by simp[c]) %[y|x.2.extBut f.extBut ne] f
 done:=λ s Q E x j=>Ni hh x.1 x.2 (by simp) j
def KZ(P:ac4)(w:World)(K:ab2):SqKind P w K where
 Sq:=SqT K
 It:=λ h m a i=>h.IsTupleIter m a i
 Ob:=λ h a c=>h.IsTuple a c
 itObj:=λ x=>let ⟨o,e,_,d⟩:=x;%[o,_,e|d]
 itAt:=λ x k=>let ⟨o,e,r⟩:=x;%[o,k o e|r]
 obObj:=λ x=>let ⟨o,e,_,n,d⟩:=x;%[o,n,e|d]
 draws:=λ A s m a t b=>QD s m a t b
 get:=λ j l g I h=>by subst j l g;obtain⟨c,u,p,_⟩:=I.tuple h;exact%[c,u|p]
 inj:=λ j l g I h q=>by subst j l g;exact I.tuple_inj h q
 far:=λ g I h f=>by subst g;rcases h with(h | ⟨_,h⟩) | ⟨o,_,_,h,_⟩;{exact aJ h f.1};{exact aJ h f.1};{exact Y9 I h f}
def oX{σ:St}{ch:ad1}(I:%[|3])(d:∀b∈ch,gn X pins H b)(k:∀b o,b∉ch->%[|24]):Inv X pins σ H {s with heap:=h',toks:=t}:=by
 have f:∀b u,H b=some u->b∉ch:=λ b u e z=>by rw[(d b z).1]at e;cases e
 refine I.step (g':=s.gens) (d':=s.drawn) (ch:=ch) (λ b g=>%[(d b g).2.2.2.1,(d b g).2.1,(d b g).2.2.2.2.1|(d b g).2.2.2.2.2]) (λ b o _ _ a e _=>k b o a e) (λ b o _ _ a e _=>%[o.slots|k b o a e]) (λ _ _ _ _ n=>n) (λ b o a e=>%[o|k b o a e])
  (λ _ _ e=>e) (λ _ _ _ e=>e) (λ b p e=>%[#[]|by rw[e];simp]) (λ m j=>?_) (λ b u e=>?_) I.bare;{obtain⟨o,i,h,l,r⟩:=j;exact%[o,i,h,k _ o (λ z=>(d _ z).2.1 rfl) l|r]};{refine(I.hok b u e).stay (λ c v a q=>k c v ?_ q) (λ _ q=>q) λ _ _ q=>q;rcases a with z | z;{rw[z];exact f b u e};{exact f c _ z}}
def sr{σ:St}{p:Addr}(I:%[|3])(a:Inv X pins σ H s')(d:s.heap.objs.size<=p)(g:aN X.prog X.w (upd H p o) s'.heap p o):Inv X pins σ (upd H p o) s':=by have y:H p=none:=I.hok.fresh d;have f:∀b u,H b=some u->b≠p:=λ b u e=>aJ e y;refine%[a.ok,a.os,a.bare,%[a.base.keep,a.base.slot,λ b g e n A=>?_,a.base.there,λ b k e=>?_,λ b g u e=>?_|λ b C e=>?_],a.loc,a.cell,?_,λ x c e=>?_,λ q j=>?_,λ b u e=>?_|a.len];{have B:b<s.heap.objs.size:=v3 (bX e) I.sz;rw[aq (cq (v3 B d))];exact a.base.free b g e n A};{have:=a.base.tups b k e;rw[aq (f b _ this)];exact this};{have:=a.base.frzs b g u e;rw[aq (f b _ this)];exact this};{obtain⟨m,h⟩:=a.base.tbls b C e;exact%[m|by rw[aq (f b _ h)];exact h]};{rw[aq (cq (v3 I.lt d))];exact a.free};{obtain⟨v,z⟩:=I.cell x c e;rw[aq (cq (v3 z.lt d))];exact a.freeC x c e};{obtain⟨w,_⟩:=I.pin q j;obtain⟨l,r,t⟩:=a.pin q j;exact%[l,by rw[aq (cq (v3 (bX w) d))];exact r|t]};{by_cases i:b=p;{subst i;rw[aL]at e;cases e;exact g};{rw[aq i]at e;exact(a.hok b u e).stay (λ c v _ q=>q) (λ c q=>by rw[aq (f c _ q)];exact q) λ c k q=>by rw[aq (f c _ q)];exact q}}
def Ite(q:SqKind P w K)(a:Addr):It:=
 %[λ i H=>∃b x,q.Sq H a b/\b[i]? =some x,λ i H x c=>∃p y,H p=none/\c=upd H p (.tup [.int i,y])/\x=.ref p/\∀b,q.Sq H a b->b[i]? =some y|λ i H=>∃b,q.Sq H a b/\i=b.length]
theorem Ly(q:SqKind P w K)(a e g:Addr)(p:e≠g):Turn P w K (.Tuple C k pos) (Ite q a) [e,g] e (λ i h=>(∃old,IsEnum h e g i old)/\q.It h g a i) where
 mem:=by simp
 obj:=λ i h st b d=>by obtain⟨⟨old,f⟩,l⟩:=st;rcases ci.mp d with rfl | d;{exact%[_,f|λ v z=>nomatch z]};{rw[cb.mp d];obtain⟨o,vs,r,m⟩:=q.itObj l;exact%[o,r|λ v z=>by rw[m]at z;cases z]}
 keep:=λ i h h' st k=>%[let ⟨old,f⟩:=st.1;%[old|k e (by simp) _ f]|q.itAt st.2 λ o e=>k g (by simp) o e]
 item :=by
  intro X t y G Q i j s σ H E I J st T;obtain⟨xs,x,L,M⟩:=T;obtain⟨c,Y,A⟩:=q.get t y G I L;obtain⟨u,hu,ru⟩:=Y.get M;obtain⟨⟨old,f⟩,l⟩:=st;have V:=q.ne l A;have S:e≠a:=λ z=>by obtain⟨o,n,r,m⟩:=q.obObj A;rw[<-z,f]at r;cases r;cases m
  have U:i<c.toArray.size:=by simpa using(z0.mp hu).1
  have uq:∀ys,q.Sq H a ys->ys[i]? =some x:=λ ys hy=>by rw[q.inj t y G I hy L];exact M
  subst t y;refine wpAny_pyNext_enum_itemD (q.draws X.A.in1 (I.ok.hd Q) g a V c.toArray) f %[l|A] U p (by simp[p,S]) λ x' h' F D ho hs' hT aa hk=>?_;have ex:x'=u:=by
   have:c.toArray[i]? =some u:=by simpa using hu
   rw[this]at D;exact(cf D).symm
  subst ex;refine%[_,rfl|wpAny_letOwnedTupleGo_enum ho λ m R sb=>?_];have I1:Inv X j σ H {s with heap:=m,toks:=F+1}:=oX (ch:=[e,g]) I J λ b o d W=>(sb.2 b (λ z=>d (by simp[z]))).trans (hk b o (λ z=>d (by simp[z])) (λ z=>d (by simp[z])) W);have hp:H s.heap.objs.size=none:=I.hok.fresh (y9 _);have B:e<s.heap.objs.size:=bX f;have O:m.get? s.heap.objs.size=some {cls:=%[|10],data:=.seq #[.int i F,x']}:=(sb.2 _ (fk B)).trans hT;have I2:Inv X j σ (upd H s.heap.objs.size (.tup [.int i,x])) {s with heap:=m,toks:=F+1}:=sr I I1 (y9 _) %[by show 2<=sizeLine;decide,[.int i F,x'],.cons %[F|rfl] (.cons ru .nil),_,O,rfl,_|rfl];refine%[%[|9],_,I2,rfl,%[_,x,hp,rfl,rfl|uq],%[%[_|by simpa using R]|q.itAt hs'.1 λ o W=>(sb.2 g p.symm).trans W]|λ b d=>?_];rw[aq (cq ?_)];{exact(J b d).1};{rcases ci.mp d with rfl | d;{exact B};{rw[cb.mp d];obtain⟨o,vs,r,_⟩:=q.itObj l;exact bX r}}
 done:=by
  intro X t y G Q i j s σ H E I J st T;obtain⟨xs,L,M⟩:=T;obtain⟨c,Y,A⟩:=q.get t y G I L;obtain⟨⟨old,f⟩,l⟩:=st;have V:=q.ne l A;subst t y;obtain⟨f0,f1,f2,f3,f4,f5⟩:=J g (by simp);have hn:i=c.toArray.size:=by rw[M,Y.length];simp
  have Z:q.It s.heap g a c.toArray.size/\q.Ob s.heap a c.toArray:=%[hn▸l|A];exact wpAny_pyNext_enum_endD (q.draws X.A.in1 (I.ok.hd Q) g a V c.toArray) f Z λ h' N=>%[rfl|I.turned (t':=s.toks) (λ b o d e=>N b o d e) f0 f1 f3 f4 f5]
 self:=λ _ _ _ _ _ st h=>let ⟨old,f⟩:=st.1;wpAny_pyIter_enum f h
def qw(q:SqKind P w K)(h:∀O' H',Conv O O' H H'->∃xs,q.Sq H' a xs/\Reps K O' H' xs ds):iB K (Ite q a) O H (ds.mapIdx λ i d=>.tup [.int i,d]):=by
 intro O' H' l t i;obtain⟨xs,f,r⟩:=h O' H' l;refine%[λ d b=>?_|λ m=>%[xs,f|by rw[m,r.length];simp]];rw[kz]at b
 cases e:ds[i]? with
 | none=>rw[e]at b;cases b
 | some u=>rw[e]at b;cases b;obtain⟨v,j,s⟩:=r.get e;refine%[%[xs,v,f|j]|λ x k y=>?_];obtain⟨p,y,c,rfl,rfl,n⟩:=y;have g:=n xs f;rw[j]at g;cases g;have o:¬O'.has p:=λ z=>t p z c;exact%[dR.fresh c _|.tup %[o|aL] (.cons (.int _) (.cons (s.mono (Step.fresh c _)) .nil))]
section
variable{X:Cx}{Γ:Gam}{S:Store}{e:Expr}{pos:Pos}
def Ht{σ:St}(q:SqKind X.prog X.w X.K)(I:%[|3])(e:IsEnum h' (s.heap.objs.size+1) s.heap.objs.size 0 .none)(hi:q.It h' s.heap.objs.size a 0)
 (f:∀b o,%[|24])(r:R (Ite q a) H):wpAny %[|6] X.A (pyIter (.ref (s.heap.objs.size+1))) (PIE X pins σ (.Tuple c k g) R) E %[|15]:=by refine wpAny_pyIter_enum e ?_;refine%[s.heap.objs.size+1,[s.heap.objs.size+1,s.heap.objs.size],_,_,H,rfl,I.kept (t':=s.toks) f,Ly q a (s.heap.objs.size+1) s.heap.objs.size (Nat.succ_ne_self _),%[%[_|e]|hi],λ b d=>?_|r];rcases ci.mp d with rfl | d;{exact I.fpOk (kB _) (I.hok.fresh (kB _))};{rw[cb.mp d];exact I.fpOk (y9 _) (I.hok.fresh (y9 _))}
def NT(l:Addr)(items:ac1)(n:Nat)(b:ac7)(m:ac3):
 Meets (Builtin.«enumerate.__new__» %[[.type "enumerate",.ref l]|[]]) (λ _ R s=>s.heap.get? l=some {cls:=%[|10],dict:=b,data:=.seq items n,slots:=m}/\
  R (.ok (.ret (.ref (s.heap.push {cls:=.type "tuple_iterator",data:=.fields #[.ref l,.int 0 0]}).objs.size)))
    {s with heap:=(s.heap.push {cls:=.type "tuple_iterator",data:=.fields #[.ref l,.int 0 0]}).push {cls:=.type "enumerate",data:=.fields #[.none,.bool false,%[|9],rawInt 0,.none,.none]}}):=
 .of_wp λ i w A R s h=>by obtain⟨j,g,d,o,k⟩:=s;obtain⟨a,h⟩:=h;have f:=sub_enumerate;have e:Heap.IsTuple (Shared.heap %[j,g,d,o|k]) l items:=%[_,a,rfl,n|rfl];wp_walk using AutoSeq1.wpAny_loadPart' a;refine wpAny_stack_any λ p=>b9 ?_;split;{rename_i c _ _ _ _ _;cases (c==Value.type "enumerate")<;>(wp_walk using AutoSeq1.wpAny_loadPart' a,wpAny_pyIter_tuple e;exact%[_,rfl|h])};{wp_walk using AutoSeq1.wpAny_loadPart' a,wpAny_pyIter_tuple e;exact%[_,rfl|h]}
end
end
end DL
namespace DL
open PySem PySem.Spec L2
open PyProof.Rows
structure Zd(z TI TO i1 i2:Addr)(f1 f2:ad1):Prop where
 a:TI≠z
 b:TO≠z
 c:TI≠TO
 d:TI≠i1
 e:TI≠i2
 f:TO≠i1
 g:TO≠i2
 h:i1≠z
 i:i2≠z
 j:z∉f1
 k:z∉f2
 l:TO∉f1
 m:TO∉f2
 n:i1∉f2
 o:i2∉f1
section
variable{prog:Program}{w:World}{A:Around}{E:%[|17]}{s:Shared}{z TI TO i1 i2:Addr}{f1 f2:List Addr}{n1 n2 k:Nat}{P1 P2:Nat -> Value -> Prop}{T1 T2:Nat -> Heap -> Prop}{va vb:Value}
def XC{Q:ab3}(F:Draws prog w A i1 f1 n1 P1 T1)(G:Draws prog w A i2 f2 n2 P2 T2)(Z:Zd z TI TO i1 i2 f1 f2)(hz:IsZip s.heap z TI TO .none)(K:IsPair s.heap TI (.ref i1) (.ref i2))(L:IsPair s.heap TO va vb)(t1:T1 k s.heap)(t2:T2 k s.heap)(k1:k<n1)(k2:k<n2)
 (hQ:∀x y h' tk,P1 k x->P2 k y->IsZip h' z TI TO (rawInt s.heap.objs.size)->IsPair h' TO x y->T1 (k+1) h'->T2 (k+1) h'->IsPair h' s.heap.objs.size x y->
  (∀c o,c≠z->c≠TO->c≠i1->c≠i2->s.heap.get? c=some o->h'.get? c=some o)->Q %[|9] {s with heap:=h',toks:=tk}):
 wpAny %[|5] A (Builtin.«zip.__next__» %[[.ref z]|[]]) (λ fin s'=>∃v,fin=.done (.ret v)/\Q v s') E s:=by
 obtain⟨V,g,d,aa,os⟩:=s;refine b0 (m:=field (.ref z) 2) (eM hz rfl (x:=.bool false) rfl (b0 (m:=field (.ref z) 3) (eM hz rfl (x:=.ref TI) rfl (b0 (fo K rfl ?_)))));refine b0 (m:=Builtin.SmallTypes.ownedTupleIsFree (.ref z)) ?_;unfold Builtin.SmallTypes.ownedTupleIsFree;refine b0 (eM hz rfl (x:=.none) rfl (b9 ?_));simp only[ij];refine b0 (iF (b0 (eM hz rfl (x:=.ref TO) rfl (b0 (fF hz (by simp) λ S j s1=>?_)))));replace j:IsZip S z TI TO .ellipsis:=j;refine b0 ?_;simp only[List.zipIdx_cons,List.zipIdx_nil,me,kU];refine b0 (b0 (wpAny_onRaise (b0 (m:=Builtin.SmallTypes.nextOf (.ref i1)) ?_)));refine F.item k _ _ _ k1 (F.frame _ _ _ t1 λ b a o e=>s1.extBut b o (λ q=>Z.j (q▸a)) e) λ x T ab p1 O s2=>b9 ?_;replace s2:Heap.SameBut i1 S T:=s2;have W:IsPair T TO va vb:=s2.extBut _ _ Z.f (s1.extBut _ _ Z.b L);refine b0 (fo W rfl (b0 (pd W λ J N s3=>b0 (wpAny_letGo (b9 ?_)))));replace N:IsPair J TO x vb:=N;refine b0 (b0 (wpAny_onRaise (b0 (m:=Builtin.SmallTypes.nextOf (.ref i2)) ?_)));have P:T2 k J:=G.frame _ _ _ t2 λ b a o e=>s3.extBut b o (λ q=>Z.m (q▸a)) (s2.extBut b o (λ q=>Z.n (q▸a)) (s1.extBut b o (λ q=>Z.k (q▸a)) e));refine G.item k _ _ _ k2 P λ y U R p2 t s4=>b9 ?_;replace s4:Heap.SameBut i2 J U:=s4;have X:IsPair U TO x vb:=s4.extBut _ _ Z.g N;refine b0 (fo X rfl (b0 (pd X λ f C s5=>b0 (wpAny_letGo (b9 (b9 ?_))))));replace C:IsPair f TO x y:=C;refine b0 (fo C rfl (b0 (wpAny_newTuple ?_)));have sz:f.objs.size=V.objs.size:=by rw[s5.1,s4.1,s3.1,s2.1,s1.1]
 have p:IsZip f z TI TO .ellipsis:=s5.extBut _ _ Z.b.symm (s4.extBut _ _ Z.i.symm (s3.extBut _ _ Z.b.symm (s2.extBut _ _ Z.h.symm j)));have k5:∀c o,c≠z->c≠TO->c≠i1->c≠i2->V.get? c=some o->f.get? c=some o:=λ c o i B H I q=>s5.extBut _ _ B (s4.extBut _ _ I (s3.extBut _ _ B (s2.extBut _ _ H (s1.extBut _ _ i q))));have u:z<f.objs.size:=bX p;refine b0 (m:=Builtin.SmallTypes.ownedTupleHandOut (.ref z) (.ref f.objs.size)) ?_;unfold Builtin.SmallTypes.ownedTupleHandOut;have M:IsZip (f.push {cls:=%[|10],data:=.seq #[x,y]}) z TI TO .ellipsis:=bE _ p;refine b0 (fF M (by simp) λ h7 l s7=>?_);replace l:IsZip h7 z TI TO (rawInt f.objs.size):=l;refine fF l (by simp) λ n h s8=>?_;replace h:IsZip n z TI TO (rawInt f.objs.size):=h;have D:∀c o,c≠z->f.get? c=some o->n.get? c=some o:=λ c o i q=>s8.extBut _ _ i (s7.extBut _ _ i (bE _ q));have Y:IsPair n f.objs.size x y:=s8.extBut _ _ (fk u) (s7.extBut _ _ (fk u) (bS _ rfl));rw[sz]at h Y;refine b9 %[_,rfl|?_];show Q (.ref f.objs.size) _;rw[sz];have u1:T1 (k+1) n:=F.frame _ _ _ O λ b a o q=>D b o (λ r=>Z.j (r▸a)) (s5.extBut b o (λ r=>Z.l (r▸a)) (s4.extBut b o (λ r=>Z.o (r▸a)) (s3.extBut b o (λ r=>Z.l (r▸a)) q)));have u2:T2 (k+1) n:=G.frame _ _ _ t λ b a o q=>D b o (λ r=>Z.k (r▸a)) (s5.extBut b o (λ r=>Z.m (r▸a)) q);exact hQ x y n R p1 p2 h (D _ _ Z.b C) u1 u2 Y λ c o i B H I q=>D c o i (k5 c o i B H I q)
def QJ(F:Draws prog w A i1 f1 n1 P1 T1)(M:Draws prog w A i2 f2 n2 P2 T2)(Z:Zd z TI TO i1 i2 f1 f2)(hz:IsZip s.heap z TI TO .none)(I:IsPair s.heap TI (.ref i1) (.ref i2))(J:IsPair s.heap TO va vb)(X:T1 k s.heap)(Y:T2 k s.heap)(V:k=n1\/(k<n1/\k=n2))
 (O:∀h' tk e,(∀c o,c≠z->c≠TO->c≠i1->c≠i2->s.heap.get? c=some o->h'.get? c=some o)->(∃o,h'.get? e=some o/\o.cls=.type "StopIteration")->E (.ref e) {s with heap:=h',toks:=tk}):
 wpAny %[|5] A (Builtin.«zip.__next__» %[[.ref z]|[]]) Q E s:=by
 obtain⟨hp,g,d,aa,os⟩:=s;refine b0 (m:=field (.ref z) 2) (eM hz rfl (x:=.bool false) rfl (b0 (m:=field (.ref z) 3) (eM hz rfl (x:=.ref TI) rfl (b0 (fo I rfl ?_)))));refine b0 (m:=Builtin.SmallTypes.ownedTupleIsFree (.ref z)) ?_;unfold Builtin.SmallTypes.ownedTupleIsFree;refine b0 (eM hz rfl (x:=.none) rfl (b9 ?_));simp only[ij];refine b0 (iF (b0 (eM hz rfl (x:=.ref TO) rfl (b0 (fF hz (by simp) λ B f v=>?_)))));replace f:IsZip B z TI TO .ellipsis:=f;refine b0 ?_;simp only[List.zipIdx_cons,List.zipIdx_nil,me,kU];refine b0 (b0 (wpAny_onRaise (b0 (m:=Builtin.SmallTypes.nextOf (.ref i1)) ?_)));have y:T1 k B:=F.frame _ _ _ X λ b r o e=>v.extBut b o (λ q=>Z.j (q▸r)) e;rcases V with rfl | ⟨W,rfl⟩
 . refine F.done _ _ _ y λ p e a i=>?_;obtain⟨K,h,n⟩:=i;replace a:Heap.ExtBut i1 B p:=a;have t:IsZip p z TI TO .ellipsis:=a _ _ Z.h.symm f;have H:e≠z:=λ q=>by subst q;rw[t]at h;cases h;simp at n
   exact fF t (by simp) λ C _ j=>O C _ e (λ c o l _ G _ q=>j.extBut _ _ l (a _ _ G (v.extBut _ _ l q))) %[K,j.extBut _ _ H h|n]
 . refine F.item k _ _ _ W y λ x p ab p1 _ a=>b9 ?_;replace a:Heap.SameBut i1 B p:=a;have P:IsPair p TO va vb:=a.extBut _ _ Z.f (v.extBut _ _ Z.b J);refine b0 (fo P rfl (b0 (pd P λ C o3 j=>b0 (wpAny_letGo (b9 ?_)))));refine b0 (b0 (wpAny_onRaise (b0 (m:=Builtin.SmallTypes.nextOf (.ref i2)) ?_)));have L:T2 k C:=M.frame _ _ _ Y λ b r o e=>j.extBut b o (λ q=>Z.m (q▸r)) (a.extBut b o (λ q=>Z.n (q▸r)) (v.extBut b o (λ q=>Z.k (q▸r)) e));refine M.done _ _ _ L λ N e D i=>?_;obtain⟨K,h,n⟩:=i;replace D:Heap.ExtBut i2 C N:=D;have u:IsZip N z TI TO .ellipsis:=D _ _ Z.i.symm (j.extBut _ _ Z.b.symm (a.extBut _ _ Z.h.symm f));have H:e≠z:=λ q=>by subst q;rw[u]at h;cases h;simp at n
   exact fF u (by simp) λ U _ R=>O U _ e (λ c o l S G T q=>R.extBut _ _ l (D _ _ T (j.extBut _ _ S (a.extBut _ _ G (v.extBut _ _ l q))))) %[K,R.extBut _ _ H h|n]
end
section
variable{P:Program}{w:World}{K:PySem.W.Frag}
def Itz(q r:SqKind P w K)(a b:Addr):It:=
 %[λ i H=>∃c d x y,q.Sq H a c/\r.Sq H b d/\c[i]? =some x/\d[i]? =some y,
  λ i H v e=>∃p x y,H p=none/\e=upd H p (.tup [x,y])/\v=.ref p/\(∀c,q.Sq H a c->c[i]? =some x)/\∀d,r.Sq H b d->d[i]? =some y|
  λ i H=>∃c d,q.Sq H a c/\r.Sq H b d/\i=min c.length d.length]
structure Zr(z TI TO i1 i2:Addr):Prop where
 a:TI≠z
 b:TO≠z
 c:TI≠TO
 d:TI≠i1
 e:TI≠i2
 f:TO≠i1
 g:TO≠i2
 h:i1≠z
 i:i2≠z
 j:i1≠i2
def Zr.zd(q r:SqKind P w K){pins:Pins}{σ:St}{z g d e f a b}(Z:Zr z g d e f)(k:X.K=K)(I:%[|3])(l:∀c∈[z,g,d,e,f],gn X pins H c)(m:q.Sq H a xs)(n:r.Sq H b ys):Zd z g d e f [e,a] [f,b]:=by have h:∀c∈[z,g,d,e,f],c≠a:=λ c j=>(q.far k I m (l c j)).symm;have i:∀c∈[z,g,d,e,f],c≠b:=λ c j=>(r.far k I n (l c j)).symm;refine%[Z.a,Z.b,Z.c,Z.d,Z.e,Z.f,Z.g,Z.h,Z.i,?_,?_,?_,?_,?_|?_];{simp[Z.h.symm,h z (by simp)]};{simp[Z.i.symm,i z (by simp)]};{simp[Z.f,h d (by simp)]};{simp[Z.g,i d (by simp)]};{simp[Z.j,i e (by simp)]};{simp[Z.j.symm,h f (by simp)]}
theorem RN(q r:SqKind P w K)(a b z L N m n:Addr)(Z:Zr z L N m n):Turn P w K (.Tuple ab k pos) (Itz q r a b) [z,L,N,m,n] z
 (λ i h=>IsZip h z L N .none/\IsPair h L (.ref m) (.ref n)/\(∃va vb,IsPair h N va vb)/\q.It h m a i/\r.It h n b i) where
 mem:=by simp
 obj:=λ i h st c M=>by obtain⟨C,f,⟨va,vb,g⟩,A,B⟩:=st;obtain⟨o,vs,h1,U⟩:=q.itObj A;obtain⟨o',am,O,af⟩:=r.itObj B;simp only[ci,k8,pT]at M;rcases M with rfl | rfl | rfl | rfl | rfl;{exact%[_,C|λ v z=>nomatch z]};{exact%[_,f|λ v z=>nomatch z]};{exact%[_,g|λ v z=>nomatch z]};{exact%[o,h1|λ v z=>by rw[U]at z;cases z]};{exact%[o',O|λ v z=>by rw[af]at z;cases z]}
 keep:=λ i h h' st k=>by obtain⟨C,f,⟨va,vb,g⟩,A,B⟩:=st;exact%[k z (by simp) _ C,k L (by simp) _ f,%[va,vb|k N (by simp) _ g],q.itAt A λ o e=>k m (by simp) o e|r.itAt B λ o e=>k n (by simp) o e]
 item:=by
  intro X G J D M i t s σ H E I V st hg;obtain⟨xs,ys,x,y,W,Y,hx,hy⟩:=hg;obtain⟨j,rv,ob⟩:=q.get G J D I W;obtain⟨d,R,p⟩:=r.get G J D I Y;obtain⟨u,hu,ru⟩:=rv.get hx;obtain⟨u2,ae,al⟩:=R.get hy;obtain⟨C,f,⟨va,vb,g⟩,A,B⟩:=st;have ux:∀S,q.Sq H a S->S[i]? =some x:=λ S h=>by rw[q.inj G J D I h W];exact hx
  have uy:∀S,r.Sq H b S->S[i]? =some y:=λ S h=>by rw[r.inj G J D I h Y];exact hy
  have Z2:=Z.zd q r D I V W Y;have l1:i<j.toArray.size:=by simpa using(z0.mp hu).1
  have l2:i<d.toArray.size:=by simpa using(z0.mp ae).1
  subst G J;have hT:s.TypeIs (.ref z) "zip":=%[_,C|rfl];unfold pyNext;refine b0 (iq (wpAny_callSpecial?_slot (name:=Str.ofString "__next__") hT pf (de pf hT F.entry_zip_next ?_ (F.args_zip_next_1 _))));refine XC (q.draws X.A.in1 (I.ok.hd M) m a (q.ne A ob) j.toArray) (r.draws X.A.in1 (I.ok.hd M) n b (r.ne B p) d.toArray) Z2 C f g %[A|ob] %[B|p] l1 l2 λ x' y' h' tk px py aj ad t1 t2 ah kp=>b9 ?_;have ex:x'=u:=by
   have e1:j.toArray[i]? =some u:=by simpa using hu
   rw[e1]at px;exact(cf px).symm
  have ey:y'=u2:=by
   have e1:d.toArray[i]? =some u2:=by simpa using ae
   rw[e1]at py;exact(cf py).symm
  subst ex;subst ey;refine%[_,rfl|wpAny_letOwnedTupleGo_zip aj λ U ak sb=>?_];have I1:Inv X t σ H {s with heap:=U,toks:=tk}:=oX (ch:=[z,L,N,m,n]) I V λ c o l Q=>(sb.2 c (λ z=>l (by simp[z]))).trans (kp c o (λ z=>l (by simp[z])) (λ z=>l (by simp[z])) (λ z=>l (by simp[z])) (λ z=>l (by simp[z])) Q);have hp:H s.heap.objs.size=none:=I.hok.fresh (y9 _);have aa:z<s.heap.objs.size:=bX C;have ag:U.get? s.heap.objs.size=some {cls:=%[|10],data:=.seq #[x',y']}:=(sb.2 _ (fk aa)).trans ah;have I2:Inv X t σ (upd H s.heap.objs.size (.tup [x,y])) {s with heap:=U,toks:=tk}:=sr I I1 (y9 _) %[by show 2<=sizeLine;decide,[x',y'],.cons ru (.cons al .nil),_,ag,rfl,_|rfl];have ac:IsPair U L (.ref m) (.ref n):=(sb.2 _ Z.a).trans (kp _ _ Z.a Z.c Z.d Z.e f);refine%[%[|9],_,I2,rfl,%[_,x,y,hp,rfl,rfl,ux|uy],%[ak,ac,%[_,_|(sb.2 _ Z.b).trans ad],q.itAt t1.1 λ o Q=>(sb.2 m Z.h).trans Q|r.itAt t2.1 λ o Q=>(sb.2 n Z.i).trans Q]|λ c l=>?_];rw[aq (cq ?_)];{exact(V c l).1};{obtain⟨o,vs,h1,_⟩:=q.itObj A;obtain⟨o',am,O,_⟩:=r.itObj B;simp only[ci,k8,pT]at l;rcases l with rfl | rfl | rfl | rfl | rfl;{exact aa};{exact bX f};{exact bX g};{exact bX h1};{exact bX O}}
 done:=by
  intro X G J D M i t s σ H E I V st hg;obtain⟨xs,ys,W,Y,hn⟩:=hg;obtain⟨j,rv,ob⟩:=q.get G J D I W;obtain⟨d,R,p⟩:=r.get G J D I Y;obtain⟨C,f,⟨va,vb,g⟩,A,B⟩:=st;have Z2:=Z.zd q r D I V W Y;subst G J;have hT:s.TypeIs (.ref z) "zip":=%[_,C|rfl];have hk:i=j.toArray.size\/(i<j.toArray.size/\i=d.toArray.size):=by have e1:=rv.length;have e2:=R.length;simp only[x5];omega
  unfold pyNext;refine b0 (iq (wpAny_callSpecial?_slot (name:=Str.ofString "__next__") hT pf (de pf hT F.entry_zip_next ?_ (F.args_zip_next_1 _))));refine QJ (q.draws X.A.in1 (I.ok.hd M) m a (q.ne A ob) j.toArray) (r.draws X.A.in1 (I.ok.hd M) n b (r.ne B p) d.toArray) Z2 C f g %[A|ob] %[B|p] hk λ h' tk e kp ai=>?_;obtain⟨o,he,ce⟩:=ai;refine b0 (ft (T:="StopIteration") (b:=true) %[o,he|ce] n3 (b9 %[rfl|?_]));exact oX (ch:=[z,L,N,m,n]) I V λ c o l Q=>kp c o (λ z=>l (by simp[z])) (λ z=>l (by simp[z])) (λ z=>l (by simp[z])) (λ z=>l (by simp[z])) Q
 self:=λ _ _ _ _ _ st h=>wpAny_pyIter_zip st.1 h
def uB(q r:SqKind P w K)(h:∀O' H',Conv O O' H H'->∃xs ys,q.Sq H' a xs/\Reps K O' H' xs ds/\r.Sq H' b ys/\Reps K O' H' ys es):iB K (Itz q r a b) O H (List.zipWith (λ x y=>.tup [x,y]) ds es):=by
 intro O' H' B I i;obtain⟨xs,ys,l,u,m,v⟩:=h O' H' B;refine%[λ d c=>?_|λ C=>%[xs,ys,l,m|by rw[C,u.length,v.length,List.length_zipWith]]];rw[om]at c
 cases g:ds[i]? with
 | none=>rw[g]at c;cases c
 | some M=>
   cases k:es[i]? with
   | none=>rw[g,k]at c;cases c
   | some N=>rw[g,k]at c;cases c;obtain⟨J,e,n⟩:=u.get g;obtain⟨L,f,o⟩:=v.get k;refine%[%[xs,ys,J,L,l,m,e|f]|λ x A y=>?_];obtain⟨p,Q,R,j,rfl,rfl,E,F⟩:=y;have s:=E xs l;have t:=F ys m;rw[e]at s;rw[f]at t;cases s;cases t;have G:¬O'.has p:=λ z=>I p z j;exact%[dR.fresh j _|.tup %[G|aL] (.cons (n.mono (Step.fresh j _)) (.cons (o.mono (Step.fresh j _)) .nil))]
abbrev zh(h:Heap)(c1 c2:String)(l1 l2:Addr):Heap:=
 ((((h.push {cls:=.type c1,data:=.fields #[.ref l1,.int 0 0]}).push {cls:=.type c2,data:=.fields #[.ref l2,.int 0 0]}).push {cls:=%[|10],data:=.seq #[.ref h.objs.size,.ref (h.push {cls:=.type c1,data:=.fields #[.ref l1,.int 0 0]}).objs.size]}).push {cls:=%[|10],data:=.seq #[.none,.none]})
abbrev zhz(h:Heap)(c1 c2:String)(l1 l2:Addr):Heap:=
 (zh h c1 c2 l1 l2).push {cls:=.type "zip",data:=.fields #[.none,.bool false,.bool false,.ref ((h.push {cls:=.type c1,data:=.fields #[.ref l1,.int 0 0]}).push {cls:=.type c2,data:=.fields #[.ref l2,.int 0 0]}).objs.size,
  .ref (((h.push {cls:=.type c1,data:=.fields #[.ref l1,.int 0 0]}).push {cls:=.type c2,data:=.fields #[.ref l2,.int 0 0]}).push {cls:=%[|10],data:=.seq #[.ref h.objs.size,.ref (h.push {cls:=.type c1,data:=.fields #[.ref l1,.int 0 0]}).objs.size]}).objs.size]}
def La(a b:Addr)(xs ys:ac1):
 Meets (Builtin.«zip.__new__» %[[.type "zip",.ref a,.ref b]|[]]) (λ _ R s=>s.heap.IsTuple a xs/\s.heap.IsTuple b ys/\
  R (.ok (.ret (.ref (zh s.heap "tuple_iterator" "tuple_iterator" a b).objs.size))) {s with heap:=zhz s.heap "tuple_iterator" "tuple_iterator" a b}):=
 .of_wp λ i w A R s h=>by obtain⟨c,g,d,j,f⟩:=s;obtain⟨k,l,h⟩:=h;have e:=sub_zip;have m:Heap.IsTuple (Shared.heap %[c,g,d,j|f]) a xs:=k;have n:Heap.IsTuple (Shared.heap %[c.push {cls:=.type "tuple_iterator",data:=.fields #[.ref a,.int 0 0]},g,d,j|f]) b ys:=Heap.IsTuple.push l _;wp_walk using wpAny_pyIter_tuple m,wpAny_pyIter_tuple n;exact%[_,rfl|h]
end
section
variable{X:Cx}{Γ:Gam}{S:Store}{pos:Pos}
def zip_parts(h:Heap)(a d:String)(c f:Addr):(zh h a d c f).objs.size=h.objs.size+4/\IsZip (zhz h a d c f) (h.objs.size+4) (h.objs.size+2) (h.objs.size+3) .none/\IsPair (zhz h a d c f) (h.objs.size+2) (.ref h.objs.size) (.ref (h.objs.size+1))/\IsPair (zhz h a d c f) (h.objs.size+3) .none .none/\
 (zhz h a d c f).get? h.objs.size=some %[|27]/\(zhz h a d c f).get? (h.objs.size+1)=some {cls:=.type d,data:=.fields #[.ref f,.int 0 0]}/\∀b o,h.get? b=some o->(zhz h a d c f).get? b=some o:=by
 have j:(h.push %[|27]).objs.size=h.objs.size+1:=gl ..;have g:((h.push %[|27]).push {cls:=.type d,data:=.fields #[.ref f,.int 0 0]}).objs.size=h.objs.size+2:=by rw[gl,j]
 have i:(((h.push %[|27]).push {cls:=.type d,data:=.fields #[.ref f,.int 0 0]}).push {cls:=%[|10],data:=.seq #[.ref h.objs.size,.ref (h.push %[|27]).objs.size]}).objs.size=h.objs.size+3:=by rw[gl,g]
 have p:(zh h a d c f).objs.size=h.objs.size+4:=by rw[gl,i]
 have n:=bS (zh h a d c f) (o:={cls:=.type "zip",data:=.fields #[.none,.bool false,.bool false,.ref ((h.push %[|27]).push {cls:=.type d,data:=.fields #[.ref f,.int 0 0]}).objs.size,
  .ref (((h.push %[|27]).push {cls:=.type d,data:=.fields #[.ref f,.int 0 0]}).push {cls:=%[|10],data:=.seq #[.ref h.objs.size,.ref (h.push %[|27]).objs.size]}).objs.size]}) rfl;have m:(zhz h a d c f).get? (((h.push %[|27]).push {cls:=.type d,data:=.fields #[.ref f,.int 0 0]}).push {cls:=%[|10],data:=.seq #[.ref h.objs.size,.ref (h.push %[|27]).objs.size]}).objs.size=some {cls:=%[|10],data:=.seq #[.none,.none]}:=bE _ (bS _ rfl);have l:(zhz h a d c f).get? ((h.push %[|27]).push {cls:=.type d,data:=.fields #[.ref f,.int 0 0]}).objs.size=some {cls:=%[|10],data:=.seq #[.ref h.objs.size,.ref (h.push %[|27]).objs.size]}:=bE _ (bE _ (bS _ rfl));have k:(zhz h a d c f).get? (h.push %[|27]).objs.size=some {cls:=.type d,data:=.fields #[.ref f,.int 0 0]}:=bE _ (bE _ (bE _ (bS _ rfl)));have q:(zhz h a d c f).get? h.objs.size=some %[|27]:=bE _ (bE _ (bE _ (bE _ (bS _ rfl))));rw[g,i,p]at n;rw[i]at m;rw[j,g]at l;rw[j]at k;refine%[p,?_,l,m,q,k|λ b o e=>bE _ (bE _ (bE _ (bE _ (bE _ e))))];show(zhz h a d c f).get? _=_;unfold zhz;rw[g,i];exact n
def Pk{pins:Pins}{σ:St}(q r:SqKind X.prog X.w X.K)(I:%[|3])
 (hi:q.It (zhz s.heap f g a c) s.heap.objs.size a 0)(j:r.It (zhz s.heap f g a c) (s.heap.objs.size+1) c 0)(o:R (Itz q r a c) H):
 wpAny %[|6] X.A (pyIter (.ref (s.heap.objs.size+4))) (PIE X pins σ (.Tuple d k p) R) E {s with heap:=zhz s.heap f g a c}:=by
 obtain⟨_,i,m,n,_,_,l⟩:=zip_parts s.heap f g a c;refine wpAny_pyIter_zip i ?_;refine%[s.heap.objs.size+4,[s.heap.objs.size+4,s.heap.objs.size+2,s.heap.objs.size+3,s.heap.objs.size,s.heap.objs.size+1],_,_,H,rfl,I.kept (t':=s.toks) l,RN q r a c (s.heap.objs.size+4) (s.heap.objs.size+2) (s.heap.objs.size+3) s.heap.objs.size (s.heap.objs.size+1) ?_,%[i,m,%[_,_|n],hi|j],λ b h=>?_|o];{constructor<;>exact λ z=>by have t:(_:Nat)=_:=z;omega}
 . have e:s.heap.objs.size<=b:=by simp only[ci,k8,pT]at h;rcases h with rfl | rfl | rfl | rfl | rfl;{exact gz _ _};{exact gz _ _};{exact gz _ _};{exact y9 _};{exact gz _ _}
   exact I.fpOk e (I.hok.fresh e)
def SJ{f}{k}{tp p}(h:Ev X Γ S e λ d S1=>Ev X Γ S1 c λ d' S2=>∃ds es,d=.tup ds/\d'=.tup es/\W (List.zipWith (λ x y=>.tup [x,y]) ds es) S2)(P:X.mg "zip"=none)(N:Gl X "zip":=by rfl)
 (hs:starEach [e,c] X.env=(false,eval e X.env)::starEach [c] X.env:=by rfl)(g:starEach [c] X.env=[(false,eval c X.env)]:=by rfl):
 ItW X Γ S (.Tuple f k tp) (.Call (.Name "zip" p) [e,c] [] pos) W:=by
 intro j s σ H O I o st;have M:EvA X Γ S [e,c] λ G S2=>∃ds es,G=[.tup ds,.tup es]/\W (List.zipWith (λ x y=>.tup [x,y]) ds es) S2:=
  cT (h.mono λ d S1 m=>cT (m.mono λ d' S2 ⟨ds,es,a,b,w⟩=>ik %[ds,es,by rw[a,b]|w]) g) hs;refine Call_ (cz I N P boot_zip (eu (thn (M pos j s σ H O I o st) λ us s1 q=>?_) hs (by rw[g];rfl)));obtain⟨vs,H1,n,r1,K,G,S1,⟨ds,es,L,w⟩,E,v,B⟩:=q;subst L;cases B with| cons ra A=>cases A with| cons A rc=>cases rc;obtain⟨u,u2,rfl,ru,C⟩:=vals2 r1;cases ra with| @tup a xs _ m Y=>cases A with| @tup b ys _ J Z=>cases ru;cases C;obtain⟨r,rv,V,hz⟩:=n.tuple m.sq;obtain⟨i,aa,z,Q⟩:=n.tuple J.sq;obtain⟨z4,R,p2,p3,T,U,kp⟩:=zip_parts s1.heap "tuple_iterator" "tuple_iterator" a b;refine callType_new F.called_zip %[|1] (F.typeCall_zip_2 _ _) (F.newCall_zip_2 _ _) (λ t=>F.args_object_init_3 t _ _) F.entry_zip_new (La a b r.toArray i.toArray) %[V,z|?_];show _/\_;rw[z4];refine%[%[_,R|rfl]|Pk (KZ X.prog X.w X.K) (KZ X.prog X.w X.K) n %[_,T,rfl|rfl] %[_,U,rfl|rfl] %[K,_,S1,w,E,v|uB _ _ λ O' H' l=>%[xs,ys,(m.conv l).sq,Y.conv l,(J.conv l).sq|Z.conv l]]]
end
section
variable{X:Cx}{Γ:Gam}{S:Store}{e:Expr}
def aaU(h:Ev X Γ S e λ d S1=>∃i,d=.int i/\W (some i) S1):PoD X Γ S (some e) W:=h
def aaC(h:W none S):PoD X Γ S none W:=h
def aak(h:Ts X Γ S c W):TsA X Γ S [c] W:=h
end
def aD{a:Type}{xs:List a}{x}(h:xs[i]? =some x):xs.take (i+1)=xs.take i++[x]:=by rw[List.take_add_one,h];rfl
def Do(d:D)(ds:List D):cutD (d::ds) (some 1) none=ds:=by
 unfold cutD;have a:HT.sIx (d::ds).length 0 (some 1)=1:=by have:=HT.sIx_nat (d::ds).length 0 1;simp only[dQ]at this ⊢;have b:((1:Nat):Int)=1:=rfl;rw[b]at this;rw[this];omega
 rw[a,HT.sIx_none];simp
def iD{ds:List c}{v:Int}(b:0<=v)(h1:v<ds.length):∃x,atI ds v=some x/\ds[v.toNat]? =some x:=by
 have a:v.toNat<ds.length:=%[|0]
 refine%[ds[v.toNat],?_|y3 a];have q:=cG (xs:=ds) (j:=v.toNat) (y3 a);rwa[pE b]at q
def EY(x:a)(xs:List a):atI (x::xs) 0=some x:=cG (xs:=x::xs) (j:=0) rfl
def set_get{S:Store}(h:S[k]? =some l):(S.set k l')[k]? =some l':=fy (z0.mp h).1
end DL
namespace RF
open PySem PySem.Spec L2 DL
open PyProof.Rows
open Builtin
def rW:fillsNumberSlot %[|10] "mul"=pure false:=
 PySem.fillsNumberSlot_seq (id:="tuple.__mul__") (r:=some (.builtin "tuple.__rmul__")) l9.lookup %[|11] F.slot_tuple_rmul.lookup %[|11]
def zY:seqRepeat? %[|10]=pure (some (.builtin "tuple.__mul__")):=by unfold seqRepeat?;rw[PySem.seqSlot_of (T:="tuple") (name:="__mul__") (id:="tuple.__mul__") l9.lookup %[|11],PySem.seqSlot_of (T:="tuple") (name:="__rmul__") (id:="tuple.__rmul__") F.slot_tuple_rmul.lookup %[|11]];rfl
def vL(a:Int)(t:Tok)(l:Addr)(items:ac1)(n:Nat)(b:ac7)(e:ac3):
 Meets (Builtin.«int.__rmul__» %[[.int a t,.ref l]|[]]) (λ _ R s=>s.heap.get? l=some {cls:=%[|10],dict:=b,data:=.seq items n,slots:=e}/\R (.ok (.ret Value.notImplemented)) s):=
 .of_wp λ c w A R s h=>by obtain⟨i,g,d,k,j⟩:=s;obtain⟨f,h⟩:=h;wp_walk;exact%[_,rfl|h]
def vo(l:Addr)(items:ac1)(n:Nat)(a:ac7)(f:ac3)(x:Int)(u:Tok)(h1:¬(decide (x< -(2 ^ 63))||decide (x≥2 ^ 63))=true)(e:(items.isEmpty||x==1)=true):
 Meets (Builtin.«tuple.__mul__» %[[.ref l,.int x u]|[]]) (λ _ R s=>s.heap.get? l=some {cls:=%[|10],dict:=a,data:=.seq items n,slots:=f}/\R (.ok (.ret (.ref l))) s):=
 .of_wp λ c w A R s h=>by
  obtain⟨i,g,d,k,j⟩:=s;obtain⟨b,h⟩:=h;unfold Builtin.«tuple.__mul__»;wp_walk;rw[bP h1];wp_walk using AutoSeq1.wpAny_loadPart' b;try rw[c9 e]
  wp_walk using AutoSeq1.wpAny_loadPart' b;exact%[_,rfl|h]
def vP(l:Addr)(items:ac1)(n:Nat)(a:ac7)(f:ac3)(x:Int)(u:Tok)(h1:¬(decide (x< -(2 ^ 63))||decide (x≥2 ^ 63))=true)(e:¬(items.isEmpty||x==1)=true)(h2:(decide (x<=0)||items.isEmpty)=true):
 Meets (Builtin.«tuple.__mul__» %[[.ref l,.int x u]|[]]) (λ _ R s=>s.heap.get? l=some {cls:=%[|10],dict:=a,data:=.seq items n,slots:=f}/\R (.ok (.ret %[|9])) {s with heap:=s.heap.push {cls:=%[|10],data:=.seq #[]}}):=
 .of_wp λ c w A R s h=>by
  obtain⟨i,g,d,k,j⟩:=s;obtain⟨b,h⟩:=h;unfold Builtin.«tuple.__mul__»;wp_walk;rw[bP h1];wp_walk using AutoSeq1.wpAny_loadPart' b;try rw[bP e]
  wp_walk using AutoSeq1.wpAny_loadPart' b;try rw[c9 h2]
  wp_walk using AutoSeq1.wpAny_loadPart' b;exact%[_,rfl|h]
def wj(l:Addr)(items:ac1)(n:Nat)(b:ac7)(j:ac3)(x:Int)(u:Tok)(h1:¬(decide (x< -(2 ^ 63))||decide (x≥2 ^ 63))=true)(i:¬(items.isEmpty||x==1)=true)(h2:¬(decide (x<=0)||items.isEmpty)=true)
 (e:¬((items.size:Int)*x>(2 ^ 63-1)/8))(f:¬Builtin.Tuple.tupleTooMany ((items.size:Int)*x)=true)(k:((List.replicate x.toNat items).foldl (· ++·) #[]).size<=sizeLine):
 Meets (Builtin.«tuple.__mul__» %[[.ref l,.int x u]|[]]) (λ _ R s=>s.heap.get? l=some {cls:=%[|10],dict:=b,data:=.seq items n,slots:=j}/\R (.ok (.ret %[|9])) {s with heap:=s.heap.push {cls:=%[|10],data:=.seq ((List.replicate x.toNat items).foldl (· ++·) #[])}}):=
 .of_wp λ c w A R s h=>by
  obtain⟨m,g,d,p,o⟩:=s;obtain⟨a,h⟩:=h;unfold Builtin.«tuple.__mul__»;wp_walk;rw[bP h1];wp_walk using AutoSeq1.wpAny_loadPart' a;try rw[bP i]
  wp_walk using AutoSeq1.wpAny_loadPart' a;try rw[bP h2]
  wp_walk using AutoSeq1.wpAny_loadPart' a;try rw[bP e]
  wp_walk using AutoSeq1.wpAny_loadPart' a;try rw[bP f]
  wp_walk using AutoSeq1.wpAny_loadPart' a;exact%[_,rfl|h]
theorem Reps.rep{K}(r:Reps K O H a ds):∀k:Nat,Reps K O H (List.replicate k a).flatten (List.replicate k ds).flatten
 | 0=>.nil
 | k+1=>by rw[fR,fR,iS,iS];exact r.append (Reps.rep r k)
def Yp(hk: -(2 ^ 63)<=k/\k<2 ^ 63)(hz:ds.length*k.toNat<=1000000)(w:W (.tup (List.replicate k.toNat ds).flatten) S):d7 X .Mult (.tup ds) (.int k) S W:=by
 intro i s Z H O v w' u u' I G L M N P
 cases L with
 | @tup a Y _ B l=>
   cases M;cases N;obtain⟨t,rfl⟩:=P;obtain⟨c,J,K,_⟩:=I.tuple B.sq;obtain⟨⟨cls,j,data,o⟩,d,C,n,E⟩:=id K;simp only at C E;subst C E;have r:c.length=ds.length:=by rw[<-J.length,l.length]
   have q:¬(decide (k< -(2 ^ 63))||decide (k≥2 ^ 63))=true:=by rw[cK %[|0],cK %[|0]];decide
   have h:∀m:Nat,m=k.toNat->EP X i Z (QG X.K O H W) %[|9] {s with heap:=s.heap.push {cls:=%[|10],data:=.seq (List.replicate m c).flatten.toArray}}:=by rintro m rfl;refine%[%[|9],upd H s.heap.objs.size (.tup (List.replicate k.toNat Y).flatten),I.laid (t':=s.toks) (λ b u e=>bE _ e) (y9 _) ?_,rfl|je w G I.fresh (Reps.rep l _)];exact%[by rw[len_rep,l.length,mx];exact small hz,_,J.rep _|%[_,bS _ rfl,rfl,_|rfl]]
   refine oz (T:="tuple") (U:="int") %[|1] %[_,d|rfl] (λ Q=>typeIs_int Q k t) rW F.fills_int_mul pi zY F.slot_int_index.lookup
    (kG pi (typeIs_int s k t) F.entry_int_rmul (F.args_int_rmul_2 _ _) (vL k t a c.toArray n j o) %[d,rfl,%[_,d|rfl]|?_]);by_cases f:(c.toArray.isEmpty||k==1)=true
   . refine kG l9 %[_,d|rfl] F.entry_tuple_mul (F.args_tuple_mul_2 _ _) (vo a c.toArray n j o k t q f) %[d,.ref a,H,I,rfl|?_];have e:(List.replicate k.toNat ds).flatten=ds:=by
      rw[kn]at f;rcases f with z | z
      . have:c=[]:=by simpa using z
        have:ds=[]:=by rw[this]at r;simpa using r.symm
        subst this;simp
      {have:k=1:=ZU z;subst this;simp}
     rw[e]at w;exact J3 w G (.tup B l)
   . by_cases g:(decide (k<=0)||c.toArray.isEmpty)=true
     . refine kG l9 %[_,d|rfl] F.entry_tuple_mul (F.args_tuple_mul_2 _ _) (vP a c.toArray n j o k t q f g) %[d|?_];have A:k.toNat=0:=by rw[kn]at g;rcases g with z | z;{have:=cy z;omega};{exact absurd (by rw[z];rfl) f}
       have:=h 0 A.symm;exact this
     . have A:0<k:=by
        cases z:decide (k<=0)with
        | true=>exact absurd (by rw[z];rfl) g
        | false=>have:=mA z;omega
       have x:(c.toArray.size:Int)*k=((c.length*k.toNat:Nat):Int):=by rw[x5,Int.natCast_mul,pE %[|0]]
       have y:List.foldl (λ R V=>R++V) #[] (List.replicate k.toNat c.toArray)=(List.replicate k.toNat c).flatten.toArray:=by have:=foldl_rep c k.toNat [];rw[List.nil_append]at this;exact this
       have p:c.length*k.toNat<=1000000:=by rw[r];exact hz
       refine kG l9 %[_,d|rfl] F.entry_tuple_mul (F.args_tuple_mul_2 _ _) (wj a c.toArray n j o k t q f g (by rw[x];omega) ?_ ?_) %[d|?_]
       . rw[x];have:(1000000:Nat)<=sizeLine:=%[|1]
         unfold Builtin.Tuple.tupleTooMany;rw[ib];omega
       {rw[y,x5,len_rep,mx];exact small p};{rw[y];exact h _ rfl}
variable{W:WD}
set_option genInjectivity false in
structure Wd where
 P:Program
 w:World
 K:PySem.W.Frag
 mg:Str->Option Value
 base:Heap
 cd:Option (Value×Str):=none
abbrev Nm:=List (Str×NameKind)
structure At(Ω:Wd)(X:Cx)(r:Nat)(top:Bool)(N:ab8)(nm:Nm):Prop where
 p:X.prog=Ω.P
 w:X.w=Ω.w
 k:X.K=Ω.K
 g:X.mg=Ω.mg
 b:X.base=Ω.base
 room:Room r X.A
 xe:X.xe=λ _ _=>False
 calm:X.calm=true
 n:X.N=N
 nd:N.Nodup
 kind:X.env.scope.kind=.function
 look:∀x k,nm.lookup x=some k->X.env.kindOf x=some k\/(k=.free/\X.env.kindOf x=some .cell)
 fn:∀x,nm.lookup x=some .cell->X.fn x=true
 cd:top=true->∀p,Ω.cd=some p->X.env.code=p.1/\X.env.qual=p.2
 fr:top=true->X.stack=X.env::X.outer/\X.env.frame=some X.env.locals/\X.ex=[]
def vis(nm:Nm)(x:Str):Bool:=match nm.lookup x with | some .local=>true | some .cell=>true | some .free=>true | _=>false
def lcl(top:Bool)(nm:Nm)(x:Str):Bool:=match nm.lookup x with | some .local=>true | some .cell=>true | _=>false
def glb(nm:Nm)(x:Str):Bool:=nm.lookup x==some .globalImplicit
def okN(x:Str):Bool:=!(x==("__debug__":Str))&&(!(x==("__classdict__":Str))&& !(x==("__name__":Str)))
def okE:Expr->Bool
 | .Starred .. =>false | .Set .. =>false | .Slice .. =>false | _=>true
def noC:Expr->Bool
 | .ListComp .. =>false | .SetComp .. =>false | .DictComp .. =>false | _=>true
def Y6:Expr->Bool
 | .UnaryOp .. =>false | .BoolOp .. =>false | .IfExp .. =>false | .Compare .. =>false | _=>true
def bu(h:(a&&b)=true):a=true/\b=true:=by cases a<;>cases b<;>first | exact%[rfl|rfl] | exact(y6 h).elim
def an2{P:Prop}(h:(a&&b)=true)(g:a=true->b=true->P):P:=g (bu h).1 (bu h).2
def an3{P:Prop}(h:(a&&(b&&c))=true)(g:a=true->b=true->c=true->P):P:=an2 (bu h).2 (g (bu h).1)
def an4{P:Prop}(h:(a&&(b&&(c&&d)))=true)(g:a=true->b=true->c=true->d=true->P):P:=an3 (bu h).2 (g (bu h).1)
def an5{P:Prop}(h:(a&&(b&&(c&&(d&&e))))=true)(g:a=true->b=true->c=true->d=true->e=true->P):P:=an4 (bu h).2 (g (bu h).1)
def an6{P:Prop}(h:(a&&(b&&(c&&(d&&(e&&f)))))=true)(g:a=true->b=true->c=true->d=true->e=true->f=true->P):P:=an5 (bu h).2 (g (bu h).1)
def an7{P:Prop}(h:(a&&(b&&(c&&(d&&(e&&(f&&i))))))=true)(g:a=true->b=true->c=true->d=true->e=true->f=true->i=true->P):P:=an6 (bu h).2 (g (bu h).1)
def an8{P:Prop}(h:(a&&(b&&(c&&(d&&(e&&(f&&(i&&j)))))))=true)(g:a=true->b=true->c=true->d=true->e=true->f=true->i=true->j=true->P):P:=an7 (bu h).2 (g (bu h).1)
def an9{P:Prop}(h:(a&&(b&&(c&&(d&&(e&&(f&&(i&&(j&&k))))))))=true)(g:a=true->b=true->c=true->d=true->e=true->f=true->i=true->j=true->k=true->P):P:=an8 (bu h).2 (g (bu h).1)
def nt(h:(!a)=true):a=false:=by cases a<;>first | rfl | exact(y6 h).elim
def gG(h:okN x=true):(x==("__debug__":Str))=false/\(x==("__classdict__":Str))=false/\x≠"__name__":=by refine an3 h λ b c a=>?_;exact%[nt b,nt c|λ e=>by rw[e]at a;simp at a]
section
variable{Ω:Wd}{X:Cx}{r:Nat}{top:Bool}{N:List Str}{nm:Nm}{x:Str}
def At.vis(A:%[|20])(h:RF.vis nm x=true):Vis X.env.scope x:=by
 unfold RF.vis at h
 cases e:nm.lookup x with
 | none=>rw[e]at h;cases h
 | some k=>
   rw[e]at h;have q:=A.look x k e
   cases k with
   | «local»=>rcases q with q | ⟨q,_⟩;exact .inl q;exact nomatch q
   | cell=>rcases q with q | ⟨q,_⟩;exact .inr (.inl q);exact nomatch q
   | free=>rcases q with q | ⟨_,q⟩;exact .inr (.inr q);exact .inr (.inl q)
   | _=>exact(y6 h).elim
def At.lcl(A:%[|20])(h:RF.lcl top nm x=true):Loc X.env.scope x/\(X.fn x=true\/X.env.scope.names.lookup x=some .local):=by
 unfold RF.lcl at h
 cases e:nm.lookup x with
 | none=>rw[e]at h;cases h
 | some k=>
   rw[e]at h;have q:=A.look x k e
   cases k with
   | «local»=>rcases q with q | ⟨q,_⟩;exact%[.inl q|.inr q];exact nomatch q
   | cell=>rcases q with q | ⟨q,_⟩;exact%[.inr q|.inl (A.fn x e)];exact nomatch q
   | _=>exact(y6 h).elim
def At.glb(A:%[|20])(h:RF.glb nm x=true):Gl X x:=by have e:nm.lookup x=some .globalImplicit:=ZU h;rcases A.look x _ e with q | ⟨q,_⟩;{exact q};{exact nomatch q}
end
def aK(h:okE e=true)(es:ac2)(env:Env):starEach (e::es) env=(false,eval e env)::starEach es env:=by cases e<;>first | rfl | exact(y6 h).elim
theorem sS:∀{es:ac2}(_:es.all okE=true)(pos:Pos)(env:Env),(backTo pos (starEach es env)).any (·.1)=false
 | [],_,_,_=>rfl
 | e::es,h,pos,env=>by rw[ip]at h;refine an2 h λ a b=>?_;rw[aK a];show(false||(backTo pos (starEach es env)).any (·.1))=false;rw[sS b];rfl
def iT(h:okE e=true):behindInMarks op e=false:=by cases e<;>first | rfl | exact(y6 h).elim
def BJ(h:okE e=true):Je e:=by intro _ _;cases e<;>first | rfl | exact(y6 h).elim
def pI(h:okE e=true)(env:Env):∀x,foldedSetIterable e env x=pure x:=by intro x;cases e<;>first | rfl | exact(y6 h).elim
def kW(h:noC e=true)(t:Option Expr)(l:Nat)(env:Env):swapsWith e t l env=pure false:=by cases e<;>first | rfl | exact(y6 h).elim
def Ym(h:Y6 e=true)(env:Env):∀whole,isTrue e env whole=(do let v <-whole;standAt e.pos;holding [v] (truthy v)):=by intro w;cases e<;>first | rfl | exact(y6 h).elim
section
variable{X:Cx}{Γ:Gam}{S:Store}{e:Expr}{es:List Expr}
def EvA.mono{W f}(h:EvA X Γ S es W)(k:∀ds S',W ds S'->f ds S'):EvA X Γ S es f:=λ e a s m H O I b l=>
 thn (h e a s m H O I b l) λ _ _ c=>by obtain⟨v,g,i,r,j,d,S',w,q⟩:=c;exact%[v,g,i,r,j,d,S',k d S' w|q]
def Ts.mono{W f}(h:Ts X Γ S e W)(k:∀c S',W c S'->f c S'):Ts X Γ S e f:=λ a s m H O I b l=>
 thn (h a s m H O I b l) λ _ _ d=>by obtain⟨g,i,j,S',w,q⟩:=d;exact%[g,i,j,S',k _ S' w|q]
def BdW.mono{W f}(h:BdW X e d Γ S W)(k:∀G S',W G S'->f G S'):BdW X e d Γ S f:=λ a s n H O v u I b m r l=>
 thn (h a s n H O v u I b m r l) λ _ _ q=>by obtain⟨c,g,i,j,G,S',w,q⟩:=q;exact%[c,g,i,j,G,S',k G S' w|q]
def ItW.mono{W c}(h:ItW X Γ S d e W)(k:∀ds S',W ds S'->c ds S'):ItW X Γ S d e c:=λ a s u H O I b r=>
 thn (h a s u H O I b r) λ _ _ q=>thn q λ _ _ q=>by obtain⟨p,o,t,J,f,i,j,l,m,n,g,ds,S',w,z⟩:=q;exact%[p,o,t,J,f,i,j,l,m,n,g,ds,S',k ds S' w|z]
def X3{pins:Pins}{W g}(h1:∀G S,W.nx G S->g.nx G S)(h2:∀d S,W.rt d S->g.rt d S)(h:∀G S,W.bk G S->g.bk G S)(i:∀G S,W.ct G S->g.ct G S)(q:SP X pins (ends X.K O H W) f s'):SP X pins (ends X.K O H g) f s':=by
 cases f with
 | next=>obtain⟨e,a,I,b,G,c,w,q⟩:=q;exact%[e,a,I,b,G,c,h1 _ _ w|q]
 | brk=>obtain⟨e,a,I,b,G,c,w,q⟩:=q;exact%[e,a,I,b,G,c,h _ _ w|q]
 | cont=>obtain⟨e,a,I,b,G,c,w,q⟩:=q;exact%[e,a,I,b,G,c,i _ _ w|q]
 | ret u=>obtain⟨v,e,a,I,r,b,d,c,w,q⟩:=q;exact%[v,e,a,I,r,b,d,c,h2 _ _ w|q]
def Rn.mono{st}{W a}(h:Rn X Γ S st W)(h1:∀G S,W.nx G S->a.nx G S)(h2:∀d S,W.rt d S->a.rt d S)(e:∀G S,W.bk G S->a.bk G S)(f:∀G S,W.ct G S->a.ct G S):Rn X Γ S st a:=λ b s i H O I c g=>
 thn (h b s i H O I c g) λ _ _ q=>X3 h1 h2 e f q
def PP{W}(h:Ev X Γ S a λ x S1=>Ev X Γ S1 b λ y S2=>bW X op x y S2 (asB λ k S3=>(k=false->W false S3)/\(k=true->Ev X Γ S3 c λ t S4=>bW X m y t S4 (asB W))))
 (hm:lastMarks [op,m] [b,c]=false):Ts X Γ S (.Compare a [op,m] [b,c] pos) W:=by
 intro e s B H O I l st;refine isTrue_chain (rs:=[]) (thn (h e s B H O I l st) λ u s1 d=>?_) hm;obtain⟨v,Q,V,r1,O1,x,S1,hb,f,D,o⟩:=d;refine test_link (thn (hb e s1 B Q O1 V (l.mono f) D) λ P s2 d=>?_);obtain⟨w,R,Y,N,O2,y,S2,hw,g,E,j⟩:=d;refine thn (hw e s2 B R O2 v w u P Y E (o.mono g) j r1 N) λ _ s3 d=>?_;obtain⟨z,K,L,r3,M,d3,S3,⟨k,C,k1,k2⟩,i,n,p⟩:=d;subst C;cases p;cases r3;refine gI ?_
 cases k with
 | false=>exact ite_ff %[K,L,M,S3,k1 rfl,(f.trans g).trans i|n]
 | true=>refine ite_tt (test_last (thn (k2 rfl e s3 B K M L (((l.mono f).mono g).mono i) n) λ u4 s4 d=>?_));obtain⟨w4,T,Z,r4,O4,t,S4,h4,A,F,q⟩:=d;refine thn (h4 e s4 B T O4 w w4 P u4 Z F ((j.mono i).mono A) q N r4) λ _ s5 d=>?_;obtain⟨z5,U,I5,r5,O5,d5,S5,⟨k,C,w5⟩,J,G,r⟩:=d;subst C;cases r;cases r5;exact gI %[U,I5,O5,S5,w5,(((f.trans g).trans i).trans A).trans J|G]
end
def bII(x y:D)(k:Int->Int->Prop):Prop:=match x with
 | .int i=>(match y with
   | .int j=>k i j
   | _=>False)
 | _=>False
def eQ(h:bII x y k):∃i j,x=.int i/\y=.int j/\k i j:=by cases x<;>first | exact h.elim | (cases y<;>first | exact h.elim | exact%[_,_,rfl,rfl|h])
def bTu(x:D)(k:List D->Prop):Prop:=match x with
 | .tup a=>k a
 | _=>False
def vO(h:bTu x k):∃a,x=.tup a/\k a:=by cases x<;>first | exact h.elim | exact%[_,rfl|h]
def bLs(x:D)(k:List D->Prop):Prop:=match x with
 | .lst a=>k a
 | _=>False
def Jd(h:bLs x k):∃a,x=.lst a/\k a:=by cases x<;>first | exact h.elim | exact%[_,rfl|h]
def bIn(x:D)(k:Int->Prop):Prop:=match x with
 | .int a=>k a
 | _=>False
def Ve(h:bIn x k):∃a,x=.int a/\k a:=by cases x<;>first | exact h.elim | exact%[_,rfl|h]
def RQ(x:D)(a b c:Prop):Prop:=match x with
 | .int _=>a
 | .tup _=>b
 | _=>c
def Ej(h:RQ x a b c):a\/b\/c:=by cases x<;>first | exact .inl h | exact .inr (.inl h) | exact .inr (.inr h)
def Ua(op:Operator)(x y:D)(S:Store)(W:WD):Prop:=match op with
 | .Add=>RQ x (bII x y λ i j=>W (.int (i+j)) S) (bTu x λ a=>bTu y λ b=>a.length+b.length<=1000000/\W (.tup (a++b)) S) (bLs x λ a=>bLs y λ b=>a.length+b.length<=1000000/\W (.lst (a++b)) S)
 | .Sub=>bII x y λ i j=>W (.int (i-j)) S
 | .Mult=>RQ x (bII x y λ i j=>CMul i j/\W (.int (i*j)) S) (bTu x λ a=>bIn y λ n=>(-(2 ^ 63)<=n/\n<2 ^ 63)/\a.length*n.toNat<=1000000/\W (.tup (List.replicate n.toNat a).flatten) S) False
 | .Mod=>bII x y λ i j=>0<j/\W (.int (i % j)) S
 | .FloorDiv=>bII x y λ i j=>(0<j/\j<1073741824)/\W (.int (i/j)) S
 | .Pow=>bII x y λ i j=>CPow i j/\W (.int (i ^ j.toNat)) S
 | _=>False
def RV(h:Ua op x y S W):d7 X op x y S W:=by
 cases op<;>first | exact(show False from h).elim | skip
 {rcases Ej h with h | h | h;{obtain⟨i,j,rfl,rfl,h⟩:=eQ h;exact aam h};{obtain⟨a,rfl,c⟩:=vO h;obtain⟨b,rfl,h2⟩:=vO c;exact WM h2.1 h2.2};{obtain⟨a,rfl,c⟩:=Jd h;obtain⟨b,rfl,h2⟩:=Jd c;exact Xv h2.1 h2.2}};{obtain⟨i,j,rfl,rfl,h⟩:=eQ h;exact Zq h};{rcases Ej h with h | h | h;{obtain⟨i,j,rfl,rfl,h⟩:=eQ h;exact Z6 h.1 h.2};{obtain⟨a,rfl,c⟩:=vO h;obtain⟨b,rfl,h2⟩:=Ve c;exact Yp h2.1 h2.2.1 h2.2.2};{exact h.elim}};all_goals obtain⟨i,j,rfl,rfl,h⟩:=eQ h
 all_goals first | exact ZG h.1 h.2 | exact Yi h.1 h.2 | exact aae h.1 h.2
def RL(x y:D)(S:Store)(W:WD):Prop:=match x,y with
 | .tup a,.int i=>∃d,atI a i=some d/\W d S
 | .lst a,.int i=>∃d,atI a i=some d/\W d S
 | .loc k,.int i=>∃a d,S[k]? =some a/\atI a i=some d/\W d S
 | _,_=>False
def Wl(h:RL x y S W):IxW X a b x y S W:=by unfold RL at h;split at h;{obtain⟨d,c,e⟩:=h;exact aab c e};{obtain⟨d,c,e⟩:=h;exact aal c e};{obtain⟨g,d,c,e,f⟩:=h;exact ZM c e f};{exact h.elim}
def Qu(x:D)(l h:ac6)(S:Store)(W:WD):Prop:=match x with
 | .tup a=>W (.tup (cutD a l h)) S
 | .lst a=>W (.lst (cutD a l h)) S
 | .loc k=>∃a,S[k]? =some a/\W (.lst (cutD a l h)) S
 | _=>False
def Zm{lo hi}(d:S[k]? =some ds)(w:W (.lst (cutD ds lo hi)) S):SlW X (.loc k) lo hi S W:=by intro a s t H O v u o q n I b l m f h i;cases l with| @loc p _ c=>obtain⟨r,g,j⟩:=b.obj k p ds c d;exact Jk a s t H _ u o q lo hi n _ I m f h i %[p,r,rfl,SqL.of g|λ x e=>dM w b e (uJ j lo hi)]
def Vq(h:Qu x l r S W):SlW X x l r S W:=by unfold Qu at h;split at h;{exact aan h};{exact ZK h};{obtain⟨c,a,b⟩:=h;exact Zm a b};{exact h.elim}
inductive Ty where
 | int | bool | tuple | list | str
 deriving DecidableEq
def Ty.id:Ty->String
 | .int=>"int" | .bool=>"bool" | .tuple=>"tuple" | .list=>"list" | .str=>"str"
def Ty.nm:Ty->Str
 | .int=>"int" | .bool=>"bool" | .tuple=>"tuple" | .list=>"list" | .str=>"str"
def isD:Ty->D->Bool
 | .int,.int _=>true | .int,.bl _=>true | .bool,.bl _=>true | .tuple,.tup _=>true | .list,.lst _=>true | .list,.loc _=>true | .str,.str _=>true | _,_=>false
def Xy(T:Ty)(x:D):isi (tyD x) T.id=isD T x:=by cases T<;>cases x<;>rfl
def Ty.isT(T:Ty):DL.isT T.id=true:=by cases T<;>rfl
def Ty.boot(T:Ty):bootBuiltins T.nm=some (.type T.id):=by cases T<;>decide+kernel
def Ty.ok(T:Ty):(T.nm==("__debug__":Str))=false/\T.nm≠"__name__":=by cases T<;>decide+kernel
end RF
set_option maxHeartbeats 1000000
namespace RF
open PySem PySem.Spec L2 DL
open PyProof.Rows
variable{e:Expr}
def nameP(e:Expr):Option {x:Str×Pos // e=.Name x.1 x.2}:=match e with
 | .Name x p=>some %[(x,p)|rfl]
 | _=>none
def nameV(e:Expr):Option Str:=(nameP e).map (·.1.1)
def gr(h:nameV e=some x):∃p,e=.Name x p:=by obtain⟨z,_,a⟩:=kM.mp h;exact%[z.1.2|by rw[<-a];exact z.2]
def SQ(e:Expr):Option {x:Expr×List Expr×List Keyword×Pos // e=.Call x.1 x.2.1 x.2.2.1 x.2.2.2}:=match e with
 | .Call f es ks q=>some %[(f,es,ks,q)|rfl]
 | _=>none
def anB{α:Type}(o:Option α)(k:α->Bool):Bool:=match o with
 | some a=>k a
 | none=>false
def bD{k:b->Bool}(h:anB o k=true):∃a,o=some a/\k a=true:=by
 cases o with
 | none=>cases h
 | some a=>exact%[a,rfl|h]
def lC{α:Type}(l:List α)(b:Bool):Bool:=l.isEmpty&&b
def eO{l:List a}(h:lC l b=true):l=[]/\b=true:=
 %[List.isEmpty_iff.mp (bu h).1|(bu h).2]
def cA(e:Expr)(k:Str->List Expr->Bool):Bool:=anB (SQ e) λ z=>lC z.1.2.2.1 (anB (nameV z.1.1) λ f=>k f z.1.2.1)
def R8(h:cA e k=true):∃f p es pos,e=.Call (.Name f p) es [] pos/\k f es=true:=by obtain⟨z,_,a⟩:=bD h;obtain⟨b,c⟩:=eO a;obtain⟨x,d,g⟩:=bD c;obtain⟨p,i⟩:=gr d;exact%[x,p,z.1.2.1,z.1.2.2.2,z.2.trans (by rw[b,i])|g]
@[elab_as_elim] theorem bh{a:Expr->Prop}(h:cA e k=true)(g:∀f p es pos,k f es=true->a (.Call (.Name f p) es [] pos)):a e:=by obtain⟨b,c,d,i,rfl,h⟩:=R8 h;exact g b c d i h
def dj{α:Type}(l:List α)(k:α->Bool):Bool:=match l with
 | [a]=>k a
 | _=>false
def eX{k:b->Bool}(h:dj l k=true):∃a,l=[a]/\k a=true:=by
 cases l with
 | nil=>cases h
 | cons a l=>cases l with
   | nil=>exact%[a,rfl|h]
   | cons=>cases h
@[elab_as_elim] theorem cP{b:List c->Prop}(h:dj l k=true)(g:∀a,k a=true->b [a]):b l:=by obtain⟨d,rfl,h⟩:=eX h;exact g d h
def two2{α:Type}(l:List α)(k:α->α->Bool):Bool:=match l with
 | [a,b]=>k a b
 | _=>false
def two2_of{k:c->c->Bool}(h:two2 l k=true):∃a b,l=[a,b]/\k a b=true:=by
 cases l with
 | nil=>cases h
 | cons a l=>cases l with
   | nil=>cases h
   | cons b l=>cases l with
     | nil=>exact%[a,b,rfl|h]
     | cons=>cases h
@[elab_as_elim] theorem two2_ind{c:List d->Prop}(h:two2 l k=true)(g:∀a b,k a b=true->c [a,b]):c l:=by obtain⟨e,f,rfl,h⟩:=two2_of h;exact g e f h
def DG{α:Type}(l:List α)(k:α->List α->Bool):Bool:=match l with
 | a::l=>k a l
 | []=>false
def Wo{k:b->List b->Bool}(h:DG l k=true):∃a m,l=a::m/\k a m=true:=by
 cases l with
 | nil=>cases h
 | cons a l=>exact%[a,l,rfl|h]
@[elab_as_elim] theorem rA{b:List c->Prop}(h:DG l k=true)(g:∀a m,k a m=true->b (a::m)):b l:=by obtain⟨d,e,rfl,h⟩:=Wo h;exact g d e h
def tupP(e:Expr):Option {x:List Expr×Nat×Pos // e=.Tuple x.1 x.2.1 x.2.2}:=match e with
 | .Tuple a b c=>some %[(a,b,c)|rfl]
 | _=>none
def ww(e:Expr):Bool:=(tupP e).isSome
def jL(h:ww e=true):∃es k p,e=.Tuple es k p:=by obtain⟨z,_⟩:=mn.mp h;exact%[_,_,_|z.2]
def Z7(e:Expr):Option {x:Expr×Str×Pos // e=.Attribute x.1 x.2.1 x.2.2}:=match e with
 | .Attribute x m p=>some %[(x,m,p)|rfl]
 | _=>none
def Sv(st:Stmt):Option {x:List Expr×Expr×Pos // st=.Assign x.1 x.2.1 x.2.2}:=match st with
 | .Assign a b c=>some %[(a,b,c)|rfl]
 | _=>none
def XR(st:Stmt):Option (List Expr×Expr):=(Sv st).map λ x=>(x.1.1,x.1.2.1)
def U0{st}(h:XR st=some (a,e)):∃p,st=.Assign a e p:=by obtain⟨z,_,b⟩:=kM.mp h;have c:z.1.1=a:=eL Prod.fst b;have d:z.1.2.1=e:=eL Prod.snd b;exact%[z.1.2.2|by rw[<-c,<-d];exact z.2]
def setB(st:Stmt)(k:Str->Expr->Bool):Bool:=anB (Sv st) λ z=>dj z.1.1 λ t=>anB (nameV t) λ x=>k x z.1.2.1
def Vv{st}(h:setB st k=true):∃x q e p,st=.Assign [.Name x q] e p/\k x e=true:=by obtain⟨z,_,c⟩:=bD h;obtain⟨t,a,d⟩:=eX c;obtain⟨x,f,g⟩:=bD d;obtain⟨q,b⟩:=gr f;exact%[x,q,z.1.2.1,z.1.2.2,z.2.trans (by rw[a,b])|g]
@[elab_as_elim] theorem Aa{a:Stmt->Prop}{st}(h:setB st k=true)(g:∀x q e p,k x e=true->a (.Assign [.Name x q] e p)):a st:=by obtain⟨b,c,d,f,rfl,h⟩:=Vv h;exact g b c d f h
def oM(e:Expr)(k:Expr->Str->Pos->List Expr->Pos->Bool):Bool:=anB (SQ e) λ z=>lC z.1.2.2.1 (anB (Z7 z.1.1) λ a=>k a.1.1 a.1.2.1 a.1.2.2 z.1.2.1 z.1.2.2.2)
def Uu(h:oM e k=true):∃x m p es q,e=.Call (.Attribute x m p) es [] q/\k x m p es q=true:=by obtain⟨z,_,b⟩:=bD h;obtain⟨c,d⟩:=eO b;obtain⟨a,_,f⟩:=bD d;exact%[a.1.1,a.1.2.1,a.1.2.2,z.1.2.1,z.1.2.2.2,z.2.trans (by rw[c];exact eL (Expr.Call · _ _ _) a.2)|f]
@[elab_as_elim] theorem fX{a:Expr->Prop}(h:oM e k=true)(g:∀x m p es q,k x m p es q=true->a (.Call (.Attribute x m p) es [] q)):a e:=by obtain⟨b,c,d,f,i,rfl,h⟩:=Uu h;exact g b c d f i h
def frP(st:Stmt):Option {x:Expr×Expr×List Stmt×List Stmt×Pos // st=.For x.1 x.2.1 x.2.2.1 x.2.2.2.1 x.2.2.2.2}:=match st with
 | .For t it b els p=>some %[(t,it,b,els,p)|rfl]
 | _=>none
def frB(st:Stmt)(k:Expr->Expr->List Stmt->Bool):Bool:=anB (frP st) λ z=>lC z.1.2.2.2.1 (k z.1.1 z.1.2.1 z.1.2.2.1)
def Yc{st}(h:frB st k=true):∃t it b p,st=.For t it b [] p/\k t it b=true:=by obtain⟨z,_,a⟩:=bD h;obtain⟨c,d⟩:=eO a;exact%[z.1.1,z.1.2.1,z.1.2.2.1,z.1.2.2.2.2,z.2.trans (by rw[c])|d]
@[elab_as_elim] theorem oW{a:Stmt->Prop}{st}(h:frB st k=true)(g:∀t it b p,k t it b=true->a (.For t it b [] p)):a st:=by obtain⟨c,d,e,f,rfl,h⟩:=Yc h;exact g c d e f h
def sbP(e:Expr):Option {x:Expr×Expr×Pos // e=.Subscript x.1 x.2.1 x.2.2}:=match e with
 | .Subscript x y p=>some %[(x,y,p)|rfl]
 | _=>none
def YL(e:Expr):Bool:=(sbP e).isSome
def Uy(h:YL e=true):∃a b c,e=.Subscript a b c:=by obtain⟨z,_⟩:=mn.mp h;exact%[_,_,_|z.2]
def aay(st:Stmt):Option {x:Expr×Operator×Expr×Pos // st=.AugAssign x.1 x.2.1 x.2.2.1 x.2.2.2}:=match st with
 | .AugAssign t o e p=>some %[(t,o,e,p)|rfl]
 | _=>none
def Yu(st:Stmt):Option (Expr×Operator×Expr):=(aay st).map λ x=>(x.1.1,x.1.2.1,x.1.2.2.1)
def Wv{st}(h:Yu st=some (t,o,e)):∃p,st=.AugAssign t o e p:=by obtain⟨z,_,a⟩:=kM.mp h;have b:z.1.1=t:=eL Prod.fst a;have c:z.1.2.1=o:=eL (λ z=>z.2.1) a;have d:z.1.2.2.1=e:=eL (λ z=>z.2.2) a;exact%[z.1.2.2.2|by rw[<-b,<-c,<-d];exact z.2]
def dctP(e:Expr):Option {x:List (Option Expr)×List Expr×Pos // e=.Dict x.1 x.2.1 x.2.2}:=match e with
 | .Dict ks vs p=>some %[(ks,vs,p)|rfl]
 | _=>none
def Q4(e:Expr):Option (List (Option Expr)×List Expr):=(dctP e).map λ x=>(x.1.1,x.1.2.1)
def Jh(h:Q4 e=some (ks,a)):∃p,e=.Dict ks a p:=by obtain⟨z,_,b⟩:=kM.mp h;have c:z.1.1=ks:=eL Prod.fst b;have d:z.1.2.1=a:=eL Prod.snd b;exact%[z.1.2.2|by rw[<-c,<-d];exact z.2]
def ixB(st:Stmt)(k:Expr->Expr->Expr->Bool):Bool:=anB (Sv st) λ z=>dj z.1.1 λ t=>anB (sbP t) λ q=>k q.1.1 q.1.2.1 z.1.2.1
def X4{st}(h:ixB st k=true):∃x y q e p,st=.Assign [.Subscript x y q] e p/\k x y e=true:=by obtain⟨z,_,g⟩:=bD h;obtain⟨t,a,b⟩:=eX g;obtain⟨q,_,c⟩:=bD b;exact%[q.1.1,q.1.2.1,q.1.2.2,z.1.2.1,z.1.2.2,z.2.trans (by rw[a];exact eL (Stmt.Assign [·] _ _) q.2)|c]
@[elab_as_elim] theorem Ir{a:Stmt->Prop}{st}(h:ixB st k=true)(g:∀x y q e p,k x y e=true->a (.Assign [.Subscript x y q] e p)):a st:=by obtain⟨b,c,d,f,i,rfl,h⟩:=X4 h;exact g b c d f i h
def cmP(e:Expr):Option {x:Expr×List CmpOp×List Expr×Pos // e=.Compare x.1 x.2.1 x.2.2.1 x.2.2.2}:=match e with
 | .Compare l os rs p=>some %[(l,os,rs,p)|rfl]
 | _=>none
def cm1(e:Expr)(k:Expr->CmpOp->Expr->Bool):Bool:=anB (cmP e) λ z=>dj z.1.2.1 λ o=>dj z.1.2.2.1 λ r=>k z.1.1 o r
def Yj(h:cm1 e k=true):∃l o r p,e=.Compare l [o] [r] p/\k l o r=true:=by obtain⟨z,_,g⟩:=bD h;obtain⟨o,a,c⟩:=eX g;obtain⟨r,b,d⟩:=eX c;exact%[z.1.1,o,r,z.1.2.2.2,z.2.trans (by rw[a,b])|d]
@[elab_as_elim] theorem vA{a:Expr->Prop}(h:cm1 e k=true)(g:∀l o r p,k l o r=true->a (.Compare l [o] [r] p)):a e:=by obtain⟨b,c,d,f,rfl,h⟩:=Yj h;exact g b c d f h
def cm2(e:Expr)(k:Expr->CmpOp->CmpOp->Expr->Expr->Bool):Bool:=anB (cmP e) λ z=>two2 z.1.2.1 λ o p=>two2 z.1.2.2.1 λ m r=>k z.1.1 o p m r
def Yy(h:cm2 e k=true):∃l o p m r q,e=.Compare l [o,p] [m,r] q/\k l o p m r=true:=by obtain⟨z,_,g⟩:=bD h;obtain⟨o,p,a,c⟩:=two2_of g;obtain⟨m,r,b,d⟩:=two2_of c;exact%[z.1.1,o,p,m,r,z.1.2.2.2,z.2.trans (by rw[a,b])|d]
@[elab_as_elim] theorem Ik{a:Expr->Prop}(h:cm2 e k=true)(g:∀l o p m r q,k l o p m r=true->a (.Compare l [o,p] [m,r] q)):a e:=by obtain⟨b,c,d,f,i,j,rfl,h⟩:=Yy h;exact g b c d f i j h
end RF
set_option maxHeartbeats 4000000
namespace RF
open PySem PySem.Spec L2 DL
open PyProof.Rows
variable{ds:List D}{S:Store}{x y:D}{W:Bool -> Store -> Prop}
mutual
def eqD:D->D->Bool
 | .non,.non=>true
 | .bl a,.bl b=>a==b
 | .int a,.int b=>a==b
 | .bl a,.int b=>(if a then 1 else 0)==b
 | .int a,.bl b=>a==(if b then 1 else 0)
 | .str a,.str b=>a==b
 | .tup a,.tup b=>cH a b
 | .lst a,.lst b=>cH a b
 | .dic,.dic=>true
 | _,_=>false
def cH:List D->List D->Bool
 | [],[]=>true
 | a::as,b::bs=>eqD a b&&cH as bs
 | _,_=>false
end
mutual
def okD:D->Bool
 | .tup ds=>cQ ds
 | .lst ds=>cQ ds
 | .loc _=>false
 | .dic=>false
 | .dlo _=>false
 | _=>true
def cQ:List D->Bool
 | []=>true
 | d::ds=>okD d&&cQ ds
end
mutual
inductive Sn(K:ab2)(H:Hp):V->D->Prop
 | non:Sn K H .non .non
 | bl(b:Bool):Sn K H (.bl b) (.bl b)
 | int(i:Int):Sn K H (.int i) (.int i)
 | str(x:Str):Sn K H (.str x) (.str x)
 | tup{a:Addr}{xs:List V}{ds:List D}(h:SqT K H a xs)(r:Sns K H xs ds):Sn K H (.ref a) (.tup ds)
 | lst{a:Addr}{xs:List V}{ds:List D}(h:SqL K H a xs)(r:Sns K H xs ds):Sn K H (.ref a) (.lst ds)
inductive Sns(K:ab2)(H:Hp):List V->List D->Prop
 | nil:Sns K H [] []
 | cons{v:V}{d:D}{vs:List V}{ds:List D}(r:Sn K H v d)(t:Sns K H vs ds):Sns K H (v::vs) (d::ds)
end
section
variable{K:PySem.W.Frag}{H:Hp}{O:Own}
def Sns.ind{P:List V->List D->Prop}(n:P [] [])(c:∀{v:V}{d:D}{a:List V}{ds:List D},Sn K H v d->Sns K H a ds->P a ds->P (v::a) (d::ds))(h:Sns K H a ds):P a ds:=
 Sns.rec (motive_1:=λ _ _ _=>True) (motive_2:=λ a ds _=>P a ds) trivial (λ _=>trivial) (λ _=>trivial) (λ _=>trivial) (λ _ _ _=>trivial) (λ _ _ _=>trivial) n (λ r t _ b=>c r t b) h
def Sns.length(h:Sns K H a ds):a.length=ds.length:=
 h.ind (P:=λ a ds=>a.length=ds.length) rfl λ _ _ i=>eL Nat.succ i
def Sns.get{i:Nat}(h:Sns K H a ds)(e:ds[i]? =some d):∃v,a[i]? =some v/\Sn K H v d:=by
 revert i;refine h.ind (P:=λ a ds=>∀{i:Nat},ds[i]? =some d->∃v,a[i]? =some v/\Sn K H v d) (λ e=>by simp at e) λ r t b i e=>?_
 cases i with
 | zero=>exact%[_,rfl|cf e▸r]
 | succ i=>exact b e
def iI(h:okD d=true)(r:Rep K O H v d):Sn K H v d:=
 Rep.rec (motive_1:=λ v d _=>okD d=true->Sn K H v d) (motive_2:=λ e c _=>cQ c=true->Sns K H e c) (λ _=>.non) (λ b _=>.bl b) (λ i _=>.int i) (λ x _=>.str x) (λ a _ i h=>.tup a.sq (i h)) (λ a _ i h=>.lst a.sq (i h)) (λ _ h=>by cases h) (λ _ _ h=>by cases h) (λ _ _ h=>by cases h) (λ _=>.nil) (λ _ _ i j h=>.cons (i (bu h).1) (j (bu h).2)) r h
def V7(h:cQ ds=true)(r:Reps K O H a ds):Sns K H a ds:=
 r.ind (P:=λ a ds=>cQ ds=true->Sns K H a ds) (λ _=>.nil) (λ r _ i h=>.cons (iI (bu h).1 r) (i (bu h).2)) h
end
section
variable{X:Cx}{pins:Pins}{s:Shared}{σ:DL.St}{H:Hp}
mutual
theorem uI(I:%[|3]){v:V}{x y:D}(a:Sn X.K H v x)(b:Sn X.K H v y):x=y:=by
 cases a with
 | non=>cases b;rfl
 | bl=>cases b;rfl
 | int=>cases b;rfl
 | str=>cases b;rfl
 | tup h r=>
   cases b with
   | tup h' r'=>have e:=I.tuple_inj h h';subst e;rw[uM I r r']
   | lst h' r'=>exfalso;obtain⟨its,_,⟨o,h2,h3,_⟩,_⟩:=I.tuple h;obtain⟨its2,_,pl,_⟩:=I.list h';obtain⟨o',h2',h3',_⟩:=pl.isList;rw[h2]at h2';cases h2';rw[h3]at h3';exact absurd h3' %[|1]
 | lst h r=>
   cases b with
   | lst h' r'=>have e:=I.list_inj h h';subst e;rw[uM I r r']
   | tup h' r'=>exfalso;obtain⟨its,_,⟨o,h2,h3,_⟩,_⟩:=I.tuple h';obtain⟨its2,_,pl,_⟩:=I.list h;obtain⟨o',h2',h3',_⟩:=pl.isList;rw[h2]at h2';cases h2';rw[h3]at h3';exact absurd h3' %[|1]
theorem uM(I:%[|3]){vs:List V}{xs ys:List D}(a:Sns X.K H vs xs)(b:Sns X.K H vs ys):xs=ys:=by
 cases a with
 | nil=>cases b;rfl
 | cons r t=>cases b with| cons r' t'=>rw[uI I r r',uM I t t']
end
end
def vh(a b:List D):eqD (.tup a) (.tup b)=cH a b:=rfl
def Ig(a b:List D):eqD (.lst a) (.lst b)=cH a b:=rfl
def oY(a b:Int):eqD (.int a) (.int b)=(a==b):=rfl
mutual
theorem fY:∀(x:D),az x=true->eqD x x=true
 | .non,_=>rfl
 | .bl b,_=>fq b
 | .int i,_=>fq i
 | .str s,_=>fq s
 | .tup ds,h=>mU ds h
 | .lst ds,h=>mU ds h
 | .loc _,h=>by cases h
 | .dlo _,h=>by cases h
 | .dic,_=>rfl
theorem mU:∀(xs:List D),aa xs=true->cH xs xs=true
 | [],_=>rfl
 | d::ds,h=>by obtain⟨h1,h2⟩:=bu (show(az d&&aa ds)=true from h);show(eqD d d&&cH ds ds)=true;rw[fY d h1,mU ds h2];rfl
end
abbrev eqJ(ds es:List D)(j:Nat):Bool:=eqD (ds.getD j .non) (es.getD j .non)
def Q7(d e:D)(ds es:List D):(eqJ (d::ds) (e::es)) ∘ Nat.succ=eqJ ds es:=by funext j;simp[eqJ,List.getD]
theorem kY:∀(ds es:List D),((List.range (min ds.length es.length)).all (eqJ ds es)&&ds.length==es.length)=cH ds es
 | [],[]=>by simp[cH]
 | [],e::es=>by simp[cH]
 | d::ds,[]=>by simp[cH]
 | d::ds,e::es=>by
   have f:=kY ds es;have a:min (d::ds).length (e::es).length=min ds.length es.length+1:=by simp only[dQ];omega
   rw[a,List.range_succ_eq_map,ip,List.all_map,Q7];have b:((d::ds).length==(e::es).length)=(ds.length==es.length):=by simp
   have c:eqJ (d::ds) (e::es) 0=eqD d e:=by simp[eqJ,List.getD]
   rw[b,c,Bool.and_assoc,f];simp only[cH]
def Qs(h:ds.length=es.length):(List.range ds.length).all (eqJ ds es)=cH ds es:=by rw[<-kY ds es,<-h,Nat.min_self,fq,dk]
def UG(h:ds.length≠es.length):cH ds es=false:=by
 rw[<-kY ds es];have:(ds.length==es.length)=false:=by simpa using h
 rw[this,Bool.and_false]
section
variable{X:Cx}
def uP(ih:∀(x y:D),deep x<=n->∀{pins:Pins}{s:ab5}{σ:DL.St}{H:Hp}{v w:V}{u O:Value}{A:ad0},%[|3]->Sn X.K H v x->Sn X.K H w y->RelV v u->RelV w O->A.units+n<cLine->SeqAt.EqAt A s u O (eqD x y))
 (x y:D)(U:deep x<=n+1){pins:Pins}{σ:DL.St}(I:%[|3])(r1:Sn X.K H v x)(M:Sn X.K H w y)(N:RelV v u)(f:RelV w O)(hu:A.units+(n+1)<cLine):
 SeqAt.RcAt A s u O (eqD x y)/\SeqAt.RcNeAt A s u O (!eqD x y):=by
 have d:A.units<cLine:=%[|0]
 have B:∀{o r:List D}{R S:List V}{l c:ab6},bC o<=n->Sns X.K H R o->Sns X.K H S r->Vals R l->Vals S c->∀j(T:j<l.toArray.size)(m:j<c.toArray.size),SeqAt.EqAt A.in1 s l.toArray[j] c.toArray[j] (eqJ o r j):=by
  intro o r R S l c L C p E q j j1 j2;have F:l.length=o.length:=by rw[<-E.length,C.length]
  have K:c.length=r.length:=by rw[<-q.length,p.length]
  have W:j<o.length:=by simpa[F]using j1
  have P:j<r.length:=by simpa[K]using j2
  obtain⟨z1,G,Y⟩:=C.get (y3 W);obtain⟨z2,J,Z⟩:=p.get (y3 P);obtain⟨u1,c1,d1⟩:=E.get G;obtain⟨u2,c2,d2⟩:=q.get J;have e1:l.toArray[j]=u1:=by have:=(z0.mp c1).2;simpa using this
  have e2:c.toArray[j]=u2:=by have:=(z0.mp c2).2;simpa using this
  rw[e1,e2];have e3:eqJ o r j=eqD o[j] r[j]:=by simp[eqJ,List.getD,W,P]
  rw[e3];have aa:=rT (y3 W);exact ih o[j] r[j] %[|0] I Y Z d1 d2 (by show A.units+1+n<cLine;omega)
 cases r1 with
 | non=>
   cases N
   cases M with
   | non=>cases f;exact%[SeqAt.RcAt.none_none|SeqAt.RcNeAt.none_none]
   | bl b=>cases f;exact%[SeqAt.RcAt.none_bool b|SeqAt.RcNeAt.none_bool b]
   | int i=>obtain⟨h,rfl⟩:=f;exact%[SeqAt.RcAt.none_int i h|SeqAt.RcNeAt.none_int i h]
   | str i=>obtain⟨h,rfl⟩:=f;exact%[SeqAt.RcAt.none_str i h|SeqAt.RcNeAt.none_str i h]
   | tup m p=>cases f;obtain⟨c,q,g,_⟩:=I.tuple m;exact%[SeqAt.RcAt.none_tuple (show s.heap.IsTuple _ c.toArray from g) d|SeqAt.RcNeAt.none_tuple (show s.heap.IsTuple _ c.toArray from g) d]
   | lst m p=>cases f;obtain⟨c,q,g,_⟩:=I.list m;exact%[SeqAt.RcAt.none_list g.isList d|SeqAt.RcNeAt.none_list g.isList d]
 | bl a=>
   cases N
   cases M with
   | non=>cases f;exact%[SeqAt.RcAt.bool_none a|SeqAt.RcNeAt.bool_none a]
   | bl b=>cases f;exact%[SeqAt.RcAt.bool_bool a b|SeqAt.RcNeAt.bool_bool a b]
   | int i=>obtain⟨h,rfl⟩:=f;exact%[SeqAt.RcAt.bool_int a i h|SeqAt.RcNeAt.bool_int a i h]
   | str i=>obtain⟨h,rfl⟩:=f;exact%[SeqAt.RcAt.bool_str a i h|SeqAt.RcNeAt.bool_str a i h]
   | tup m p=>cases f;obtain⟨c,q,g,_⟩:=I.tuple m;exact%[SeqAt.RcAt.bool_tuple a (show s.heap.IsTuple _ c.toArray from g) d|SeqAt.RcNeAt.bool_tuple a (show s.heap.IsTuple _ c.toArray from g) d]
   | lst m p=>cases f;obtain⟨c,q,g,_⟩:=I.list m;exact%[SeqAt.RcAt.bool_list a g.isList d|SeqAt.RcNeAt.bool_list a g.isList d]
 | int a=>
   obtain⟨t,rfl⟩:=N
   cases M with
   | non=>cases f;exact%[SeqAt.RcAt.int_none a t|SeqAt.RcNeAt.int_none a t]
   | bl b=>cases f;exact%[SeqAt.RcAt.int_bool a t b|SeqAt.RcNeAt.int_bool a t b]
   | int i=>obtain⟨h,rfl⟩:=f;exact%[SeqAt.RcAt.int_int a t i h|SeqAt.RcNeAt.int_int a t i h]
   | str i=>obtain⟨h,rfl⟩:=f;exact%[SeqAt.RcAt.int_str a t i h|SeqAt.RcNeAt.int_str a t i h]
   | tup m p=>cases f;obtain⟨c,q,g,_⟩:=I.tuple m;exact%[SeqAt.RcAt.int_tuple a t (show s.heap.IsTuple _ c.toArray from g) d|SeqAt.RcNeAt.int_tuple a t (show s.heap.IsTuple _ c.toArray from g) d]
   | lst m p=>cases f;obtain⟨c,q,g,_⟩:=I.list m;exact%[SeqAt.RcAt.int_list a t g.isList d|SeqAt.RcNeAt.int_list a t g.isList d]
 | str a=>
   obtain⟨t,rfl⟩:=N
   cases M with
   | non=>cases f;exact%[SeqAt.RcAt.str_none a t|SeqAt.RcNeAt.str_none a t]
   | bl b=>cases f;exact%[SeqAt.RcAt.str_bool a t b|SeqAt.RcNeAt.str_bool a t b]
   | int i=>obtain⟨h,rfl⟩:=f;exact%[SeqAt.RcAt.str_int a t i h|SeqAt.RcNeAt.str_int a t i h]
   | str i=>obtain⟨h,rfl⟩:=f;exact%[SeqAt.RcAt.str_str a t i h|SeqAt.RcNeAt.str_str a t i h]
   | tup m p=>cases f;obtain⟨c,q,g,_⟩:=I.tuple m;exact%[SeqAt.RcAt.str_tuple a t (show s.heap.IsTuple _ c.toArray from g) d|SeqAt.RcNeAt.str_tuple a t (show s.heap.IsTuple _ c.toArray from g) d]
   | lst m p=>cases f;obtain⟨c,q,g,_⟩:=I.list m;exact%[SeqAt.RcAt.str_list a t g.isList d|SeqAt.RcNeAt.str_list a t g.isList d]
 | @tup a R o T C=>
   cases N;obtain⟨l,E,k,_⟩:=I.tuple T;have k:s.heap.IsTuple a l.toArray:=k
   cases M with
   | non=>cases f;exact%[SeqAt.RcAt.tuple_none k d|SeqAt.RcNeAt.tuple_none k d]
   | bl b=>cases f;exact%[SeqAt.RcAt.tuple_bool b k d|SeqAt.RcNeAt.tuple_bool b k d]
   | int i=>obtain⟨h,rfl⟩:=f;exact%[SeqAt.RcAt.tuple_int i h k d|SeqAt.RcNeAt.tuple_int i h k d]
   | str i=>obtain⟨h,rfl⟩:=f;exact%[SeqAt.RcAt.tuple_str i h k d|SeqAt.RcNeAt.tuple_str i h k d]
   | @tup b S r m p=>
     cases f;obtain⟨c,q,g,_⟩:=I.tuple m;have g:s.heap.IsTuple b c.toArray:=g;have F:l.toArray.size=o.length:=by rw[x5,<-E.length,C.length]
     have K:c.toArray.size=r.length:=by rw[x5,<-q.length,p.length]
     have L:bC o<=n:=by simp[deep]at U;exact U
     have G:=SeqAt.RcAt.tuples (e:=eqJ o r) k g d (B L C p E q);have J:=SeqAt.RcNeAt.tuples (e:=eqJ o r) k g d (B L C p E q);rw[F,K,kY]at G J;rw[vh];exact%[G|J]
   | lst m p=>cases f;obtain⟨c,q,g,_⟩:=I.list m;exact%[SeqAt.RcAt.tuple_list k g.isList d|SeqAt.RcNeAt.tuple_list k g.isList d]
 | @lst a R o T C=>
   cases N;obtain⟨l,E,k,_⟩:=I.list T;have k:=k.isList
   cases M with
   | non=>cases f;exact%[SeqAt.RcAt.list_none k d|SeqAt.RcNeAt.list_none k d]
   | bl b=>cases f;exact%[SeqAt.RcAt.list_bool b k d|SeqAt.RcNeAt.list_bool b k d]
   | int i=>obtain⟨h,rfl⟩:=f;exact%[SeqAt.RcAt.list_int i h k d|SeqAt.RcNeAt.list_int i h k d]
   | str i=>obtain⟨h,rfl⟩:=f;exact%[SeqAt.RcAt.list_str i h k d|SeqAt.RcNeAt.list_str i h k d]
   | tup m p=>cases f;obtain⟨c,q,g,_⟩:=I.tuple m;exact%[SeqAt.RcAt.list_tuple k (show s.heap.IsTuple _ c.toArray from g) d|SeqAt.RcNeAt.list_tuple k (show s.heap.IsTuple _ c.toArray from g) d]
   | @lst b S r m p=>
     cases f;obtain⟨c,q,g,_⟩:=I.list m;have g:=g.isList;have F:l.toArray.size=o.length:=by rw[x5,<-E.length,C.length]
     have K:c.toArray.size=r.length:=by rw[x5,<-q.length,p.length]
     have L:bC o<=n:=by simp[deep]at U;exact U
     rw[Ig];by_cases Q:o.length=r.length;{have G:=SeqAt.RcAt.lists (e:=eqJ o r) k g (by rw[F,K,Q]) d (B L C p E q);have J:=SeqAt.RcNeAt.lists (e:=eqJ o r) k g (by rw[F,K,Q]) d (B L C p E q);rw[F,Qs Q]at G J;exact%[G|J]}
     . have z:(l.toArray.size !=c.toArray.size)=true:=by rw[F,K];simpa using Q
       rw[UG Q];exact%[SeqAt.RcAt.lists_lengths k g z d|SeqAt.RcNeAt.lists_lengths k g z d]
def lu:∀{K:ab2}{H:Hp}{v:V}{x:D},Sn K H v x->az x=true:=by intro K H v x h;refine Sn.rec (motive_1:=λ v x _=>az x=true) (motive_2:=λ j g _=>aa g=true) ?_ ?_ ?_ ?_ ?_ ?_ ?_ ?_ h;{simp[az]};{intro b;simp[az]};{intro b;simp[az]};{intro b;simp[az]};{intro a g i h r c;simpa[az]using c};{intro a g i h r c;simpa[az]using c};{simp[aa]};{intro v d j i r t e f;simp[aa,e,f]}
def zW (n:Nat):∀(x y:D),deep x<=n->∀{pins:Pins}{s:ab5}{σ:DL.St}{H:Hp}{v w:V}{u E:Value}{A:ad0},%[|3]->Sn X.K H v x->Sn X.K H w y->RelV v u->RelV w E->A.units+n<cLine->SeqAt.EqAt A s u E (eqD x y):=by
 induction n with
 | zero=>
   intro x y C pins s σ H v w u E A I B l m c J
   cases B with
   | non=>
     cases m
     cases l with
     | non=>cases c;exact mf _
     | bl b=>cases c;exact SeqAt.EqAt.none_bool b
     | int i=>obtain⟨g,rfl⟩:=c;exact SeqAt.EqAt.none_int i g
     | str i=>obtain⟨g,rfl⟩:=c;exact SeqAt.EqAt.none_str i g
     | tup f k=>cases c;obtain⟨d,o,h,_⟩:=I.tuple f;exact SeqAt.EqAt.none_tuple (show s.heap.IsTuple _ d.toArray from h) %[|0]
     | lst f k=>cases c;obtain⟨d,o,h,_⟩:=I.list f;exact SeqAt.EqAt.none_list h.isList %[|0]
   | bl a=>
     cases m
     cases l with
     | non=>cases c;exact SeqAt.EqAt.bool_none a
     | bl b=>cases c;exact SeqAt.EqAt.bool_bool a b
     | int i=>obtain⟨g,rfl⟩:=c;exact SeqAt.EqAt.bool_int a i g
     | str i=>obtain⟨g,rfl⟩:=c;exact SeqAt.EqAt.bool_str a i g
     | tup f k=>cases c;obtain⟨d,o,h,_⟩:=I.tuple f;exact SeqAt.EqAt.bool_tuple a (show s.heap.IsTuple _ d.toArray from h) %[|0]
     | lst f k=>cases c;obtain⟨d,o,h,_⟩:=I.list f;exact SeqAt.EqAt.bool_list a h.isList %[|0]
   | int a=>
     obtain⟨t,rfl⟩:=m
     cases l with
     | non=>cases c;exact SeqAt.EqAt.int_none a t
     | bl b=>cases c;exact SeqAt.EqAt.int_bool a t b
     | int i=>obtain⟨g,rfl⟩:=c;exact SeqAt.EqAt.int_int a t i g
     | str i=>obtain⟨g,rfl⟩:=c;exact SeqAt.EqAt.int_str a t i g
     | tup f k=>cases c;obtain⟨d,o,h,_⟩:=I.tuple f;exact SeqAt.EqAt.int_tuple a t (show s.heap.IsTuple _ d.toArray from h) %[|0]
     | lst f k=>cases c;obtain⟨d,o,h,_⟩:=I.list f;exact SeqAt.EqAt.int_list a t h.isList %[|0]
   | str a=>
     obtain⟨t,rfl⟩:=m
     cases l with
     | non=>cases c;exact SeqAt.EqAt.str_none a t
     | bl b=>cases c;exact SeqAt.EqAt.str_bool a t b
     | int i=>obtain⟨g,rfl⟩:=c;exact SeqAt.EqAt.str_int a t i g
     | str i=>obtain⟨g,rfl⟩:=c;exact SeqAt.EqAt.str_str a t i g
     | tup f k=>cases c;obtain⟨d,o,h,_⟩:=I.tuple f;exact SeqAt.EqAt.str_tuple a t (show s.heap.IsTuple _ d.toArray from h) %[|0]
     | lst f k=>cases c;obtain⟨d,o,h,_⟩:=I.list f;exact SeqAt.EqAt.str_list a t h.isList %[|0]
   | tup _ _=>simp[deep]at C
   | lst _ _=>simp[deep]at C
 | succ n K=>
   intro x y C pins s σ H v w u E A I B l m c J;by_cases q:deep x<=n;{exact K x y q I B l m c %[|0]}
   . have both:=uP K x y C I B l m c J
     cases B with
     | non=>simp[deep]at q
     | bl b=>simp[deep]at q
     | int b=>simp[deep]at q
     | str b=>simp[deep]at q
     | @tup a O M p z=>
       cases m;obtain⟨r,N,j,_⟩:=I.tuple p;have j:s.heap.IsTuple a r.toArray:=j
       cases l with
       | non=>cases c;exact SeqAt.EqAt.tuple_none j %[|0]
       | bl b=>cases c;exact SeqAt.EqAt.tuple_bool b j %[|0]
       | int i=>obtain⟨g,rfl⟩:=c;exact SeqAt.EqAt.tuple_int i g j %[|0]
       | str i=>obtain⟨g,rfl⟩:=c;exact SeqAt.EqAt.tuple_str i g j %[|0]
       | @tup b L G f k=>cases c;by_cases e:a=b;{subst e;have F:=uI I (.tup p z) (.tup f k);rw[<-F,fY _ (lu (.tup p z))];exact mf _};{exact mB e both.1}
       | @lst b L G f k=>cases c;obtain⟨d,o,h,_⟩:=I.list f;exact SeqAt.EqAt.tuple_list j h.isList %[|0]
     | @lst a O M p z=>
       cases m;obtain⟨r,N,j,_⟩:=I.list p;have j:=j.isList
       cases l with
       | non=>cases c;exact SeqAt.EqAt.list_none j %[|0]
       | bl b=>cases c;exact SeqAt.EqAt.list_bool b j %[|0]
       | int i=>obtain⟨g,rfl⟩:=c;exact SeqAt.EqAt.list_int i g j %[|0]
       | str i=>obtain⟨g,rfl⟩:=c;exact SeqAt.EqAt.list_str i g j %[|0]
       | tup f k=>cases c;obtain⟨d,o,h,_⟩:=I.tuple f;exact SeqAt.EqAt.list_tuple j (show s.heap.IsTuple _ d.toArray from h) %[|0]
       | @lst b L G f k=>cases c;by_cases e:a=b;{subst e;have F:=uI I (.lst p z) (.lst f k);rw[<-F,fY _ (lu (.lst p z))];exact mf _};{exact mB e both.1}
def vw(S:Store):D->D
 | .loc k=>match S[k]? with | some ds=>.lst ds | none=>.loc k
 | d=>d
def J9(S:Store)(x y:D):Prop:=okD (vw S x)=true/\okD (vw S y)=true/\deep (vw S x)<=50
def jt{K}(st:StOk K O H S)(r:Rep K O H v x)(h:okD (vw S x)=true):Sn K H v (vw S x):=by
 cases r with
 | @loc a k e=>
   simp only[vw]at h ⊢;have f:k<S.length:=by rw[<-st.len];exact(z0.mp e).1
   obtain⟨l,g,q⟩:=st.obj k a S[k] e (y3 f);rw[y3 f]at h ⊢;exact .lst (SqL.of g) (V7 (by simpa[okD]using h) q)
 | non=>exact .non
 | bl b=>exact .bl b
 | int i=>exact .int i
 | str i=>exact .str i
 | tup c d=>exact iI h (.tup c d)
 | lst c d=>exact iI h (.lst c d)
 | dic c j=>simp[vw,okD]at h
 | dlo c _=>simp[vw,okD]at h
def aai(k:X.A.units+60<cLine)(h:J9 S x y)(w:W (eqD (vw S x) (vw S y)) S):bW X .Eq x y S (asB W):=by intro b s o H O v m u l I a e f g i;obtain⟨c,d,j⟩:=h;have:=(uP (n:=50) (A:=X.A) (zW 50) (vw S x) (vw S y) %[|0] I (jt a e c) (jt a f d) g i %[|0]).1;exact this _ _ _ _ %[.bl _,H,I,rfl|J3 %[_,rfl|w] a (.bl _)]
def Zn(k:X.A.units+60<cLine)(h:J9 S x y)(w:W (!eqD (vw S x) (vw S y)) S):bW X .NotEq x y S (asB W):=by intro b s o H O v m u l I a e f g i;obtain⟨c,d,j⟩:=h;have:=(uP (n:=50) (A:=X.A) (zW 50) (vw S x) (vw S y) %[|0] I (jt a e c) (jt a f d) g i %[|0]).2;exact this _ _ _ _ %[.bl _,H,I,rfl|J3 %[_,rfl|w] a (.bl _)]
theorem Cr:∀{xs:List V}{its:ab6}{i:Nat}{v:V},Vals xs its->xs[i]? =some v->∃y,its[i]? =some y/\RelV v y
 | _,_,_,_,.nil,e=>by simp at e
 | _,_,0,_,.cons a _,e=>by simp at e;subst e;exact%[_,rfl|a]
 | _,_,i+1,v,.cons _ t,e=>by obtain⟨y,b,c⟩:=Cr (i:=i) (v:=v) t (by simpa using e);exact%[y,by simpa using b|c]
def Jg{pins:Pins}{σ:DL.St}(T:X.A.units+60<cLine)(I:%[|3])(Q:Sn X.K H v x)(R:Sn X.K H F (.lst ds))(O:RelV v u)(P:RelV F E)(J:bC ds<=50):
 ∃(l:Addr) (its:ab6) (e:Value->Bool),E=.ref l/\s.heap.IsList l its.toArray/\(∀y,y∈its.toArray->SeqAt.EqAt X.A.in1 s y u (e y))/\its.toArray.any e=ds.any λ d=>eqD d x:=by
 classical
 cases R with
 | @lst a j _ G g=>
   cases P;obtain⟨its,h,N,U⟩:=I.list G;let e:Value->Bool:=λ y=>decide (∃(b:V) (d:D),RelV b y/\Sn X.K H b d/\eqD d x=true);have A:∀(y:Value)(b:V)(d:D),RelV b y->Sn X.K H b d->e y=eqD d x:=by
    intro y b d c f
    cases k:eqD d x with
    | true=>exact cc %[b,d,c,f|k]
    | false=>refine cK ?_;rintro⟨W,S,r,t,m⟩;have p:=r.inj c;subst p;have:=uI I t f;subst this;rw[k]at m;cases m
   refine%[a,its,e,rfl,N.isList,?_|?_]
   . intro y L;have z:y∈its:=by simpa using L
     obtain⟨i,B⟩:=d6 z;have q:i<j.length:=by rw[h.length];exact(z0.mp B).1
     obtain⟨d,k⟩:∃d,ds[i]? =some d:=%[_|y3 (by rw[<-g.length];exact q)];obtain⟨b,w,f⟩:=g.get k;obtain⟨Y,n,c⟩:=Cr h w;rw[B]at n;cases n;rw[A y b d c f];exact zW 50 d x (cS (rT k) J) I f Q c O (by show X.A.units+1+50<cLine;omega)
   . have C:its.length=ds.length:=by rw[<-h.length,g.length]
     have o:∀(j:List V)(its:ab6)(ds:List D),Vals j its->Sns X.K H j ds->its.any e=ds.any λ d=>eqD d x:=by
      intro j its ds h g
      induction h generalizing ds with
      | nil=>cases g;rfl
      | cons c _ M=>cases g with| cons f K=>rw[List.any_cons,List.any_cons,A _ _ _ c f,M _ K]
     rw[List.any_toArray];exact o j its ds h g
def Zj(k:X.A.units+60<cLine)(b:vw S y=.lst ds)(h1:okD (vw S x)=true)(h2:cQ ds=true)(g:bC ds<=50)(w:W (ds.any λ d=>eqD d (vw S x)) S):bW X .In x y S (asB W):=by intro c s z H O v t u r I a n o p q;have f:=jt a o (by rw[b];simpa[okD]using h2);rw[b]at f;obtain⟨l,m,e,rfl,j,i,h⟩:=Jg k I (jt a n h1) f p q g;refine SeqAt.in_listAt e j i ?_;rw[h];exact%[.bl _,H,I,rfl|J3 %[_,rfl|w] a (.bl _)]
def W8(k:X.A.units+60<cLine)(b:vw S y=.lst ds)(h1:okD (vw S x)=true)(h2:cQ ds=true)(g:bC ds<=50)(w:W (!(ds.any λ d=>eqD d (vw S x))) S):bW X .NotIn x y S (asB W):=by intro c s z H O v t u r I a n o p q;have f:=jt a o (by rw[b];simpa[okD]using h2);rw[b]at f;obtain⟨l,m,e,rfl,j,i,h⟩:=Jg k I (jt a n h1) f p q g;refine SeqAt.notIn_listAt e j i ?_;rw[h];exact%[.bl _,H,I,rfl|J3 %[_,rfl|w] a (.bl _)]
end
end RF
namespace RF
open PySem PySem.Spec L2 DL
open PyProof.Rows
variable{X:Cx}
def isN:D->Bool
 | .non=>true
 | _=>false
def YK(w:W (a==b) S):bW X .Is (.bl a) (.bl b) S (asB W):=by
 intro c s l H O v k u j I i d f g h;cases d;cases f;cases g;cases h;refine wpAny_is_plain rfl ?_;have e:(Value.bool a==Value.bool b)=(a==b):=by cases a<;>cases b<;>rfl
 rw[e];exact%[.bl _,H,I,rfl|J3 %[_,rfl|w] i (.bl _)]
def Nz(w:W (!(a==b)) S):bW X .IsNot (.bl a) (.bl b) S (asB W):=by
 intro c s l H O v k u j I i d f g h;cases d;cases f;cases g;cases h;refine wpAny_isNot_plain rfl ?_;have e:(Value.bool a==Value.bool b)=(a==b):=by cases a<;>cases b<;>rfl
 rw[e];exact%[.bl _,H,I,rfl|J3 %[_,rfl|w] i (.bl _)]
def bEq(x y:D)(ki:Int->Int->Prop)(kb:Bool->Bool->Prop)(g:Prop):Prop:=match x with
 | .int i=>(match y with
   | .int j=>ki i j
   | _=>g)
 | .bl i=>(match y with
   | .bl j=>kb i j
   | _=>g)
 | _=>g
def HR(h:bEq x y b a g):(∃i j,x=.int i/\y=.int j/\b i j)\/(∃i j,x=.bl i/\y=.bl j/\a i j)\/g:=by cases x<;>first | exact .inr (.inr h) | (cases y<;>first | exact .inr (.inr h) | exact .inl %[_,_,rfl,rfl|h] | exact .inr (.inl %[_,_,rfl,rfl|h]))
def bIs(x y:D)(n:Prop)(kb:Bool->Bool->Prop):Prop:=match y with
 | .non=>n
 | .bl j=>(match x with
   | .bl i=>kb i j
   | _=>False)
 | _=>False
def HB(h:bIs x y n a):(y=.non/\n)\/∃i j,x=.bl i/\y=.bl j/\a i j:=by cases y<;>first | exact h.elim | exact .inl %[rfl|h] | (cases x<;>first | exact h.elim | exact .inr %[_,_,rfl,rfl|h])
@[irreducible] noncomputable def bI(op:CmpOp)(x y:D)(S:Store)(W:Bool->%[|4]):Prop:=match op with
  | .Lt=>bII x y λ i j=>W (decide (i<j)) S
  | .LtE=>bII x y λ i j=>W (decide (i<=j)) S
  | .Gt=>bII x y λ i j=>W (decide (j<i)) S
  | .GtE=>bII x y λ i j=>W (decide (j<=i)) S
  | .Eq=>bEq x y (λ i j=>W (decide (i=j)) S) (λ i j=>W (i==j) S) (J9 S x y/\W (eqD (vw S x) (vw S y)) S)
  | .NotEq=>bEq x y (λ i j=>W (!decide (i=j)) S) (λ i j=>W (!(i==j)) S) ((J9 S x y/\W (!eqD (vw S x) (vw S y)) S)\/False)
  | .Is=>bIs x y (W (isN x) S) λ i j=>W (i==j) S
  | .IsNot=>bIs x y (W (!isN x) S) λ i j=>W (!(i==j)) S
  | .In=>∃a,vw S y=.lst a/\okD (vw S x)=true/\cQ a=true/\bC a<=50/\W (a.any λ d=>eqD d (vw S x)) S
  | .NotIn=>∃a,vw S y=.lst a/\okD (vw S x)=true/\cQ a=true/\bC a<=50/\W (!(a.any λ d=>eqD d (vw S x))) S
def cV(h:∀V:WD,V (.bl b) S->bW X op x y S V)(w:W b S):bW X op x y S (asB W):=h (asB W) %[b,rfl|w]
def fW(a:X.A.units+60<cLine)(h:bI op x y S W):bW X op x y S (asB W):=by
 unfold bI at h
 cases op with
 | Lt=>obtain⟨i,j,rfl,rfl,h⟩:=eQ h;exact cV (λ _=>aaK) h
 | LtE=>obtain⟨i,j,rfl,rfl,h⟩:=eQ h;exact cV (λ _=>aaD) h
 | Gt=>obtain⟨i,j,rfl,rfl,h⟩:=eQ h;exact cV (λ _=>aaF) h
 | GtE=>obtain⟨i,j,rfl,rfl,h⟩:=eQ h;exact cV (λ _=>aa0) h
 | Eq=>rcases HR h with⟨i,j,rfl,rfl,h⟩ | ⟨i,j,rfl,rfl,h⟩ | h;{exact cV (λ _=>ZX) h};{exact cV (λ _=>Zo) h};{exact aai a h.1 h.2}
 | NotEq=>rcases HR h with⟨i,j,rfl,rfl,h⟩ | ⟨i,j,rfl,rfl,h⟩ | h | h;{exact cV (λ _=>Zg) h};{exact cV (λ _=>aav) h};{exact Zn a h.1 h.2};{exact h.elim}
 | Is=>rcases HB h with⟨rfl,h⟩ | ⟨i,j,rfl,rfl,h⟩;{exact cV (λ V w=>Zx w) h};{exact YK h}
 | IsNot=>rcases HB h with⟨rfl,h⟩ | ⟨i,j,rfl,rfl,h⟩;{refine cV (λ V w=>VM ?_) h;cases x<;>exact w};{exact Nz h}
 | In=>obtain⟨g,b,c,d,e,f⟩:=h;exact Zj a b c d e f
 | NotIn=>obtain⟨g,b,c,d,e,f⟩:=h;exact W8 a b c d e f
section
variable{i j:Int}{a b:Bool}{x y:D}{S:Store}{W:Bool -> Store -> Prop}
def cLt(w:W (decide (i<j)) S):bI .Lt (.int i) (.int j) S W:=by unfold bI;exact w
def cLe(w:W (decide (i<=j)) S):bI .LtE (.int i) (.int j) S W:=by unfold bI;exact w
def cGt(w:W (decide (j<i)) S):bI .Gt (.int i) (.int j) S W:=by unfold bI;exact w
def cEqI(w:W (decide (i=j)) S):bI .Eq (.int i) (.int j) S W:=by unfold bI;exact w
def cNeI(w:W (!decide (i=j)) S):bI .NotEq (.int i) (.int j) S W:=by unfold bI;exact w
def cIsNot(w:W (!isN x) S):bI .IsNot x .non S W:=by unfold bI;cases x<;>exact w
def HN(h1:az x=true)(a:okD x=true)(h2:deep x<=50)(w:W false S):bI .NotEq x x S W:=by
 have e:W (!eqD x x) S:=by rw[fY x h1];exact w
 unfold bI
 cases x with
 | int i=>simpa[bEq]using w
 | bl i=>simpa[bEq]using w
 | loc k=>cases a
 | _=>exact .inl %[%[a,a|h2]|e]
end
set_option genInjectivity false in
structure Ex(Ω:Wd) where
 lev:Nat
 chk:Bool->List Str->Nm->Expr->Bool
 wp:Gam->Store->WD->Prop
 sound:∀{X:Cx}{r:Nat}{top:Bool}{N:ab8}{nm:Nm}{e:Expr}{Γ:Gam}{S:Store}{W:WD},%[|20]->lev<=r->chk top N nm e=true->wp Γ S W->Ev X Γ S e W
set_option genInjectivity false in
structure Te(Ω:Wd) where
 lev:Nat
 chk:Bool->List Str->Nm->Expr->Bool
 wp:Gam->Store->(Bool->%[|4])->Prop
 sound:∀{X:Cx}{r:Nat}{top:Bool}{N:ab8}{nm:Nm}{e:Expr}{Γ:Gam}{S:Store}{W:Bool->%[|4]},%[|20]->lev<=r->chk top N nm e=true->wp Γ S W->Ts X Γ S e W
set_option genInjectivity false in
structure Ar(Ω:Wd) where
 lev:Nat
 chk:Bool->List Str->Nm->List Expr->Bool
 wp:Gam->Store->(List D->%[|4])->Prop
 plain:∀{top:Bool}{N:ab8}{nm:Nm}{es:ac2},chk top N nm es=true->es.all okE=true
 sound:∀{X:Cx}{r:Nat}{top:Bool}{N:ab8}{nm:Nm}{es:ac2}{Γ:Gam}{S:Store}{W:List D->%[|4]},%[|20]->lev<=r->chk top N nm es=true->wp Γ S W->EvA X Γ S es W
set_option genInjectivity false in
structure Bo(Ω:Wd) where
 lev:Nat
 chk:Bool->List Str->Nm->List Expr->Bool
 wpA:Gam->Store->WD->Prop
 wpO:Gam->Store->WD->Prop
 ne:∀{top:Bool}{N:ab8}{nm:Nm}{es:ac2},chk top N nm es=true->∃b rest,es=b::rest
 soundA:∀{X:Cx}{r:Nat}{top:Bool}{N:ab8}{nm:Nm}{es:ac2}{Γ:Gam}{S:Store}{W:WD}{pos:Pos},%[|20]->lev<=r->chk top N nm es=true->wpA Γ S W->Ev X Γ S (.BoolOp .And es pos) W
 soundO:∀{X:Cx}{r:Nat}{top:Bool}{N:ab8}{nm:Nm}{es:ac2}{Γ:Gam}{S:Store}{W:WD}{pos:Pos},%[|20]->lev<=r->chk top N nm es=true->wpO Γ S W->Ev X Γ S (.BoolOp .Or es pos) W
set_option genInjectivity false in
structure Bt(Ω:Wd) where
 lev:Nat
 chk:Bool->List Str->Nm->List Expr->Bool
 wpA:Gam->Store->(Bool->%[|4])->Prop
 wpO:Gam->Store->(Bool->%[|4])->Prop
 ne:∀{top:Bool}{N:ab8}{nm:Nm}{es:ac2},chk top N nm es=true->∃b rest,es=b::rest
 soundA:∀{X:Cx}{r:Nat}{top:Bool}{N:ab8}{nm:Nm}{es:ac2}{Γ:Gam}{S:Store}{W:Bool->%[|4]}{pos:Pos},%[|20]->lev<=r->chk top N nm es=true->wpA Γ S W->TsW X Γ S (.BoolOp .And es pos) W
 soundO:∀{X:Cx}{r:Nat}{top:Bool}{N:ab8}{nm:Nm}{es:ac2}{Γ:Gam}{S:Store}{W:Bool->%[|4]}{pos:Pos},%[|20]->lev<=r->chk top N nm es=true->wpO Γ S W->TsW X Γ S (.BoolOp .Or es pos) W
def At.hu(A:%[|20]):X.A.units+60<cLine:=by have:=A.room.un;omega
def lv2{a b r:Nat}(h:max a b<=r):a<=r/\b<=r:=%[|0]
variable{Ω:Wd}
def eN(i:Nat):Ex Ω where
 lev:=0
 chk _ N h e:=match e with | .Name x _=>(N[i]? ==some x)&&(vis h x&&okN x) | _=>false
 wp f S W:=match f[i]? with | some (some d)=>W d S | _=>False
 sound:=by
  intro X r p N h e f S W A _ g b
  cases e with
  | Name x n=>
    refine an3 g λ c l m=>?_;obtain⟨j,k,_⟩:=gG m;have c:N[i]? =some x:=ZU c
    cases a:f[i]? with
    | none=>rw[a]at b;exact b.elim
    | some o=>
      cases o with
      | none=>rw[a]at b;exact b.elim
      | some d=>rw[a]at b;exact Y5 i a b (by rw[A.n];exact c) (A.vis l) j k
  | _=>exact fE g
def sy(i:Int):Ex Ω where
 lev:=0
 chk _ _ _ e:=match e with | .Constant (.int j) _ _=>j==i | _=>false
 wp _ S W:=W (.int i) S
 sound:=by
  intro X r f N g e h S W A _ a b
  cases e with
  | Constant c k d=>
    cases c with
    | int j=>have e:j=i:=ZU a;subst e;exact MN b
    | _=>exact fE a
  | _=>exact fE a
def Ex.bl(i:Bool):Ex Ω where
 lev:=0
 chk _ _ _ e:=match e with | .Constant (.bool j) _ _=>j==i | _=>false
 wp _ S W:=W (.bl i) S
 sound:=by
  intro X r f N g e h S W A _ a b
  cases e with
  | Constant c k d=>
    cases c with
    | bool j=>have e:j=i:=ZU a;subst e;exact ZC b
    | _=>exact fE a
  | _=>exact fE a
def Ex.non:Ex Ω where
 lev:=0
 chk _ _ _ e:=match e with | .Constant .none _ _=>true | _=>false
 wp _ S W:=W .non S
 sound:=by
  intro X r f N g e h S W A _ a b
  cases e with
  | Constant c k d=>
    cases c with
    | none=>exact Ys b
    | _=>exact fE a
  | _=>exact fE a
def Ex.str(i:Str):Ex Ω where
 lev:=0
 chk _ _ _ e:=match e with | .Constant (.str j) _ _=>j==i | _=>false
 wp _ S W:=W (.str i) S
 sound:=by
  intro X r f N g e h S W A _ a b
  cases e with
  | Constant c k d=>
    cases c with
    | str j=>have e:j=i:=ZU a;subst e;exact XJ b
    | _=>exact fE a
  | _=>exact fE a
def abS{x:Str}{i:Int}(h:∃t,Ω.mg x=some (.int i t)):Ex Ω where
 lev:=0
 chk _ _ b e:=match e with | .Name y _=>(y==x)&&(glb b x&&okN x) | _=>false
 wp _ S W:=W (.int i) S
 sound:=by
  intro X r k N b e l S W A _ a g
  cases e with
  | Name y j=>refine an3 a λ c d f=>?_;have e:y=x:=ZU c;subst e;obtain⟨t,h⟩:=h;exact RG (by rw[A.g];exact h) g (A.glb d) (gG f).1
  | _=>exact fE a
def Hh(op:Operator)(a b:Ex Ω):Ex Ω where
 lev:=max a.lev b.lev
 chk c N d e:=match e with | .BinOp l o r _=>(o==op)&&(a.chk c N d l&&b.chk c N d r) | _=>false
 wp f S W:=a.wp f S λ x g=>b.wp f g λ y h=>Ua op x y h W
 sound:=by
  intro X r c N d e f S W A n i p;obtain⟨s,t⟩:=lv2 n
  cases e with
  | BinOp l o v u=>refine an3 i λ j k m=>?_;have e:o=op:=ZU j;subst e;exact tX ((a.sound A s k p).mono λ x g q=>(b.sound A t m q).mono λ y h q=>RV q)
  | _=>exact fE i
def abx(op:CmpOp)(a b:Ex Ω):Ex Ω where
 lev:=max a.lev b.lev
 chk f N h e:=cm1 e λ l o r=>(o==op)&&(okE r&&(a.chk f N h l&&b.chk f N h r))
 wp i S W:=a.wp i S λ x j=>b.wp i j λ y k=>bI op x y k λ c m=>W (.bl c) m
 sound:=by intro X r f N h e i S W A v u z;obtain⟨B,C⟩:=lv2 v;refine vA u λ l o E D g=>?_;refine an4 g λ p n s t=>?_;have e:o=op:=ZU p;subst e;exact Mz ((a.sound A B s z).mono λ x j q=>(b.sound A C t q).mono λ y k q=>(fW A.hu q).mono λ d m ⟨c,e,w⟩=>by subst e;exact w) (iT n)
def aa5(op:CmpOp)(a b:Ex Ω):Te Ω where
 lev:=max a.lev b.lev
 chk c N f e:=cm1 e λ l o r=>(o==op)&&(okE r&&(a.chk c N f l&&b.chk c N f r))
 wp g S W:=a.wp g S λ x h=>b.wp g h λ y i=>bI op x y i W
 sound:=by intro X r c N f e g S W A s p t;obtain⟨u,v⟩:=lv2 s;refine vA p λ l o z w d=>?_;refine an4 d λ k j m n=>?_;have e:o=op:=ZU k;subst e;exact Yq ((a.sound A u m t).mono λ x h q=>(b.sound A v n q).mono λ y i q=>fW A.hu q) (iT j)
abbrev Ue(a:Ex Ω)(o1:CmpOp)(b:Ex Ω)(o2:CmpOp)(c:Ex Ω)(Γ:Gam)(S:Store)(W:Bool->%[|4]):Prop:=
 a.wp Γ S λ x e=>b.wp Γ e λ y f=>bI o1 x y f λ k d=>(k=false->W false d)/\(k=true->c.wp Γ d λ t g=>bI o2 y t g W)
def Ex.ch2(a:Ex Ω)(o1:CmpOp)(b:Ex Ω)(o2:CmpOp)(c:Ex Ω):Ex Ω where
 lev:=max (max a.lev b.lev) c.lev
 chk f N g e:=cm2 e λ l j n m r=>(j==o1)&&((n==o2)&&(okE r&&(a.chk f N g l&&(b.chk f N g m&&c.chk f N g r))))
 wp p S W:=Ue a o1 b o2 c p S λ k o=>W (.bl k) o
 sound:=by intro X r f N g e p S W A G E H;obtain⟨i,J⟩:=lv2 G;obtain⟨i,I⟩:=lv2 i;refine Ik E λ l j n m O K h=>?_;refine an6 h λ v z u B C D=>?_;have e:j=o1:=ZU v;subst e;have e:n=o2:=ZU z;subst e;refine Qj ((a.sound A i B H).mono λ x o q=>(b.sound A I C q).mono λ y L q=>(fW A.hu q).mono λ d s ⟨k,e,w⟩=>%[k,e,w.1|λ F=>(c.sound A J D (w.2 F)).mono λ t M q=>(fW A.hu q).mono λ d s ⟨c,e,w⟩=>by subst e;exact w]) (iT u)
def Te.ch2(a:Ex Ω)(o1:CmpOp)(b:Ex Ω)(o2:CmpOp)(c:Ex Ω):Te Ω where
 lev:=max (max a.lev b.lev) c.lev
 chk f N g e:=cm2 e λ l j n m r=>(j==o1)&&((n==o2)&&(okE r&&(a.chk f N g l&&(b.chk f N g m&&c.chk f N g r))))
 wp o S W:=Ue a o1 b o2 c o S W
 sound:=by intro X r f N g e o S W A E C F;obtain⟨i,H⟩:=lv2 E;obtain⟨i,G⟩:=lv2 i;refine Ik C λ l j n m O I h=>?_;refine an6 h λ s u p v z B=>?_;have e:j=o1:=ZU s;subst e;have e:n=o2:=ZU u;subst e;refine PP ((a.sound A i v F).mono λ x J q=>(b.sound A G z q).mono λ y K q=>(fW A.hu q).mono λ d L ⟨k,e,w⟩=>%[k,e,w.1|λ D=>(c.sound A H B (w.2 D)).mono λ t M q=>fW A.hu q]) (iT p)
def aa9(a:Ex Ω):Te Ω where
 lev:=a.lev
 chk b N g e:=Y6 e&&a.chk b N g e
 wp h S W:=a.wp h S λ d f=>match d with | .bl c=>W c f | _=>False
 sound:=by intro X r b N g e h S W A l k m;refine an2 k λ i j=>?_;refine Xq ((a.sound A l j m).mono λ d f q=>?_) (Ym i _);cases d<;>first | exact%[_,rfl|q] | exact q.elim
def abd(t:Te Ω):Te Ω where
 lev:=t.lev
 chk b N f e:=match e with | .UnaryOp .Not a _=>t.chk b N f a | _=>false
 wp g S W:=t.wp g S λ c h=>W (!c) h
 sound:=by
  intro X r b N f e g S W A i d j
  cases e with
  | UnaryOp o a k=>
    cases o with
    | Not=>exact WP (t.sound A i d j)
    | _=>exact fE d
  | _=>exact fE d
def abm(t:Te Ω):Bt Ω where
 lev:=t.lev
 chk b N f c:=match c with | [e]=>t.chk b N f e | _=>false
 wpA d S W:=t.wp d S W
 wpO d S W:=t.wp d S W
 ne:=by
  intro b N f c a;match c,a with
  | [e],_=>exact%[_,_|rfl]
  | [],a=>exact fE a
  | _::_::_,a=>exact fE a
 soundA:=by
  intro X r b N f c d S W i A g a h;match c,a with
  | [e],a=>exact tw_and1 (t.sound A g a h)
  | [],a=>exact fE a
  | _::_::_,a=>exact fE a
 soundO:=by
  intro X r b N f c d S W i A g a h;match c,a with
  | [e],a=>exact tw_or1 (t.sound A g a h)
  | [],a=>exact fE a
  | _::_::_,a=>exact fE a
def abl(t:Te Ω)(r:Bt Ω):Bt Ω where
 lev:=max t.lev r.lev
 chk f N j d:=match d with | e::d=>t.chk f N j e&&r.chk f N j d | _=>false
 wpA h S W:=t.wp h S λ c g=>(c=true->r.wpA h g W)/\(c=false->W false g)
 wpO h S W:=t.wp h S λ c g=>(c=true->W true g)/\(c=false->r.wpO h g W)
 ne:=by
  intro f N j d a;match d,a with
  | _::_,_=>exact%[_,_|rfl]
  | [],a=>exact fE a
 soundA:=by
  intro X v f N j d h S W u A n a o;obtain⟨p,s⟩:=lv2 n;match d,a with
  | e::d,a=>refine an2 a λ l i=>?_;obtain⟨b,k,rfl⟩:=r.ne i;exact tw_and (Ts.mono (t.sound A p l o) λ c g q=>%[λ m=>r.soundA A s i (q.1 m)|q.2])
  | [],a=>exact fE a
 soundO:=by
  intro X v f N j d h S W u A n a o;obtain⟨p,s⟩:=lv2 n;match d,a with
  | e::d,a=>refine an2 a λ l i=>?_;obtain⟨b,k,rfl⟩:=r.ne i;exact tw_or (Ts.mono (t.sound A p l o) λ c g q=>%[q.1|λ m=>r.soundO A s i (q.2 m)])
  | [],a=>exact fE a
def abB(l:Bt Ω):Te Ω where
 lev:=l.lev
 chk a N d e:=match e with | .BoolOp .And c _=>l.chk a N d c | _=>false
 wp f S W:=l.wpA f S W
 sound:=by
  intro X r a N d e f S W A g b h
  cases e with
  | BoolOp o c i=>
    cases o with
    | And=>exact(l.soundA A g b h).ts
    | _=>exact fE b
  | _=>exact fE b
def abz(l:Bt Ω):Te Ω where
 lev:=l.lev
 chk a N d e:=match e with | .BoolOp .Or c _=>l.chk a N d c | _=>false
 wp f S W:=l.wpO f S W
 sound:=by
  intro X r a N d e f S W A g b h
  cases e with
  | BoolOp o c i=>
    cases o with
    | Or=>exact(l.soundO A g b h).ts
    | _=>exact fE b
  | _=>exact fE b
def abg(t:Ex Ω):Bo Ω where
 lev:=t.lev
 chk b N f c:=match c with | [e]=>t.chk b N f e | _=>false
 wpA d S W:=t.wp d S W
 wpO d S W:=t.wp d S W
 ne:=by
  intro b N f c a;match c,a with
  | [e],_=>exact%[_,_|rfl]
  | [],a=>exact fE a
  | _::_::_,a=>exact fE a
 soundA:=by
  intro X r b N f c d S W i A g a h;match c,a with
  | [e],a=>exact PB (t.sound A g a h)
  | [],a=>exact fE a
  | _::_::_,a=>exact fE a
 soundO:=by
  intro X r b N f c d S W i A g a h;match c,a with
  | [e],a=>exact PB (t.sound A g a h)
  | [],a=>exact fE a
  | _::_::_,a=>exact fE a
def abb(t:Ex Ω)(r:Bo Ω):Bo Ω where
 lev:=max t.lev r.lev
 chk g N k f:=match f with | e::f=>t.chk g N k e&&r.chk g N k f | _=>false
 wpA i S W:=t.wp i S λ d h=>match d with | .bl c=>(c=true->r.wpA i h W)/\(c=false->W (.bl false) h) | _=>False
 wpO i S W:=t.wp i S λ d h=>match d with | .bl c=>(c=true->W (.bl true) h)/\(c=false->r.wpO i h W) | _=>False
 ne:=by
  intro g N k f a;match f,a with
  | _::_,_=>exact%[_,_|rfl]
  | [],a=>exact fE a
 soundA:=by
  intro X w g N k f i S W v A o a p;obtain⟨s,u⟩:=lv2 o;match f,a with
  | e::f,a=>refine an2 a λ m j=>?_;obtain⟨b,l,rfl⟩:=r.ne j;refine YS ((t.sound A s m p).mono λ d h q=>?_);cases d<;>first | exact%[_,rfl,λ n=>r.soundA A u j (q.1 n)|q.2] | exact q.elim
  | [],a=>exact fE a
 soundO:=by
  intro X w g N k f i S W v A o a p;obtain⟨s,u⟩:=lv2 o;match f,a with
  | e::f,a=>refine an2 a λ m j=>?_;obtain⟨b,l,rfl⟩:=r.ne j;refine aad ((t.sound A s m p).mono λ d h q=>?_);cases d<;>first | exact%[_,rfl,q.1|λ n=>r.soundO A u j (q.2 n)] | exact q.elim
  | [],a=>exact fE a
def abk(l:Bo Ω):Ex Ω where
 lev:=l.lev
 chk a N d e:=match e with | .BoolOp .And c _=>l.chk a N d c | _=>false
 wp f S W:=l.wpA f S W
 sound:=by
  intro X r a N d e f S W A g b h
  cases e with
  | BoolOp o c i=>
    cases o with
    | And=>exact l.soundA A g b h
    | _=>exact fE b
  | _=>exact fE b
def ab0(l:Bo Ω):Ex Ω where
 lev:=l.lev
 chk a N d e:=match e with | .BoolOp .Or c _=>l.chk a N d c | _=>false
 wp f S W:=l.wpO f S W
 sound:=by
  intro X r a N d e f S W A g b h
  cases e with
  | BoolOp o c i=>
    cases o with
    | Or=>exact l.soundO A g b h
    | _=>exact fE b
  | _=>exact fE b
def abW(a:Ex Ω):Ex Ω where
 lev:=a.lev
 chk f N i e:=match e with | .UnaryOp .Not b _=>a.chk f N i b | _=>false
 wp j S W:=a.wp j S λ d h=>match d with | .bl c=>W (.bl (!c)) h | _=>False
 sound:=by
  intro X r f N i e j S W A k g l
  cases e with
  | UnaryOp o b m=>
    cases o with
    | Not=>refine Ze ((a.sound A k g l).mono λ d h q=>?_);cases d<;>first | exact%[_,rfl|q] | exact q.elim
    | _=>exact fE g
  | _=>exact fE g
def abq(a:Ex Ω):Ex Ω where
 lev:=a.lev
 chk f N i e:=match e with | .UnaryOp .USub b _=>a.chk f N i b | _=>false
 wp j S W:=a.wp j S λ d h=>match d with | .int c=>W (.int (-c)) h | _=>False
 sound:=by
  intro X r f N i e j S W A k g l
  cases e with
  | UnaryOp o b m=>
    cases o with
    | USub=>refine Oz ((a.sound A k g l).mono λ d h q=>?_);cases d<;>first | exact%[_,rfl|q] | exact q.elim
    | _=>exact fE g
  | _=>exact fE g
def qe:Ar Ω where
 lev:=0
 chk _ _ _ b:=match b with | []=>true | _=>false
 wp _ S W:=W [] S
 plain:=by
  intro c N e b a;match b,a with
  | [],_=>rfl
  | _::_,a=>exact fE a
 sound:=by
  intro X r c N e b f S W A _ a d;match b,a with
  | [],_=>exact ik d
  | _::_,a=>exact fE a
def fM(a:Ex Ω)(r:Ar Ω):Ar Ω where
 lev:=max a.lev r.lev
 chk f N g c:=match c with | e::c=>okE e&&(a.chk f N g e&&r.chk f N g c) | _=>false
 wp j S W:=a.wp j S λ d k=>r.wp j k λ n m=>W (d::n) m
 plain:=by
  intro f N g c b;match c,b with
  | e::c,b=>refine an3 b λ h l i=>?_;rw[ip,h,r.plain i];rfl
  | [],b=>exact fE b
 sound:=by
  intro X u f N g c j S W A o b p;obtain⟨s,t⟩:=lv2 o;match c,b with
  | e::c,b=>refine an3 b λ h l i=>?_;exact cT ((a.sound A s l p).mono λ d k q=>r.sound A t i q) (aK h _ _)
  | [],b=>exact fE b
def aa1(as:Ar Ω):Ex Ω where
 lev:=as.lev
 chk a N f e:=match e with | .Tuple c _ _=>as.chk a N f c | _=>false
 wp g S W:=as.wp g S λ b h=>b.length<=1000000/\W (.tup b) h
 sound:=by
  intro X r a N f e g S W A i d j
  cases e with
  | Tuple c k l=>exact YT (as.sound A i d j)
  | _=>exact fE d
def aba(as:Ar Ω):Ex Ω where
 lev:=as.lev
 chk a N f e:=match e with | .List c _=>as.chk a N f c | _=>false
 wp g S W:=as.wp g S λ b h=>b.length<=1000000/\W (.lst b) h
 sound:=by
  intro X r a N f e g S W A i d j
  cases e with
  | List c k=>exact YG (as.sound A i d j)
  | _=>exact fE d
def Ex.own(as:Ar Ω):Ex Ω where
 lev:=as.lev
 chk a N g e:=match e with | .List d _=>as.chk a N g d | _=>false
 wp h S W:=as.wp h S λ c b=>c.length<=1000000/\W (.loc b.length) (b++[c])
 sound:=by
  intro X r a N g e h S W A i f j
  cases e with
  | List d k=>exact UV (as.sound A i f j)
  | _=>exact fE f
def Hc(a b:Ex Ω):Ex Ω where
 lev:=max a.lev b.lev
 chk c N d e:=match e with | .Subscript l r _=>okE r&&(a.chk c N d l&&b.chk c N d r) | _=>false
 wp f S W:=a.wp f S λ x g=>b.wp f g λ y h=>RL x y h W
 sound:=by
  intro X r c N d e f S W A n i o;obtain⟨p,s⟩:=lv2 n
  cases e with
  | Subscript l u t=>refine an3 i λ j k m=>?_;exact Zw ((a.sound A p k o).mono λ x g q=>(b.sound A s m q).mono λ y h q=>Wl q) (BJ j)
  | _=>exact fE i
set_option genInjectivity false in
structure Po(Ω:Wd) where
 lev:Nat
 chk:Bool->List Str->Nm->Option Expr->Bool
 wp:Gam->Store->(Option Int->%[|4])->Prop
 sound:∀{X:Cx}{r:Nat}{top:Bool}{N:ab8}{nm:Nm}{e:Option Expr}{Γ:Gam}{S:Store}{W:Option Int->%[|4]},%[|20]->lev<=r->chk top N nm e=true->wp Γ S W->PoD X Γ S e W
def Po.no:Po Ω where
 lev:=0
 chk _ _ _ e:=match e with | none=>true | _=>false
 wp _ S W:=W none S
 sound:=by
  intro X r c N f e g S W A d a b
  cases e with
  | none=>exact aaC b
  | some e=>exact fE a
def Po.so(a:Ex Ω):Po Ω where
 lev:=a.lev
 chk b N g e:=match e with | some e=>a.chk b N g e | _=>false
 wp h S W:=a.wp h S λ d c=>match d with | .int i=>W (some i) c | _=>False
 sound:=by
  intro X r b N g e h S W A j f k
  cases e with
  | some e=>refine aaU ((a.sound A j f k).mono λ d c q=>?_);cases d<;>first | exact%[_,rfl|q] | exact q.elim
  | none=>exact fE f
def PoD.mono(h:PoD X b S e W)(k:∀c S',W c S'->a c S'):PoD X b S e a:=by
 cases e with
 | none=>exact k _ _ h
 | some e=>exact Ev.mono h λ d f ⟨i,e,w⟩=>%[i,e|k _ _ w]
def abt(a:Ex Ω)(lo hi:Po Ω):Ex Ω where
 lev:=max a.lev (max lo.lev hi.lev)
 chk b N d e:=match e with | .Subscript l (.Slice x y none _) _=>a.chk b N d l&&(lo.chk b N d x&&hi.chk b N d y) | _=>false
 wp f S W:=a.wp f S λ x i=>lo.wp f i λ l j=>hi.wp f j λ h k=>Qu x l h k W
 sound:=by
  intro X r b N d e f S W A p c s;obtain⟨t,g⟩:=lv2 p;obtain⟨g,u⟩:=lv2 g
  cases e with
  | Subscript l w v=>
    cases w with
    | Slice x y z B=>
      cases z with
      | none=>refine an3 c λ m n o=>?_;exact Rb ((a.sound A t m s).mono λ x i q=>PoD.mono (lo.sound A g n q) λ l j q=>PoD.mono (hi.sound A u o q) λ h k q=>Vq q)
      | some _=>exact fE c
    | _=>exact fE c
  | _=>exact fE c
def vy{x:Str}{k n:Nat}{F:Ct}(C:Callee Ω.P Ω.w Ω.K Ω.mg Ω.base x k n F)(as:Ar Ω):Ex Ω where
 lev:=max k as.lev
 chk c N g e:=cA e λ y b=>DG b λ a i=>(y==x)&&(glb g x&&(okN x&&as.chk c N g (a::i)))
 wp m S W:=as.wp m S λ h q=>h.length=n/\F h q W
 sound:=by
  intro X r c N g e m S W A w v z;obtain⟨B,D⟩:=lv2 w;refine bh v λ y p b H d=>?_;refine rA d λ a i f=>?_;refine an4 f λ s t u j=>?_;have e:y=x:=ZU s;subst e;have l:=as.plain j;rw[ip]at l;refine an2 l λ E G=>?_;have o:Callee X.prog X.w X.K X.mg X.base y k n F:=by rw[A.p,A.w,A.k,A.g,A.b];exact C
  exact WF o (A.room.mono B) (as.sound A D j z) (A.glb t) (gG u).1 (aK E _ _) (sS G _ _)
set_option genInjectivity false in
structure Bf where
 x:Str
 id:String
 boot:bootBuiltins x=some (.builtin id)
 wp:List D->Store->WD->Prop
 sound:∀{X:Cx}{ds:List D}{S:Store}{W:WD},X.calm=true->Room 0 X.A->wp ds S W->dw X (.builtin id) ds S W
def S9(b:Bf)(hm:Ω.mg b.x=none)(as:Ar Ω):Ex Ω where
 lev:=as.lev
 chk d N h e:=cA e λ y c=>DG c λ a k=>(y==b.x)&&(glb h b.x&&(okN b.x&&as.chk d N h (a::k)))
 wp o S W:=as.wp o S λ j i=>b.wp j i W
 sound:=by intro X r d N h e o S W A v u w;refine bh u λ y p c B f=>?_;refine rA f λ a k g=>?_;refine an4 g λ s t l m=>?_;have e:y=b.x:=ZU s;subst e;have n:=as.plain m;rw[ip]at n;refine an2 n λ x z=>?_;exact QZ (EvA.mono (as.sound A v m w) λ j i q=>b.sound A.calm (A.room.mono (db _)) q) (by rw[A.g];exact hm) b.boot (A.glb t) (gG l).2.2 (gG l).1 (aK x _ _) (sS z _ _)
set_option genInjectivity false in
structure Bc where
 x:Str
 id:String
 boot:bootBuiltins x=some (.type id)
 wp:List D->Store->WD->Prop
 sound:∀{X:Cx}{ds:List D}{S:Store}{W:WD},X.calm=true->Room 0 X.A->wp ds S W->dw X (.type id) ds S W
def aa4(b:Bc)(hm:Ω.mg b.x=none)(as:Ar Ω):Ex Ω where
 lev:=as.lev
 chk d N h e:=cA e λ y c=>DG c λ a k=>(y==b.x)&&(glb h b.x&&(okN b.x&&as.chk d N h (a::k)))
 wp o S W:=as.wp o S λ j i=>b.wp j i W
 sound:=by intro X r d N h e o S W A v u w;refine bh u λ y p c B f=>?_;refine rA f λ a k g=>?_;refine an4 g λ s t l m=>?_;have e:y=b.x:=ZU s;subst e;have n:=as.plain m;rw[ip]at n;refine an2 n λ x z=>?_;exact Rz (EvA.mono (as.sound A v m w) λ j i q=>b.sound A.calm (A.room.mono (db _)) q) (by rw[A.g];exact hm) b.boot (A.glb t) (gG l).2.2 (gG l).1 (aK x _ _) (sS z _ _)
def abw(hm:Ω.mg "isinstance"=none)(a:Ex Ω)(T:Ty)(hT:Ω.mg T.nm=none):Ex Ω where
 lev:=a.lev
 chk i N j e:=cA e λ y m=>two2 m λ b c=>anB (nameV c) λ t=>(y==("isinstance":Str))&&(glb j "isinstance"&&((t==T.nm)&&(glb j T.nm&&(okE b&&a.chk i N j b))))
 wp n S W:=a.wp n S λ d l=>W (.bl (isD T d)) l
 sound:=by intro X r i N j e n S W A z k C;refine bh k λ y p m D f=>?_;refine two2_ind f λ b c g=>?_;obtain⟨t,B,h⟩:=bD g;obtain⟨q,rfl⟩:=gr B;have k:=h;{skip;refine an6 k λ o s u v w x=>?_;have e:y="isinstance":=ZU o;subst e;have e:t=T.nm:=ZU u;subst e;exact Xh (Tn:=T.id) ((a.sound A z x C).mono λ d l q=>by rw[Xy];exact q) T.isT T.boot (by rw[A.g];exact hm) (by rw[A.g];exact hT) (A.glb s) (A.glb v) T.ok.2 T.ok.1 (aK w _ _) (aK (e:=.Name T.nm q) rfl [] _)}
end RF
namespace RF
open PySem PySem.Spec L2 DL
open PyProof.Rows
variable{cap:List (Option Nat)}{Γ:Gam}
inductive Tg where
 | nm(i:Nat) | tup(is:ab4)
def setAll:Gam->List Nat->List D->Gam
 | Γ,i::is,d::ds=>setAll (Γ.set i (some d)) is ds
 | Γ,_,_=>Γ
def Tg.wp:Tg->D->Gam->(Gam->Prop)->Prop
 | .nm i,d,Γ,W=>W (Γ.set i (some d))
 | .tup is,.tup ds,Γ,W=>ds.length=is.length/\W (setAll Γ is ds)
 | .tup _,_,_,_=>False
def Tg.slots:Tg->List Nat
 | .nm i=>[i]
 | .tup is=>is
def zE(top:Bool)(N:ab8)(nm:Nm)(i:Nat)(e:Expr):Bool:=match e with | .Name x _=>(N[i]? ==some x)&&lcl top nm x | _=>false
def gJ(top:Bool)(N:ab8)(nm:Nm):List Nat->List Expr->Bool
 | [],[]=>true
 | i::is,e::es=>zE top N nm i e&&gJ top N nm is es
 | _,_=>false
def Tg.chk(t:Tg)(top:Bool)(N:ab8)(nm:Nm)(e:Expr):Bool:=match t with
 | .nm i=>zE top N nm i e
 | .tup is=>match e with | .Tuple es _ _=>gJ top N nm is es | _=>false
section
variable{Ω:Wd}{X:Cx}{r:Nat}{top:Bool}{N:List Str}{nm:Nm}
def PL(A:%[|20])(b:zE top N nm i e=true)(hw:W (c.set i (some d)) S):BdW X e d c S W:=by
 cases e with
 | Name x j=>refine an2 b λ a f=>?_;have a:N[i]? =some x:=ZU a;obtain⟨g,h⟩:=A.lcl f;exact UL i hw (by rw[A.n];exact A.nd) (by rw[A.n];exact a) g h
 | _=>exact fE b
def Eo(h:gJ top N nm (i::is) es=true):∃x p es',es=.Name x p::es'/\zE top N nm i (.Name x p)=true/\gJ top N nm is es'=true:=by
 cases es with
 | nil=>exact(y6 h).elim
 | cons e es=>
   refine an2 h λ a b=>?_
   cases e with
   | Name x p=>exact%[x,p,es,rfl,a|b]
   | _=>exact(y6 a).elim
def Ii(h:gJ top N nm [] es=true):es=[]:=by
 cases es with
 | nil=>rfl
 | cons e es=>exact(y6 h).elim
theorem M7(A:%[|20]):∀{is:ab4}{es:ac2}{ds:List D}{a:Gam},gJ top N nm is es=true->ds.length=is.length->W (setAll a is ds) S->DW X es ds a S W
 | [],es,ds,a,hc,hl,hw=>by
   have e:=Ii hc;subst e;have e:ds=[]:=by simpa using hl
   subst e;exact Vz hw
 | i::is,es,ds,a,hc,hl,hw=>by
   obtain⟨x,p,b,rfl,c,f⟩:=Eo hc
   cases ds with
   | nil=>simp at hl
   | cons d ds=>exact Qq (PL A c (M7 A f (by simpa using hl) hw)) rfl
theorem HF:∀{is:ab4}{es:ac2},gJ top N nm is es=true->∀env:Env,(assignEach es env).length=is.length/\(assignEach es env).findIdx? (·.1)=none
 | [],es,hc,env=>by have e:=Ii hc;subst e;exact%[rfl|rfl]
 | i::is,es,hc,env=>by obtain⟨x,p,c,rfl,f,d⟩:=Eo hc;obtain⟨a,b⟩:=HF d env;have e:assignEach (.Name x p::c) env=(false,assign (.Name x p) env)::assignEach c env:=rfl;rw[e];refine%[by simp[a]|?_];rw[List.findIdx?_cons,b];rfl
def Tg.sound(A:%[|20]){t:Tg}(c:t.chk top N nm e=true)(hw:t.wp d g λ Γ'=>W Γ' S):BdW X e d g S W:=by
 cases t with
 | nm i=>exact PL A c hw
 | tup f=>
   cases e with
   | Tuple l k m=>
     have c:gJ top N nm f l=true:=c
     cases d with
     | tup h=>obtain⟨j,hw⟩:h.length=f.length/\W (setAll g f h) S:=hw;obtain⟨a,b⟩:=HF c X.env;exact YJ (M7 A c j hw) A.calm (a.trans j.symm) b
     | _=>exact hw.elim
   | _=>exact fE c
end
theorem Sub.setAll:∀{is:ab4}{ds:List D}{Γ':Gam},Sub a Γ'->(∀i∈is,a[i]? =some none)->Sub a (RF.setAll Γ' is ds)
 | [],ds,Γ',h,_=>by cases ds<;>exact h
 | i::is,[],Γ',h,_=>h
 | i::is,d::ds,Γ',h,hi=>show Sub a (RF.setAll (Γ'.set i (some d)) is ds)from Sub.setAll (Γ':=Γ'.set i (some d)) (h.set i (some d) (hi i x6)) λ j b=>hi j (x4 _ b)
def MT{i:Nat}(h:cap[i]? =some none):(capt cap Γ)[i]? =some none:=by unfold capt;rw[y8,h];rfl
set_option genInjectivity false in
structure Itb(Ω:Wd) where
 lev:Nat
 chk:Bool->List Str->Nm->Expr->Expr->Bool
 wp:Gam->Store->(List D->%[|4])->Prop
 sound:∀{X:Cx}{r:Nat}{top:Bool}{N:ab8}{nm:Nm}{tg e:Expr}{Γ:Gam}{S:Store}{W:List D->%[|4]},%[|20]->lev<=r->chk top N nm tg e=true->wp Γ S W->ItW X Γ S tg e W
def Xw(h:Ev X Γ S e λ d S1=>match d with | .lst ds=>W ds S1 | .tup ds=>W ds S1 | _=>False):ItW X Γ S C e W:=by
 intro j s F H O I l B;refine thn (h j s F H O I l B) λ u s1 n=>?_;obtain⟨v,t,c,y,x,d,S1,w,k,i,r⟩:=n
 cases r with
 | @lst a E ds f q=>
   cases y;obtain⟨g,A,p,z⟩:=c.list f.sq;refine kr p.isList ?_;refine%[s1.heap.objs.size,[s1.heap.objs.size],_,_,t,rfl,c.kept (t':=s1.toks) λ b o e=>bE _ e,oJ a _,%[_,bS _ rfl,rfl|rfl],λ b m=>?_,x,ds,S1,w,k,i|qD f q];have e:b=s1.heap.objs.size:=by simpa using m
   subst e;exact c.fpOk (y9 _) (c.hok.fresh (y9 _))
 | @tup a E ds f q=>
   cases y;obtain⟨g,A,p,z⟩:=c.tuple f.sq;refine hZ (show s1.heap.IsTuple a g.toArray from p) ?_;refine%[s1.heap.objs.size,[s1.heap.objs.size],_,_,t,rfl,c.kept (t':=s1.toks) λ b o e=>bE _ e,t8 a _,%[_,bS _ rfl,rfl|rfl],λ b m=>?_,x,ds,S1,w,k,i|sW f q];have e:b=s1.heap.objs.size:=by simpa using m
   subst e;exact c.fpOk (y9 _) (c.hok.fresh (y9 _))
 | _=>exact w.elim
variable{Ω:Wd}
def aa7(a:Ex Ω):Itb Ω where
 lev:=a.lev
 chk b N f _ e:=a.chk b N f e
 wp g S W:=a.wp g S λ d c=>match d with | .lst ds=>W ds c | .tup ds=>W ds c | _=>False
 sound:=by intro X r b N f k e g S W A i h j;exact Xw (a.sound A i h j)
def abi(hm:Ω.mg "range"=none)(a:Ex Ω):Itb Ω where
 lev:=a.lev
 chk g N i _ e:=cA e λ y l=>dj l λ b=>(y==("range":Str))&&(glb i "range"&&(okE b&&a.chk g N i b))
 wp m S W:=a.wp m S λ d k=>match d with | .int j=>(-(2 ^ 62)<=j/\j<2 ^ 62)/\W (upTo 0 j.toNat) k | _=>False
 sound:=by intro X r g N i x e m S W A u h v;refine bh h λ y p l w c=>?_;refine cP c λ b f=>?_;have h:=f;{skip;refine an4 h λ n o s t=>?_;have e:y="range":=ZU n;subst e;refine LC ((a.sound A u t v).mono λ d k q=>?_) (by rw[A.g];exact hm) (A.glb o) (aK s [] _);cases d<;>first | exact%[_,rfl,q.1.1,q.1.2|q.2] | exact q.elim}
def abE(hm:Ω.mg "range"=none)(a b:Ex Ω):Itb Ω where
 lev:=max a.lev b.lev
 chk c N h _ e:=cA e λ y t=>two2 t λ l r=>(y==("range":Str))&&(glb h "range"&&((okE l&&okE r)&&(a.chk c N h l&&b.chk c N h r)))
 wp n S W:=a.wp n S λ d o=>b.wp n o λ k s=>match d,k with | .int i,.int j=>(-(2 ^ 62)<=i/\i<2 ^ 62/\ -(2 ^ 62)<=j/\j<2 ^ 62)/\W (upTo i (j-i).toNat) s | _,_=>False
 sound:=by intro X r c N h K e n S W A E m F;obtain⟨G,H⟩:=lv2 E;refine bh m λ y p t I f=>?_;refine two2_ind f λ l J g=>?_;have m:=g;{skip;refine an4 m λ v w x z=>?_;refine an2 x λ B u=>?_;refine an2 z λ C D=>?_;have e:y="range":=ZU v;subst e;refine Mt ((a.sound A G C F).mono λ d o q=>(b.sound A H D q).mono λ k s q=>?_) (by rw[A.g];exact hm) (A.glb w) (by rw[aK B,aK u];rfl) (aK u [] _);cases d<;>first | exact q.elim | (cases k<;>first | exact%[_,_,rfl,rfl,q.1|q.2] | exact q.elim)}
set_option genInjectivity false in
structure Cd(Ω:Wd) where
 lev:Nat
 chk:Bool->List Str->Nm->List Expr->Bool
 wp:Gam->Store->(Bool->%[|4])->Prop
 sound:∀{X:Cx}{r:Nat}{top:Bool}{N:ab8}{nm:Nm}{es:ac2}{Γ:Gam}{S:Store}{W:Bool->%[|4]},%[|20]->lev<=r->chk top N nm es=true->wp Γ S W->TsA X Γ S es W
def aa6:Cd Ω where
 lev:=0
 chk _ _ _ a:=match a with | []=>true | _=>false
 wp _ S W:=W true S
 sound:=by
  intro X r d N f a g S W A e b c;match a,b with
  | [],_=>exact c
  | _::_,b=>exact fE b
def Cd.so(t:Te Ω):Cd Ω where
 lev:=t.lev
 chk b N d c:=match c with | [e]=>t.chk b N d e | _=>false
 wp f S W:=t.wp f S W
 sound:=by
  intro X r b N d c f S W A g a h;match c,a with
  | [e],a=>exact aak (t.sound A g a h)
  | [],a=>exact fE a
  | _::_::_,a=>exact fE a
@[irreducible] noncomputable def pK(cap:ac0)(Γ:Gam)(elt:Ex Ω)(tg:Tg)(cd:Cd Ω)(W:WD)(ds:List D)(C0:%[|4])(S1:Store):Prop:=
  ds.length<=1000000/\∃c:Nat->List D->%[|4],c 0 [] S1/\(∀i a b,c i a b->C0 b)/\
   (∀i d a b,ds[i]? =some d->c i a b->tg.wp d (capt cap Γ) λ e=>cd.wp e b λ g f=>(g=true->elt.wp e f λ y h=>c (i+1) (a++[y]) h)/\(g=false->c (i+1) a f))/\
   ∀a b,c ds.length a b->W (.lst a) b\/W (.loc b.length) (b++[a])
abbrev oZ(cap:ac0)(Γ:Gam)(elt:Ex Ω)(tg:Tg)(cd:Cd Ω)(W:WD)(ds:List D)(S1:Store):Prop:=pK cap Γ elt tg cd W ds (λ _=>True) S1
def Ez{cd:Cd Ω}(h:ds.length<=1000000/\∃Pv:Nat->List D->%[|4],Pv 0 [] b/\(∀i acc S',Pv i acc S'->C0 S')/\
 (∀i d acc S',ds[i]? =some d->Pv i acc S'->c.wp d (capt cap Γ) λ Γ2=>cd.wp Γ2 S' λ ok S3=>(ok=true->a.wp Γ2 S3 λ y S4=>Pv (i+1) (acc++[y]) S4)/\(ok=false->Pv (i+1) acc S3))/\
 ∀acc S',Pv ds.length acc S'->W (.lst acc) S'\/W (.loc S'.length) (S'++[acc])):pK cap Γ a c cd W ds C0 b:=by unfold pK;exact h
def eU{cd:Cd Ω}(h:ds.length<=1000000/\∃Pv:Nat->List D->%[|4],Pv 0 [] b/\
 (∀i d acc S',ds[i]? =some d->Pv i acc S'->c.wp d (capt cap Γ) λ Γ2=>cd.wp Γ2 S' λ ok S3=>(ok=true->a.wp Γ2 S3 λ y S4=>Pv (i+1) (acc++[y]) S4)/\(ok=false->Pv (i+1) acc S3))/\
 ∀acc S',Pv ds.length acc S'->W (.lst acc) S'):oZ cap Γ a c cd W ds b:=by obtain⟨e,Pv,f,j,g⟩:=h;exact Ez %[e,Pv,f,λ _ _ _ _=>trivial,j|λ acc S' q=>.inl (g acc S' q)]
def lcP(e:Expr):Option {x:Expr×Expr×Expr×List Expr×Scope×Pos // e=.ListComp x.1 [%[x.2.1,x.2.2.1,x.2.2.2.1|0]] x.2.2.2.2.1 x.2.2.2.2.2}:=match e with
 | .ListComp x [⟨t,i,cs,0⟩] sc p=>some %[(x,t,i,cs,sc,p)|rfl]
 | _=>none
def aao(N':ab8)(cap:ac0)(elt:Ex Ω)(tg:Tg)(it:Itb Ω)(cd:Cd Ω)(top:Bool)(N:ab8)(nm:Nm)(x t i:Expr)(cs:ac2)(sc:Scope):Bool:=(sc.kind==.function)&&(uY sc.names&&(freeOk nm sc.names&&((sc.names.all λ y=>!(y.2==.local)||(sc.names.lookup y.1==some .local))&&(bK N nm N' sc.names cap N'&&
 (okE i&&((tg.slots.all λ j=>cap[j]? ==some none)&&(decide N'.Nodup&&(it.chk top N nm t i&&(tg.chk false N' sc.names t&&(cd.chk false N' sc.names cs&&elt.chk false N' sc.names x))))))))))
def wK(N':ab8)(cap:ac0)(elt:Ex Ω)(tg:Tg)(it:Itb Ω)(cd:Cd Ω)(top:Bool)(N:ab8)(nm:Nm)(e:Expr):Bool:=anB (lcP e) λ z=>aao N' cap elt tg it cd top N nm z.1.1 z.1.2.1 z.1.2.2.1 z.1.2.2.2.1 z.1.2.2.2.2.1
def uv{cd:Cd Ω}(h:wK a cap b f g cd top N nm e=true):
 ∃x t i cs sc pos,e=.ListComp x [%[t,i,cs|0]] sc pos/\sc.kind=.function/\uY sc.names=true/\freeOk nm sc.names=true/\(∀y∈sc.names,y.2=.local->sc.names.lookup y.1=some .local)/\bK N nm a sc.names cap a=true/\okE i=true/\(f.slots.all λ j=>cap[j]? ==some none)=true/\a.Nodup/\g.chk top N nm t i=true/\f.chk false a sc.names t=true/\cd.chk false a sc.names cs=true/\b.chk false a sc.names x=true:=by obtain⟨⟨⟨x,t,i,cs,sc,p⟩,k⟩,_,c⟩:=bD h;refine an9 c λ l m n o q r s u c=>?_;refine an3 c λ v d c=>?_;exact%[x,t,i,cs,sc,p,k,ZU l,m,n,λ y w e=>by simpa[e]using List.all_eq_true.mp o y w,q,r,s,of_decide_eq_true u,v,d|bu c]
section
variable{X:Cx}{r:Nat}{top:Bool}{N:List Str}{nm:Nm}
def xq(A:%[|20])(h:nm.lookup x=some .cell\/nm.lookup x=some .free):X.env.scope.names.lookup x=some .cell\/X.env.scope.names.lookup x=some .free:=by rcases h with h | h;{rcases A.look x _ h with q | ⟨q,_⟩;{exact .inl q};{exact nomatch q}};{rcases A.look x _ h with q | ⟨_,q⟩;{exact .inr q};{exact .inl q}}
def wN(A:%[|20]){names:Nm}(h:freeOk nm names=true):freeOk X.env.scope.names names=true:=by unfold freeOk;refine gc.mpr λ y a=>?_;by_cases e:y.2=.free;{have:=xq A (ou h y a e);rcases this with q | q<;>simp[q]};{simp[e]}
theorem kI(A:%[|20]){a:Nm}:∀{b:ac0}{t:ab8},bK N nm c a b t=true->bK X.N X.env.scope.names c a b t=true
 | [],[],_=>rfl
 | [],_::_,h=>by simp[bK]at h
 | none::_,[],h=>by simp[bK]at h
 | some _::_,[],h=>by simp[bK]at h
 | none::r,_::t,h=>by simp only[bK]at h ⊢;exact kI A h
 | some j::r,x::t,h=>by simp only[bK,fg,kn,beq_iff_eq]at h ⊢;exact%[%[%[by rw[A.n];exact h.1.1.1|xq A h.1.1.2]|h.1.2]|kI A h.2]
theorem Yh(A:%[|20])(d:a.kind=.function)(nd:c.Nodup):At Ω (gw X a c C s H ex cl) r false c a.names where
 cd:=λ h=>nomatch h
 fr:=λ h=>nomatch h
 p:=A.p
 w:=A.w
 k:=A.k
 g:=A.g
 b:=A.b
 room:=A.room
 xe:=A.xe
 calm:=A.calm
 n:=rfl
 nd:=nd
 kind:=d
 look:=by intro x k h;show(relabel a X.env).names.lookup x=some k\/_;rw[j8,fH,h];rcases rB X.env x k with q | ⟨e,f⟩;{exact .inl (eL some q)};{refine .inr %[e|?_];show(relabel a X.env).names.lookup x=some .cell;rw[j8,fH,h];exact eL some f}
 fn:=λ x h=>by show(a.names.lookup x==some .cell)=true;rw[h];rfl
def sH(A:%[|20]){cd:Cd Ω}(le:e.lev<=r)(R:cd.lev<=r)(p:m.kind=.function)(nd:g.Nodup)(hs:(u.slots.all λ j=>f[j]? ==some none)=true)
 (P:u.chk false g m.names t=true)(E:cd.chk false g m.names cs=true)(I:e.chk false g m.names x=true)(h:pK f v e u cd W ds C0 F):zF X m g f v x t cs W ds C0 F:=by
 unfold pK at h;obtain⟨Q,n,S,T,V,U⟩:=h;refine%[Q,n,S,T,λ i d b w L O C s H ex cl=>?_|U];have B:=Yh A (C:=C) (s:=s) (H:=H) (ex:=ex) (cl:=cl) p nd;have J:∀j∈u.slots,(capt f v)[j]? =some none:=λ j M=>MT (by have:=gc.mp hs j M;exact ZU this);have base:=V i d b w L O;have G:∀a,(cd.wp a w λ l k=>(l=true->e.wp a k λ y o=>n (i+1) (b++[y]) o)/\(l=false->n (i+1) b k))->
  TsA (gw X m g C s H ex cl) a w cs λ l k=>(l=true->Ev (gw X m g C s H ex cl) a k x λ y o=>n (i+1) (b++[y]) o)/\(l=false->n (i+1) b k):=by
  intro a q;have:=cd.sound B R E q;match cs,this with
  | [],this=>exact%[λ p=>e.sound B le I (this.1 p)|this.2]
  | [c],this=>exact Ts.mono this λ l k z=>%[λ p=>e.sound B le I (z.1 p)|z.2]
  | _::_::_,this=>exact this.elim
 refine Tg.sound B (W:=λ a K=>Sub (capt f v) a/\TsA (gw X m g C s H ex cl) a K cs λ l k=>(l=true->Ev (gw X m g C s H ex cl) a k x λ y o=>n (i+1) (b++[y]) o)/\(l=false->n (i+1) b k)) P ?_
 cases u with
 | nm j=>exact%[(Sub.refl _).set j _ (J j (by simp[Tg.slots]))|G _ base]
 | tup Z=>
   cases d with
   | tup Y=>exact%[base.1,Sub.setAll (Sub.refl _) J|G _ base.2]
   | _=>exact base.elim
end
def aa3(N':ab8)(cap:ac0)(elt:Ex Ω)(tg:Tg)(it:Itb Ω)(cd:Cd Ω):Ex Ω where
 lev:=max elt.lev (max it.lev cd.lev)
 chk a N l e:=wK N' cap elt tg it cd a N l e
 wp g S W:=it.wp g S λ j h=>oZ cap g elt tg cd W j h
 sound:=by intro X r a N l e g S W A z y B;obtain⟨C,f⟩:=lv2 z;obtain⟨f,D⟩:=lv2 f;obtain⟨x,t,i,F,G,E,rfl,k,m,n,o,p,s,u,v,w,b,c,d⟩:=uv y;exact V2 N' cap (abI (ItW.mono (it.sound A f w B) λ j h q=>sH A C D k v u b c d q)) A.xe A.calm k m (wN A n) o (kI A p) (pI s _)
end RF
namespace RF
open PySem PySem.Spec L2 DL
open PyProof.Rows
variable{Ω:Wd}
def xT(h:noC e=true)(t:Expr)(l:Nat)(env:Env):swapsWithSole [t] e l env=pure false:=by unfold swapsWithSole;exact kW h (some t) l env
set_option genInjectivity false in
structure Sm(Ω:Wd) where
 lev:Nat
 chk:Bool->List Str->Nm->Stmt->Bool
 wp:Gam->Store->DL.Fin->Prop
 sound:∀{X:Cx}{r:Nat}{top:Bool}{N:ab8}{nm:Nm}{st:Stmt}{Γ:Gam}{S:Store}{W:DL.Fin},%[|20]->lev<=r->chk top N nm st=true->wp Γ S W->Rn X Γ S st W
set_option genInjectivity false in
structure Bl(Ω:Wd) where
 lev:Nat
 chk:Bool->List Str->Nm->List Stmt->Bool
 wp:Gam->Store->DL.Fin->Prop
 sound:∀{X:Cx}{r:Nat}{top:Bool}{N:ab8}{nm:Nm}{sts:List Stmt}{Γ:Gam}{S:Store}{W:DL.Fin},%[|20]->lev<=r->chk top N nm sts=true->wp Γ S W->Rns X Γ S sts W
def u5:Bl Ω where
 lev:=0
 chk _ _ _ a:=match a with | []=>true | _=>false
 wp c S W:=W.nx c S
 sound:=by
  intro X r e N g a c S W A f b d;match a,b with
  | [],_=>exact W6 d
  | _::_,b=>exact fE b
def il(s:Sm Ω)(b:Bl Ω):Bl Ω where
 lev:=max s.lev b.lev
 chk c N e a:=match a with | st::a=>s.chk c N e st&&b.chk c N e a | _=>false
 wp h S W:=s.wp h S {W with nx:=λ f g=>b.wp f g W}
 sound:=by
  intro X r c N e a h S W A k d l;obtain⟨m,n⟩:=lv2 k;match a,d with
  | st::a,d=>refine an2 d λ i j=>?_;exact VG (Rn.mono (s.sound A m i l) (λ G g q=>b.sound A n j q) (λ _ _ q=>q) (λ _ _ q=>q) λ _ _ q=>q)
  | [],d=>exact fE d
def FN(a:Ex Ω):Sm Ω where
 lev:=a.lev
 chk b N f d:=match d with | .Return (some e) _=>a.chk b N f e | _=>false
 wp g S W:=a.wp g S W.rt
 sound:=by
  intro X r b N f d g S W A h c i
  cases d with
  | Return o j=>
    cases o with
    | some e=>exact aat (a.sound A h c i)
    | none=>exact fE c
  | _=>exact fE c
def abf(a:Ex Ω):Sm Ω where
 lev:=a.lev
 chk b N g c:=match c with | .Expr e _=>noC e&&a.chk b N g e | _=>false
 wp d S W:=a.wp d S λ _ h=>W.nx d h
 sound:=by
  intro X r b N g c d S W A k f l
  cases c with
  | Expr e m=>refine an2 f λ i j=>?_;exact XF (a.sound A k j l) (kW i _ _ _)
  | _=>exact fE f
def aa2(c:Te Ω)(a b:Bl Ω):Sm Ω where
 lev:=max c.lev (max a.lev b.lev)
 chk d N e j:=match j with | .If t m n _=>c.chk d N e t&&(a.chk d N e m&&b.chk d N e n) | _=>false
 wp f S W:=c.wp f S λ k g=>(k=true->a.wp f g W)/\(k=false->b.wp f g W)
 sound:=by
  intro X r d N e j f S W A u l v;obtain⟨w,i⟩:=lv2 u;obtain⟨i,x⟩:=lv2 i
  cases j with
  | If t m n y=>refine an3 l λ o p s=>?_;exact aaz (Ts.mono (c.sound A w o v) λ k g q=>%[λ h=>a.sound A i p (q.1 h)|λ h=>b.sound A x s (q.2 h)])
  | _=>exact fE l
def Ac(i:Nat)(a:Ex Ω):Sm Ω where
 lev:=a.lev
 chk b N g j:=setB j λ x e=>(N[i]? ==some x)&&(lcl b g x&&(noC e&&a.chk b N g e))
 wp h S W:=a.wp h S λ d k=>W.nx (h.set i (some d)) k
 sound:=by intro X r b N g j h S W A p f q;refine Aa f λ x v e u c=>?_;have f:=c;{refine an4 f λ l m n o=>?_;obtain⟨s,t⟩:=A.lcl m;exact Tf i (a.sound A p o q) (by rw[A.n];exact A.nd) (by rw[A.n];exact ZU l) s (kW n _ _ _) t}
def abJ(i:Nat)(N':ab8)(cap:ac0)(elt:Ex Ω)(tg:Tg)(it:Itb Ω)(cd:Cd Ω):Sm Ω where
 lev:=max elt.lev (max it.lev cd.lev)
 chk b N u I:=setB I λ x e=>(N[i]? ==some x)&&(lcl b u x&&(b&&(wK N' cap elt tg it cd b N u e)))
 wp g S W:=it.wp g S λ y w=>oZ cap g elt tg cd (λ d J=>W.nx (g.set i (some d)) J) y w
 sound := by
  intro X r b N u I g S W A C o D;refine Aa o λ x p e H o=>?_
  . refine an4 o λ U V k0 a=>?_;obtain⟨E,F⟩:=A.lcl V;have z:X.N[i]? =some x:=by rw[A.n];exact ZU U
    have G:X.N.Nodup:=by rw[A.n];exact A.nd
    obtain⟨le,Y⟩:=lv2 C;obtain⟨li,Z⟩:=lv2 Y;obtain⟨v,t,s,h,c,pos,rfl,B,K,L,M,O,P,Q,R,T,j,l,m⟩:=uv a;{by_cases f:(X.env.blockKind==.function&&X.env.kindOf x==some .local&&p.line==(Expr.ListComp v [%[t,s,h|0]] c pos).pos.line&& !(c.names.any λ(n,k)=>n==x&&(k==.local||k==.cell)))=true;{refine Mg i N' cap (abI (ItW.mono (it.sound A li T D) λ y w q=>sH A le Z B R Q j l m q)) G z E ?_ F A.xe A.calm B K (wN A L) M (kI A O) (pI P _);{show(pure (X.env.blockKind==.function&&X.env.kindOf x==some .local&&p.line==(Expr.ListComp v [%[t,s,h|0]] c pos).pos.line&& !(c.names.any λ(n,k)=>n==x&&(k==.local||k==.cell))):Sem Bool)=pure true;rw[f]}};{have f:_=false:=Bool.eq_false_iff.mpr f;refine Tf i ((aa3 N' cap elt tg it cd).sound A C a D) G z E ?_ F;show(pure (X.env.blockKind==.function&&X.env.kindOf x==some .local&&p.line==(Expr.ListComp v [%[t,s,h|0]] c pos).pos.line&& !(c.names.any λ(n,k)=>n==x&&(k==.local||k==.cell))):Sem Bool)=pure false;rw[f]}}
def abA(o i a:Ex Ω):Sm Ω where
 lev:=max a.lev (max o.lev i.lev)
 chk f N l B:=ixB B λ x y e=>noC e&&(okE y&&(a.chk f N l e&&(o.chk f N l x&&i.chk f N l y)))
 wp h S W:=a.wp h S λ d u=>o.wp h u λ x w=>i.wp h w λ y m=>match x,y with | .loc k,.int n=>∃g j,m[k]? =some g/\ixN g.length n=some j/\W.nx h (m.set k (g.set j d)) | _,_=>False
 sound:=by intro X r f N l B h S W A H s I;obtain⟨J,t⟩:=lv2 H;obtain⟨t,K⟩:=lv2 t;refine Ir s λ x y p e z s=>?_;{refine an5 s λ C D E F G=>?_;refine Wa ((a.sound A J E I).mono λ d u q=>(o.sound A t F q).mono λ x w q=>(i.sound A K G q).mono λ y m q=>?_) ?_ (xT C _ _ _) ?_ rfl;{cases x<;>first | exact q.elim | (cases y<;>first | exact q.elim | (obtain⟨g,j,a,b,c⟩:=q;exact%[_,_,g,j,rfl,rfl,a,b|c]))};{intro v;cases y<;>first | rfl | exact(y6 D).elim};{rfl}}
def R4(h:Ev X k S e λ d S1=>BdW X b d k S1 W.nx)(hs:swapsWithSole [b] e pos.line X.env=pure false)(hw:swappedStores [b] e X.env=pure none)(h1:(assignEach [b] X.env).map (·.2)=[assign b X.env]):Rn X k S (.Assign [b] e pos) W:=by intro a s l H O I c p;refine wpAny_Assign_stores (thn (h a s l H O I c p) λ u t i=>?_) hs hw;obtain⟨v,m,n,r,o,d,S1,w,g,j,f⟩:=i;rw[h1];show wpAny _ _ (assign b X.env u) _ _ _;refine thn (w a t l m o v u n (c.mono g) j f r) λ _ x ⟨σ',H',I',q⟩=>%[σ',H',I'|QN.pre g q]
def ZF:Expr->Bool
 | .Tuple .. =>false
 | e=>noC e
def abr(t:ab4)(a:Ex Ω):Sm Ω where
 lev:=a.lev
 chk c N l v:=anB (XR v) λ z=>dj z.1 λ i=>ww i&&(ZF z.2&&((Tg.tup t).chk c N l i&&a.chk c N l z.2))
 wp m S W:=a.wp m S λ d o=>(Tg.tup t).wp d m λ n=>W.nx n o
 sound:=by
  intro X r c N l v m S W A y h C;obtain⟨⟨D,e⟩,b,f⟩:=bD h;clear h;obtain⟨u,b⟩:=U0 b;subst b;obtain⟨i,b,g⟩:=eX f;clear f;have b:D=[i]:=b;subst b;refine an2 g λ B h=>?_;clear g;obtain⟨E,k,p,b⟩:=jL B;subst b
  . refine an3 h λ s w x=>?_;have j:noC e=true:=by cases e<;>first | rfl | exact(y6 s).elim
    refine R4 ((a.sound A y x C).mono λ d o q=>Tg.sound A (W:=W.nx) w q) (xT j _ _ _) ?_ rfl;cases e<;>first | rfl | exact(y6 s).elim
@[irreducible] noncomputable def iC(Γ:Gam)(tg:Tg)(body:Bl Ω)(W:DL.Fin)(ds:List D)(S1:Store):Prop:=
  ∃b:Nat->Gam->%[|4],b 0 Γ S1/\(∀i d a c,ds[i]? =some d->b i a c->tg.wp d a λ e=>body.wp e c {W with nx:=b (i+1),ct:=b (i+1),bk:=W.nx})/\(∀a c,b ds.length a c->W.nx a c)
def cu{a:Bl Ω}(h:∃Pv:Nat->Gam->%[|4],Pv 0 e b/\(∀i d Γ' S',ds[i]? =some d->Pv i Γ' S'->c.wp d Γ' λ Γ2=>a.wp Γ2 S' {W with nx:=Pv (i+1),ct:=Pv (i+1),bk:=W.nx})/\(∀Γ' S',Pv ds.length Γ' S'->W.nx Γ' S')):iC e c a W ds b:=by unfold iC;exact h
def abn(tg:Tg)(it:Itb Ω)(body:Bl Ω):Sm Ω where
 lev:=max it.lev body.lev
 chk a N e n:=frB n λ t i b=>okE i&&(tg.chk a N e t&&(it.chk a N e t i&&body.chk a N e b))
 wp h S W:=it.wp h S λ m k=>iC h tg body W m k
 sound:=by intro X r a N e n h S W A x g z;obtain⟨B,C⟩:=lv2 x;refine oW g λ t i b F g=>?_;{refine an4 g λ p s u v=>?_;refine ZL (ItW.mono (it.sound A B u z) λ m k q=>?_) (by rw[A.xe];exact md) A.calm (pI p _);unfold iC at q;obtain⟨f,D,G,E⟩:=q;refine%[f,D,λ i d j o w y=>BdW.mono (Tg.sound A (W:=λ c l=>body.wp c l {W with nx:=f (i+1),ct:=f (i+1),bk:=W.nx}) s (G i d j o w y)) λ c l q=>body.sound A C v q|E]}
def aag(N ps:ab8)(sm:Stmt)(k:Nat)(body:Bl Ω):Bool:=
 ((aW sm).kind==.function)&&(!(aW sm).isCoroutine&&(!(aW sm).isGenerator&&(decide N.Nodup&&(decide (N.take ps.length=ps)&&((ps.all λ x=>(aW sm).names.lookup x==some .local||(aW sm).names.lookup x==some .cell)&&
   (((aW sm).names.all λ y=>!(y.2==.free))&&(Nat.ble body.lev k&&body.chk true N (aW sm).names (cY sm))))))))
def aC(m:%[|7])(l:Fun Ω.K x b c f g)(a:Bl Ω)(I:aag N ps c k a=true)
 (O:∀(ds:List D)(S:Store)(W:WD),F ds S W->ds.length=ps.length->a.wp (ds.map some++List.replicate (N.length-ds.length) none) S {nx:=λ _ S1=>W .non S1,rt:=W}):FnOk Ω.P Ω.w Ω.K Ω.mg Ω.base CX0 (k+1) f g ps (spC Ω.K ps.length F):=by refine an9 I λ o t u v w z B C G=>?_;have i:N.Nodup:=cy v;have j:FnScope N ps (aW c):=%[ZU o,nt t,nt u,i,cy w,λ x L=>by have:=gc.mp z x L;simpa using this|λ y M e=>by have:=List.all_eq_true.mp B y M;simp[e]at this];refine Z0 l j λ n A d s H E ds S W _ K J h=>?_;refine a.sound (r:=k) (top:=true) (N:=N) (nm:=(aW c).names) %[rfl,rfl,rfl,rfl,rfl,K,rfl,rfl,rfl,i,j.kind,λ x P h=>.inl h,λ _ _=>rfl,λ _ p q=>(nomatch (m.symm.trans q))|λ _=>%[rfl,rfl|rfl]] (Nat.le_of_ble_eq_true C) G (O ds S W h J)
def callee(d:Fun Ω.K x a g f c)(h:FnOk Ω.P Ω.w Ω.K Ω.mg Ω.base CX0 k f c ps (spC Ω.K n F))(e:Ω.mg x=some (.ref f))(b:Binds Ω.K c ps []):Callee Ω.P Ω.w Ω.K Ω.mg Ω.base x k n F:=%[f,c,ps,h,e,d.kp|b]
end RF
namespace RF
open PySem PySem.Spec L2 DL
open PyProof.Rows
def cX:Bf where
 x:="len"
 id:="len"
 boot:=%[|11]
 wp a S W:=match a with
  | [.tup a]=>W (.int a.length) S
  | [.lst a]=>W (.int a.length) S
  | [.loc k]=>∃a,S[k]? =some a/\W (.int a.length) S
  | _=>False
 sound:=by intro X a S W d e h;split at h;{exact Y4 h};{exact W3 h};{obtain⟨a,b,c⟩:=h;exact Xn b c};{exact h.elim}
def gM:Bf where
 x:="all"
 id:="all"
 boot:=%[|11]
 wp a S W:=match a with
  | [.lst a]=>∃b:List Bool,a=b.map .bl/\W (.bl (b.all id)) S
  | _=>False
 sound:=by intro X a S W c d h;split at h;{obtain⟨b,rfl,h⟩:=h;exact k_all h c};{exact h.elim}
def YD:Bf where
 x:="abs"
 id:="abs"
 boot:=%[|11]
 wp a S W:=match a with
  | [.int i]=>W (.int (if i<0 then-i else i)) S
  | _=>False
 sound:=by intro X a S W d e h;split at h;{refine cM Rf λ O H f c r=>?_;obtain⟨v,rfl,b⟩:=cO r;cases b;exact%[_,rfl|J3 h c (.int _)]};{exact h.elim}
def TF{K}(r:Reps K O H c [d,e]):∃v w,c=[v,w]/\Rep K O H v d/\Rep K O H w e:=by cases r with| cons a t=>cases t with| cons b t=>cases t;exact%[_,_,rfl,a|b]
def aaQ:Bf where
 x:="min"
 id:="min"
 boot:=%[|11]
 wp a S W:=match a with
  | [.int i,.int j]=>W (.int (if j<i then j else i)) S
  | _=>False
 sound:=by intro X a S W b f h;split at h;{refine cM (PJ b) λ O H g e r=>?_;obtain⟨v,w,rfl,c,d⟩:=TF r;cases c;cases d;exact%[_,_,rfl|J3 h e (.int _)]};{exact h.elim}
def aaP:Bf where
 x:="max"
 id:="max"
 boot:=%[|11]
 wp a S W:=match a with
  | [.int i,.int j]=>W (.int (if j>i then j else i)) S
  | _=>False
 sound:=by intro X a S W b f h;split at h;{refine cM (LR b) λ O H g e r=>?_;obtain⟨v,w,rfl,c,d⟩:=TF r;cases c;cases d;exact%[_,_,rfl|J3 h e (.int _)]};{exact h.elim}
def bQ:Bc where
 x:="tuple"
 id:="tuple"
 boot:=%[|11]
 wp a S W:=match a with
  | [.lst a]=>W (.tup a) S
  | [.loc k]=>∃a,S[k]? =some a/\W (.tup a) S
  | _=>False
 sound:=by intro X a S W d e h;split at h;{exact W0 h};{obtain⟨a,b,c⟩:=h;exact WQ b c};{exact h.elim}
def Uc:Bc where
 x:="list"
 id:="list"
 boot:=%[|11]
 wp a S W:=match a with
  | [.tup a]=>W (.lst a) S
  | [.lst a]=>W (.lst a) S
  | _=>False
 sound:=by intro X a S W b c h;split at h;{exact YC h};{exact Y7 h};{exact h.elim}
def aaT:Bc where
 x:="int"
 id:="int"
 boot:=%[|11]
 wp c S W:=match c with
  | [.int i]=>W (.int i) S
  | [.bl k]=>W (.int (if k then 1 else 0)) S
  | _=>False
 sound:=by intro X c S W e f h;split at h;{refine cM xW λ O H d b r=>?_;obtain⟨v,rfl,a⟩:=cO r;cases a;exact .inl %[_,rfl|J3 h b (.int _)]};{refine cM xW λ O H d b r=>?_;obtain⟨v,rfl,a⟩:=cO r;cases a;exact .inr %[_,rfl|J3 h b (.int _)]};{exact h.elim}
section
variable{X:Cx}{Γ:Gam}{S:Store}{e:Expr}{pos:Pos}
def Vd(h:Ev X Γ S e λ d S1=>match d with | .lst ds=>W (ds.mapIdx λ i d=>.tup [.int i,d]) S1 | .tup ds=>W (ds.mapIdx λ i d=>.tup [.int i,d]) S1 | _=>False)(hm:X.mg "enumerate"=none)(hg:Gl X "enumerate")(hs:starEach [e] X.env=[(false,eval e X.env)]):
 ItW X Γ S (.Tuple l k tp) (.Call (.Name "enumerate" p) [e] [] pos) W:=by
 intro t s σ H O I E st;refine Call_ (cz I hg hm boot_enumerate (eu (thn (iw h.pe uo hs pos t s σ H (λ V y=>∃v,V=[v]/\QG X.K O H (λ d S1=>match d with | .lst ds=>W (ds.mapIdx λ i d=>.tup [.int i,d]) S1 | .tup ds=>W (ds.mapIdx λ i d=>.tup [.int i,d]) S1 | _=>False) v y) I %[O,E,st|λ v y q=>%[v,rfl|q]]) λ us f L=>?_) hs rfl));obtain⟨V,H1,z,r1,v,ev,T,d,S1,w,x,r,Q⟩:=L;subst ev;obtain⟨u,rfl,U⟩:=vals1 r1
 cases Q with
 | @lst a R ds m P=>cases U;obtain⟨g,rv,N,B⟩:=z.list m.sq;refine call_enumerate_list N.isList λ h' A K _ kp=>Ht (Td X.prog X.w X.K) z A K kp %[T,_,S1,w,x,r|qw _ λ Y y j=>%[R,(m.conv j).sq|P.conv j]]
 | @tup a R ds m P=>
   cases U;obtain⟨g,rv,N,B⟩:=z.tuple m.sq;obtain⟨⟨c,C,Z,sl⟩,hl,G,n,J⟩:=N;replace G:c=%[|10]:=G;replace J:Z=.seq g.toArray n:=J;subst G J;refine callType_new F.called_enumerate %[|1] (F.typeCall_enumerate_1 _) (F.newCall_enumerate_1 _) (λ M=>F.args_object_init_2 M _) F.entry_enumerate_new (NT a g.toArray n C sl) %[hl|?_];have B:(f.heap.push {cls:=.type "tuple_iterator",data:=.fields #[.ref a,.int 0 0]}).objs.size=f.heap.objs.size+1:=gl ..;show _/\_;rw[B];have A:IsEnum ((f.heap.push {cls:=.type "tuple_iterator",data:=.fields #[.ref a,.int 0 0]}).push {cls:=.type "enumerate",data:=.fields #[.none,.bool false,.ref f.heap.objs.size,rawInt 0,.none,.none]}) (f.heap.objs.size+1) f.heap.objs.size 0 .none:=by have:=bS (f.heap.push {cls:=.type "tuple_iterator",data:=.fields #[.ref a,.int 0 0]}) (o:={cls:=.type "enumerate",data:=.fields #[.none,.bool false,.ref f.heap.objs.size,rawInt 0,.none,.none]}) rfl;rw[B]at this;exact this
   have K:Heap.IsTupleIter ((f.heap.push {cls:=.type "tuple_iterator",data:=.fields #[.ref a,.int 0 0]}).push {cls:=.type "enumerate",data:=.fields #[.none,.bool false,.ref f.heap.objs.size,rawInt 0,.none,.none]}) f.heap.objs.size a 0:=
    %[_,bE _ (bS _ rfl),rfl|rfl];exact%[%[_,A|rfl]|Ht (KZ X.prog X.w X.K) z A K (λ b o e=>bE _ (bE _ e)) %[T,_,S1,w,x,r|qw _ λ Y y j=>%[R,(m.conv j).sq|P.conv j]]]
 | _=>exact w.elim
end
variable{Ω:Wd}
def abK(hm:Ω.mg "enumerate"=none)(a:Ex Ω):Itb Ω where
 lev:=a.lev
 chk h N l o e:=ww o&&cA e λ y n=>dj n λ b=>(y==("enumerate":Str))&&(glb l "enumerate"&&(okE b&&a.chk h N l b))
 wp q S W:=a.wp q S λ d m=>match d with | .lst ds=>W (ds.mapIdx λ i d=>.tup [.int i,d]) m | .tup ds=>W (ds.mapIdx λ i d=>.tup [.int i,d]) m | _=>False
 sound:=by intro X r h N l o e q S W A x j z;refine an2 j λ s c=>?_;obtain⟨D,k,C,rfl⟩:=jL s;refine bh c λ y p n B f=>?_;refine cP f λ b g=>?_;have j:=g;{refine an4 j λ t u v w=>?_;have e:=ZU t;subst e;exact Vd (a.sound A x w z) (by rw[A.g];exact hm) (A.glb u) (aK v [] _)}
def abT(hm:Ω.mg "zip"=none)(a b:Ex Ω):Itb Ω where
 lev:=max a.lev b.lev
 chk c N j u e:=ww u&&cA e λ y i=>two2 i λ l r=>(y==("zip":Str))&&(glb j "zip"&&((okE l&&okE r)&&(a.chk c N j l&&b.chk c N j r)))
 wp o S W:=a.wp o S λ d s=>b.wp o s λ m t=>match d,m with | .tup ds,.tup i=>W (List.zipWith (λ x y=>.tup [x,y]) ds i) t | _,_=>False
 sound:=by intro X r c N j u e o S W A H n I;obtain⟨J,K⟩:=lv2 H;refine an2 n λ v f=>?_;obtain⟨Q,k,P,rfl⟩:=jL v;refine bh f λ y p i L g=>?_;refine two2_ind g λ M O h=>?_;have n:=h;{refine an4 n λ w z B C=>?_;refine an2 B λ D E=>?_;refine an2 C λ F G=>?_;have e:=ZU w;subst e;refine SJ ((a.sound A J F I).mono λ d s q=>(b.sound A K G q).mono λ m t q=>?_) (by rw[A.g];exact hm) (A.glb z) (aK D _ _) (aK E [] _);cases d<;>first | exact q.elim | (cases m<;>first | exact%[_,_,rfl,rfl|q] | exact q.elim)}
end RF
namespace RF
def ff{P:Prop}(h:false=true):P:=(y6 h).elim
def tf{P:Prop}(h:true=false):P:=(y6 h.symm).elim
open PySem PySem.Spec L2 DL
open PyProof.Rows
abbrev Cal(Ω:Wd)(x:Str)(k n:Nat)(F:Ct):Prop:=Callee Ω.P Ω.w Ω.K Ω.mg Ω.base x k n F
abbrev Ok(Ω:Wd)(k:Nat)(f:Addr)(fd:FuncData)(ps:ab8)(F:Ct):Prop:=FnOk Ω.P Ω.w Ω.K Ω.mg Ω.base CX0 k f fd ps (spC Ω.K ps.length F)
def tW:Ct:=λ c S W=>∃a,c=[.lst (List.map .int a)]/\a.length<=63/\(∀b,W (.bl true) b)/\S=[]
def YF{K}{ns:ab1}(f:ns.length<=63)(c:SqL K H a (ns.map V.int)):spC K 1 tW [.ref a] H (λ v _=>v=.bl true) E:=by refine%[%[[]|[]],[.lst (ns.map .int)],[],λ d _=>d=.bl true,rfl,.cons (.lst (xs:=ns.map V.int) ?_ (abv ns)) .nil,?_,%[ns,rfl,f,λ _=>rfl|rfl]|λ v g q=>?_];{rcases c with h | h;{exact .inl ⟨λ z=>by rcases z with z | z<;>exact absurd (show a∈([]:List Addr)from z) (by simp),h⟩};{exact .inr (.inr h)}};{exact%[fT,rfl,λ k a b e=>by simp at e,λ k a b e=>by simp at e,λ a h=>absurd (show a∈([]:List Addr)from h) (by simp)|λ a h=>absurd (show a∈([]:List Addr)from h) (by simp)]};{obtain⟨i,d,j,w,_,_,r⟩:=q;subst w;cases r;rfl}
def walk{l:PySem.W.OpenLaw}{K:Params->PySem.W.Frag}(o:l.most=some 63)(c:d.params.defaults=[])(p:Room lev callerA)
 (j:∀(w:World)(h:Heap),e w h->(K w.params).In h)
 (F:∀(w:World)(mg:ab9)(fa:Addr)(h:Heap),(K w.params).In h->h.Ns mainGlobals mg->mg d.name=some (.ref fa)->
  ∃fd:FuncData,(∀(s:ab5)(u:Value),BindsTo s fd %[[u]|[]] [(x,u)])/\∀base:Heap,(K w.params).In base->base.Ns mainGlobals mg->FnOk l.prog w (K w.params) mg base CX0 lev fa fd [x] (spC (K w.params) 1 tW)):
 PySem.W.WalkO q b g e l.row.toRowW d [] (λ f vs=>PySem.call f vs):=
 L2.walk_of (n:=63) (k:=lev) (x:=x) (CX:=λ _=>CX0) (sp:=λ w=>spC (K w.params) 1 tW) o %[|1] c p j F (λ _ _ a r m _ i=>YF m i) λ _ _ _ _ _ z=>z
def Tg.mono{t:Tg}(h:t.wp d b W)(k:∀G,W G->a G):t.wp d b a:=by
 cases t with
 | nm i=>exact k _ h
 | tup e=>
   cases d with
   | tup c=>exact%[h.1|k _ h.2]
   | _=>exact h.elim
section
variable{Ω:Wd}{cap:List (Option Nat)}{Γ:Gam}{elt:Ex Ω}{tg:Tg}{cd:Cd Ω}{W:WD}{ds:List D}{S1:Store}
def d9(f:D->D)(hz:ds.length<=1000000)(h:∀(i:Nat)(d:D),ds[i]? =some d->∀Q:WD,Q (f d) S1->tg.wp d (capt cap Γ) λ Γ2=>elt.wp Γ2 S1 Q)(w:W (.lst (ds.map f)) S1):oZ cap Γ elt tg (aa6 (Ω:=Ω)) W ds S1:=by refine eU %[hz,λ i a b=>a=(ds.take i).map f/\b=S1,%[rfl|rfl],?_|?_];{rintro i d a b c ⟨rfl,rfl⟩;refine Tg.mono (h i d c (λ y e=>(ds.take i).map f++[y]=(ds.take (i+1)).map f/\e=b) %[?_|rfl]) λ G q=>%[λ _=>q|λ z=>tf z];rw[aD c,cE];rfl};{rintro a b ⟨rfl,rfl⟩;rw[cr];exact w}
def oE(P:Nat->D->Prop)(Q:%[|4])(hz:ds.length<=1000000)(m:Q S1)(h:∀(i:Nat)(d:D)(S':Store),ds[i]? =some d->Q S'->∀R:WD,(∀y S4,P i y->Q S4->R y S4)->tg.wp d (capt cap Γ) λ Γ2=>elt.wp Γ2 S' R)
 (w:∀(ys:List D)(S':Store),ys.length=ds.length->(∀i y,ys[i]? =some y->P i y)->Q S'->W (.lst ys) S'):oZ cap Γ elt tg (aa6 (Ω:=Ω)) W ds S1:=by
 refine eU %[hz,λ i a S'=>(a.length=i/\∀j y,a[j]? =some y->P j y)/\Q S',%[%[rfl|λ j y e=>by simp at e]|m],?_|λ a S' h=>w a S' h.1.1 h.1.2 h.2];rintro i d a S' f ⟨⟨k,c⟩,q⟩;refine Tg.mono (h i d S' f q (λ y S4=>((a++[y]).length=i+1/\∀j b,(a++[y])[j]? =some b->P j b)/\Q S4) λ y S4 l n=>%[%[by simp[k]|λ j b e=>?_]|n]) λ G q=>%[λ _=>q|λ z=>tf z];by_cases g:j<a.length;{rw[x9 g]at e;exact c j b e}
 . rw[dt %[|0]]at e;have:j-a.length=0:=by have:=(z0.mp e).1;simp at this;omega
   rw[this]at e;simp at e;subst e;have:j=i:=%[|0]
   rw[this];exact l
end
def bT(h:A):(true=true->A)/\(true=false->B):=%[λ _=>h|λ z=>tf z]
def bF(h:B):(false=true->A)/\(false=false->B):=%[λ z=>ff z|λ _=>h]
def dT(h:B):(true=false->A)/\(true=true->B):=%[λ z=>tf z|λ _=>h]
variable{K:PySem.W.Frag}{O O':Own}{H:Hp}{ds:List D}{W:WD}{S:Store}{i:Int}
def du(h:∀a,¬O.has a->¬O'.has a)(n:az d=true)(r:Rep K O H v d):Rep K O' H v d:=
 Rep.rec (motive_1:=λ v d _=>az d=true->Rep K O' H v d) (motive_2:=λ g f _=>aa f=true->Reps K O' H g f) (λ _=>.non) (λ b _=>.bl b) (λ i _=>.int i) (λ x _=>.str x) (λ h1 _ c n=>.tup %[h _ h1.1|h1.2] (c n)) (λ h1 _ c n=>.lst (h1.imp (λ q=>%[h _ q.1|q.2]) id) (c n)) (λ _ n=>by cases n) (λ _ _ n=>by cases n) (λ h1 e _=>.dic (h _ h1) e) (λ _=>.nil) (λ _ _ i j n=>.cons (i (bu n).1) (j (bu n).2)) r n
def eV(h:∀a,¬O.has a->¬O'.has a)(n:aa ds=true)(r:Reps K O H b ds):Reps K O' H b ds:=
 r.ind (P:=λ b ds=>aa ds=true->Reps K O' H b ds) (λ _=>.nil) (λ r _ i n=>.cons (du h (bu n).1 r) (i (bu n).2)) n
def QH(h:∀a,¬O.has a->¬O'.has a)(n:aa ds=true)(r:Kps K O H b ds):Kps K O' H b ds:=by
 revert n
 induction r with
 | nil=>exact λ _=>.nil
 | cons r t c=>intro n;simp only[aa,az,fg]at n;exact .cons (du h n.1.2.1 r) (c n.2)
def Bu(h:∀a,¬O.has a->¬O'.has a)(n:aa ds=true)(r:Kcs K O H b ds):Kcs K O' H b ds:=by
 revert n
 induction r with
 | nil=>exact λ _=>.nil
 | cons e d f r t c=>intro n;simp only[aa,az,fg]at n;exact .cons e (du h n.1.1 d) f (du h n.1.2.1 r) (c n.2)
def Q6(h:∀a,¬O.has a->¬O'.has a)(n:aa ds=true)(r:Kos K O H b ds):Kos K O' H b ds:=by
 revert n
 induction r with
 | nil=>exact λ _=>.nil
 | cons e d r t c=>intro n;simp only[aa,az,fg]at n;exact .cons e d (du h n.1.2.1 r) (c n.2)
def qY(h:∀a,¬O.has a->¬O'.has a)(n:aa ds=true)(b:DOb K O H a ds):DOb K O' H a ds:=by
 cases b with
 | t i e r=>exact .t i e (QH h n r)
 | c d z e r=>exact .c d z e (Bu h n r)
 | o d z e r=>exact .o d z e (Q6 h n r)
 | m d j f e r=>subst f;exact .m d j rfl e (Bu h (by simpa[aa,az]using n) r)
 | p s z b l c y q k e f g=>exact .p s z b l c y q k e f (g.imp id λ⟨g1,x,g2,g3,g4⟩=>%[g1,x,g2,h _ g3|g4])
def flat(S:Store):Prop:=∀l∈S,aa l=true
def iZ(h:a∈adr (A.take n)):a∈adr A:=by obtain⟨x,b,rfl⟩:=c8.mp h;exact c8.mpr %[x,iL b|rfl]
def fQ{J:List (List D)}(st:Step O O' H l)(ok:StOk K O' l (S'++J))(E:O.A.length<=S'.length)(p:flat S'):
 Step O %[O'.A.take S'.length|O'.B] H l/\StOk K %[O'.A.take S'.length|O'.B] l S'/\(∀b,¬O'.has b->¬(%[O'.A.take S'.length|O'.B]:Own).has b)/\∀j a,S'.length<=j->∀{q:Bool},O'.A[j]? =some (a,q)->¬(%[O'.A.take S'.length|O'.B]:Own).has a:=by
 obtain⟨N,s,t⟩:=st.ext;have o:O'.A.length=S'.length+J.length:=by have:=ok.len;simpa using this
 have e:∀b,¬O'.has b->¬(%[O'.A.take S'.length|O'.B]:Own).has b:=λ b g z=>g (z.imp iZ id);have x:(adr (O'.A.take S'.length)).Nodup:=by show(List.map _ (List.take _ _)).Nodup;rw[ln];exact ok.nd.sublist (kN _ _)
 refine%[%[st.kept,st.dom,%[N.take (S'.length-O.A.length),by show O'.A.take S'.length=_;rw[s,List.take_append,ck %[|0]]|λ b g=>t b (iZ g)]|st.hid],%[x,by simp[o],λ k b f n d=>?_,λ k b f n d=>?_,λ b g=>ok.apart b (iZ g)|ok.hidden],e|λ j a C q r z=>?_];{have h:k<S'.length:=(z0.mp d).1;have c:(O'.A.take S'.length)[k]? =some (b,false):=n;rw[g7,c9 h]at c;obtain⟨A,w,y⟩:=ok.obj k b f c (by rw[x9 h];exact d);exact%[A,w|eV e (p f (y4 d)) y]};{have h:k<S'.length:=(z0.mp d).1;have c:(O'.A.take S'.length)[k]? =some (b,true):=n;rw[g7,c9 h]at c;exact qY e (p f (y4 d)) (ok.dob k b f c (by rw[x9 h];exact d))};{rcases z with z | z;{obtain⟨⟨B,F⟩,v,rfl⟩:=c8.mp z;obtain⟨i,m⟩:=d6 v;rw[g7]at m;split at m;{rename_i u;exact sO ok.nd m r %[|0] rfl};{cases m}};{exact ok.apart a (cI r) z}}
def Frz(n:Nat)(W:WD):WD:=λ d c=>W d c\/∃b a,d=.loc a.length/\c=a++[b]/\n<=a.length/\aa b=true/\flat a/\W (.lst b) a
def QG.frz(y:O.A.length=n)(q:QG K O H (Frz n W) v g):QG K O H W v g:=by obtain⟨l,d,m,w,k,b,r⟩:=q;rcases w with w | ⟨i,h,rfl,rfl,x,p,o,w⟩;{exact%[l,d,m,w,k,b|r]};{obtain⟨e,c,f,t⟩:=fQ k b %[|0] o;cases r with| @loc a _ j=>obtain⟨z,s,u⟩:=b.obj h.length a i j (by simp);exact%[_,.lst i,h,w,e,c|.lst (.inl %[t _ a (y9 _) j|.inl s]) (eV f p u)]}
def Vi{W}(h:Rns X g S b {W with rt:=Frz S.length W.rt}):Rns X g S b W:=λ a s k H O I c e=>
 thn (h a s k H O I c e) λ f l q=>by
  cases f with
  | next=>exact q
  | brk=>exact q
  | cont=>exact q
  | ret u=>obtain⟨v,d,i,j,r,q⟩:=q;exact%[v,d,i,j,r|QG.frz e.len q]
variable{Ω:Wd}
def Bl.frz(b:Bl Ω):Bl Ω where
 lev:=b.lev
 chk:=b.chk
 wp a S W:=b.wp a S {W with rt:=Frz S.length W.rt}
 sound:=by intro X r g N h f a S W A d c e;exact Vi (b.sound A d c e)
def hand(W:WD)(ds:List D)(S:Store):Prop:=W (.lst ds) S\/W (.loc S.length) (S++[ds])
def qO(h:hand W ds S)(b:aa ds=true)(a:flat S):Frz S.length W (.loc S.length) (S++[ds]):=by rcases h with h | h;{exact .inr %[ds,S,rfl,rfl,y9 _,b,a|h]};{exact .inl h}
def Lg(h:Ev X j S o λ x S1=>∃k,x=.loc k/\Ev X j S1 e λ d S2=>∃ds,S2[k]? =some ds/\ds.length<1000000/\W .non (S2.set k (ds++[d])))
 (m:attributeBase o "append" X.env (eval o X.env)=eval o X.env)(hs:starEach [e] X.env=[(false,eval e X.env)])(n:(f.endLine==g.line)=true):Ev X j S (.Call (.Attribute o "append" f) [e] [] g) W:=by
 intro b s E H O I c P;have L:∀(p:Own)(x:D)(v:V)(l:Hp)(S1:Store),(∃k,x=.loc k)->StOk X.K p l S1->Rep X.K p l v x->tyV X.K "list" v l:=by
  rintro p x v l S1 ⟨k,rfl⟩ U r
  cases r with
  | @loc a _ t=>
    have hl:k<S1.length:=by rw[<-U.len];exact(z0.mp t).1
    obtain⟨R,M,_⟩:=U.obj k a S1[k] t (y3 hl);exact .inl %[rfl,R|SqL.of M]
 have hA:PA X [e] (λ E H Q=>∃O j S G,EnvOk X.K O H E j/\%[|14]/\Ev X j S e G/\∀v F,QG X.K O H G v F->Q [v] F):=by rintro N b s E H Q I ⟨O,j,S,G,c,P,J,k⟩;rw[hs];show wpAny _ _ (spliced ((false,eval e X.env)::backTo N (starEach [] X.env))) _ _ s;refine fA (thn (J b s E H O I c P) λ u s1 K=>?_);obtain⟨v,l,Z,r1,q⟩:=K;exact gi %[[v],l,Z,.cons r1 .nil|k v l q]
 refine TJ (T:="list") PySem.F.plainAttrs_list PySem.F.slot_list_append PySem.F.type_list_append wQ (h.pe) hA m (by rw[hs];rfl) n hs rfl b s E H _ I %[O,c,P|λ v F q=>?_];obtain⟨p,x,S1,⟨k,rfl,J⟩,B,y,i⟩:=q;refine%[L p _ v F S1 %[k|rfl] y i,p,j,S1,_,c.mono B,y,J|λ v2 H2 q2=>?_];obtain⟨O2,d,S2,⟨ds,hk,hz,w⟩,C,z,A⟩:=q2;have r:=i.mono C;cases r with| @loc a _ t=>obtain⟨R,M,Y⟩:=z.obj k a ds t hk;exact%[a,R,v2,rfl,rfl,M,by rw[Y.length];exact v3 hz %[|1],O2,.non,_,w,(B.trans C).trans (Step.put (cI t) _),z.put t (Y.append (.cons A .nil))|.non]
def nameE:Expr->Bool
 | .Name .. =>true
 | _=>false
def aa8(o a:Ex Ω):Ex Ω where
 lev:=max o.lev a.lev
 chk b N h e:=oM e λ x m p n q=>dj n λ y=>(m==("append":Str))&&(nameE x&&((p.endLine==q.line)&&(okE y&&(o.chk b N h x&&a.chk b N h y))))
 wp i S W:=o.wp i S λ x j=>match x with | .loc k=>a.wp i j λ d l=>∃c,l[k]? =some c/\c.length<1000000/\W .non (l.set k (c++[d])) | _=>False
 sound:=by intro X r b N h e i S W A B f C;obtain⟨D,E⟩:=lv2 B;refine fX f λ x m p n q g=>?_;refine cP g λ y f=>?_;refine an6 f λ s t u v w z=>?_;have e:=ZU s;subst e;refine Lg ((o.sound A D w C).mono λ x j q=>?_) ?_ (aK v [] _) u;{cases x<;>first | exact q.elim | exact%[_,rfl|a.sound A E z q]};{cases x<;>first | rfl | exact ff t}
def Sm.never:Sm Ω where
 lev:=0
 chk _ _ _ st:=match st with | .Raise _ _ _=>true | _=>false
 wp _ _ _:=False
 sound:=λ _ _ _ h=>h.elim
def aO(S:Store)(x:List D):(S++[x])[S.length]? =some x:=by simp
def cj(S:Store)(x y:List D):(S++[x]).set S.length y=S++[y]:=by simp
def aV{b c:Type}{xs:List b}{f}{i:Nat}{e:c}(h:(xs.map f)[i]? =some e):∃x,xs[i]? =some x/\e=f x:=by
 rw[y8]at h
 cases a:xs[i]? with
 | none=>rw[a]at h;cases h
 | some x=>rw[a]at h;cases h;exact%[x,rfl|rfl]
def Ul{b c:Type}{xs:List b}{f}{i}{e:c}(h:(xs.mapIdx f)[i]? =some e):∃x,xs[i]? =some x/\e=f i x:=by
 rw[kz]at h
 cases a:xs[i]? with
 | none=>rw[a]at h;cases h
 | some x=>rw[a]at h;cases h;exact%[x,rfl|rfl]
def iJ{m:Gam}{j:Type}{xs:List j}{enc}(f:j->D)(hz:xs.length<=1000000)(h:∀(i:Nat)(x:j),xs[i]? =some x->∀Q:WD,Q (f x) b->l.wp (enc x) (capt c m) λ Γ2=>e.wp Γ2 b Q)
 (w:W (.lst (xs.map f)) b):oZ c m e l (aa6 (Ω:=Ω)) W (xs.map enc) b:=by refine eU %[by rw[y7];exact hz,λ i a g=>a=(xs.take i).map f/\g=b,%[rfl|rfl],?_|?_];{rintro i d a g o ⟨rfl,rfl⟩;obtain⟨x,k,rfl⟩:=aV o;refine Tg.mono (h i x k (λ y n=>(xs.take i).map f++[y]=(xs.take (i+1)).map f/\n=g) %[?_|rfl]) λ G q=>%[λ _=>q|λ z=>tf z];rw[aD k,cE];rfl};{rintro a g ⟨rfl,rfl⟩;rw[y7,cr];exact w}
def wM1(h:L2.CMul i j)(p:P):L2.CMul i j/\P:=%[h|p]
def wM2(h:L2.CPow i j)(p:P):L2.CPow i j/\P:=%[h|p]
def wM3(h:0<i/\i<j)(p:P):(0<i/\i<j)/\P:=%[h|p]
def wM4(h:0<i)(p:P):0<i/\P:=%[h|p]
def wM5{a:Type}{l:List a}(h:l.length<=1000000)(p:P):l.length<=1000000/\P:=%[h|p]
def wM6{a b:Type}{l:List a}{k:List b}(h:l.length+k.length<=1000000)(p:P):l.length+k.length<=1000000/\P:=%[h|p]
def wM7{k j:Nat}{Q:List D->Nat->Prop}(h:S[k]? =some ds)(g:L2.ixN ds.length n=some j)(q:Q ds j):∃ds j,S[k]? =some ds/\L2.ixN ds.length n=some j/\Q ds j:=%[ds,j,h,g|q]
def wM8{k:Nat}{Q:List D->D->Prop}(h:S[k]? =some ds)(g:L2.atI ds n=some d)(q:Q ds d):∃ds d,S[k]? =some ds/\L2.atI ds n=some d/\Q ds d:=%[ds,d,h,g|q]
def wM9{Q:D->Prop}(g:L2.atI ds n=some d)(q:Q d):∃d,L2.atI ds n=some d/\Q d:=%[d,g|q]
end RF
namespace RF
open PySem PySem.Spec L2 DL
open PyProof.Rows
section
variable{prog:Program}{w:World}{A:Around}{E:%[|17]}{s:Shared}
def ltF(fin:Bool):List Int->List Int->Bool
 | x::xs,y::ys=>if x=y then ltF fin xs ys else decide (x<y)
 | _,_=>fin
def ltI(xs ys:ab1):Bool:=ltF (decide (xs.length<ys.length)) xs ys
def VJ(h:Q (decide (a<b)) s):wpAny %[|5] A (oneLt' c (.int a t) (.int b u)) Q E s:=by
 cases c with
 | true=>exact oneLt_int h
 | false=>exact PySem.W.kat_one _ _ (wpAny_lt_int h)
def fC(h:Heap)(v:Value)(ns:ab1):Prop:=∃b o a k,v=.ref b/\h.get? b=some o/\o.cls=%[|10]/\o.data=.seq a k/\IntsAre a.toList ns
end
def vX(k:Nat)(ds:List D):Option D->Option D
 | some (.loc j)=>if j=k then some (.lst ds)else some (.loc j)
 | o=>o
def atTop(Γ:Gam):Prop:=∀(i:Nat)(d:D),Γ[i]? =some (some d)->az d=true\/∃j,d=.loc j
def XQ(n:Nat)(W:Gam->%[|4]):Gam->%[|4]:=λ c d=>W c d\/∃b a,d=a++[b]/\n<=a.length/\aa b=true/\flat a/\atTop c/\W (c.map (vX a.length b)) a
def QN.frz {K}(P:O.A.length=n)(q:QN K O H (XQ n W) σ u):QN K O H W σ u:=by
 obtain⟨b,C,D,w,B,m,r⟩:=q;rcases w with w | ⟨x,c,rfl,N,F,E,G,w⟩;{exact%[b,C,D,w,B,m|r]}
 . obtain ⟨t,s,g,L⟩:=fQ B m %[|0] E;have J:b.A.length=c.length+1:=by have:=m.len;simpa using this
   refine%[%[b.A.take c.length|b.B],_,c,w,t,s|%[by rw[y7];exact r.len|λ i d e=>?_]]
   . rw [y8] at e
     cases k:C[i]? with
     | none=>rw[k]at e;cases e
     | some o=>
       rw[k]at e
       cases o with
       | none=>cases e
       | some h=>
         obtain⟨v,p,A⟩:=r.at_ i h k;rcases G i h k with z | ⟨j,rfl⟩
         . have f:h=d:=by
            cases h with
            | loc j=>simp[az]at z
            | _=>simpa[vX]using e
           subst f;exact%[v,p|du g z A]
         . cases A with
           | @loc a _ l=>
             by_cases y:j=c.length
             . subst y;have f:d=.lst x:=by simpa[vX]using e.symm
               subst f;obtain⟨Q,I,M⟩:=m.obj c.length a x l (by simp);exact%[_,p|.lst (.inl %[L _ a (y9 _) l|.inl I]) (eV g F M)]
             . have f:d=.loc j:=by simpa[vX,y]using e.symm
               subst f;refine%[_,p|.loc ?_];have:j<b.A.length:=(z0.mp l).1;show(b.A.take c.length)[j]? =some (a,false);rw[g7,c9 %[|0]];exact l
section
variable{Ω:Wd}
def abX(b:Bl Ω):Bl Ω where
 lev:=b.lev
 chk:=b.chk
 wp g S W:=b.wp g S {W with nx:=XQ S.length W.nx}
 sound:=by
  intro X r m N n l g S W A j i k a s d H O I c e;refine thn (b.sound A j i k a s d H O I c e) λ f o q=>?_
  cases f with
  | next=>obtain⟨d,h,I,q⟩:=q;exact%[d,h,I|QN.frz e.len q]
  | brk=>exact q
  | cont=>exact q
  | ret u=>exact q
end
def JV{K}{k:Nat}(h:O.A[k]? =some (a,false)):jH K (Itl K a) O H (λ S=>S[k]? =some ds) ds:=by intro l g w u s n i;have m:l.A[k]? =some (a,false):=u.lc k _ h;obtain⟨b,q,r⟩:=s.obj k a ds m n;have c:SqL K g a b:=SqL.of q;refine%[λ d o=>?_|λ p=>%[b,c|by rw[r.length];exact mw p.symm]];obtain⟨v,f,t⟩:=r.get o;refine%[%[b,v,c|f]|λ x j y=>?_];obtain⟨e,y⟩:=y;subst e;have e:=y b c;rw[f]at e;cases e;exact%[dR.refl _|t]
abbrev itC(W:List D->%[|4]->%[|4]):WD:=λ d b=>match d with
 | .lst a=>W a (λ _=>True) b
 | .tup a=>W a (λ _=>True) b
 | .loc k=>∃a,b[k]? =some a/\W a (λ S=>S[k]? =some a) b
 | _=>False
def Yk(h:Ev X G S e (itC W)):ItC X G S M e W:=by
 intro n s N H O I y L;refine thn (h n s N H O I y L) λ u s1 z=>?_;obtain⟨v,r,c,A,t,d,x,w,j,f,B⟩:=z
 cases B with
 | @lst a F l g q=>
   cases A;obtain⟨i,E,p,C⟩:=c.list g.sq;refine kr p.isList ?_;refine%[s1.heap.objs.size,[s1.heap.objs.size],_,_,r,rfl,c.kept (t':=s1.toks) λ b o e=>bE _ e,oJ a _,%[_,bS _ rfl,rfl|rfl],λ b m=>?_,t,l,_,x,w,j,f|rY (qD g q)];have e:b=s1.heap.objs.size:=by simpa using m
   subst e;exact c.fpOk (y9 _) (c.hok.fresh (y9 _))
 | @tup a F l g q=>
   cases A;obtain⟨i,E,p,C⟩:=c.tuple g.sq;refine hZ (show s1.heap.IsTuple a i.toArray from p) ?_;refine%[s1.heap.objs.size,[s1.heap.objs.size],_,_,r,rfl,c.kept (t':=s1.toks) λ b o e=>bE _ e,t8 a _,%[_,bS _ rfl,rfl|rfl],λ b m=>?_,t,l,_,x,w,j,f|rY (sW g q)];have e:b=s1.heap.objs.size:=by simpa using m
   subst e;exact c.fpOk (y9 _) (c.hok.fresh (y9 _))
 | @loc a k g=>
   cases A;obtain⟨l,J,w⟩:=w;obtain⟨F,K,q⟩:=f.obj k a l g J;obtain⟨i,E,p,C⟩:=c.list (SqL.of K);refine kr p.isList ?_;refine%[s1.heap.objs.size,[s1.heap.objs.size],_,_,r,rfl,c.kept (t':=s1.toks) λ b o e=>bE _ e,oJ a _,%[_,bS _ rfl,rfl|rfl],λ b m=>?_,t,l,_,x,w,j,f|JV g];have e:b=s1.heap.objs.size:=by simpa using m
   subst e;exact c.fpOk (y9 _) (c.hok.fresh (y9 _))
 | _=>exact w.elim
def Cu(h:ItC X n S N iter λ ds C S1=>∃Pv:Nat->Gam->%[|4],Pv 0 n S1/\(∀i Γ' S',Pv i Γ' S'->C S')/\
 (∀i d Γ' S',ds[i]? =some d->Pv i Γ' S'->BdW X N d Γ' S' λ Γ2 S2=>Rns X Γ2 S2 j {W with nx:=Pv (i+1),ct:=Pv (i+1),bk:=W.nx})/\(∀Γ' S',Pv ds.length Γ' S'->W.nx Γ' S'))
 (hp:PassesOwn %[|6] X.A X.env X.xe)(hc:X.calm=true)(hs:∀x,foldedSetIterable iter X.env x=pure x):Rn X n S (.For N iter j [] pos) W:=by
 intro g s o H O I l ok;let WI:List D->%[|4]->%[|4]:=λ ds C S1=>∃Pv:Nat->Gam->%[|4],Pv 0 n S1/\(∀i Γ' S',Pv i Γ' S'->C S')/\
     (∀i d Γ' S',ds[i]? =some d->Pv i Γ' S'->BdW X N d Γ' S' λ Γ2 S2=>Rns X Γ2 S2 j {W with nx:=Pv (i+1),ct:=Pv (i+1),bk:=W.nx})/\(∀Γ' S',Pv ds.length Γ' S'->W.nx Γ' S');have hI:PI X N iter (λ o H R=>∃O,EnvOk X.K O H o n/\%[|14]/\∀J c,QIc X.K O H WI J c->R J c):=λ g s o H R I U=>by obtain⟨O,l,V,k⟩:=U;refine thn (h g s o H O I l V) λ _ _ q=>thn q λ _ _ q2=>?_;obtain⟨it,fp,tn,J,c,e1,e2,e3,e4,e5,e6⟩:=q2;exact%[it,fp,tn,J,c,e1,e2,e3,e4,e5|k J c e6]
 have hG:PG X N (λ v o H Q=>∃O d n S t,EnvOk X.K O H o n/\%[|14]/\Rep X.K O H v d/\BdW X N d n S t/\∀a c,QN X.K O H t a c->Q a c):=λ g s o H v u Q I ru U=>by obtain⟨O,d,n,S,t,l,V,r,b,k⟩:=U;refine thn (b g s o H O v u I l V r ru) λ _ _ q2=>?_;obtain⟨a,c,w,q⟩:=q2;exact%[a,c,w|k a c q]
 have hB:PSs X j (λ D o H=>∃O n S t,EnvOk X.K O H o n/\%[|14]/\Rns X n S j t/\(∀a c,QN X.K O H t.nx a c->D.nx a c)/\(∀v c,QG X.K O H t.rt v c->D.rt v c)/\(∀a c,QN X.K O H t.bk a c->D.bk a c)/\∀a c,QN X.K O H t.ct a c->D.ct a c):=
  λ g s o H D I U=>by
   obtain⟨O,n,S,t,l,V,b,k1,k2,k3,k4⟩:=U;refine thn (b g s o H O I l V) λ f s' q=>?_
   cases f with
   | next=>obtain⟨a,c,w,q⟩:=q;exact%[a,c,w|k1 a c q]
   | brk=>obtain⟨a,c,w,q⟩:=q;exact%[a,c,w|k3 a c q]
   | cont=>obtain⟨a,c,w,q⟩:=q;exact%[a,c,w|k4 a c q]
   | ret u=>obtain⟨v,a,c,w,r,q⟩:=q;exact%[v,a,c,w,r|k2 v c q]
 refine Lj hp hc hI hG hB hs g s o H _ I %[O,l,ok|λ J H1 q=>?_];obtain⟨Z,ds,C,S1,⟨Pv,p0,pC,pt,pe⟩,A,aa,yl⟩:=q;refine%[λ i m a c=>m=ds.length-i/\i<=ds.length/\∃F Γ' S',Pv i Γ' S'/\Step Z F H1 c/\StOk X.K F c S'/\EnvOk X.K F c a Γ',%[ds.length,by simp,db _,Z,n,S1,p0,Step.refl _ _,aa|l.mono A]|?_];rintro i m af H2 ⟨rfl,hi,O2,Γ2,S2,p2,L,G,E⟩;obtain⟨y1,y2⟩:=yl O2 H2 S2 L.conv G (pC _ _ _ p2) i;by_cases z:i<ds.length;{obtain⟨go,yy⟩:=y1 ds[i] (y3 z);refine .inr %[go,λ a c=>i+1<=ds.length/\∃F Γ' S',Pv (i+1) Γ' S'/\Step Z F H1 c/\StOk X.K F c S'/\EnvOk X.K F c a Γ',λ a c q=>%[ds.length-(i+1),%[|0],rfl,q.1|q.2]|λ x H3 y=>?_];obtain⟨sm,rx⟩:=yy x H3 y;have Y:=Step.same (O:=O2) sm;refine%[O2,ds[i],Γ2,S2,_,E.mono Y,G.same sm,rx,pt i ds[i] Γ2 S2 (y3 z) p2|λ ag H4 q4=>?_];obtain⟨O4,ad,S4,w4,ac,ab,T⟩:=q4;have B:=(L.trans Y).trans ac;refine%[O4,ad,S4,_,T,ab,w4,?_,?_,?_|?_];{rintro ae H5 ⟨O5,P,S5,w5,M,K,p⟩;exact%[z,O5,P,S5,w5,B.trans M,K|p]};{exact λ v c q=>QG.pre (A.trans B) q};{exact λ a c q=>QN.pre (A.trans B) q};{rintro ae H5 ⟨O5,P,S5,w5,M,K,p⟩;exact%[z,O5,P,S5,w5,B.trans M,K|p]}}
 . have e:i=ds.length:=%[|0]
   subst e;exact .inl %[y2 rfl,O2,Γ2,S2,pe Γ2 S2 p2,A.trans L,G|E]
section
variable{Ω:Wd}
@[irreducible] noncomputable def Xl(Γ:Gam)(tg:Tg)(body:Bl Ω)(W:DL.Fin)(k:Nat)(ds:List D)(S1:Store):Prop:=
  ∃c:Nat->Gam->%[|4],c 0 Γ S1/\(∀i a b,c i a b->b[k]? =some ds)/\(∀i d a b,ds[i]? =some d->c i a b->tg.wp d a λ e=>body.wp e b {W with nx:=c (i+1),ct:=c (i+1),bk:=W.nx})/\(∀a b,c ds.length a b->W.nx a b)
def abe(tg:Tg)(it:Ex Ω)(body:Bl Ω):Sm Ω where
 lev:=max it.lev body.lev
 chk h N u w:=frB w λ t i b=>okE i&&(tg.chk h N u t&&(it.chk h N u i&&body.chk h N u b))
 wp n S W:=it.wp n S λ d l=>match d with
  | .lst a=>iC n tg body W a l
  | .tup a=>iC n tg body W a l
  | .loc k=>∃a,l[k]? =some a/\Xl n tg body W k a l
  | _=>False
 sound:=by
  intro X r h N u w n S W A F v H;obtain⟨I,J⟩:=lv2 F;refine oW v λ t i b L v=>?_
  . refine an4 v λ x y z B=>?_;have g:∀(c:Nat->Gam->%[|4])(a:List D),(∀i d e j,a[i]? =some d->c i e j->tg.wp d e λ f=>body.wp f j {W with nx:=c (i+1),ct:=c (i+1),bk:=W.nx})->∀i d e j,a[i]? =some d->c i e j->BdW X t d e j λ f s=>Rns X f s b {W with nx:=c (i+1),ct:=c (i+1),bk:=W.nx}:=
     λ c a m i d e j C G=>BdW.mono (Tg.sound A (W:=λ f s=>body.wp f s {W with nx:=c (i+1),ct:=c (i+1),bk:=W.nx}) y (m i d e j C G)) λ f s q=>body.sound A J B q;refine Cu (Yk (Ev.mono (it.sound A I z H) λ d l q=>?_)) (by rw[A.xe];exact md) A.calm (pI x _)
    cases d with
    | lst a=>have q:iC n tg body W a l:=q;unfold iC at q;obtain⟨c,o,m,p⟩:=q;exact%[c,o,λ _ _ _ _=>trivial,g c a m|p]
    | tup a=>have q:iC n tg body W a l:=q;unfold iC at q;obtain⟨c,o,m,p⟩:=q;exact%[c,o,λ _ _ _ _=>trivial,g c a m|p]
    | loc k=>obtain⟨a,E,q⟩:=q;unfold Xl at q;obtain⟨c,o,K,m,p⟩:=q;exact%[a,E,c,o,K,g c a m|p]
    | _=>exact(show False from q).elim
end
def Wx{m:Gam}{g}{j:Type}{xs:List j}{enc}(f:j->D)(hz:xs.length<=1000000)(o:C0 b)(h:∀(i:Nat)(x:j),xs[i]? =some x->∀Q:WD,Q (f x) b->l.wp (enc x) (capt e m) λ Γ2=>g.wp Γ2 b Q)
 (w:W (.lst (xs.map f)) b\/W (.loc b.length) (b++[xs.map f])):pK e m g l (aa6 (Ω:=Ω)) W (xs.map enc) C0 b:=by refine Ez %[by rw[y7];exact hz,λ i a c=>a=(xs.take i).map f/\c=b,%[rfl|rfl],λ i a c q=>by rw[q.2];exact o,?_|?_];{rintro i d a c p ⟨rfl,rfl⟩;obtain⟨x,k,rfl⟩:=aV p;refine Tg.mono (h i x k (λ y n=>(xs.take i).map f++[y]=(xs.take (i+1)).map f/\n=c) %[?_|rfl]) λ G q=>%[λ _=>q|λ z=>tf z];rw[aD k,cE];rfl};{rintro a c ⟨rfl,rfl⟩;rw[y7,cr];exact w}
variable{ds:List D}
def jy(S:Store):D->Option (List D)
 | .lst ds=>some ds
 | .loc k=>S[k]?
 | _=>none
def putL(own:Bool)(W:WD)(ds:List D)(S:Store):Prop:=match own with
 | true=>W (.loc S.length) (S++[ds])
 | false=>W (.lst ds) S
section
variable{X:Cx}{S:Store}{W:WD}
def zz{pins:Pins}{s:ab5}{σ:DL.St}(st:%[|14])(r:Rep X.K O H v d)(h:jy S d=some ds):∃a xs,v=.ref a/\SqL X.K H a xs/\Reps X.K O H xs ds:=by
 cases r with
 | @lst a xs _ b c=>cases h;exact%[a,xs,rfl,b.sq|c]
 | @loc a k b=>obtain⟨xs,e,c⟩:=st.obj k a ds b h;exact%[a,xs,rfl,SqL.of e|c]
 | _=>cases h
def Mx{K}(w:putL a W ds S)(st:StOk K O H S)(h:H p=none)(r:Reps K O H xs ds):QG K O H W (.ref p) (upd H p (.lst xs)):=by
 cases a with
 | true=>exact By w st h r
 | false=>exact dM w st h r
def W5(N:jy S x=some ds)(P:jy S y=some es)(hz:ds.length+es.length<=1000000)(w:putL j W (ds++es) S):d7 X .Add x y S W:=by
 intro pins s σ H O v w' u u' I o U V Y Z;obtain⟨a,xs,rfl,K,k⟩:=zz (pins:=pins) (s:=s) (σ:=σ) o U N;obtain⟨b,ys,rfl,L,l⟩:=zz (pins:=pins) (s:=s) (σ:=σ) o V P;cases Y;cases Z;obtain⟨d,C,R,_⟩:=I.list K;obtain⟨c,E,T,_⟩:=I.list L;obtain⟨⟨F,G,q,sl⟩,n,B,r,M,t⟩:=id R;obtain⟨⟨p,i,h,m⟩,Q,g,e,A,f⟩:=id T;simp only at r t e f;subst r t e f;have z:d.length+c.length<=sizeLine:=by rw[<-C.length,<-E.length,k.length,l.length];exact small hz
 refine oQ %[_,B|rfl] %[_,g|rfl] noFill_list_add seq_list_add PySem.F.slot_list_add PySem.F.entry_list_add (PySem.F.args_list_add_2 _ _)
  (list_addW a b d.toArray c.toArray n Q G i sl m (by simpa using z)) %[B,g|?_];have J:d.toArray++c.toArray=(d++c).toArray:=by simp
 rw[J];exact%[%[|9],_,I.lnew (t':=s.toks) (C.append E) (by rw[x8,k.length,l.length];exact small hz),rfl|Mx w o I.fresh (k.append l)]
def X7(J:jy S x=some ds)(V: -(2 ^ 63)<=k/\k<2 ^ 63)(hz:ds.length*k.toNat<=1000000)(w:putL d W (List.replicate k.toNat ds).flatten S):d7 X .Mult x (.int k) S W:=by
 intro pins s σ H O v w' u Z I q M N P Q;obtain⟨a,xs,rfl,E,f⟩:=zz (pins:=pins) (s:=s) (σ:=σ) q M J;cases N;cases P;obtain⟨t,rfl⟩:=Q;obtain⟨b,r,L,_⟩:=I.list E;obtain⟨⟨A,j,i,p⟩,n,c,l,G,o⟩:=id L;simp only at l o;subst l o;have K:b.length=ds.length:=by rw[<-r.length,f.length]
 have y:b.length*k.toNat<=1000000:=by rw[K];exact hz
 have Y:(1000000:Nat)<=sizeLine:=%[|1]
 refine oz (T:="list") (U:="int") %[|1] %[_,c|rfl] (λ R=>typeIs_int R k t) PySem.noFill_list_mul F.fills_int_mul pi PySem.repeat_list F.slot_int_index.lookup
  (kG pi (typeIs_int s k t) F.entry_int_rmul (F.args_int_rmul_2 _ _) (PySem.lm_int_rmul_list_any k t a b.toArray n j p) %[c,rfl,%[_,c|rfl]|?_]);refine kG F.slot_list_mul %[_,c|rfl] F.entry_list_mul (F.args_list_mul_2 _ _) (PySem.lm_list_mul_any a b.toArray n j p k t ?_ ?_ ?_) %[c|?_]
 . have z:Builtin.List.listFitsIndex k=true:=by unfold Builtin.List.listFitsIndex;rw[cc %[|0],cc %[|0]];rfl
   rw[z];decide
 {rw[x5];omega};{rw[x5];unfold Builtin.List.listTooLong;rw[ib];omega}
 . have B:(List.replicate (if b.toArray.isEmpty=true then 0 else k.toNat) b.toArray).foldl (λ g h=>g++h) #[]=(List.replicate k.toNat b).flatten.toArray:=by
    have C:∀m:Nat,(List.replicate m b.toArray).foldl (λ g h=>g++h) #[]=(List.replicate m b).flatten.toArray:=λ m=>by have:=foldl_rep b m [];rw[List.nil_append]at this;exact this
    rw[C];by_cases e:b=[];{subst e;simp}
    . have:b.toArray.isEmpty=false:=by simpa using e
      rw[this];rfl
   rw[B];exact%[%[|9],_,I.lnew (t':=s.toks) (r.rep _) (by rw[len_rep,f.length,mx];exact small hz),rfl|Mx w q I.fresh (Reps.rep f _)]
def Xo{ns:ab1}(w:W (.int ns.sum) S)(p:X.calm=true):dw X (.builtin "sum") [.tup (ns.map .int)] S W:=by
 intro l s Q H O N M I E r C;obtain⟨v,rfl,B⟩:=cO r;obtain⟨u,rfl,i⟩:=vals1 C
 cases B with
 | @tup a P _ n y=>
   cases i;obtain⟨g,D,x,J⟩:=I.tuple n.sq;have m:=y.ints;subst m;have k:IntsAre g ns:=intsAre_of D;obtain⟨c,j⟩:=k.allInts.items;have h:s.heap.IsTuple a g.toArray:=x;rw[j]at h;have f:a<s.heap.objs.size:=by obtain⟨_,e,_⟩:=h;exact bX e
   refine call_sum_walkG (hZ h ?_);refine%[_,_,_,_,_,_,numAt c,rfl,Walks.tuple (A:=X.A.in1) (I.ok.hd p) _ a (cq f) (intItems c),%[%[_,bS _ rfl,rfl|rfl]|h.push _],(λ b d=>?_),(λ _ _=>intItems_at)|λ G L K t=>?_];{show b<(s.heap.push _).objs.size;rw[gl];rcases ci.mp d with rfl | d;{exact og _};{rcases ci.mp d with rfl | d;{exact ja f};{cases d}}}
   . have e:preSum (numAt c) (intItems c).size=ns.sum:=by rw[show(intItems c).size=c.size by simp[intItems],preSum_eq,ck (by simp),<-nums_intItems,<-j];exact eL List.sum k.numsOf
     rw[e];refine%[.int _,H,I.kept (λ b o q=>t b o (λ z=>?_) (bE _ q)),%[_|rfl]|J3 w E (.int _)];have F:b=s.heap.objs.size:=by simpa using z
     exact absurd (bX q) (by rw[F];exact i5 _)
end
def uD:Bf where
 x:="sum"
 id:="sum"
 boot:=%[|11]
 wp a S W:=match a with
  | [.lst a]=>∃b:List Int,a=b.map .int/\W (.int b.sum) S
  | [.tup a]=>∃b:List Int,a=b.map .int/\W (.int b.sum) S
  | _=>False
 sound:=by intro X a S W c e h;split at h;{obtain⟨d,rfl,h⟩:=h;exact ZW h c};{obtain⟨d,rfl,h⟩:=h;exact Xo h c};{exact h.elim}
def Ec(own:Bool)(op:Operator)(x y:D)(S:Store)(W:WD):Prop:=match op with
 | .Add=>∃a b,jy S x=some a/\jy S y=some b/\a.length+b.length<=1000000/\putL own W (a++b) S
 | .Mult=>∃a k,jy S x=some a/\y=.int k/\(-(2 ^ 63)<=k/\k<2 ^ 63)/\a.length*k.toNat<=1000000/\putL own W (List.replicate k.toNat a).flatten S
 | _=>False
def Np(h:Ec d op x y S W):d7 X op x y S W:=by unfold Ec at h;split at h;{obtain⟨e,i,a,f,b,c⟩:=h;exact W5 a f b c};{obtain⟨e,k,a,rfl,b,c,g⟩:=h;exact X7 a b c g};{exact h.elim}
section
variable{Ω:Wd}
def abh(own:Bool)(op:Operator)(a b:Ex Ω):Ex Ω where
 lev:=max a.lev b.lev
 chk c N d e:=match e with | .BinOp l o r _=>(o==op)&&(a.chk c N d l&&b.chk c N d r) | _=>false
 wp f S W:=a.wp f S λ x g=>b.wp f g λ y h=>Ec own op x y h W
 sound:=by
  intro X r c N d e f S W A n i p;obtain⟨s,t⟩:=lv2 n
  cases e with
  | BinOp l o v u=>refine an3 i λ j k m=>?_;have e:o=op:=ZU j;subst e;exact tX ((a.sound A s k p).mono λ x g q=>(b.sound A t m q).mono λ y h q=>Np q)
  | _=>exact fE i
def abC(a b:Ex Ω):Ex Ω where
 lev:=max a.lev b.lev
 chk c N f e:=match e with | .BinOp l o r _=>(o==.FloorDiv)&&(a.chk c N f l&&b.chk c N f r) | _=>false
 wp h S W:=a.wp h S λ x k=>b.wp h k λ y m=>match x,y with
  | .int i,.int j=>(0<j/\j<1000000000000000000000000000000000000000000000000000000000000)/\W (.int (i/j)) m
  | _,_=>False
 sound:=by
  intro X r c N f e h S W A s hc t;obtain⟨u,v⟩:=lv2 s
  cases e with
  | BinOp l o z w=>
    refine an3 hc λ n p d=>?_;have e:o=.FloorDiv:=ZU n;subst e;refine tX ((a.sound A u p t).mono λ x k q=>(b.sound A v d q).mono λ y m q=>?_);split at q
    . rename_i i j;refine ie (C:=λ _ j=>0<j/\j<1000000000000000000000000000000000000000000000000000000000000) (g:=λ i j=>i/j) (opI λ i j _ _ _ _ _ hc q=>?_) q.1 q.2;have n:(0:Int)<j:=hc.1;have p:j<1000000000000000000000000000000000000000000000000000000000000:=hc.2;refine floordiv_int %[|0] (by rw[Int.fdiv_eq_ediv_of_nonneg i %[|0]];exact q) (.inl (PyProof.noPylong_of_log2 ?_));have d:j.natAbs<2 ^ 200:=%[|0]
      have:j.natAbs.log2<200:=(Nat.log2_lt %[|0]).mpr d;omega
    {exact q.elim}
  | _=>exact fE hc
end
end RF
namespace RF
open PySem PySem.Spec L2 DL
open PyProof.Rows
def jB(n:Nat)(J:List (List D)):Option D->Option D
 | some (.loc j)=>if j<n then some (.loc j)else(J[j-n]?).map .lst
 | o=>o
def Di(n:Nat)(W:Gam->%[|4]):Gam->%[|4]:=λ b c=>W b c\/∃J a,c=a++J/\n<=a.length/\flat J/\flat a/\atTop b/\W (b.map (jB a.length J)) a
def abU{K}(Q:O.A.length=n)(q:QN K O H (Di n W) σ y):QN K O H W σ y:=by
 obtain⟨z,D,E,w,C,t,r⟩:=q;rcases w with w | ⟨J,f,rfl,P,G,F,I,w⟩;{exact%[z,D,E,w,C,t|r]}
 . obtain ⟨x,u,c,M⟩:=fQ C t %[|0] F;refine%[_,_,f,w,x,u|%[by rw[y7];exact r.len|λ i d e=>?_]];rw[y8]at e
   cases h:D[i]? with
   | none=>rw[h]at e;cases e
   | some o=>
     rw[h]at e
     cases o with
     | none=>cases e
     | some g =>
       obtain⟨v,s,B⟩:=r.at_ i g h;rcases I i g h with A | ⟨j,rfl⟩
       . have b:g=d:=by
          cases g with
          | loc j=>simp[az]at A
          | _=>simpa[jB]using e
         subst b;exact%[v,s|du c A B]
       . cases B with
         | @loc a _ p=>
           by_cases l:j<f.length
           . have b:d=.loc j:=by simpa[jB,l]using e.symm
             subst b;refine%[_,s|.loc ?_];show(z.A.take f.length)[j]? =some (a,false);rw[g7,c9 l];exact p
           . cases k:J[j-f.length]? with
             | none=>simp[jB,l,k]at e
             | some m=>
               have b:d=.lst m:=by simpa[jB,l,k]using e.symm
               subst b;obtain⟨R,L,N⟩:=t.obj j a m p (by rw[dt %[|0]];exact k);exact%[_,s|.lst (.inl %[M j a %[|0] p|.inl L]) (eV c (G m (y4 k)) N)]
def Drp(n:Nat)(W:WD):WD:=λ d b=>W d b\/∃J a,b=a++J/\n<=a.length/\az d=true/\flat a/\W d a
def QG.drp{K}(o:O.A.length=n)(q:QG K O H (Drp n W) v e):QG K O H W v e:=by obtain⟨h,d,j,w,g,f,r⟩:=q;rcases w with w | ⟨J,i,rfl,m,l,k,w⟩;{exact%[h,d,j,w,g,f|r]};{obtain⟨b,a,c,p⟩:=fQ g f %[|0] k;exact%[_,d,i,w,b,a|du c l r]}
section
variable{Ω:Wd}
def Bl.fza(b:Bl Ω):Bl Ω where
 lev:=b.lev
 chk:=b.chk
 wp g S W:=b.wp g S {W with nx:=Di S.length W.nx}
 sound:=by
  intro X r m N n l g S W A j i k a s d H O I c e;refine thn (b.sound A j i k a s d H O I c e) λ f o q=>?_
  cases f with
  | next=>obtain⟨d,h,I,q⟩:=q;exact%[d,h,I|abU e.len q]
  | brk=>exact q
  | cont=>exact q
  | ret u=>exact q
def Bl.drp(b:Bl Ω):Bl Ω where
 lev:=b.lev
 chk:=b.chk
 wp g S W:=b.wp g S {W with rt:=Drp S.length W.rt}
 sound:=by
  intro X r n N p m g S W A k j l a s o H O I c e;refine thn (b.sound A k j l a s o H O I c e) λ f t q=>?_
  cases f with
  | next=>exact q
  | brk=>exact q
  | cont=>exact q
  | ret u=>obtain⟨v,d,h,i,r,q⟩:=q;exact%[v,d,h,i,r|QG.drp e.len q]
end
def Tu(op:Operator)(n:Int)(d:D)(k:Int->Prop):Prop:=match op,d with
 | .Add,.int m=>k (n+m)
 | .Sub,.int m=>k (n-m)
 | .Mult,.int m=>CMul n m/\k (n*m)
 | _,_=>False
def Z8(B:(op==.Add||(op==.Sub||op==.Mult))=true)(i:Nat)(D:o[i]? =some (some (.int n)))(h:Ev X o S e λ d S1=>Tu op n d λ z=>W.nx (o.set i (some (.int z))) S1)(u:X.N.Nodup)(hi:X.N[i]? =some x)(C:Loc X.env.scope x)
 (A:X.fn x=true\/X.env.scope.names.lookup x=some .local):Rn X o S (.AugAssign (.Name x m) op e pos) W:=by
 intro f s p H O I c E;obtain⟨v,t,r⟩:=c.at_ i (.int n) D;cases r;have l:∀(k:Own)(S1:Store)(j:Hp)(z:Int),Step O k H j->StOk X.K k j S1->W.nx (o.set i (some (.int z))) S1->QN X.K O H W.nx (p.set i (some (.int z))) j:=λ k S1 j z a b w=>%[k,_,S1,w,a,b|(c.mono a).set (.int z) i]
 cases op with
 | Add=>
   refine BX u hi C h.pe UT A f s p H _ I %[.int n,t,O,c,E|λ y j q=>?_];obtain⟨k,d,S1,w,a,b,g⟩:=q;cases g<;>first | exact(show False from w).elim | skip
   exact%[n,_,rfl,rfl|l k S1 j _ a b w]
 | Sub=>
   refine BX u hi C h.pe Wy A f s p H _ I %[.int n,t,O,c,E|λ y j q=>?_];obtain⟨k,d,S1,w,a,b,g⟩:=q;cases g<;>first | exact(show False from w).elim | skip
   exact%[n,_,rfl,rfl|l k S1 j _ a b w]
 | Mult=>
   refine BX u hi C h.pe We A f s p H _ I %[.int n,t,O,c,E|λ y j q=>?_];obtain⟨k,d,S1,w,a,b,g⟩:=q;cases g<;>first | exact(show False from w).elim | skip
   exact%[n,_,rfl,rfl,w.1|l k S1 j _ a b w.2]
 | _=>exact absurd B %[|1]
section
variable{Ω:Wd}
def abY(i:Nat)(op:Operator)(a:Ex Ω):Sm Ω where
 lev:=a.lev
 chk c N m s:=anB (Yu s) λ z=>anB (nameV z.1) λ x=>(z.2.1==op)&&((z.2.1==.Add||(z.2.1==.Sub||z.2.1==.Mult))&&((N[i]? ==some x)&&(lcl c m x&&a.chk c N m z.2.2)))
 wp h S W:=match h[i]? with
  | some (some (.int n))=>a.wp h S λ d u=>Tu op n d λ z=>W.nx (h.set i (some (.int z))) u
  | _=>False
 sound:=by intro X r c N m s h S W A C g k;obtain⟨⟨t,o,e⟩,b,f⟩:=bD g;clear g;obtain⟨q,b⟩:=Wv b;subst b;obtain⟨x,b,g⟩:=bD f;clear f;obtain⟨p,b⟩:=gr b;have b:t=.Name x p:=b;subst b;{refine an5 g λ v j w y B=>?_;obtain⟨D,E⟩:=A.lcl y;have e:=ZU v;subst e;split at k;{rename_i n l;exact Z8 j i l (a.sound A C B k) (by rw[A.n];exact A.nd) (by rw[A.n];exact ZU w) D E};{exact k.elim}}
end
variable{v:Value}{c:Int × List Int}{b:Addr}{ns:List Int}{n:Nat}{Q:Bool -> Shared -> Prop}
def bO(h:Heap)(v:Value)(c:ac9):Prop:=
 ∃b o k a u,v=.ref b/\h.get? b=some o/\o.cls=%[|10]/\o.data=.seq #[.int c.1 a,u] k/\fC h u c.2
def bO.keep(k:∀b o,h.get? b=some o->o.cls=%[|10]->h'.get? b=some o)(q:bO h v c):bO h' v c:=by obtain⟨b,o,n,t,u,f,g,a,i,e,s,w,r,j,l,d,m,p⟩:=q;exact%[b,o,n,t,u,f,k _ _ g a,a,i,e,s,w,r,j,k _ _ l d,d,m|p]
section
variable{prog:Program}{w:World}{A:Around}{E:%[|17]}{s:Shared}
theorem lR:∀{a:ab6}{ns:ab1},IntsAre a ns->ItemsAre (intKind prog w) ns a
 | _,_,.nil=>.nil
 | _,_,.cons n t r=>.cons (intKind_is _ _ _ _) (lR r)
def Dk(g:fC h (.ref b) ns):IsTupleKey (intKind prog w) h ns b:=by obtain⟨j,o,i,k,e,a,c,d,f⟩:=g;cases e;exact%[o,i,k,a,c,d|lR f]
def Gi:∀{b:ab6}{ns a:ab1},IntsAre b ns->IntsAre b a->ns=a:=by
 intro b ns a h
 induction h generalizing a with
 | nil=>intro q;cases q;rfl
 | cons _ _ r c=>intro q;cases q with| cons _ _ d=>rw[c d]
def Bp(x:fC h v ns)(y:fC h v g):ns=g:=by obtain⟨b,o,t,k,rfl,i,r,l,m⟩:=x;obtain⟨q,n,p,s,e,a,j,c,d⟩:=y;cases e;obtain rfl:o=n:=cf (i.symm.trans a);have f:=l.symm.trans c;injection f with f _;subst f;exact Gi m d
def hC(prog:ac4)(w:World)(c:ac9):Int:=reduceHash (Builtin.Tuple.tupleHashOf [(intKind prog w).hash c.1,tupleKeyHash (intKind prog w) c.2])
def xV{Q}(y:A.units+5<cLine)(q:bO s.heap v c)(h:Q (hC prog w c) {s with toks:=s.toks+(c.2.length+3)}):wpAny %[|5] A (pyHash v) Q E s:=by
 obtain⟨a,o,n,t,u,rfl,p,j,r,g⟩:=q;have i:s.TypeIs (.ref a) "tuple":=%[o,p|j];have k:∀b,u=.ref b->IsTupleKey (intKind prog w) s.heap c.2 b:=λ b e=>Dk (e▸g);obtain⟨b,_,_,_,rfl,_⟩:=id g;have k:=k b rfl;unfold pyHash;first | unfold pyHashByItsType | skip
 first | refine b0 (wpAny_cRoomFor_or (.inr %[|0]) ?_) | skip
 refine b0 (gT i kt.lookup ?_);show wpAny _ _ (if(some (Value.builtin "tuple.__hash__")==some Value.none)=true then _ else _) Q E s;rw[bP (by rw[beq_builtin_none];exact y6)];refine b0 (gT i kt.lookup ?_);show wpAny _ _ (callSpecialIfBoundUnlessNone? (.ref a) "__hash__" _>>=_) Q E s;refine b0 (wpAny_callSpecialIfBoundUnlessNone?_slot i kt (de kt i F.entry_tuple_hash ?_ (F.args_tuple_hash_1 _)));show wpAny _ _ (Builtin.Tuple.tupleItemsOf (.ref a)>>=_) _ _ s;refine b0 (wpAny_tupleItemsOf p r ?_);refine b0 ?_;rw[<-i0];refine gd _
  (λ d (f:Array Int) m=>∃n,m={s with toks:=s.toks+n}/\((d=[.int c.1 t,.ref b]/\f=#[]/\n=0)\/(d=[.ref b]/\f=#[(intKind prog w).hash c.1]/\n=1)\/(d=[]/\n=c.2.length+2/\f=#[(intKind prog w).hash c.1,tupleKeyHash (intKind prog w) c.2])))
  _ ?_ ?_ _ _ %[0,rfl|.inl %[rfl,rfl|rfl]]
 . rintro x d f m ⟨n,rfl,⟨e,rfl,rfl⟩ | ⟨e,rfl,rfl⟩ | ⟨e,rfl,rfl⟩⟩
   . cases e;refine b0 ((intKind prog w).pyHash (intKind_is _ _ _ _) ?_);first
      | exact b9 %[1,rfl|.inr (.inl %[rfl,rfl|rfl])]
      | exact b0 (b9 (b9 %[1,rfl|.inr (.inl %[rfl,rfl|rfl])]))
   . cases e;refine b0 (wpAny_pyHash_tuple (knd:=intKind prog w) ?_ k ?_);{show A.units+1<cLine;omega}
     . first
       | exact b9 %[1+(c.2.length+1),by simp[Nat.add_assoc]|.inr (.inr %[rfl,%[|0]|rfl])]
       | exact b0 (b9 (b9 %[1+(c.2.length+1),by simp[Nat.add_assoc]|.inr (.inr %[rfl,%[|0]|rfl])]))
   {cases e}
 {rintro f m ⟨n,rfl,⟨e,rfl,rfl⟩ | ⟨e,rfl,rfl⟩ | ⟨e,rfl,rfl⟩⟩;{cases e};{cases e};show wpAny _ _ (retInt (Builtin.Tuple.tupleHashOf [(intKind prog w).hash c.1,tupleKeyHash (intKind prog w) c.2])) _ _ _;refine wpAny_ret_mkInt ?_;show wpAny _ _ (if(decide (-(2:Int) ^ 63<=Builtin.Tuple.tupleHashOf _)&&decide (Builtin.Tuple.tupleHashOf _<2 ^ 63))=true then _ else _) Q E _;unfold hC reduceHash at h;split;{rename_i l;rw[c9 l]at h;exact b9 h};{rename_i l;rw[bP l]at h;exact b0 (iF (b9 h))}}
def Sw{Q}(b:A.units+5<cLine)(a:bO s.heap v c)(h:∀n,Q (hC prog w c) {s with toks:=s.toks+n}):wpAny %[|5] A (pyHash v) Q E s:=xV b a (h _)
def oV(j:fC h (.ref b) ns):∃o xs k,h.get? b=some o/\o.cls=%[|10]/\o.data=.seq xs k/\∀v∈xs.toList,∃i t,v=Value.int i t:=by obtain⟨m,o,xs,k,e,a,c,d,f⟩:=j;cases e;refine%[o,xs,k,a,c,d|λ v l=>?_];obtain⟨i,g⟩:=d6 l;obtain⟨t,e⟩:=IntsAre.int_at f i v g;exact%[_,t|e]
def Pz(q:fC s.heap (.ref b) ns)(h:Q true s):wpAny %[|5] A (eqIsQuiet (n+1) (.ref b)) Q E s:=by obtain⟨o,x,k,j,l,m,p⟩:=oV q;have g:s.TypeIs (.ref b) "tuple":=%[o,j|l];unfold eqIsQuiet;refine b0 (gT g F.slot_tuple_eq.lookup ?_);show wpAny _ _ (isInstance (.ref b) %[|10]>>=_) _ _ s;refine b0 (ft g oq ?_);simp only[fh,cw,e7];refine b0 (fo j m ?_);refine b0 ?_;show wpAny _ _ (forIn x _ _) _ _ s;rw[<-i0];refine gd _ (λ c r f=>r.1=none/\f=s/\∀v∈c,∃i t,v=Value.int i t) _ ?_ ?_ _ _ %[rfl,rfl|p];{rintro v c r f ⟨d,rfl,a⟩;obtain⟨i,t,rfl⟩:=a v x6;rw[eqIsQuiet_byValue _ (by rfl)];refine b0 (b9 ?_);simp only[fh,cw,e7];exact b9 %[rfl,rfl|λ u e=>a u (x4 _ e)]};{rintro⟨y,z⟩ f ⟨d,rfl,_⟩;simp only at d;subst d;exact b9 h}
def nG(y:bO s.heap (.ref b) c)(h:Q true s):wpAny %[|5] A (eqIsQuiet (n+2) (.ref b)) Q E s:=by obtain⟨a,o,k,q,u,e,p,t,x,d⟩:=y;cases e;obtain⟨l,_,_,_,rfl,_⟩:=id d;have m:s.TypeIs (.ref b) "tuple":=%[o,p|t];unfold eqIsQuiet;refine b0 (gT m F.slot_tuple_eq.lookup ?_);show wpAny _ _ (isInstance (.ref b) %[|10]>>=_) _ _ s;refine b0 (ft m oq ?_);simp only[fh,cw,e7];refine b0 (fo p x ?_);refine b0 ?_;show wpAny _ _ (forIn #[Value.int c.1 q,.ref l] _ _) _ _ s;rw[<-i0];refine gd _ (λ g r j=>r.1=none/\j=s/\∀v∈g,v=Value.int c.1 q\/v=.ref l) _ ?_ ?_ _ _ %[rfl,rfl|by simp];{rintro v g r j ⟨i,rfl,f⟩;rcases f v x6 with rfl | rfl;{rw[eqIsQuiet_byValue _ (by rfl)];refine b0 (b9 ?_);simp only[fh,cw,e7];exact b9 %[rfl,rfl|λ u d=>f u (x4 _ d)]};{refine b0 (Pz d ?_);simp only[fh,cw,e7];exact b9 %[rfl,rfl|λ u d=>f u (x4 _ d)]}};{rintro⟨z,B⟩ j ⟨i,rfl,_⟩;simp only at i;subst i;exact b9 h}
def Hs(n:Nat)(i:Int)(t:Tok):hashByValue n (.int i t)=pure true:=by cases n<;>rfl
def U4(q:fC s.heap (.ref b) ns)(h:Q true s):wpAny %[|5] A (hashByValue (n+1) (.ref b)) Q E s:=by obtain⟨o,x,k,g,l,m,p⟩:=oV q;have j:s.TypeIs (.ref b) "tuple":=%[o,g|l];unfold hashByValue;refine b0 (gT j kt.lookup ?_);show wpAny _ _ (seqItems? (.ref b)>>=_) _ _ s;refine b0 (fo g m ?_);refine b0 ?_;show wpAny _ _ (forIn x _ _) _ _ s;rw[<-i0];refine gd _ (λ c r f=>r.1=none/\f=s/\∀v∈c,∃i t,v=Value.int i t) _ ?_ ?_ _ _ %[rfl,rfl|p];{rintro v c r f ⟨d,rfl,a⟩;obtain⟨i,t,rfl⟩:=a v x6;rw[Hs];refine b0 (b9 ?_);simp only[fh,cw,e7];exact b9 %[rfl,rfl|λ u e=>a u (x4 _ e)]};{rintro⟨y,z⟩ f ⟨d,rfl,_⟩;simp only at d;subst d;exact b9 h}
def U9(y:bO s.heap (.ref b) c)(h:Q true s):wpAny %[|5] A (hashByValue (n+2) (.ref b)) Q E s:=by obtain⟨a,o,k,p,u,e,m,t,x,d⟩:=y;cases e;obtain⟨l,_,_,_,rfl,_⟩:=id d;have q:s.TypeIs (.ref b) "tuple":=%[o,m|t];unfold hashByValue;refine b0 (gT q kt.lookup ?_);show wpAny _ _ (seqItems? (.ref b)>>=_) _ _ s;refine b0 (fo m x ?_);refine b0 ?_;show wpAny _ _ (forIn #[Value.int c.1 p,.ref l] _ _) _ _ s;rw[<-i0];refine gd _ (λ g r j=>r.1=none/\j=s/\∀v∈g,v=Value.int c.1 p\/v=.ref l) _ ?_ ?_ _ _ %[rfl,rfl|by simp];{rintro v g r j ⟨i,rfl,f⟩;rcases f v x6 with rfl | rfl;{rw[Hs];refine b0 (b9 ?_);simp only[fh,cw,e7];exact b9 %[rfl,rfl|λ u d=>f u (x4 _ d)]};{refine b0 (U4 d ?_);simp only[fh,cw,e7];exact b9 %[rfl,rfl|λ u d=>f u (x4 _ d)]}};{rintro⟨z,B⟩ j ⟨i,rfl,_⟩;simp only at i;subst i;exact b9 h}
def Io(n:Nat)(i:Int)(t:Tok):ofAClassStatement n (.int i t)=pure false:=by cases n<;>rfl
def Vb(q:fC s.heap (.ref b) ns)(h:Q false s):wpAny %[|5] A (ofAClassStatement (n+1) (.ref b)) Q E s:=by obtain⟨o,x,k,g,l,m,p⟩:=oV q;have j:s.TypeIs (.ref b) "tuple":=%[o,g|l];unfold ofAClassStatement;refine b0 (hY j ?_);show wpAny _ _ ((pure true:Sem Bool)>>=_) _ _ s;refine b0 (b9 ?_);simp only[fh,cw,e7];refine b0 (fo g m ?_);refine b0 ?_;show wpAny _ _ (forIn x _ _) _ _ s;rw[<-i0];refine gd _ (λ c r f=>r.1=none/\f=s/\∀v∈c,∃i t,v=Value.int i t) _ ?_ ?_ _ _ %[rfl,rfl|p];{rintro v c r f ⟨d,rfl,a⟩;obtain⟨i,t,rfl⟩:=a v x6;rw[Io];refine b0 (b9 ?_);simp only[cw,e7];exact b9 %[rfl,rfl|λ u e=>a u (x4 _ e)]};{rintro⟨y,z⟩ f ⟨d,rfl,_⟩;simp only at d;subst d;exact b9 h}
def Hq(y:bO s.heap (.ref b) c)(h:Q false s):wpAny %[|5] A (ofAClassStatement (n+2) (.ref b)) Q E s:=by obtain⟨a,o,k,p,u,e,m,t,x,d⟩:=y;cases e;obtain⟨l,_,_,_,rfl,_⟩:=id d;have q:s.TypeIs (.ref b) "tuple":=%[o,m|t];unfold ofAClassStatement;refine b0 (hY q ?_);show wpAny _ _ ((pure true:Sem Bool)>>=_) _ _ s;refine b0 (b9 ?_);simp only[fh,cw,e7];refine b0 (fo m x ?_);refine b0 ?_;show wpAny _ _ (forIn #[Value.int c.1 p,.ref l] _ _) _ _ s;rw[<-i0];refine gd _ (λ g r j=>r.1=none/\j=s/\∀v∈g,v=Value.int c.1 p\/v=.ref l) _ ?_ ?_ _ _ %[rfl,rfl|by simp];{rintro v g r j ⟨i,rfl,f⟩;rcases f v x6 with rfl | rfl;{rw[Io];refine b0 (b9 ?_);simp only[cw,e7];exact b9 %[rfl,rfl|λ u d=>f u (x4 _ d)]};{refine b0 (Vb d ?_);simp only[cw,e7];exact b9 %[rfl,rfl|λ u d=>f u (x4 _ d)]}};{rintro⟨z,B⟩ j ⟨i,rfl,_⟩;simp only at i;subst i;exact b9 h}
def QL(n:bO s.heap x c)(p:∀y∈ys,∃d,bO s.heap y d)(h:Q false s):wpAny %[|5] A (searchCouldBeSeen x ys) Q E s:=by have i:=n;obtain⟨a,_,_,_,_,rfl,_⟩:=n;unfold searchCouldBeSeen;refine b0 ?_;refine gd _ (λ e r j=>r.1=none/\j=s/\∀v∈e,∃d,bO s.heap v d) _ ?_ ?_ _ _ %[rfl,rfl|p];{rintro v e r j ⟨k,rfl,f⟩;obtain⟨d,m⟩:=f v x6;have g:=m;obtain⟨b,_,_,_,_,rfl,_⟩:=m;have o:∀v∈e,∃d,bO j.heap v d:=λ u l=>f u (x4 _ l);dsimp only;split;{exact b9 %[rfl,rfl|o]};{refine b0 (nG i ?_);simp only[fh,cw,e7];refine b0 (nG g ?_);simp only[fh,cw,e7];refine b0 (Hq i ?_);simp only[cw,e7];refine b0 (Hq g ?_);simp only[cw,e7];exact b9 %[rfl,rfl|o]}};{rintro⟨q,t⟩ j ⟨k,rfl,_⟩;simp only at k;subst k;exact b9 h}
def En(g:A.units<cLine)(d:fC s.heap u ns)(e:fC s.heap v f):SeqAt.EqAt A s u v (decide (ns=f)):=by intro c w E Q h;obtain⟨a,_,_,_,rfl,_⟩:=id d;obtain⟨b,_,_,_,rfl,_⟩:=id e;exact wpAny_eqBool_tuple (knd:=intKind c w) g (Dk d) (Dk e) h
def Ay(J:A.units+2<cLine)(G:bO s.heap u c)(H:bO s.heap v d):SeqAt.EqAt A s u v (decide (c=d)):=by
 obtain⟨a,o,k,n,u,rfl,y,F,x,g⟩:=G;obtain⟨B,z,I,f,w,rfl,i,t,h,l⟩:=H;by_cases e:a=B;{subst e;obtain rfl:o=z:=cf (y.symm.trans i);have p:=x.symm.trans h;injection p with p _;have q:[Value.int c.1 n,u]=[Value.int d.1 f,w]:=eL Array.toList p;injection q with e3 e4;injection e3 with e3 _;injection e4 with e4 _;subst e4;obtain⟨b,_,_,_,rfl,_⟩:=id g;have C:c.2=d.2:=Bp g l;have D:c=d:=ms e3 C;rw[cc D];exact mf _}
 . have m:=SeqAt.RcAt.tuples (A:=A) (s:=s) (e:=λ j=>if j=0 then decide (c.1=d.1)else decide (c.2=d.2)) %[o,y,F,k|x] %[z,i,t,I|h] %[|0] (λ j r E=>by
    match j,r,E with
    | 0,_,_=>have:=SeqAt.EqAt.int_int (A:=A.in1) (s:=s) c.1 n d.1 f;rw[show(c.1==d.1)=decide (c.1=d.1)from by rw[gu];simp]at this;exact this
    | 1,_,_=>exact En (by show A.units+1<_;omega) g l
    | j+2,r,_=>exact absurd r (by simp));have q:((List.range (min #[Value.int c.1 n,u].size #[Value.int d.1 f,w].size)).all (λ j=>if j=0 then decide (c.1=d.1)else decide (c.2=d.2))&&#[Value.int c.1 n,u].size==#[Value.int d.1 f,w].size)=decide (c=d):=by rw[gu];simp[mh,Prod.ext_iff]
   rw[q]at m;exact mB e m
end
end RF
namespace RF
open PySem PySem.Spec L2 DL
open PyProof.Rows
abbrev tbl(led:Bool)(ps:ab4):SetTable:={mask:=7,place:=ps.toArray,dummies:=#[],finger:=0,led:=led,moves:=0,plain:=true}
section
variable{prog:Program}{w:World}{A:Around}{E:%[|17]}{s:Shared}
def Rt(h:Q true s):wpAny M A (isSame (.ref b) (.ref b)) Q E s:=by unfold isSame;dsimp only;rw[c9 (fq b)];exact b9 h
end
section
variable{prog:Program}{w:World}{A:Around}{E:%[|17]}{s:Shared}
abbrev aH(w:World):Bool:=!(w.params.followText "set-order")
def zT(a:Value)
 (h:Q₁ %[|9] {s with heap:=s.heap.push {cls:=.type "set",dict:=none,data:=.set #[] 0 (.fresh 0 0 (aH w))}}):
 codeAny %[|5] A (.call (.builtin "set.__new__") %[[.type "set",a]|[]]) (wants Q₁ E) s:=by refine codeAny_of_tree ?_;show wpAny _ A.in1 (do checkBuiltinCall "set.__new__" %[[.type "set",a]|[]];again (.builtin "set.__new__" %[[.type "set",a]|[]])) _ _ s;refine b0 (nI (F.newCall_set_1 a) (b9 %[lp F.plain_set_new _|iN F.entry_set_new ?_]));rw[i9 F.plain_set_new _];unfold Builtin.«set.__new__» Builtin.Frozenset.newClass;have b:=sub_set_self;obtain⟨c,g,d,f,e⟩:=s;dsimp only;wp_walk;refine i4 (b9 ?_);dsimp only;simp only[newObj];refine b0 (wpAny_alloc (b9 ?_));exact b9 h
end
def wI:entryFor table "set.__iter__"=some Builtin.«frozenset.__iter__»:=
 entryFor_alias (id':="frozenset.__iter__") (by kernel_rfl) rfl %[|11] (by kernel_rfl)
def bx:Slot "set_iterator" "__next__" "set_iterator.__next__":=
 .of (owner:="set_iterator") (n:="__next__") (by rw[typeLookup_type,ot];kernel_rfl) %[|11] %[|11] %[|11]
  (by first | exact .inl %[|11] | exact .inr %[|11]) (by rw[isSubtype_type];kernel_rfl)
def dY:entryFor table "set_iterator.__next__"=some Builtin.«set_iterator.__next__»:=entryFor_of_tree (by kernel_rfl)
def gF:Manifest.owners.lookup (String.ofList ['r','o','t','a','r','e','t','i','_','t','e','s'].reverse)=some Manifest.sig_set_iterator:=by kernel_rfl
def dU(a:Value):argsOk "set_iterator.__next__" %[[a]|[]]:=by unfold argsOk;rw[signature?_of (id:="set_iterator.__next__") (n:=['_','_','t','x','e','n','_','_']) (o:=['r','o','t','a','r','e','t','i','_','t','e','s']) (by kernel_rfl) gF];kernel_rfl
def d8:Slot "set_iterator" "__iter__" "set_iterator.__iter__":=
 .of (owner:="set_iterator") (n:="__iter__") (by rw[typeLookup_type,ot];kernel_rfl) %[|11] %[|11] %[|11]
  (by first | exact .inl %[|11] | exact .inr %[|11]) (by rw[isSubtype_type];kernel_rfl)
def jk:entryFor table "set_iterator.__iter__"=some Builtin.«dict_keyiterator.__iter__»:=
 entryFor_alias (id':="dict_keyiterator.__iter__") (by kernel_rfl) rfl %[|11] (by kernel_rfl)
def iK(a:Value):argsOk "set_iterator.__iter__" %[[a]|[]]:=by unfold argsOk;rw[signature?_of (id:="set_iterator.__iter__") (n:=['_','_','r','e','t','i','_','_']) (o:=['r','o','t','a','r','e','t','i','_','t','e','s']) (by kernel_rfl) gF];kernel_rfl
def slotAt(ps:ab4):Nat->Nat
 | 0=>0
 | i+1=>ps.getD i 0+1
def dX(w:World)(a:Addr)(ep:Nat)(es:List (Int×Value)):Array (Int×Value):=
 if w.params.followText "set-order"=true then pickOrder (w.params.setOrder a ep) es.toArray else es.toArray
abbrev cW(w:World)(ps:ab4)(S:Addr)(n ep i:Nat):Obj:={cls:=.type "set_iterator",dict:=none,data:=.fields #[rawInt (if w.params.followText "set-order"=true then 0 else slotAt ps i:Nat),rawInt (i:Nat),.ref S,rawInt (n:Nat),rawInt (ep:Nat)],slots:=#[]}
section
variable{prog:Program}{w:World}{A:Around}{E:%[|17]}{s:Shared}
def kO(a:s.heap.get? I=some (cW w ps S n ep i)):s.TypeIs (.ref I) "set_iterator":=%[_,a|rfl]
def lr{h:Heap}(b:h.get? I=some {cls:=.type "set_iterator",dict:=none,data:=.fields a,slots:=#[]}):
 (h.update I (Obj.mapFields (·.setIfInBounds k x))).get? I=some {cls:=.type "set_iterator",dict:=none,data:=.fields (a.setIfInBounds k x),slots:=#[]}:=eR _ b rfl
end
theorem Az(fin:Bool):∀ns:List Int,ltF fin ns ns=fin
 | []=>rfl
 | n::ns=>by unfold ltF;rw[c9 rfl];exact Az fin ns
def Cw(ns:ab1):ltI ns ns=false:=by unfold ltI;rw[Az];simp
def ltC(c d:ac9):Bool:=if c.1=d.1 then ltI c.2 d.2 else decide (c.1<d.1)
section
variable{prog:Program}{w:World}{A:Around}{E:%[|17]}{s:Shared}
def Vx(T:fC s.heap (.ref a) ns)(U:fC s.heap (.ref b) m)(h:P (.done (.ret (.bool (ltI ns m)))) s):
 wpAny %[|5] A (Builtin.«tuple.__lt__» %[[.ref a,.ref b]|[]]) P E s:=by
 obtain⟨Y,oa,B,na,e,J,S,G,p⟩:=T;cases e;obtain⟨Z,X,C,nb,e,t,F,H,q⟩:=U;cases e;have D:s.TypeIs (.ref b) "tuple":=%[X,t|F];show wpAny _ _ (isInstance (.ref b) %[|10]>>=_) _ _ s;refine b0 (ft D oq ?_);simp only[fh,cw,e7];refine b0 (wpAny_tupleItemsOf J G ?_);refine b0 (wpAny_tupleItemsOf t H ?_);refine b0 ?_;have V:B.size=ns.length:=by rw[<-dA];exact p.length
 have W:C.size=m.length:=by rw[<-dA];exact q.length
 refine gd _
  (λ j r z=>r.1=none/\z=s/\∃f d g i,j=List.zip g i/\IntsAre g f/\IntsAre i d/\ltF (decide (ns.length<m.length)) f d=ltI ns m)
  _ ?_ ?_ _ _ %[rfl,rfl,ns,m,B.toList,C.toList,rfl,p,q|rfl]
 . rintro⟨u,v⟩ j r z ⟨K,rfl,f,d,g,i,n,k,l,c⟩
   cases k with
   | nil=>simp at n
   | @cons L t1 Q O x=>
     cases l with
     | nil=>simp at n
     | @cons M t2 R N y=>simp only[pV,List.cons.injEq,Prod.mk.injEq]at n;obtain⟨⟨rfl,rfl⟩,rfl⟩:=n;refine b0 (wpAny_eqBool_int ?_);unfold ltF at c;by_cases I:L=M;{subst I;rw[fq];simp only[fh,cw,e7];rw[c9 rfl]at c;exact b9 %[rfl,rfl,_,_,_,_,rfl,x,y|c]};{rw[bP I]at c;rw[show(L==M)=false from by simpa using I];simp only[Bool.not_false,ij];rw[<-c]at h;refine b0 (iF ?_);refine b0 (show wpAny _ _ (compareOp .Lt _ _) _ _ _ from wpAny_lt_int ?_);exact b0 (b9 (b9 (b9 h)))}
 . rintro⟨r1,r2⟩ z ⟨K,rfl,f,d,g,i,n,k,l,c⟩;simp only at K;subst K;refine b9 ?_;have o:decide (B.size<C.size)=ltI ns m:=by
    rw[<-c,V,W]
    cases k with
    | nil=>rfl
    | cons _ _ _=>
      cases l with
      | nil=>rfl
      | cons _ _ _=>simp at n
   show P (.done (.ret (.bool (decide (B.size<C.size))))) z;rw[o];exact h
def J8(m:A.units<cLine)(i:fC s.heap u ns)(j:fC s.heap v k)(h:Q (.bool (ltI ns k)) s):wpAny %[|5] A (compareOp .Lt u v) Q E s:=by
 obtain⟨a,l,_,_,rfl,d,c,_⟩:=id i;obtain⟨b,n,_,_,rfl,g,f,_⟩:=id j;exact wpAny_richCompare_same_room (op:=.Lt) %[l,d|c] %[n,g|f] F.slot_tuple_lt
  (de F.slot_tuple_lt %[l,d|c] F.entry_tuple_lt (Vx i j %[_,rfl,(λ e=>nomatch e)|h]) (F.args_tuple_lt_2 _ _)) m
def Y0(C:A.units+2<cLine)(r:bO s.heap v c)(hw:bO s.heap u d)(h:Q (ltC c d) s):wpAny %[|5] A (keyLt' (tuples' b) v u) Q E s:=by obtain⟨a,o,k,t,x,rfl,q,B,p,m⟩:=r;obtain⟨z,F,D,l,y,rfl,j,n,i,f⟩:=hw;refine PySem.W.kat_lt q p j i ?_;show PySem.W.KatLex prog w A b _ Q [(Value.int c.1 t,Value.int d.1 l),(x,y)] 0 s;refine PySem.W.kat_cons (wpAny_eqBool_int ?_);unfold ltC at h;by_cases e:c.1=d.1;{rw[e,fq];rw[c9 e]at h;refine PySem.W.kat_yes (PySem.W.kat_cons (En %[|0] m f prog w _ _ ?_));by_cases g:c.2=d.2;{rw[cc g];refine PySem.W.kat_yes (PySem.W.kat_nil ?_);rw[g,Cw]at h;exact h};{rw[cK g];refine PySem.W.kat_no ?_;rw[show(b&&0+1==0)=false from by cases b<;>rfl];exact PySem.W.kat_one _ _ (J8 %[|0] m f h)}};{rw[show(c.1==d.1)=false from by simpa using e];rw[bP e]at h;exact PySem.W.kat_no (VJ h)}
end
theorem xX(a:f=true->g=false):∀{ns b:ab1},ltF f ns b=true->ltF g b ns=false
 | [],[],h=>by unfold ltF at h ⊢;exact a h
 | [],_::_,h=>by unfold ltF at h ⊢;exact a h
 | _::_,[],h=>by unfold ltF at h ⊢;exact a h
 | n ::ns,m::b,h=>by unfold ltF at h ⊢;by_cases e:n=m;{rw[c9 e]at h;rw[c9 e.symm];exact xX a h};{rw[bP e]at h;rw[bP (λ z=>e z.symm)];have:=cy h;exact cK %[|0]}
def N7(h:ltI ns a=true):ltI a ns=false:=by unfold ltI at h ⊢;exact xX (λ b=>cK (by have:=cy b;omega)) h
def N5:∀{ns c:ab1},(ns.length<c.length->f=true)->(c.length<ns.length->g=true)->ltF f ns c=false->ltF g c ns=false->ns=c:=by
 intro ns
 induction ns with
 | nil=>
   intro c j k h d
   cases c with
   | nil=>rfl
   | cons=>unfold ltF at h;rw[j (by simp)]at h;cases h
 | cons n ns l=>
   intro c j k i d
   cases c with
   | nil=>unfold ltF at d;rw[k (by simp)]at d;cases d
   | cons m c=>unfold ltF at i d;by_cases e:n=m;{rw[c9 e]at i;rw[c9 e.symm]at d;rw[e,l (λ z=>j (by simpa using z)) (λ z=>k (by simpa using z)) i d]};{rw[bP e]at i;rw[bP (λ z=>e z.symm)]at d;have a:=mA i;have b:=mA d;omega}
def Ng(h1:ltI ns a=false)(h2:ltI a ns=false):ns=a:=by unfold ltI at h1 h2;exact N5 (λ h=>cc h) (λ h=>cc h) h1 h2
def NB(h:ltC c d=true):ltC d c=false:=by unfold ltC at h ⊢;by_cases e:c.1=d.1;{rw[c9 e]at h;rw[c9 e.symm];exact N7 h};{rw[bP e]at h;rw[bP (λ z=>e z.symm)];have:=cy h;exact cK %[|0]}
def cD(c:ac9):D:=.tup [.int c.1,.tup (c.2.map .int)]
section
variable{X:Cx}
def eY {σ:DL.St}(I:%[|3])(r:Rep X.K O H y (cD c))(E:RelV y u):bO s.heap u c:=by unfold cD at r;cases r with| @tup a Q _ p B=>cases E;obtain⟨P,F,⟨o,x,z,n,A⟩,N⟩:=I.tuple p.sq;cases B with| cons C G=>cases G with| cons D J=>cases J;cases F with| cons i k=>cases k with| cons j l=>cases l;cases C;obtain⟨K,rfl⟩:=i;cases D with| @tup M L _ b g=>cases j;obtain⟨t,h,⟨w,d,e,v,f⟩,q⟩:=I.tuple b.sq;have m:=g.ints;subst m;exact%[a,o,n,K,_,rfl,x,z,A,_,w,_,v,rfl,d,e,f|intsAre_of h]
end
def vM:V->List V->Hp->VK->Prop:=λ x b H Q=>∃l a i y,x=.ref l/\b=[.int i,y]/\H l=some (.lst a)/\0<=i/\i<2 ^ 62/\a.length<sizeLine/\Q .non (upd H l (.lst (a.take i.toNat++y::a.drop i.toNat)))
section
variable{X:Cx}
def Mw(r:Vals xs b)(n:Nat):Vals (xs.take n) (b.take n):=by
 induction r generalizing n with
 | nil=>simp;exact .nil
 | cons a _ c=>cases n with
   | zero=>simp;exact .nil
   | succ n=>exact .cons a (c n)
def Lw(r:Vals xs b)(n:Nat):Vals (xs.drop n) (b.drop n):=by
 induction r generalizing n with
 | nil=>simp;exact .nil
 | cons a t c=>cases n with
   | zero=>exact .cons a t
   | succ n=>exact c n
def M3:MtM X "list.insert" vM:=by
 intro d s K H x G v E Q I p o h;obtain⟨l,J,i,y,rfl,rfl,c,A,B,D,q⟩:=h;cases p
 cases o with
 | cons f t=>
   cases t with
   | cons g t=>
     cases t;obtain⟨w,rfl⟩:=f;obtain⟨z,a,n,r,C,e⟩:=I.lstM c;rename_i u;refine kG F.slot_list_insert %[_,e|rfl] F.entry_list_insert (F.args_list_insert_3 _ _ _) (AutoSeq1.list_insert_list_int_val_1 l a.toArray n i w u (by rw[fitsIndex_both %[|0] %[|0]];decide) (by rw[x5];omega)) %[e|?_];refine%[.non,_,I.lset (its':=a.take i.toNat++u::a.drop i.toNat) c e ?_ ((Mw r _).append (.cons g (Lw r _))) ?_,rfl|q]
     . apply lh.mp;simp only[bP (show ¬i<0 by omega)];by_cases b:i.toNat<=a.length;{simp[pj b];exact ck (by simp)}
       . have j:min i.toNat a.length=a.length:=%[|0]
         have k:a.take i.toNat=a:=ck %[|0];have m:a.drop i.toNat=[]:=nK %[|0];simp[j,k,m]
     {rw[x8,dQ,ej,k6];omega}
def Pn{K}(r:Reps K O H a ds)(n:Nat):Reps K O H (a.take n) (ds.take n):=r.take n
def Ms{K}(r:Reps K O H a ds)(n:Nat):Reps K O H (a.drop n) (ds.drop n):=r.drop n
def YB{id}(slot:Slot "list" name id)(M:typeOf (.builtin id)=pure (.type "method_descriptor"))(hm:MtM X id r)(L:∀{x:V}{c:List V}{H:Hp}{Q U:VK},r x c H Q->(∀v H',Q v H'->U v H')->r x c H U)
 (h:Ev X l S o λ x S1=>∃k,x=.loc k/\EvA X l S1 (e::es) λ ds S2=>∃ds0,S2[k]? =some ds0/\∀(O:Own)(H:Hp)(a:Addr)(xs c:List V),O.A[k]? =some (a,false)->H a=some (.lst xs)->Reps X.K O H xs ds0->Reps X.K O H c ds->StOk X.K O H S2->r (.ref a) c H (QG X.K O H W))
 (n:attributeBase o name X.env (eval o X.env)=eval o X.env)
 (y:((backTo b (starEach (e::es) X.env)).all (λ x=>!x.1)&&(backToKw b (keywordEach [] X.env)).all (λ x=>x.1.isSome)
  &&decide ((e::es).length+([]:List Keyword).length+(if([]:List Keyword).isEmpty then 0 else 1)<30))=true)
 (p:(i.endLine==b.line)=true)(hs:starEach (e::es) X.env=(false,eval e X.env)::starEach es X.env)(g:(backTo b (starEach es X.env)).any (·.1)=false):Ev X l S (.Call (.Attribute o name i) (e::es) [] b) W:=by
 intro d s G H O I f R;have z:∀(t:Own)(x:D)(v:V)(m:Hp)(S1:Store),(∃k,x=.loc k)->StOk X.K t m S1->Rep X.K t m v x->tyV X.K "list" v m:=by
  rintro t x v m S1 ⟨k,rfl⟩ Y r
  cases r with
  | @loc a _ u=>
    have hl:k<S1.length:=by rw[<-Y.len];exact(z0.mp u).1
    obtain⟨xs,N,_⟩:=Y.obj k a S1[k] u (y3 hl);exact .inl %[rfl,xs|SqL.of N]
 have hA:PA X (e::es) (λ G H Q=>∃O l S J,EnvOk X.K O H G l/\%[|14]/\EvA X l S (e::es) J/\∀c H',QA X.K O H J c H'->Q c H'):=by rintro P d s G H Q I ⟨O,l,S,J,f,R,K,k⟩;exact thn (K P d s G H O I f R) λ us s1 ⟨c,m,I1,r1,q⟩=>%[c,m,I1,r1|k c m q]
 refine TJ (T:="list") PySem.F.plainAttrs_list slot M hm (h.pe) hA n y p hs g d s G H _ I %[O,f,R|λ v H' q=>?_];obtain⟨t,x,S1,⟨k,rfl,K⟩,E,A,j⟩:=q;refine%[z t _ v H' S1 %[k|rfl] A j,t,l,S1,_,f.mono E,A,K|λ c Z q2=>?_];obtain⟨O2,ds,S2,⟨ds0,hk,w⟩,F,B,C⟩:=q2;have r':=j.mono F;cases r' with| @loc a _ u=>obtain⟨xs,N,q1⟩:=B.obj k a ds0 u hk;exact L (w O2 Z a xs c u N q1 C B) λ v' H3 q3=>q3.pre (E.trans F)
def Bs(h:vM x b H Q)(k:∀v H',Q v H'->a v H'):vM x b H a:=by obtain⟨l,m,i,y,c,d,e,f,g,j,q⟩:=h;exact%[l,m,i,y,c,d,e,f,g,j|k _ _ q]
end
section
variable{Ω:Wd}
def aaM(h:okE e=true)(h':okE f=true):((backTo a (starEach [e,f] env)).all (λ x=>!x.1)&&(backToKw a (keywordEach [] env)).all (λ x=>x.1.isSome)
 &&decide ([e,f].length+([]:List Keyword).length+(if([]:List Keyword).isEmpty then 0 else 1)<30))=true:=by rw[aK h [f] env,aK h' [] env];rfl
def abH(o a b:Ex Ω):Ex Ω where
 lev:=max o.lev (max a.lev b.lev)
 chk c N g e:=oM e λ x m p I q=>two2 I λ y z=>(m==("insert":Str))&&(nameE x&&((p.endLine==q.line)&&(okE y&&(okE z&&(o.chk c N g x&&(a.chk c N g y&&b.chk c N g z))))))
 wp h S W:=o.wp h S λ x C=>match x with | .loc k=>a.wp h C λ d E=>b.wp h E λ G j=>∃(i:Nat) (f:List D),d=.int i/\j[k]? =some f/\i<=f.length/\f.length<1000000/\W .non (j.set k (f.take i++G::f.drop i)) | _=>False
 sound := by
  intro X r c N g e h S W A U s V;obtain⟨l1,v⟩:=lv2 U;obtain⟨v,l3⟩:=lv2 v;refine fX s λ x m p I q u=>?_;refine two2_ind u λ y z s=>?_
  . refine an8 s λ K L M l n P Q R=>?_;have e:=ZU K;subst e;refine YB F.slot_list_insert F.type_list_insert M3 Bs ((o.sound A l1 P V).mono λ x C q=>?_) ?_ (aaM l n) M (aK l _ _) (by rw[aK n [] _];rfl)
    . cases x<;>first | exact q.elim | skip
      refine%[_,rfl|cT ((a.sound A v Q q).mono λ d E q=>cT ((b.sound A l3 R q).mono λ G j q=>ik ?_) (aK n _ _)) (aK l _ _)];obtain⟨i,f,rfl,T,hi,Z,w⟩:=q;refine%[f,T|λ O H a xs vs J Y B rv st=>?_];cases rv with| cons r1 t=>cases t with| cons r2 t=>cases t;cases r1;refine%[a,xs,_,_,rfl,rfl,Y,%[|0],%[|0],by rw[B.length];exact v3 Z %[|1],O,.non,_,w,Step.put (cI J) _,?_|.non];rw[e8];exact st.put J ((Pn B i).append (.cons r2 (Ms B i)))
    {cases x<;>first | rfl | exact ff L}
end
section
variable{prog:Program}{w:World}{A:Around}{E:%[|17]}{s:Shared}
def U7(n:Nat):Builtin.Slice.sliceAdjust none none (-1) (n:Int)=((n:Int)-1,-1):=by unfold Builtin.Slice.sliceAdjust;simp
def Jw(n:Nat):Builtin.Slice.slicePlaces ((n:Int)-1) (-1) (-1)=n:=by unfold Builtin.Slice.slicePlaces;simp;omega
def qQ{n:Nat}(hs:s.heap.IsSliceOf c .none .none (.int (-1) t))
 (h:Q ((n:Int)-1,-1,n) s):wpAny %[|5] A (Builtin.Slice.sliceApplied (.ref c) (pure (n:Int))) Q E s:=by obtain⟨e,b,d,a⟩:=id hs;unfold Builtin.Slice.sliceApplied Builtin.Slice.sliceFields;refine b0 (b0 (eM b a (x:=.none) rfl (b0 (eM b a (x:=.none) rfl (b0 (eM b a (x:=.int (-1) t) rfl (b9 ?_)))))));refine b0 (slicePart_int ?_);show wpAny _ _ (if((-1:Int)==0)=true then _ else _) _ _ s;rw[bP %[|1]];refine b0 (slicePart_none (b0 (slicePart_none (b0 (b9 ?_)))));show wpAny _ _ (match Builtin.Slice.sliceAdjust none none (-1) (n:Int)with | (lo,hi)=>pure (lo,(-1:Int),Builtin.Slice.slicePlaces lo hi (-1))) _ _ s;rw[U7 n];show wpAny _ _ (pure ((n:Int)-1,(-1:Int),Builtin.Slice.slicePlaces ((n:Int)-1) (-1) (-1))) _ _ s;rw[Jw];exact b9 h
def An(xs:ac1):((List.range xs.size).filterMap λ(m:Nat)=>xs[(((xs.size:Int)-1)+(m:Int)*(-1)).toNat]?).toArray=xs.toList.reverse.toArray:=by
 congr 1;refine gL λ i=>?_;have e:∀(l:ab4),(∀m∈l,m<xs.size)->l.filterMap (λ(m:Nat)=>xs[(((xs.size:Int)-1)+(m:Int)*(-1)).toNat]?)=l.map λ m=>xs.toList[xs.size-1-m]! :=by
  intro l
  induction l with
  | nil=>intro _;rfl
  | cons m l j=>
    intro h;have c:=h m x6;have d:(((xs.size:Int)-1)+(m:Int)*(-1)).toNat=xs.size-1-m:=%[|0]
    have f:xs[xs.size-1-m]? =some xs.toList[xs.size-1-m]! :=by
     have b:xs.size-1-m<xs.size:=%[|0]
     rw[fw b];simp[b]
    rw[fN,d,f,cn,j λ k g=>h k (x4 _ g)]
 rw[e _ λ m c=>dV.mp c,y8];by_cases a:i<xs.size
 . have b:xs.size-1-i<xs.size:=%[|0]
   rw[List.getElem?_range a,List.getElem?_reverse (by simpa using a)];simp[b]
 {rw[fS (by simpa using a),List.getElem?_eq_none (by simpa using a)];rfl}
def qd(b:IsTup s.heap t items)(hs:s.heap.IsSliceOf g .none .none (.int (-1) tk))(e:items.size<=sizeLine)
 (h:Q %[|9] {s with heap:=s.heap.push {cls:=%[|10],data:=.seq items.toList.reverse.toArray}}):wpAny %[|5] A (getItem (.ref t) (.ref g)) Q E s:=by
 have a:sizeOk (.seq items.toList.reverse.toArray):=by show items.toList.reverse.toArray.size<=sizeLine;simpa using e
 obtain⟨j,d,c,i⟩:=id hs;have f:s.TypeIs (.ref g) "slice":=%[j,d|c];unfold getItem;try with_reducible refine ed ?_
 first | refine b0 (b9 ?_) | skip
 refine b0 (nr b.typeIs %[|1] ?_);refine b0 (wpAny_callSpecial?_slot (name:=Str.ofString "__getitem__") b.typeIs eC
  (de eC b.typeIs entry_tuple_getitem ?_ (args_tuple_getitem _ _)));show wpAny _ _ (Builtin.Tuple.tupleItemsOf (.ref t)>>=_) _ _ s;refine b0 (tupleItemsOf_ b (b0 (hY f ?_)));rw[c9 %[|1]];refine b0 (qQ hs ?_);show wpAny _ _ (if(((items.size:Int)-1)==0&&(-1:Int)==1&&items.size==items.size)=true then _ else _) _ _ s;rw[bP (by simp),An];first
  | exact b0 (m:=Builtin.Tuple.tupleExact _) (da (b9 %[_,rfl|b9 h]) a)
  | exact b0 (m:=Builtin.Tuple.tupleExact _) (da (b0 (b9 (b9 %[_,rfl|b9 h]))) a)
  | exact b0 (b0 (m:=Builtin.Tuple.tupleExact _) (da (b9 (b9 %[_,rfl|b9 h])) a))
  | exact b0 (b0 (m:=Builtin.Tuple.tupleExact _) (da (b9 %[_,rfl|b9 h]) a))
end
def yw(items:ac1):slicePick items none none (some (-1))=items.toList.reverse.toArray:=by
 rw[<-An];unfold slicePick;have e:sliceBounds none none (some (-1)) items.size=((items.size:Int)-1,-1,-1):=by simp[sliceBounds]
 rw[e];unfold sliceRange;have a:(if(-1:Int)>0 then(if((items.size:Int)-1)<(-1)then((-1)-((items.size:Int)-1)+(-1)-1)/(-1)else 0)else(if((items.size:Int)-1)>(-1)then(((items.size:Int)-1)-(-1)-(-1)-1)/(-(-1))else 0))=(items.size:Int):=by rw[bP %[|1]];split;{rw[show(-(-1):Int)=1 from rfl,Int.ediv_one];omega};{omega}
 simp only[a,e8];rw[List.filterMap_map];congr 2;funext m;show items[((items.size:Int)-1+(-1)*(m:Int)).toNat]? =items[((items.size:Int)-1+(m:Int)*(-1)).toNat]?;rw[Int.mul_comm]
section
variable{X:Cx}
theorem Reps.rev{K}:∀{a:List V}{ds:List D},Reps K O H a ds->Reps K O H a.reverse ds.reverse
 | _,_,.nil=>.nil
 | _,_,.cons r t=>by rw[nv,nv];exact(Reps.rev t).append (.cons r .nil)
def Za(x:D)(S:Store)(W:WD):Prop:=match x with
 | .tup a=>W (.tup a.reverse) S
 | .lst a=>W (.lst a.reverse) S
 | .loc k=>∃a,S[k]? =some a/\W (.lst a.reverse) S
 | _=>False
def Wt(w:Za x S W){pins:Pins}{σ:DL.St}(I:%[|3])(st:%[|14])(z:Rep X.K O H v x)(m:RelV v u)(hs:s.heap.IsSliceOf j .none .none (.int (-1) tk)):
 ∃T id,typeLookup (.type T) "__getitem__"=pure (some (.builtin id))/\s.TypeIs u T/\wpAny %[|6] X.A (getItem u (.ref j)) (EP X pins σ (QG X.K O H W)) X.xe s:=by
 have l:∀(p:Addr)(a:List V)(c:List D),v=.ref p->SqL X.K H p a->Reps X.K O H a c->W (.lst c.reverse) S->∃T id,typeLookup (.type T) "__getitem__"=pure (some (.builtin id))/\s.TypeIs u T/\wpAny %[|6] X.A (getItem u (.ref j)) (EP X pins σ (QG X.K O H W)) X.xe s:=by rintro p a c rfl e f w;cases m;obtain⟨d,r,h,i⟩:=I.list e;have g:=r.length;refine%["list",_,slot_list_getitem.lookup,h.isList.typeIs|?_];refine wpAny_getItem_list_slice h.isList hs .none .none (.int (-1) tk) (by simp) ?_ (by rw[x5]<;>omega);rw[yw];refine%[%[|9],_,I.laid (t':=s.toks) (o:=.lst a.reverse) (λ b y q=>bE _ q) (y9 _) ?_,rfl|dM w st (I.hok.fresh (y9 _)) (Reps.rev f)];exact%[by simpa using i,d.reverse,0,by simpa using r.reverse|by simpa using Heap.get?_push_size s.heap (o:={cls:=.type "list",data:=.seq d.reverse.toArray}) rfl]
 cases z with
 | @tup p a c e f=>cases m;obtain⟨d,r,h,i⟩:=I.tuple e.sq;have g:=r.length;refine%["tuple",_,eC.lookup,h.typeIs|qd h hs (by rw[x5];omega) ?_];refine%[%[|9],_,I.laid (t':=s.toks) (o:=.tup a.reverse) (λ b y q=>bE _ q) (y9 _) ?_,rfl|je w st (I.hok.fresh (y9 _)) (Reps.rev f)];exact%[by simpa using i,d.reverse,r.reverse|by simpa using IsTup.new _ _]
 | @lst p a c e f=>exact l p a c rfl e.sq f w
 | @loc p k e=>obtain⟨c,n,w⟩:=w;obtain⟨a,t,f⟩:=st.obj k p c e n;exact l p a c rfl (SqL.of t) f w
 | _=>exact(show False from w).elim
end
section
variable{Ω:Wd}
def aaS(e:Expr):Option {x:Expr×Nat×Pos×Pos×Pos×Pos // e=.Subscript x.1 (.Slice none none (some (.UnaryOp .USub (.Constant (.int 1) x.2.1 x.2.2.1) x.2.2.2.1)) x.2.2.2.2.1) x.2.2.2.2.2}:=match e with
 | .Subscript l (.Slice none none (some (.UnaryOp .USub (.Constant (.int 1) j p1) p2)) p3) p4=>some %[(l,j,p1,p2,p3,p4)|rfl]
 | _=>none
def Ex.rev(a:Ex Ω):Ex Ω where
 lev:=a.lev
 chk n N C e:=anB (aaS e) λ z=>a.chk n N C z.1.1
 wp w S W:=a.wp w S λ x o=>Za x o W
 sound:=by intro X r n N C e w S W A R p Y;obtain⟨⟨⟨l,j,Z,p2,p3,p4⟩,rfl⟩,_,p⟩:=bD p;{intro c s B H O I g st;refine Subscript_ (thn (a.sound A R p Y c s B H O I g st) λ v s1 f=>?_);obtain⟨y,D,F,r1,K,x,o,P,k,t,h⟩:=f;refine wpAny_Slice ?_;refine wpAny_evalPart_none (wpAny_evalPart_none (wpAny_evalPart_some ?_));have U:Ev X w o (.UnaryOp .USub (.Constant (.int 1) j Z) p2) λ d L=>d=.int (-1)/\L=o:=Oz (MN %[1,rfl,rfl|rfl]);refine thn (U c s1 B D K F (g.mono k) t) λ vs s3 f=>?_;obtain⟨z,E,G,r3,O3,d,S3,⟨rfl,rfl⟩,m,u,i⟩:=f;cases i;obtain⟨tk,rfl⟩:=r3;have J:Inv X c B E {s3 with heap:=s3.heap.push {cls:=.type "slice",data:=.fields #[.none,.none,.int (-1) tk]}}:=G.kept (t':=s3.toks) λ b ob q=>bE _ q;obtain⟨T,id,M,V,Q⟩:=Wt P J u (h.mono m) r1 (Heap.IsSliceOf.new ..);exact tail_any (ops:=[v,.ref s3.heap.objs.size]) V M (thn Q λ _ _ q=>eF (k.trans m) q) (by with_unfolding_all rfl)}
end
end RF
namespace XE
open PySem PySem.Spec L2 DL RF
open PyProof.Rows
abbrev WX:=Str->%[|4]
variable{Ω:Wd}
end XE
set_option maxHeartbeats 400000
set_option maxHeartbeats 1000000
namespace XE
open PySem PySem.Spec L2 DL RF
open PyProof.Rows
variable{Ω:Wd}
end XE
namespace RF
open PySem PySem.Spec L2 DL
open PyProof.Rows
section
variable{Ω:Wd}
def unl(ns:ab1):Nat:=(firstMet (λ i=>ns.getD i 0) ns.length).length
def Df(C:X.calm=true)(m:ns.length+1<scanBound)(p:jy S d=some (ns.map .int))(w:W (.int (unl ns)) S)
 {pins:Pins}{σ:DL.St}(I:%[|3])(st:%[|14])(M:Rep X.K O H v d)(h:RelV v u):
 wpAny %[|6] X.A (call (.type "set") [u]) (λ u1 s1=>wpAny %[|6] X.A (call (.builtin "len") [u1]) (EP X pins σ (QG X.K O H W)) X.xe s1) X.xe s:=by
 obtain⟨a,Q,rfl,y,x⟩:=zz (pins:=pins) (s:=s) (σ:=σ) (X:=X) st M p;cases h;obtain⟨its,i,z,K⟩:=I.list y;have j:Q=ns.map V.int:=x.ints;have q:IntsAre its ns:=by
  rw[j]at i;clear z K y x j w m p
  induction ns generalizing its with
  | nil=>cases i;exact .nil
  | cons n ns L=>cases i with| cons N P=>obtain⟨t,rfl⟩:=N;constructor;exact L _ P
 have r:its.length=ns.length:=IntsAre.length q;refine call_set_list (items:=its.toArray) (ns:=ns) (I.ok.hd C) z.isList (by simpa using q) (by rw[x5,r];exact m) λ k tk l F=>?_;have B:its.toArray.size=ns.length:=by rw[x5,r]
 rw[B]at l;obtain⟨o,T,R,t,J,f,c,_,_,g,E,G⟩:=l;have A:Inv X pins σ H {s with heap:=k,toks:=tk}:=I.kept (t':=tk) λ b o e=>F b o (bX e) e;refine call_len_set (s:={s with heap:=k,toks:=tk}) J f c E (by unfold scanBound at g;omega) ?_;rw[G];exact%[.int _,H,A.tok _,%[_|rfl]|J3 w st (.int _)]
def Ex.lset(hm:Ω.mg "len"=none)(hm2:Ω.mg "set"=none)(a:Ex Ω):Ex Ω where
 lev:=a.lev
 chk l N m e:=cA e λ y G=>dj G λ c=>cA c λ z F=>dj F λ b=>(y=="len")&&((z=="set")&&(glb m "len"&&(glb m "set"&&(okE b&&a.chk l N m b))))
 wp K S W:=a.wp K S λ d o=>∃n:List Int,jy o d=some (n.map .int)/\n.length+1<scanBound/\W (.int (unl n)) o
 sound:=by intro X r l N m e K S W A hl w hw;refine bh w λ y p G D f=>?_;refine cP f λ c g=>?_;refine bh g λ z p' F j h=>?_;refine cP h λ b w=>?_;refine an6 w λ U V Y Z J h6=>?_;have R:=ZU U;have T:=ZU V;subst R T;intro i s σ H O I t st;refine gv (cz I (A.glb Y) (by rw[A.g];exact hm) (show bootBuiltins "len"=some (.builtin "len")from %[|11]) ?_ %[|1] %[|1]);refine iE ?_ rfl rfl;show wpAny _ _ (spliced ((false,eval _ X.env)::backTo D (starEach [] X.env))) _ _ s;refine fA ?_;refine gv (cz I (A.glb Z) (by rw[A.g];exact hm2) (show bootBuiltins "set"=some (.type "set")from %[|11]) ?_ %[|1] %[|1]);refine eu ?_ (aK J _ _) rfl;rw[aK J [] X.env];show wpAny _ _ (spliced ((false,eval b X.env)::backTo j (starEach [] X.env))) _ _ s;refine fA (thn (a.sound A hl h6 hw i s σ H O I t st) λ u s1 B=>?_);obtain⟨v,H1,L,r1,O1,x,o,hb,E,C,k⟩:=B;obtain⟨n,M,P,Q⟩:=hb;refine gi ?_;refine thn (Df A.calm P M Q L C k r1) λ u2 s2 q=>?_;refine gi ?_;exact thn q λ _ _ q=>eF E q
end
end RF
namespace XE
open PySem PySem.Spec L2 DL RF
open PyProof.Rows
variable{Ω:Wd}
end XE
namespace RF
open PySem PySem.Spec L2 DL
open PyProof.Rows
variable{Ω:Wd}
end RF
namespace RF
open PySem PySem.Spec L2 DL
open PyProof.Rows
variable{Ω:Wd}
def Lk(a b:Addr)(xs ys:ac1):
 Meets (Builtin.«zip.__new__» %[[.type "zip",.ref a,.ref b]|[]]) (λ _ R s=>s.heap.IsTuple a xs/\s.heap.IsList b ys/\
  R (.ok (.ret (.ref (zh s.heap "tuple_iterator" "list_iterator" a b).objs.size))) {s with heap:=zhz s.heap "tuple_iterator" "list_iterator" a b}):=
 .of_wp λ i w A R s h=>by obtain⟨c,g,d,j,f⟩:=s;obtain⟨k,l,h⟩:=h;have e:=sub_zip;have m:Heap.IsTuple (Shared.heap %[c,g,d,j|f]) a xs:=k;have n:Heap.IsList (Shared.heap %[c.push {cls:=.type "tuple_iterator",data:=.fields #[.ref a,.int 0 0]},g,d,j|f]) b ys:=Heap.IsList.push l _;wp_walk using wpAny_pyIter_tuple m,wpAny_pyIter_list n;exact%[_,rfl|h]
def Ru(h:Ev X n S e λ d S1=>Ev X n S1 c λ d' S2=>∃ds es,d=.tup ds/\d'=.lst es/\W (List.zipWith (λ x y=>.tup [x,y]) ds es) S2)(Q:X.mg "zip"=none)(P:Gl X "zip")
 (hs:starEach [e,c] X.env=(false,eval e X.env)::starEach [c] X.env)(g:starEach [c] X.env=[(false,eval c X.env)]):
 ItW X n S (.Tuple f k tp) (.Call (.Name "zip" p) [e,c] [] pos) W:=by
 intro j s σ H O I q st;have N:EvA X n S [e,c] λ J S2=>∃ds es,J=[.tup ds,.lst es]/\W (List.zipWith (λ x y=>.tup [x,y]) ds es) S2:=
  cT (h.mono λ d S1 m=>cT (m.mono λ d' S2 ⟨ds,es,a,b,w⟩=>ik %[ds,es,by rw[a,b]|w]) g) hs;refine Call_ (cz I P Q boot_zip (eu (thn (N pos j s σ H O I q st) λ us s1 r=>?_) hs (by rw[g];rfl)));obtain⟨vs,H1,o,r1,L,J,S1,⟨ds,es,M,w⟩,G,z,C⟩:=r;subst M;cases C with| cons ra B=>cases B with| cons B rc=>cases rc;obtain⟨u,u2,rfl,ru,E⟩:=vals2 r1;cases ra with| @tup a xs _ m Z=>cases B with| @lst b ys _ K q2=>cases ru;cases E;obtain⟨t,rv,Y,hz⟩:=o.tuple m.sq;obtain⟨i,aa,A,R⟩:=o.list K.sq;obtain⟨z4,T,p2,p3,U,V,kp⟩:=zip_parts s1.heap "tuple_iterator" "list_iterator" a b;refine callType_new F.called_zip %[|1] (F.typeCall_zip_2 _ _) (F.newCall_zip_2 _ _) (λ v=>F.args_object_init_3 v _ _) F.entry_zip_new (Lk a b t.toArray i.toArray) %[Y,A.isList|?_];show _/\_;rw[z4];refine%[%[_,T|rfl]|Pk (KZ X.prog X.w X.K) (Td X.prog X.w X.K) o %[_,U,rfl|rfl] %[_,V,rfl|rfl] %[L,_,S1,w,G,z|uB _ _ λ O' H' l=>%[xs,ys,(m.conv l).sq,Z.conv l,(K.conv l).sq|q2.conv l]]]
def abP(hm:Ω.mg "zip"=none)(a b:Ex Ω):Itb Ω where
 lev:=max a.lev b.lev
 chk c N h t e:=ww t&&cA e λ y f=>two2 f λ l r=>(y==("zip":Str))&&(glb h "zip"&&((okE l&&okE r)&&(a.chk c N h l&&b.chk c N h r)))
 wp m S W:=a.wp m S λ d o=>b.wp m o λ i s=>match d,i with | .tup ds,.lst f=>W (List.zipWith (λ x y=>.tup [x,y]) ds f) s | _,_=>False
 sound:=by intro X r c N h t e m S W A G g I;obtain⟨J,K⟩:=lv2 G;refine an2 g λ H j=>?_;clear g;obtain⟨f,n,O,u⟩:=jL H;subst u;refine bh j λ y p f L k=>?_;refine two2_ind k λ l M g=>?_;{refine an4 g λ v w z B=>?_;refine an2 z λ C D=>?_;refine an2 B λ E F=>?_;have e:=ZU v;subst e;refine Ru ((a.sound A J E I).mono λ d o q=>(b.sound A K F q).mono λ i s q=>?_) (by rw[A.g];exact hm) (A.glb w) (aK C _ _) (aK D [] _);cases d<;>first | exact q.elim | (cases i<;>first | exact%[_,_,rfl,rfl|q] | exact q.elim)}
end RF
namespace RF
open PySem PySem.Spec L2 DL
open PyProof.Rows
variable{Ω:Wd}
end RF
namespace RF
open PySem PySem.Spec L2 DL
open PyProof.Rows
variable{Ω:Wd}
end RF
namespace RF
open PySem PySem.Spec L2 DL
open PyProof.Rows
def bj{α:Type}[DecidableEq α](kvs:List (α×D))(ns:α):Option D:=(kvs.find? λ kv=>decide (kv.1=ns)).map (·.2)
def putD{α:Type}[DecidableEq α](kvs:List (α×D))(ns:α)(d:D):List (α×D):=if(kvs.any λ kv=>decide (kv.1=ns))=true then kvs.map λ kv=>if kv.1=ns then(kv.1,d)else kv else kvs++[(ns,d)]
theorem qC:∀{a b:ab1},a.map D.int=b.map D.int->a=b
 | [],[],_=>rfl
 | [],_::_,h=>by cases h
 | _::_,[],h=>by cases h
 | x::a,y::b,h=>by have h:=io h;rw[D.int.inj h.1,qC h.2]
def _root_.DL.DOb.typ{pins:Pins}{σ:DL.St}(b:DOb X.K O H a ds)(k:Abv X.K a)(I:%[|3]):
 s.TypeIs (.ref a) "dict"/\(∀b,Value.ref a=.ref b->∃ob,s.heap.get? b=some ob/\ob.dict=none)/\(a==sysModules)=false:=by
 cases b with
 | t h e r=>exact X8 I (.inr %[h|.inl e])
 | c g n e r=>obtain⟨⟨_,f,_,o,i,j,d,h4,_⟩,_,_⟩:=(show aN X.prog X.w H s.heap a (.ext (QV a g))from I.hok a _ e);refine%[%[o,d|h4.1],λ b q=>?_|f];cases q;exact%[o,d|h4.2.1]
 | o g n e r=>obtain⟨⟨_,f,_,o,i,j,d,h4,_⟩,_,_⟩:=(show aN X.prog X.w H s.heap a (.ext (Sx a g))from I.hok a _ e);refine%[%[o,d|h4.1],λ b q=>?_|f];cases q;exact%[o,d|h4.2.1]
 | m g l f e r=>obtain⟨⟨_,f,_,o,i,d,h4,_⟩,_,_⟩:=(show aN X.prog X.w H s.heap a (.ext (bc a g))from I.hok a _ e);refine%[%[o,d|h4.1],λ b q=>?_|f];cases q;exact%[o,d|h4.2.1]
 | p _ n=>exact absurd k n
abbrev Kc:=List ((Int×List Int)×D)
def encC(kv:(Int×List Int)×D):D:=.tup [cD kv.1,kv.2]
def Yn(h:cD c=cD d):c=d:=by unfold cD at h;have h:=D.tup.inj h;have a:=D.int.inj (io h).1;have b:=D.tup.inj (io (io h).2).1;exact ms a (qC b)
def Dc(x:bO h v c)(y:bO h v d):c=d:=by obtain⟨b,o,k,s,u,rfl,p,z,n,q⟩:=x;obtain⟨w,r,A,j,t,e,g,m,f,i⟩:=y;cases e;obtain rfl:o=r:=cf (p.symm.trans g);have a:=n.symm.trans f;injection a with a _;have l:[Value.int c.1 s,u]=[Value.int d.1 j,t]:=eL Array.toList a;injection l with e3 e4;injection e3 with e3 _;injection e4 with e4 _;subst e4;exact ms e3 (Bp q i)
def Kh{es ep}(x:bO h v c)(z:h.get? d=some o)(y:o.data=.dict es ep)(hs:Heap.SameBut d h h'):bO h' v c:=by
 obtain⟨b,a,n,C,u,m,p,q,f,l,B,e,A,r,s,t,g,w⟩:=x;have k:∀(b:Addr)(a:Obj)(e:ac1)(n:Nat),h.get? b=some a->a.data=.seq e n->h'.get? b=some a:=λ b a e n i j=>by refine(hs.2 b ?_).trans i;rintro rfl;obtain rfl:a=o:=cf (i.symm.trans z);rw[y]at j;exact nomatch j
 exact%[b,a,n,C,u,m,k _ _ _ _ p f,q,f,l,B,e,A,r,k _ _ _ _ s g,t,g|w]
def bG(prog:ac4)(w:World):HeapKind prog w (Int×List Int) where
 is h c a:=bO h (.ref a) c
 hash:=hC0
 draws c:=c.2.length+3
 room A:=A.units+5<cLine
 inj d e:=Dc d e
 keeps x ho hd hs:=Kh x ho hd hs
 pyHash f hk h:=xV f hk h
 eqBool:=λ{A E s x y a b Q} f d e h=>Ay %[|0] d e prog w E Q h
 quiet hk h:=nG (n:=6) hk h
section
variable{K:PySem.W.Frag}{O:Own}{H:Hp}
def _root_.DL.Kcs.inv{kcs:Kc}(r:Kcs K O H ys ((kv::kcs).map encC)):∃b u v ys',ys=(kv.1,b,u)::ys'/\Rep K O H (.ref b) (cD kv.1)/\RelV v u/\Rep K O H v kv.2/\Kcs K O H ys' (kcs.map encC):=by have r:Kcs K O H ys (.tup [cD kv.1,kv.2]::kcs.map encC):=r;generalize hx:cD kv.1=x at r;cases r with| @cons c b u v _ _ ys' _ e f g a t=>subst hx;have e:=Yn (d:=c) e;subst e;exact%[b,u,v,ys',rfl,f,g,a|t]
def _root_.DL.Kcs.length{kcs:Kc}(r:Kcs K O H ys (kcs.map encC)):ys.length=kcs.length:=by
 induction kcs generalizing ys with
 | nil=>cases r;rfl
 | cons d kcs a=>obtain⟨b,u,v,c,rfl,_,_,_,t⟩:=r.inv;rw[dQ,dQ,a t]
def _root_.DL.Kcs.look{kcs:Kc}(r:Kcs K O H ys (kcs.map encC))(c:ac9):(bj kcs c=none/\atKey ys c=none)\/∃d b u v,bj kcs c=some d/\atKey ys c=some (b,u)/\RelV v u/\Rep K O H v d:=by
 induction kcs generalizing ys with
 | nil=>cases r;exact .inl %[rfl|rfl]
 | cons kv kcs h=>
   obtain⟨b,u,v,a,rfl,k,j,i,t⟩:=r.inv;by_cases e:kv.1=c;{exact .inr %[kv.2,b,u,v,by simp[bj,e],by simp[atKey,e],j|i]}
   . have f:bj (kv::kcs) c=bj kcs c:=by simp[bj,g9,e]
     have g:atKey ((kv.1,b,u)::a) c=atKey a c:=by simp[atKey,g9,e]
     rw[f,g];exact h t
def Q9{b}[DecidableEq b](kcs:List (b×D))(c:b):(kcs.any λ kv=>decide (kv.1=c))=(bj kcs c).isSome:=by
 induction kcs with
 | nil=>rfl
 | cons a l d=>unfold bj at d ⊢;rw[List.any_cons,g9,d];cases decide (a.1=c)<;>rfl
def _root_.DL.Kcs.put{kcs:Kc}(r:Kcs K O H ys (kcs.map encC))(q:Rep K O H (.ref b) (cD c))(p:RelV v u)(o:Rep K O H v d):Kcs K O H (storedH ys c b u) ((putD kcs c d).map encC):=by
 have e:(kcs.any λ kv=>decide (kv.1=c))=(atKey ys c).isSome:=by rw[Q9];rcases r.look c with⟨h,n⟩ | ⟨d,b,u,v,h,n,_⟩<;>rw[h,n]<;>rfl
 unfold putD storedH;rw[e];split
 . rename_i l;clear e l
   induction kcs generalizing ys with
   | nil=>cases r;exact .nil
   | cons kv kcs j=>
     obtain⟨i,k,s,m,rfl,a,g,f,t⟩:=r.inv;rw[cn,cn,cn];by_cases e:kv.1=c
     . have h:putAt c u (kv.1,i,k)=(kv.1,i,u):=by unfold putAt;rw[c9 e]
       rw[h,c9 e];exact .cons rfl a p o (j t)
     . have h:putAt c u (kv.1,i,k)=(kv.1,i,k):=by unfold putAt;rw[bP e]
       rw[h,bP e];exact .cons rfl a g f (j t)
 . rename_i l;clear e l
   induction kcs generalizing ys with
   | nil=>cases r;exact .cons rfl q p o .nil
   | cons kv kcs j=>obtain⟨i,k,s,m,rfl,a,g,f,t⟩:=r.inv;exact .cons rfl a g f (j t)
def Vc{pins:Pins}{σ:DL.St}(I:%[|3]){kcs:Kc}(r:Kcs X.K O H ys (kcs.map encC)):∀x∈ys,bO s.heap (.ref x.2.1) x.1:=by
 induction kcs generalizing ys with
 | nil=>cases r;intro x a;cases a
 | cons f kcs c=>obtain⟨b,u,v,e,rfl,d,h,g,t⟩:=r.inv;intro x a;rcases ci.mp a with rfl | a;{exact eY I d rfl};{exact c t x a}
def ir(r:Rep K O H v (.tup ds)):∃b,v=.ref b:=by cases r;exact%[_|rfl]
def JX(ys:Cy)(c:ac9)(b:Addr)(u:Value):(storedH ys c b u).length<=ys.length+1:=by unfold storedH;split<;>simp
end
theorem gD:∀{a:ab6}{ns:ab1},IntsAre a ns->Vals (ns.map V.int) a
 | _,_,.nil=>.nil
 | _,_,.cons n t r=>.cons %[t|rfl] (gD r)
theorem HQ:∀(l:ab6)(ns:ab1),l.length=ns.length->(∀(j:Nat)(v:Value),l[j]? =some v->∃(n:Int) (t:Tok),ns[j]? =some n/\v=Value.int n t)->IntsAre l ns
 | [],[],_,_=>.nil
 | [],_::_,h,_=>nomatch h
 | _::_,[],h,_=>nomatch h
 | v::l,n::ns,h,k=>by obtain⟨m,t,e,rfl⟩:=k 0 v rfl;cases e;exact .cons n t (HQ l ns (im h) λ j v e=>k (j+1) v e)
def upI(n:Nat):List Int:=(List.range n).map λ(i:Nat)=>(0:Int)+(i:Int)
def Zu(n:Nat):DL.upTo 0 n=(upI n).map D.int:=by unfold DL.upTo upI;rw[df];rfl
def xf(j:Int)(h:0<=j):Builtin.Range.rangeSize 0 j 1=(j.toNat:Nat):=by rw[rangeSize_one];split<;>omega
def JK(h:0<=j)(h':j<1000000):Builtin.Range.small 0 j 1=true:=by
 unfold Builtin.Range.small;rw[xf j h];by_cases a:j<=0
 . have:j=0:=%[|0]
   subst this;rfl
 {simp only[Builtin.Range.rangeFitsLong,fg,kn,ib,beq_iff_eq,a,e7,show((1:Int)>0)from %[|1],ij];omega}
section
variable{X:Cx}{Γ:Gam}{S:Store}{W:WD}{pos:Pos}
def Vg(A:X.calm=true)(h:Ev X Γ S a λ d S1=>∃j:Int,d=.int j/\0<=j/\j<1000000/\(W (.lst (DL.upTo 0 j.toNat)) S1\/W (.loc S1.length) (S1++[DL.upTo 0 j.toNat])))(hm:X.mg "range"=none)(C:X.mg "list"=none)(Z:Gl X "range")(B:Gl X "list")(hs:starEach [a] X.env=[(false,eval a X.env)])
 (l:starEach [.Call (.Name "range" p) [a] [] pos] X.env=[(false,eval (.Call (.Name "range" p) [a] [] pos) X.env)]):Ev X Γ S (.Call (.Name "list" p2) [.Call (.Name "range" p) [a] [] pos] [] f) W:=by
 intro c s N H O I y st;refine Call_ (cz I B C (show bootBuiltins "list"=some (.type "list")from %[|11]) (eu ?_ l rfl));rw[show backTo f (starEach [.Call (.Name "range" p) [a] [] pos] X.env)=[(false,eval (.Call (.Name "range" p) [a] [] pos) X.env)]from by rw[l];rfl];refine fA ?_;have U:EvA X Γ S [a] λ J S1=>∃j:Int,J=[.int j]/\0<=j/\j<1000000/\(W (.lst (DL.upTo 0 j.toNat)) S1\/W (.loc S1.length) (S1++[DL.upTo 0 j.toNat])):=
  cT (h.mono λ d S1 ⟨j,e,u,z,w⟩=>ik %[j,by rw[e],u,z|w]) hs;refine Call_ (cz I Z hm boot_range (eu (thn (U pos c s N H O I y st) λ us n D=>?_) hs rfl));obtain⟨vs,G,P,r1,q1⟩:=D;obtain⟨R,J,S1,⟨j,rfl,u,z,w⟩,F,m,E⟩:=q1
 cases E with
 | cons ra rb=>
   cases rb;cases ra
   cases r1 with
   | cons r rr=>
     cases rr;obtain⟨t,rfl⟩:=r;refine call_range_1 (gi ?_);have x:Inv X c N G {n with heap:=n.heap.push {cls:=.type "range",data:=.fields #[.int 0 n.toks,.int j t,.int 1 (n.toks+1)]},toks:=n.toks+1+1}:=P.kept λ b o e=>bE _ e;refine call_list_range (x.ok.hd A) (IsRange.new ..) (JK u z) (xf j u) %[|0] λ h' tk g T kp k its=>?_;have L:=x.hok.fresh (y9 _);have Y:IntsAre g.toList (upI j.toNat):=HQ _ _ (by have:=its.1;simp[upI];exact this) λ i v e=>by
      have K:g[i]? =some v:=by simpa using e
      obtain⟨t,rfl⟩:=its.2 i v K;have hi:i<j.toNat:=by rw[<-its.1];exact(Array.getElem?_eq_some_iff.mp K).1
      exact%[_,t,by unfold upI;rw[y8,List.getElem?_range hi];rfl|by rw[Int.mul_one]]
     have zl:((upI j.toNat).map V.int).length<=sizeLine:=by simp[upI,ke];omega
     have Q:=x.laid (t':=tk) (o:=.lst ((upI j.toNat).map V.int)) (λ b ob q=>kp b ob q) (y9 _) %[zl,g.toList,T,gD Y|by simpa using k];have M:Reps X.K R G ((upI j.toNat).map V.int) (DL.upTo 0 j.toNat):=by rw[Zu];exact abv _
     refine eF F %[.ref _,_,Q,rfl|?_];rcases w with w | w;{exact dM w m L M};{exact By w m L M}
end
section
variable{Ω:Wd}
def abL(hm:Ω.mg "range"=none)(hm2:Ω.mg "list"=none)(a:Ex Ω):Ex Ω where
 lev:=a.lev
 chk h N k e:=cA e λ z t=>(z==("list":Str))&&dj t λ s=>cA s λ y c=>(y==("range":Str))&&dj c λ b=>(glb k "list"&&(glb k "range"&&(okE b&&a.chk h N k b)))
 wp v S W:=a.wp v S λ d i=>match d with | .int j=>(0<=j/\j<1000000)/\(W (.lst (DL.upTo 0 j.toNat)) i\/W (.loc i.length) (i++[DL.upTo 0 j.toNat])) | _=>False
 sound:=by intro X r h N k e v S W A G m H;refine bh m λ z J t I f=>?_;refine an2 f λ B n=>?_;clear f;refine cP n λ s o=>?_;refine bh o λ y p c u g=>?_;refine an2 g λ C m=>?_;clear g;refine cP m λ b x=>?_;refine an4 x λ l D E F=>?_;have e:=ZU B;subst e;have w:=ZU C;subst w;refine Vg A.calm ((a.sound A G F H).mono λ d i q=>?_) (by rw[A.g];exact hm) (by rw[A.g];exact hm2) (A.glb D) (A.glb l) (aK E [] _) rfl;cases d<;>first | exact%[_,rfl,q.1.1,q.1.2|q.2] | exact q.elim
end
def lq:Bool->Nat->D
 | true,k=>.dlo k
 | false,k=>.loc k
def OwQ(n:Nat)(W:WD):WD:=λ d b=>W d b\/∃(q:Bool) (J:List (List D)) (a:Store) (k:Nat) (c:List D),d=lq q k/\b=a++J/\n<=a.length/\a.length<=k/\b[k]? =some c/\aa c=true/\flat a/\W (lq q a.length) (a++[c])
def QG.owq{K}(hn:O.A.length=n)(q:QG K O H (OwQ n W) v S):QG K O H W v S:=by
 obtain⟨f,d,Y,w,R,o,r⟩:=q;rcases w with w | ⟨q,J,c,k,E,rfl,rfl,hl,hk,U,T,L,w⟩;{exact%[f,d,Y,w,R,o|r]}
 . obtain⟨a,rfl,u,hq⟩:∃a,v=.ref a/\f.A[k]? =some (a,q)/\(q=true->Abv K a):=by cases q;{cases r;exact%[_,rfl,by assumption|λ z=>nomatch z]};{cases r;exact%[_,rfl,by assumption|λ _=>by assumption]}
   . obtain⟨s,_,_,na⟩:=fQ R o %[|0] L;have M:=na k a %[|0] u;have X:(f.A.take c.length).length=c.length:=by have:=o.len;simp at this ⊢;omega
     have t:∀b,¬f.has b->¬(%[f.A.take c.length++[(a,q)]|f.B]:Own).has b:=λ b i z=>i (z.imp (λ z=>by rw[cF]at z;rcases cm.mp z with z | z;{exact iZ z};{rw[show b=a from by simpa using z];exact cI u}) id);have B:∀(j:Nat),j<c.length->(f.A.take c.length++[(a,q)])[j]? =f.A[j]?:=λ j A=>by rw[x9 %[|0],g7,c9 A]
     have m:(f.A.take c.length++[(a,q)])[c.length]? =some (a,q):=by rw[dt %[|0],X];simp
     have C:∀(j:Nat)(l:List D),(c++[E])[j]? =some l->(j<c.length/\c[j]? =some l)\/(j=c.length/\l=E):=λ j l e=>by rcases Nat.lt_trichotomy j c.length with h | h | h;{rw[x9 h]at e;exact .inl %[h|e]};{subst h;rw[dt (y9 _)]at e;simp at e;exact .inr %[rfl|e.symm]};{rw[fS (by simp;omega)]at e;cases e}
     refine%[%[f.A.take c.length++[(a,q)]|f.B],lq q c.length,c++[E],w,%[s.kept,s.dom,?_|s.hid],%[?_,by simp[X],λ j b l g p=>?_,λ j b l g p=>?_,λ b i=>?_|o.hidden]|by cases q with | false=>exact .loc m | true=>exact .dlo m (hq rfl)];{obtain⟨N,F,Z⟩:=s.ext;obtain⟨N',G,I⟩:=R.ext;have F:f.A.take c.length=O.A++N:=F;refine%[N++[(a,q)],by show f.A.take c.length++[(a,q)]=_;rw[F,ca]|λ b i=>?_];rw[cF]at i;rcases cm.mp i with i | i;{exact Z b i};{rw[show b=a from by simpa using i];rw[G,dt %[|0]]at u;exact I a (cI u)}};{show(adr (f.A.take c.length++[(a,q)])).Nodup;rw[cF,iX];refine%[?_,by simp[adr]|λ x P y Q=>?_];{show(List.map _ (List.take _ _)).Nodup;rw[ln];exact o.nd.sublist (kN _ _)};{rw[show y=a from by simpa using Q];exact λ z=>M (.inl (z▸P))}};{rcases C j l p with⟨A,p⟩ | ⟨rfl,rfl⟩;{have g:(f.A.take c.length++[(a,q)])[j]? =some (b,false):=g;rw[B j A]at g;obtain⟨ys,Q,r'⟩:=o.obj j b l g (by rw[x9 A];exact p);exact%[ys,Q|eV t (L l (y4 p)) r']};{have g:(f.A.take c.length++[(a,q)])[c.length]? =some (b,false):=g;rw[m]at g;cases g;obtain⟨xs,P,q1⟩:=o.obj k a l u U;exact%[xs,P|eV t T q1]}};{rcases C j l p with⟨A,p⟩ | ⟨rfl,rfl⟩;{have g:(f.A.take c.length++[(a,q)])[j]? =some (b,true):=g;rw[B j A]at g;exact qY t (L l (y4 p)) (o.dob j b l g (by rw[x9 A];exact p))};{have g:(f.A.take c.length++[(a,q)])[c.length]? =some (b,true):=g;rw[m]at g;cases g;exact qY t T (o.dob k a l u U)}};{have i:b∈adr (f.A.take c.length++[(a,q)]):=i;rw[cF]at i;rcases cm.mp i with i | i;{exact o.apart b (iZ i)};{rw[show b=a from by simpa using i];exact o.apart a (cI u)}}
section
variable{Ω:Wd}
def Bl.owq(b:Bl Ω):Bl Ω where
 lev:=b.lev
 chk:=b.chk
 wp g S W:=b.wp g S {W with rt:=OwQ S.length W.rt}
 sound:=by
  intro X r n N p m g S W A k j l a s o H O I c e;refine thn (b.sound A k j l a s o H O I c e) λ f t q=>?_
  cases f with
  | next=>exact q
  | brk=>exact q
  | cont=>exact q
  | ret u=>obtain⟨v,d,h,i,r,q⟩:=q;exact%[v,d,h,i,r|QG.owq e.len q]
end
mutual
inductive Rsv(n:Nat)(S:Store):D->D->Prop
 | ok{d:D}(h:az d=true):Rsv n S d d
 | loc{k:Nat}{xs rs:List D}(h:n<=k)(g:S[k]? =some xs)(r:Rsvs n S xs rs):Rsv n S (.loc k) (.lst rs)
 | lst{xs rs:List D}(r:Rsvs n S xs rs):Rsv n S (.lst xs) (.lst rs)
 | tup{xs rs:List D}(r:Rsvs n S xs rs):Rsv n S (.tup xs) (.tup rs)
inductive Rsvs(n:Nat)(S:Store):List D->List D->Prop
 | nil:Rsvs n S [] []
 | cons{x r:D}{xs rs:List D}(h:Rsv n S x r)(t:Rsvs n S xs rs):Rsvs n S (x::xs) (r::rs)
end
def Ui{K}(sub:∀b,¬O.has b->¬c.has b)(o:∀j a,n<=j->O.A[j]? =some (a,false)->¬c.has a)(ok:StOk K O H S)(h:Rsv n S d r)(q:Rep K O H v d):Rep K c H v r:=by refine Rsv.rec (motive_1:=λ d r _=>∀v:V,Rep K O H v d->Rep K c H v r) (motive_2:=λ l s _=>∀f:List V,Reps K O H f l->Reps K c H f s) ?_ ?_ ?_ ?_ ?_ ?_ h v q;{exact λ h v q=>du sub h q};{intro _ _ _ h g r e v q;cases q with| loc k=>obtain⟨u,m,p⟩:=ok.obj _ _ _ k g;exact .lst (.inl %[o _ _ h k|.inl m]) (e _ p)};{intro _ _ r e v q;cases q with| lst h q=>exact .lst (h.imp (λ q=>%[sub _ q.1|q.2]) id) (e _ q)};{intro _ _ r e v q;cases q with| tup h q=>exact .tup %[sub _ h.1|h.2] (e _ q)};{intro f q;cases q;exact .nil};{intro _ _ _ _ h t i j f q;cases q with| cons a b=>exact .cons (i _ a) (j _ b)}
def FrG(n:Nat)(W:WD):WD:=λ d b=>W d b\/∃(r:D) (G a:Store),b=a++G/\n<=a.length/\flat a/\Rsv a.length b d r/\W r a
def QG.frg{K}(y:O.A.length=n)(q:QG K O H (FrG n W) v k):QG K O H W v k:=by obtain⟨m,d,p,w,l,b,r⟩:=q;rcases w with w | ⟨e,G,o,rfl,x,s,t,w⟩;{exact%[m,d,p,w,l,b|r]};{obtain⟨f,c,i,u⟩:=fQ l b %[|0] s;exact%[_,e,o,w,f,c|Ui i (λ j a h g=>u j a h g) b t r]}
section
variable{Ω:Wd}
def Bl.frg(b:Bl Ω):Bl Ω where
 lev:=b.lev
 chk:=b.chk
 wp g S W:=b.wp g S {W with rt:=FrG S.length W.rt}
 sound:=by
  intro X r n N p m g S W A k j l a s o H O I c e;refine thn (b.sound A k j l a s o H O I c e) λ f t q=>?_
  cases f with
  | next=>exact q
  | brk=>exact q
  | cont=>exact q
  | ret u=>obtain⟨v,d,h,i,r,q⟩:=q;exact%[v,d,h,i,r|QG.frg e.len q]
end
end RF
namespace RF
open PySem PySem.W PyProof.Rows
section
variable{N:Nat}{lt:Nat -> Nat -> Bool}
def bw(N:Nat)(lt:ad6){α:Type}:KasT α->(α->Prop)->Prop
 | .ret a,R=>R a
 | .ask i j k,R=>i<N/\j<N/\bw N lt (k (lt i j)) R
theorem bw.bind{R:c->Prop}:∀t:KasT b,bw N lt t (λ a=>bw N lt (f a) R)->bw N lt (t.bind f) R
 | .ret _,h=>h
 | .ask i j k,h=>%[h.1,h.2.1|bw.bind (k (lt i j)) h.2.2]
theorem bw.wp{I:Shared->Prop}(d:∀i j C s,i<N->j<N->I s->(∀s',I s'->C (lt i j) s')->b i j C s):
 ∀(t:KasT c){R:c->Prop}{Q:c->Shared->Prop}(s:ab5),bw N lt t R->I s->(∀a s',R a->I s'->Q a s')->t.kasWp b Q s
 | .ret a,_,_,s,h,i,q=>q a s h i
 | .ask x y k,_,_,s,h,i,q=>d x y _ s h.1 h.2.1 i λ s' e=>bw.wp d (k (lt x y)) s' h.2.2 e q
structure LtOk(N:Nat)(lt:ad6):Prop where
 tot:∀i j,i<N->j<N->i≠j->lt i j=false->lt j i=true
 tr:∀i j k,i<N->j<N->k<N->lt i j=true->lt j k=true->lt i k=true
structure Pm(N:Nat)(p:Array Nat):Prop where
 sz:p.size=N
 lt:∀a,a<N->p.getD a 0<N
 inj:∀a b,a<N->b<N->p.getD a 0=p.getD b 0->a=b
def Srt(lt:ad6)(p:Array Nat)(m:Nat):Prop:=∀a b,a<b->b<m->lt (p.getD a 0) (p.getD b 0)=true
def Dsc(lt:ad6)(p:Array Nat)(m:Nat):Prop:=∀a b,a<b->b<m->lt (p.getD b 0) (p.getD a 0)=true
theorem z7(L:LtOk N lt)(P:Pm N p):∀(f n:Nat),1<=n->n+f=N->Srt lt p n->∀{R:Nat->Prop},(∀m,n<=m->m<=N->Srt lt p m->(m<N->lt (p.getD m 0) (p.getD (m-1) 0)=true)->R m)->bw N lt (kas_asc p f n) R
 | 0,n,h1,h2,h3,R,q=>q n (y9 _) %[|0] h3 λ z=>by omega
 | f + 1,n,h1,h2,h3,R,q=>by
   refine%[P.lt n %[|0],P.lt (n-1) %[|0]|?_];show bw N lt (if lt (p.getD n 0) (p.getD (n-1) 0)=true then .ret n else kas_asc p f (n+1)) R;split;{rename_i g;exact q n (y9 _) %[|0] h3 λ _=>g}
   . rename_i g;have h:lt (p.getD (n-1) 0) (p.getD n 0)=true:=L.tot _ _ (P.lt n %[|0]) (P.lt (n-1) %[|0]) (λ e=>by have:=P.inj _ _ %[|0] %[|0] e;omega) (by simpa using g);refine z7 L P f (n+1) %[|0] %[|0] (λ a b c r=>?_) λ m o i j k=>q m %[|0] i j k;by_cases d:b<n;{exact h3 a b c d}
     . obtain rfl:b=n:=%[|0]
       by_cases l:a=b-1;{rw[l];exact h};{exact L.tr _ _ _ (P.lt a %[|0]) (P.lt _ %[|0]) (P.lt b %[|0]) (h3 a (b-1) %[|0] %[|0]) h}
theorem Iv(L:LtOk N lt)(P:Pm N p):∀(f n:Nat),2<=n->n+f=N->Dsc lt p n->∀{R:Array Nat×Nat×Nat->Prop},(∀m,2<=m->m<=N->Dsc lt p m->R (p,m,0))->bw N lt (kas_desc f p n 0) R
 | 0,n,h1,h2,h3,R,q=>q n h1 %[|0] h3
 | f + 1,n,h1,h2,h3,R,q=>by
   refine%[P.lt n %[|0],P.lt (n-1) %[|0]|?_];show bw N lt (if lt (p.getD n 0) (p.getD (n-1) 0)=true then(if 0>0 then kas_desc f (kas_rev p (n-(0+1)) n) (n+1) 0 else kas_desc f p (n+1) 0)else .ask (p.getD (n-1) 0) (p.getD n 0) λ d=>if d=true then .ret (p,n,0)else kas_desc f p (n+1) (0+1)) R;split
   . rename_i c;rw[bP %[|0]];refine Iv L P f (n+1) %[|0] %[|0] (λ a b g k=>?_) q;by_cases h:b<n;{exact h3 a b g h}
     . obtain rfl:b=n:=%[|0]
       by_cases i:a=b-1;{rw[i];exact c};{exact L.tr _ _ _ (P.lt b %[|0]) (P.lt _ %[|0]) (P.lt a %[|0]) c (h3 a (b-1) %[|0] %[|0])}
   {rename_i j;have c:lt (p.getD (n-1) 0) (p.getD n 0)=true:=L.tot _ _ (P.lt n %[|0]) (P.lt (n-1) %[|0]) (λ e=>by have:=P.inj _ _ %[|0] %[|0] e;omega) (by simpa using j);refine%[P.lt (n-1) %[|0],P.lt n %[|0]|?_];show bw N lt (if lt (p.getD (n-1) 0) (p.getD n 0)=true then .ret (p,n,0)else kas_desc f p (n+1) (0+1)) R;rw[c9 c];exact q n h1 %[|0] h3}
def ni(h:m<=p.size)(a:Nat):(kas_rev p 0 m).getD a 0=if a<m then p.getD (m-1-a) 0 else p.getD a 0:=by rw[fm,fm,fm];unfold kas_rev;rw[getElem?_mirror_all h];by_cases b:a<m;{rw[c9 %[db _|b],c9 b,mE]};{rw[bP (λ z=>b z.2),bP b]}
def Pm.rev(P:Pm N p)(h:m<=N):Pm N (kas_rev p 0 m):=by
 have d:m<=p.size:=by rw[P.sz];exact h
 refine%[by unfold kas_rev;rw[mirror_size,P.sz],λ a c=>?_|λ a b c f e=>?_];{rw[ni d];split;{exact P.lt _ %[|0]};{exact P.lt _ c}};{rw[ni d,ni d]at e;split at e<;>split at e;{have:=P.inj _ _ %[|0] %[|0] e;omega};{have:=P.inj _ _ %[|0] %[|0] e;omega};{have:=P.inj _ _ %[|0] %[|0] e;omega};{exact P.inj _ _ c f e}}
def Dsc.rev(P:Pm N p)(h:m<=N)(d:Dsc lt p m):Srt lt (kas_rev p 0 m) m:=λ a b e f=>by
 have c:m<=p.size:=by rw[P.sz];exact h
 rw[ni c,ni c,c9 %[|0],c9 f];exact d _ _ %[|0] %[|0]
def Rg(L:LtOk N lt)(h2:2<=N)(P:Pm N p)(q:∀m p',1<=m->m<=N->Pm N p'->Srt lt p' m->R (m,p')):bw N lt (kas_count N p) R:=by
 refine bw.bind _ (z7 L P (N-1) 1 (y9 _) %[|0] (λ a b h v=>by omega) λ n i j d l=>?_);show bw N lt (if(n==N)=true then .ret (n,p)else if n>1 then .ask (p.getD 0 0) (p.getD (n-1) 0) λ c=>if c=true then .ret (n,p)else kas_descPart n N (kas_rev p 0 n)else kas_descPart n N p) R;split;{exact q n p i j P d}
 . rename_i f;have e:n<N:=by
    have:n≠N:=by simpa using f
    omega
   split;{refine%[P.lt 0 %[|0],P.lt (n-1) %[|0]|?_];show bw N lt (if lt (p.getD 0 0) (p.getD (n-1) 0)=true then .ret (n,p)else kas_descPart n N (kas_rev p 0 n)) R;rw[c9 (d 0 (n-1) %[|0] %[|0])];exact q n p i j P d}
   . obtain rfl:n=1:=%[|0]
     have k:Dsc lt p 2:=λ a b o w=>by
      obtain rfl:b=1:=%[|0]
      obtain rfl:a=0:=%[|0]
      exact l e
     refine bw.bind _ (Iv L P (N-(1+1)) (1+1) %[|0] %[|0] k λ m y g t=>?_);show bw N lt (if 0>0 then _ else kas_tail3 m N p) R;rw[bP %[|0]];refine bw.bind _ (z7 L (P.rev g) (N-m) m %[|0] %[|0] (Dsc.rev P g t) λ u x r s _=>?_);exact q u _ %[|0] r (P.rev g) s
theorem rH(L:LtOk N lt)(P:Pm N p)(b:k<N)(hs:Srt lt p k):∀(f l r:Nat),l<=r->r<=k->r-l<=f->(∀a,a<l->lt (p.getD a 0) (p.getD k 0)=true)->(∀a,r<=a->a<k->lt (p.getD k 0) (p.getD a 0)=true)->
 ∀{R:Nat->Prop},(∀l',l'<=k->(∀a,a<l'->lt (p.getD a 0) (p.getD k 0)=true)->(∀a,l'<=a->a<k->lt (p.getD k 0) (p.getD a 0)=true)->R l')->bw N lt (kas_place p k f l r) R
 | 0,l,r,h1,h2,h3,h4,h5,R,q=>q l %[|0] h4 λ a h d=>h5 a %[|0] d
 | f + 1,l,r,h1,h2,h3,h4,h5,R,q=>by show bw N lt (if l≥r then .ret l else .ask (p.getD k 0) (p.getD ((l+r)/2) 0) λ c=>if c=true then kas_place p k f l ((l+r)/2)else kas_place p k f ((l+r)/2+1) r) R;split;{exact q l %[|0] h4 λ a h d=>h5 a %[|0] d};{refine%[P.lt k b,P.lt ((l+r)/2) %[|0]|?_];show bw N lt (if lt (p.getD k 0) (p.getD ((l+r)/2) 0)=true then kas_place p k f l ((l+r)/2)else kas_place p k f ((l+r)/2+1) r) R;split;{rename_i g;refine rH L P b hs f l ((l+r)/2) %[|0] %[|0] %[|0] h4 (λ a h d=>?_) q;by_cases e:a=(l+r)/2;{rw[e];exact g};{exact L.tr _ _ _ (P.lt k b) (P.lt _ %[|0]) (P.lt a %[|0]) g (hs _ _ %[|0] d)}};{rename_i g;have i:lt (p.getD ((l+r)/2) 0) (p.getD k 0)=true:=L.tot _ _ (P.lt k b) (P.lt _ %[|0]) (λ e=>by have:=P.inj _ _ b %[|0] e;omega) (by simpa using g);refine rH L P b hs f ((l+r)/2+1) r %[|0] %[|0] %[|0] (λ a h=>?_) h5 q;by_cases e:a=(l+r)/2;{rw[e];exact i};{exact L.tr _ _ _ (P.lt a %[|0]) (P.lt _ %[|0]) (P.lt k b) (hs _ _ %[|0] %[|0]) i}}}
def Yt(c:k<p.size)(d:l<=k)(a:Nat):(a=l/\(bubble p k (k-l)).getD a 0=p.getD k 0)\/(l<a/\a<=k/\(bubble p k (k-l)).getD a 0=p.getD (a-1) 0)\/((a<l\/k<a)/\(bubble p k (k-l)).getD a 0=p.getD a 0):=by rw[fm,fm,fm,fm,getElem?_bubble c (k-l) %[|0]];by_cases b:a=l;{exact .inl %[b|by rw[c9 %[|0]]]};{by_cases h2:l<a/\a<=k;{exact .inr (.inl %[h2.1,h2.2|by rw[bP %[|0],c9 %[|0]]])};{exact .inr (.inr %[%[|0]|by rw[bP %[|0],bP %[|0]]])}}
theorem M9(L:LtOk N lt):∀(f:Nat)(p:Array Nat)(k:Nat),Pm N p->1<=k->k+f=N->Srt lt p k->∀{R:Array Nat->Prop},(∀p',Pm N p'->Srt lt p' N->R p')->bw N lt (kas_bin f p k) R
 | 0,p,k,P,h1,h2,h3,R,q=>q p P (by rw[<-h2];exact h3)
 | f+1,p,k,P,h1,h2,h3,R,q=>by
   have i:k<N:=%[|0]
   refine bw.bind _ (rH L P i h3 k 0 k (db _) (y9 _) %[|0] (λ a z=>by omega) (λ a z y=>by omega) λ l o r s=>?_);have h:k<p.size:=by rw[P.sz];exact i
   have c:=Yt h o;have n:Pm N (bubble p k (k-l)):=by refine%[by rw[bubble_size,P.sz],λ a t=>?_|λ a b t v e=>?_];{rcases c a with⟨_,e⟩ | ⟨_,_,e⟩ | ⟨_,e⟩<;>rw[e]<;>exact P.lt _ %[|0]};{rcases c a with⟨_,d⟩ | ⟨_,_,d⟩ | ⟨_,d⟩<;>rcases c b with⟨_,g⟩ | ⟨_,_,g⟩ | ⟨_,g⟩<;>(rw[d,g]at e;have:=P.inj _ _ %[|0] %[|0] e;omega)}
   refine M9 L f (bubble p k (k-l)) (k+1) n %[|0] %[|0] (λ a b u v=>?_) q;rcases c a with⟨j,d⟩ | ⟨j,w,d⟩ | ⟨j,d⟩<;>rcases c b with⟨m,g⟩ | ⟨m,x,g⟩ | ⟨m,g⟩<;>rw[d,g]<;>
    first | (exfalso;omega) | exact s _ %[|0] %[|0] | exact r _ %[|0] | exact h3 _ _ %[|0] %[|0]
def R9:Pm N (List.toArray (List.range N)):=by
 have c:∀a,a<N->(List.toArray (List.range N)).getD a 0=a:=λ a d=>by rw[fm];simp[d]
 exact%[by simp,λ a d=>by rw[c a d];exact d|λ a b d f e=>by rw[c a d,c b f]at e;exact e]
def V0(L:LtOk N lt)(h2:2<=N):bw N lt (kas_sort N) λ p=>Pm N p/\Srt lt p N:=by
 refine bw.bind _ (Rg L h2 R9 λ m a d g P b=>?_);show bw N lt (if m<N then kas_bin (N-max m 1) a (max m 1)else .ret a) _;have e:max m 1=m:=%[|0]
 rw[e];split;{exact M9 L _ _ _ P d %[|0] b λ a c f=>%[c|f]}
 . obtain rfl:m=N:=%[|0]
   exact%[P|b]
end
end RF
namespace XE
open PySem PySem.Spec L2 DL RF
open PyProof.Rows
variable{Ω:Wd}
end XE
set_option maxHeartbeats 4000000
namespace XE
open PySem PySem.Spec L2 DL RF
open PyProof.Rows
variable{Ω:Wd}
end XE
namespace RF
open PySem PySem.Spec L2 DL
open PyProof.Rows
section
variable{P:Program}{w:World}{A:Around}{E:%[|17]}{s:Shared}{d a:Addr}{ys:Cy}{c:Int × List Int}
inductive CelM(P:ac4)(w:World)(h:Heap)(d:Addr)(ys:Cy):Prop
 | mk(o:Obj)(es:Array DictEntry)(g1:h.get? d=some o)(g2:o.ExactDict)(g3:o.data=.dict es ys.length)(g4:es.toList=ys.map (entryOfKey (bG P w)))(g5:∀x∈ys,bO h (.ref x.2.1) x.1)(g6:(ys.map (·.1)).Nodup):CelM P w h d ys
def CelM.of(x:CelM P w h d ys):h.DictOfH (bG P w) d ys:=by obtain⟨o,a,b,c,e,f,g,i⟩:=x;exact%[o,a,_,b,c,e,f,g|i]
def v7(K:A.units+5<cLine)(q:bO s.heap (.ref a) c)(J:CelM P w s.heap d ys)(hz:ys.length<=sizeLine)
 (t:∀h' tk,CelM P w h' d (storedH ys c a v)->Heap.SameBut d s.heap h'->Q () {s with heap:=h',toks:=tk}):wpAny (model P w) A (dictSet d (.ref a) v) Q E s:=by
 obtain⟨o,H,h,C,f,r,I,n⟩:=J;have room:(bG P w).room A:=K;have k:(bG P w).is s.heap c a:=q;have i:∀x∈ys,(bG P w).is s.heap x.1 x.2.1:=I;unfold dictSet;try with_reducible refine ed ?_
 refine b0 ((bG P w).pyHash room k ?_);unfold dictSetHashed;try with_reducible refine ed ?_
 refine b0 (wpAny_dictFind_heap (knd:=bG P w) (s:={s with toks:=s.toks+(bG P w).draws c}) room k h f r i n (λ b=>?_) λ j p m=>?_)
 . have G:=atKey_none_of_get b;have B:storedH ys c a v=ys++[(c,a,v)]:=storedH_new G a v;have F:c∉ys.map (·.1):=not_mem_keys_of_get b;rw[B]at t;have z:(ys++[(c,a,v)]).length=ys.length+1:=by simp
   refine b0 (iF (pk (hz:=by have e:=size_of_entries r;omega) (s:={s with toks:=s.toks+(bG P w).draws c}) h f (t _ _ %[_,_,eR _ h (lP (kA f _)),C.mapDictKeys _,by rw[z];exact kA f _,?_,λ x g=>?_|?_] (dS ..))));{simp[r,entryOfKey]};{rcases cm.mp g with g | g;{exact(bG P w).keeps (i x g) h f (dS ..)};{rw[cb.mp g];exact(bG P w).keeps k h f (dS ..)}};{rw[cE,iX];refine%[n,by simp|λ x g y u e=>?_];rw[cn,kT,cb]at u;rw[e,u]at g;exact F g}
 . have D:=atKey_of_get n m;have B:storedH ys c a v=ys.map (putAt c v):=storedH_old D a v;rw[B]at t;have z:(ys.map (putAt c v)).length=ys.length:=by simp
   refine b0 (iF (b0 (wpAny_updateDict (s:={s with toks:=s.toks+(bG P w).draws c}) h f (wpAny_point (t _ _ %[_,_,eR _ h (lP (Obj.data_mapDict f _)),C.mapDict _,by rw[z];exact Obj.data_mapDict f _,?_,λ x g=>?_|?_] (dS ..))))));{have:=modify_map_putAt (entryOfKey (bG P w)) (λ e:DictEntry=>{e with val:=v}) c v (λ _ _=>rfl) n m;rw[<-r]at this;obtain⟨l⟩:=H;simpa using this};{obtain⟨y,u,rfl⟩:=c8.mp g;unfold putAt;split<;>exact(bG P w).keeps (i y u) h f (dS ..)};{rw[keys_map_putAt];exact n}
def Va(g:A.in1.units+5<cLine)(b:bO s.heap (.ref a) c)(e:CelM P w s.heap d ys)(hz:ys.length<=sizeLine)
 (f:∀h' tk,CelM P w h' d (storedH ys c a v)->Heap.SameBut d s.heap h'->Q () {s with heap:=h',toks:=tk}):wpAny (model P w) A (setItem (.ref d) (.ref a) v) Q E s:=by
 have T:=e.of.typeIs;unfold setItem;try with_reducible refine ed ?_
 refine b0 (nr T %[|1] (b0 (wpAny_callSpecial?_slot (name:=Str.ofString "__setitem__") T slot_dict_setitem (de slot_dict_setitem T entry_dict_setitem ?_ (args_dict_setitem _ _ _)))));show wpAny _ _ (Builtin.Dict.notOrdered "__setitem__" %[[.ref d,.ref a,v]|[]]>>=_) _ _ s;refine b0 (gp T ?_);show wpAny _ _ (dictSet d (.ref a) v>>=_) _ _ s;exact b0 (v7 g b e hz λ h' tk x y=>b9 %[.none,rfl|b9 (f h' tk x y)])
variable{it:Addr}{i ep:Nat}{ok ov:Value}{es:Array DictEntry}{od:Obj}{e:DictEntry}
def VR(q:s.heap.get? d=some od)(p:od.data=.dict es ep)(f:IsItemIter s.heap it d i es.size ep ok ov)(J:es[i]? =some e)
 (M:∀h',IsItemIterOut h' it d (i+1) es.size ep e.key e.val s.heap.objs.size->h'.get? s.heap.objs.size=some {cls:=%[|10],data:=.seq #[e.key,e.val]}->h'.objs.size=s.heap.objs.size+1->
  (∀b o,b≠it->%[|24])->Q (some %[|9]) %[|15]):
 wpAny (model P w) A (pyNext (.ref it)) Q E s:=by
 obtain⟨a,g,j,l,k⟩:=s;have T:Shared.TypeIs %[a,g,j,l|k] (.ref it) "dict_itemiterator":=%[_,f|rfl];have N:i<es.size:=(Array.getElem?_eq_some_iff.mp J).1;have r:Builtin.Dict_items.ownsTuple "dict_itemiterator"=true:=%[|1]
 unfold pyNext;refine b0 (iq (wpAny_callSpecial?_slot (name:=Str.ofString "__next__") T gg (de gg T F.entry_dict_itemiterator_next ?_ (F.args_dict_itemiterator_next_1 _))));refine b0 (b9 (b0 (b0 ?_)));refine b0 (iO T (b9 (b0 (k9 f rfl ?_))));simp only[r,ij];show wpAny _ _ (if(Value.ref d==Value.none)=true then _ else _) _ _ %[a,g,j,l|k];rw[bP (show ¬((Value.ref d==Value.none)=true)from y6)];refine b0 (b9 (b0 (dE q p ?_)));rw[bP (by simp)];refine b0 (b9 (b0 (fI q p ?_)));rw[bP (by simp)];refine b9 ?_;simp only[show ¬((i:Int)<0)from %[|0],e7,e8,J];refine b0 ?_;refine b0 (iO T (b9 (b0 (nN T ?_))));show wpAny _ _ (setField (.ref it) 3 (rawInt ((i:Int)+1))>>=_) _ _ %[a,g,j,l|k];refine b0 (fF f (by simp) λ h t s1=>?_);have s1:Heap.SameBut it a h:=s1;have t:IsItemIter h it d (i+1) es.size ep ok ov:=by
  have L:((i+1:Nat):Int)=(i:Int)+1:=%[|0]
  unfold IsItemIter;rw[L];simpa[rawInt]using t
 have I:Shared.TypeIs %[h,g,j,l|k] (.ref it) "dict_itemiterator":=%[_,t|rfl];refine b0 (ed (b0 (nN I (b0 (nN I ?_)))));show wpAny _ _ (Builtin.Dict_items.pairFromOwner (.ref it) 6 e.key e.val) _ _ %[h,g,j,l|k];unfold Builtin.Dict_items.pairFromOwner;refine b0 (wpAny_newTuple ?_);have m:IsItemIter (h.push {cls:=%[|10],data:=.seq #[e.key,e.val]}) it d (i+1) es.size ep ok ov:=bE _ t;generalize q2:h.push {cls:=%[|10],data:=.seq #[e.key,e.val]}=h2 at m;have H:h.objs.size=a.objs.size:=s1.1;have G:it<a.objs.size:=bX f;have R:h2.get? a.objs.size=some {cls:=%[|10],data:=.seq #[e.key,e.val]}:=by rw[<-q2,<-H];exact bS _ rfl
 have S:h2.objs.size=a.objs.size+1:=by rw[<-q2,gl,H]
 have O:∀b o,b≠it->a.get? b=some o->h2.get? b=some o:=λ b o c x=>by rw[<-q2];exact bE _ (s1.extBut b o c x)
 show wpAny _ _ (Builtin.Dict_items.ownedTupleIsFree (.ref it)>>=_) _ _ %[h2,g,j,l|k];rw[H];unfold Builtin.Dict_items.ownedTupleIsFree;refine b0 (b0 (eM m rfl (x:=.none) rfl (b9 ?_)));simp only[ij];refine b0 (eM m rfl (x:=ok) rfl (b0 (eM m rfl (x:=ov) rfl ?_)));refine b0 (fF m (by simp) λ B u s3=>?_);have s3:Heap.SameBut it h2 B:=s3;have u:IsItemIter B it d (i+1) es.size ep e.key ov:=u;refine b0 (fF u (by simp) λ C v s4=>?_);have s4:Heap.SameBut it B C:=s4;have v:IsItemIter C it d (i+1) es.size ep e.key e.val:=v;refine b0 (fF v (by simp) λ D y s5=>?_);have s5:Heap.SameBut it C D:=s5;have y:IsItemIterOut D it d (i+1) es.size ep e.key e.val a.objs.size:=y;refine b0 (fF y (by simp) λ n z s6=>?_);have s6:Heap.SameBut it D n:=s6;have z:IsItemIterOut n it d (i+1) es.size ep e.key e.val a.objs.size:=z;have K:∀b o,b≠it->h2.get? b=some o->n.get? b=some o:=λ b o c x=>s6.extBut b o c (s5.extBut b o c (s4.extBut b o c (s3.extBut b o c x)));refine b0 (wpAny_letGo (b9 (b9 %[_,rfl|b9 (M n z (K _ _ (fk G) R) ?_ λ b o c x=>K b o c (O b o c x))])));show n.objs.size=a.objs.size+1;rw[s6.1,s5.1,s4.1,s3.1,S]
def Xd(hh:A.handled=none)(f:s.heap.get? d=some od)(e:od.data=.dict es ep)(c:IsItemIter s.heap it d i es.size ep ok ov)(j:es.size<=i)
 (h:∀h',Heap.ExtBut it s.heap h'->Q none %[|15]):wpAny (model P w) A (pyNext (.ref it)) Q E s:=by
 have T:s.TypeIs (.ref it) "dict_itemiterator":=%[_,c|rfl];have g:Builtin.Dict_items.ownsTuple "dict_itemiterator"=true:=%[|1]
 unfold pyNext;refine b0 (iq (wpAny_callSpecial?_slot (name:=Str.ofString "__next__") T gg (de gg T F.entry_dict_itemiterator_next ?_ (F.args_dict_itemiterator_next_1 _))));refine b0 (b9 (b0 (b0 ?_)));refine b0 (iO T (b9 (b0 (k9 c rfl ?_))));simp only[g,ij];show wpAny _ _ (if(Value.ref d==Value.none)=true then _ else _) _ _ s;rw[bP (show ¬((Value.ref d==Value.none)=true)from y6)];refine b0 (b9 (b0 (dE f e ?_)));rw[bP (by simp)];refine b0 (b9 (b0 (fI f e ?_)));rw[bP (by simp)];refine b9 ?_;simp only[show ¬((i:Int)<0)from %[|0],e7,e8,eW j];refine b0 ?_;refine b0 (iO T (b9 ?_));show wpAny _ _ (setField (.ref it) 2 .none>>=_) _ _ s;refine b0 (i8 c rfl (by simp) ?_);show wpAny _ _ (newExc (.type "StopIteration") []>>=_) _ _ _;refine b0 ?_;simp only[newExc,newTuple];refine b0 (da (b0 (m:=firstArgMember _ _) (nI (a:=Value.none) (by first | rfl | (simp only[firstArgMember];rfl)) (da ?_ (by size_fits)))) (by size_fits));simp only[raiseNew];refine b0 (nV ?_);rw[show A.in1.handled=none from hh];refine b0 (b9 (wpAny_throw ?_));refine b0 (ft (T:="StopIteration") (b:=true) %[_,bS _ rfl|rfl] n3 ?_);exact b9 (h _ (((dS ..).extBut.push _).push _))
end
variable{o:Expr}
def uL:entryFor table "dict_itemiterator.__iter__"=some Builtin.«dict_keyiterator.__iter__»:=entryFor_alias (id':="dict_keyiterator.__iter__") (by kernel_rfl) rfl %[|11] (by kernel_rfl)
def bkV:Value->V
 | .bool b=>.bl b
 | .int i _=>.int i
 | .str x _=>.str x
 | .bytes b _=>.byt b
 | .float b _=>.flt b
 | .ref a=>.ref a
 | .type n=>.ty n
 | _=>.non
def Jo(h:L2.RelV v u):v=bkV u:=by cases v<;>first | (have h:u=_:=h;subst h;rfl) | (obtain⟨t,rfl⟩:=h;rfl)
def Qn(h:L2.RelV v u)(h':L2.RelV a u):v=a:=(Jo h).trans (Jo h').symm
section
variable{P:Program}{w:World}{A:Around}{E:%[|17]}{s:Shared}{d v:Addr}{ep:Nat}{es:Array DictEntry}{od:Obj}
def Gf(a:(d==sysModules)=false):MeetsIn P w (Builtin.«dict.items» %[[.ref d]|[]]) (λ _ R s=>s.TypeIs (.ref d) "dict"/\R (.ok (.ret %[|9])) {s with heap:=s.heap.push {cls:=.type "dict_items",data:=.fields #[.ref d]}}):=
 .of_wp λ A R s ⟨T,h⟩=>by unfold Builtin.«dict.items»;refine b0 ?_;unfold Builtin.Dict.noArgs;refine b0 (gp T ?_);show wpAny _ _ (pure d) _ _ s;refine b9 ?_;show wpAny _ _ (Builtin.Dict.showsAll d>>=_) _ _ s;unfold Builtin.Dict.showsAll;rw[bP (by rw[a];exact y6)];exact b0 (b9 (b0 (da (b9 %[_,rfl|h]))))
def Ke(g:s.heap.IsItemsView v d)(b:s.heap.get? d=some od)(a:od.data=.dict es ep)
 (h:Q %[|9] {s with heap:=s.heap.push {cls:=.type "dict_itemiterator",data:=.fields #[.none,.bool false,.ref d,.int 0 0,.int es.size 0,.int ep 0,.none,.none]}}):
 wpAny (model P w) A (pyIter (.ref v)) Q E s:=by
 obtain⟨j,f,i,e⟩:=id g;have c:Builtin.Dict_items.ownsTuple "dict_itemiterator"=true:=%[|1]
 refine kw g.typeIs F.slot_dict_items_iter (de F.slot_dict_items_iter g.typeIs F.entry_dict_items_iter ?_ (F.args_dict_items_iter_1 _));unfold Builtin.«dict_items.__iter__»;refine b0 (b9 (b0 ?_));unfold Builtin.Dict_items.dictOf;refine b0 (eM f e (x:=.ref d) rfl (b9 (b0 ?_)));unfold Builtin.Dict_items.newIterator;refine b0 (dE b a (b0 (fI b a ?_)));simp only[c,ij];refine da (b9 %[_,rfl,"dict_itemiterator",_,%[_,bS _ rfl|rfl],gg.lookup|?_]) (by simp only[sizeOk,Builtin.Dict_items.ownedTupleFields,x5,x8,dQ,List.length_nil,ke];omega);simpa[rawInt,Builtin.Dict_items.ownedTupleFields]using h
end
section
variable{P:Program}{w:World}{K:PySem.W.Frag}
def Itm(a:Addr)(n:Nat):It:=
 %[λ i H=>∃d c b u v,H a=some (.ext (bc a d))/\d.length=n/\d[i]? =some (c,b,u)/\RelV v u,
  λ i H x e=>∃p b u v,H p=none/\(∀d,H a=some (.ext (bc a d))->∃c,d[i]? =some (c,b,u))/\RelV v u/\e=upd H p (.tup [.ref b,v])/\x=.ref p|
  λ i H=>∃d,H a=some (.ext (bc a d))/\d.length=n/\n<=i]
theorem Kl(a l:Addr)(n:Nat):Turn P w K (.Tuple A k pos) (Itm a n) [l] l (λ i h=>∃ok ov,IsItemIter h l a i n n ok ov) where
 mem:=by simp
 obj:=λ i h m b p=>by obtain⟨ok,ov,V⟩:=m;rw[cb.mp p];exact%[_,V|λ v z=>nomatch z]
 keep:=λ i h h' m k=>let ⟨ok,ov,V⟩:=m;%[ok,ov|k l (by simp) _ V]
 item:=by
  intro X S Z hK hc i g s σ H E I M m W;obtain⟨ys,c,b,u,v,Q,D,Y,ru⟩:=W;obtain⟨⟨_,_,_,o,G,J,B,r,L⟩,_,_⟩:=(show aN X.prog X.w H s.heap a (.ext (bc a ys))from I.hok a _ Q);obtain⟨ok,ov,d⟩:=m;have f:G.size=n:=by rw[<-dA,L,y7,D]
  have q:G[i]? =some %[hC0 c,.ref b|u]:=by rw[<-eD,L,y8,Y];rfl
  have uq:∀j,H a=some (.ext (bc a j))->∃O,j[i]? =some (O,b,u):=λ j R=>by
   obtain⟨⟨_,_,_,o',aa,k1,_,N,k4⟩,_,_⟩:=(show aN X.prog X.w H s.heap a (.ext (bc a j))from I.hok a _ R);obtain rfl:o=o':=cf (J.symm.trans k1);rw[r]at N;injection N with N _;subst N;rw[<-eD,k4,y8]at q
   cases e:j[i]? with
   | none=>rw[e]at q;cases q
   | some y=>rw[e]at q;obtain⟨O,b',u'⟩:=y;have q:=cf q;injection q with _ hx1 hx2;injection hx1 with hx1;subst hx1 hx2;exact%[O|rfl]
  rw[D]at r;subst S Z;refine VR (ok:=ok) (ov:=ov) J r (by rw[f];exact d) q λ h' ho hT hz hk=>%[_,rfl|wpAny_letOwnedTupleGo_items ho λ B C sb=>?_];have I1:Inv X g σ H {s with heap:=B}:=oX (ch:=[l]) (t:=s.toks) I M λ b o p q'=>(sb.2 b (λ z=>p (by simp[z]))).trans (hk b o (λ z=>p (by simp[z])) q');have hp:H s.heap.objs.size=none:=I.hok.fresh (y9 _);have x:l<s.heap.objs.size:=bX d;have U:B.get? s.heap.objs.size=some {cls:=%[|10],data:=.seq #[.ref b,u]}:=(sb.2 _ (fk x)).trans hT;have I2:Inv X g σ (upd H s.heap.objs.size (.tup [.ref b,v])) {s with heap:=B}:=sr I I1 (y9 _) %[by show 2<=sizeLine;decide,[.ref b,u],.cons rfl (.cons ru .nil),_,U,rfl,_|rfl];refine%[%[|9],_,I2,rfl,%[_,b,u,v,hp,uq,ru,rfl|rfl],%[_,_|by rw[f]at C;exact C]|λ b' p=>?_];rw[cb.mp p,aq (cq x)];exact(M l (by simp)).1
 done:=by
  intro X S Z hK hc i g s σ H E I M m W;obtain⟨ys,Q,D,Y⟩:=W;obtain⟨⟨_,_,_,o,G,J,B,r,L⟩,_,_⟩:=(show aN X.prog X.w H s.heap a (.ext (bc a ys))from I.hok a _ Q);obtain⟨ok,ov,d⟩:=m;have f:G.size=n:=by rw[<-dA,L,y7,D]
  rw[D]at r;subst S Z;obtain⟨f0,f1,f2,f3,f4,f5⟩:=M l (by simp);exact Xd (ok:=ok) (ov:=ov) (I.ok.hd hc) J r (by rw[f];exact d) (by rw[f];exact Y) λ h' ext=>%[rfl|I.turned (t':=s.toks) (λ b o p e=>ext b o p e) f0 f1 f3 f4 f5]
 self:=λ _ _ _ _ _ m h=>by obtain⟨ok,ov,d⟩:=m;have T:Shared.TypeIs _ (.ref l) "dict_itemiterator":=%[_,d|rfl];refine kw T F.slot_dict_itemiterator_iter (de F.slot_dict_itemiterator_iter T uL ?_ (F.args_dict_itemiterator_iter_1 _));show wpAny _ _ (ret (.ref l)) _ _ _;exact b9 %[_,rfl,"dict_itemiterator",_,T,gg.lookup|h]
end
section
variable{K:PySem.W.Frag}{O:Own}{H:Hp}
inductive CelG(X:Cx)(O:Own)(H:Hp)(s:ab5)(a:Addr)(kcs:Kc):Prop
 | mk(lo:(a==sysModules)=false)(mu:Mut (H a))(ys:Cy)(eH:H a=some (.ext (bc a ys)))(kc:Kcs X.K O H ys (kcs.map encC))(m:CelM X.prog X.w s.heap a ys)(hz:ys.length<=sizeLine):CelG X O H s a kcs
def dI{pins:Pins}{σ:DL.St}(I:%[|3])(b:DOb X.K O H a (.non::kcs.map encC)):
 CelG X O H s a kcs:=by
 cases b with
 | t y e r=>cases r
 | c f n e r=>cases r
 | o f n e r=>cases r
 | m f A d e r=>obtain⟨_,rfl⟩:=io d;obtain⟨⟨x,d,w,o,h,i,j,u,v⟩,_,_⟩:=(show aN X.prog X.w H s.heap a (.ext (bc a f))from I.hok a _ e);exact%[d,by rw[e];trivial,f,e,r,%[o,h,i,j,u,v,Vc I r|w]|x]
 | p B n b l c z q k e d g=>cases d
def ig(d:bc a ys h):aN P w H h a (.ext (bc a ys)):=by refine%[d,?_|λ c f q k=>?_];{obtain⟨_,_,_,o,_,e,_⟩:=d;exact%[o|e]};{obtain⟨z,y,n,o,b,e,r⟩:=q;exact%[z,y,n,o,b,k o e|r]}
def Fe{k:Nat}{kcs:Kc}(h:O.A[k]? =some (a,true)):jH K (Itm a kcs.length) O H (λ S=>S[k]? =some (.non::kcs.map encC)) (kcs.map encC):=by
 intro j s S' P M T i;have R:j.A[k]? =some (a,true):=P.lc k _ h;have U:=M.dob k a _ R T;obtain⟨f,e,r⟩:∃f,s a=some (.ext (bc a f))/\Kcs K j s f (kcs.map encC):=by
  cases U with
  | t Y e r=>cases r
  | c f n e r=>cases r
  | o f n e r=>cases r
  | m f d' w e r=>obtain⟨_,rfl⟩:=io w;exact%[f,e|r]
  | p ps n b l c z q k e w g=>cases w
 have J:=r.length;have C:∀(kcs:Kc)(f:Cy),Kcs K j s f (kcs.map encC)->∀(i:Nat)(kv:(Int×List Int)×D),kcs[i]? =some kv->∃b u v,f[i]? =some (kv.1,b,u)/\Rep K j s (.ref b) (cD kv.1)/\RelV v u/\Rep K j s v kv.2:=by
  intro kcs
  induction kcs with
  | nil=>intro f r i kv h;simp at h
  | cons X kcs W=>
    intro f r i kv h;obtain⟨b,u,v,G,rfl,rk,rv,rd,t⟩:=r.inv
    cases i with
    | zero=>cases h;exact%[b,u,v,rfl,rk,rv|rd]
    | succ i=>obtain⟨b,u,v,A,E⟩:=W G t i kv (by simpa using h);exact%[b,u,v,by simpa using A|E]
 refine%[λ d w=>?_|λ V=>%[f,e,J|by rw[V,y7];exact y9 _]];obtain⟨kv,F,rfl⟩:=aV w;obtain⟨b,u,v,A,E,I,Q⟩:=C kcs f r i kv F;refine%[%[f,kv.1,b,u,v,e,J,A|I]|λ x N y=>?_];obtain⟨p,b2,u2,v2,B,uq,r2,rfl,rfl⟩:=y;obtain⟨c2,L⟩:=uq f e;rw[A]at L;cases L;obtain rfl:=Qn I r2;have Z:¬j.has p:=λ z=>M.tracked z B;exact%[dR.fresh B _|.tup %[Z|aL] (.cons (E.mono (Step.fresh B _)) (.cons (Q.mono (Step.fresh B _)) .nil))]
end
section
variable{X:Cx}{Γ:Gam}{S:Store}{W:WD}{pos:Pos}
def Rr(hu:X.A.units+60<cLine)(m:M2 X o "get" r e f t)
 (h:Ev X Γ S o λ x S1=>∃k,x=.dlo k/\k<S1.length/\Ev X Γ S1 e λ y S2=>Ev X Γ S2 f λ z S3=>∃c kvs,y=cD c/\S3[k]? =some (.non::List.map encC kvs)/\W ((bj kvs c).getD z) S3):Ev X Γ S (.Call (.Attribute o "get" r) [e,f] [] t) W:=by intro j s Q H O I A st;refine nw m.base m.few m.line PySem.F.plainAttrs_dict PySem.F.slot_dict_get PySem.F.type_dict_get (thn (h j s Q H O I A st) λ u s1 i=>?_);obtain⟨x,Y,T,rx,q⟩:=i;obtain⟨O1,xd,S1,⟨k,rfl,hk,he⟩,l,C,D⟩:=q;cases D with| @dlo a _ V N=>obtain rfl:u=Value.ref a:=rx;obtain⟨t1,t2,_⟩:=(C.dob k a S1[k] V (y3 hk)).typ N T;refine%[t1,t2|?_];rw[m.trees];refine Calls.callWith_builtin rfl (Calls.evalArgs_plain (fA (thn (he j s1 Q Y O1 T (A.mono l) C) λ iv s2 i=>?_)));obtain⟨y,Z,I2,ry,q2⟩:=i;obtain⟨O2,yd,S2,M,n,P,g⟩:=q2;refine fA (thn (M j s2 Q Z O2 I2 ((A.mono l).mono n) P) λ fv s3 i=>gi ?_);obtain⟨z,R,F,rz,q3⟩:=i;obtain⟨G,zd,S3,⟨c,kvs,rfl,hs,w⟩,p,B,E⟩:=q3;have L:G.A[k]? =some (a,true):=p.conv.lc k _ (n.conv.lc k _ V);obtain⟨hd,mu,ys,_,kc,dm,hz⟩:=dI F (B.dob k a _ L hs);have U:=dm.of;have g:=g.mono p;obtain⟨b,rfl⟩:=ir g;obtain rfl:iv=Value.ref b:=ry;refine call_meetsIn PySem.F.slot_dict_get U.typeIs PySem.F.entry_dict_get (PySem.F.args_dict_get_3 _ _ _) (meetsH_dict_get_default (bG X.prog X.w) a b hd fv) %[by show X.A.units+1+5<cLine;omega,c,ys,eY F g rfl,U|?_];rcases kc.look c with⟨J,K⟩ | ⟨d,b',u',v,J,K,rv,rd⟩;{rw[J]at w;rw[K];exact%[z,R,F.tok _,rz,G,zd,S3,w,(l.trans n).trans p,B|E]};{rw[J]at w;rw[K];exact%[v,R,F.tok _,rv,G,d,S3,w,(l.trans n).trans p,B|rd]}
def Yw(hu:X.A.units+60<cLine)(hs:Yv e)
 (h:Ev X Γ S o λ x S1=>∃k,x=.dlo k/\Ev X Γ S1 e λ y S2=>∃c kvs d,y=cD c/\S2[k]? =some (.non::List.map encC kvs)/\bj kvs c=some d/\W d S2):Ev X Γ S (.Subscript o e pos) W:=by intro f s F H O I j st;refine Wk PySem.F.slot_dict_getitem.lookup hs (thn (h f s F H O I j st) λ u s1 i=>?_);obtain⟨x,G,K,Z,q⟩:=i;obtain⟨L,xd,S1,⟨k,rfl,Q⟩,n,B,m⟩:=q;cases m with| @dlo a _ N=>obtain rfl:u=Value.ref a:=Z;refine thn (Q f s1 F G L K (j.mono n) B) λ R s2 i=>?_;obtain⟨y,J,t,ry,U⟩:=i;obtain⟨C,yd,S2,⟨c,kvs,d,rfl,hs,r,w⟩,p,l,g⟩:=U;have A:C.A[k]? =some (a,true):=p.conv.lc k _ N;obtain⟨P,mu,ys,_,T,M,hz⟩:=dI t (l.dob k a _ A hs);have D:=M.of;obtain⟨b,rfl⟩:=ir g;obtain rfl:R=Value.ref b:=ry;rcases T.look c with⟨z,E⟩ | ⟨d',b',u',v,z,E,Y,V⟩;{rw[z]at r;cases r};{rw[z]at r;cases r;exact%[D.typeIs|wpAny_getItem_heap (by show X.A.units+1+5<cLine;omega) (eY t g rfl) D E %[v,J,t.tok _,Y,C,_,S2,w,n.trans p,l|V]]}
def W7{W}(hu:X.A.units+60<cLine)(hs:swapsWith e (some (.Subscript o i z)) pos.line X.env=pure false)
 (h:Ev X Γ S e λ d S1=>Ev X Γ S1 o λ x S2=>Ev X Γ S2 i λ y S3=>∃k c kvs,x=.dlo k/\y=cD c/\S3[k]? =some (.non::List.map encC kvs)/\kvs.length<1000000/\W.nx Γ (S3.set k (.non::(putD kvs c d).map encC))):Rn X Γ S (.Assign [.Subscript o i z] e pos) W:=by intro g s E H O I l st;refine wpAny_Assign_Subscript (thn (h g s E H O I l st) λ r s1 f=>?_) hs;obtain⟨v,V,Z,rv,q⟩:=f;obtain⟨O1,d,S1,h1,n,M,B⟩:=q;refine thn (h1 g s1 E V O1 Z (l.mono n) M) λ u s2 f=>?_;obtain⟨x,Y,I2,rx,q⟩:=f;obtain⟨O2,dx,S2,h2,p,N,C⟩:=q;refine thn (h2 g s2 E Y O2 I2 ((l.mono n).mono p) N) λ iv s3 f=>?_;obtain⟨y,H3,F,ry,q⟩:=f;obtain⟨O3,dy,S3,⟨k,c,kvs,rfl,rfl,hk,hz,w⟩,t,A,j⟩:=q;have P:=C.mono t;cases P with| @dlo a _ J=>obtain rfl:u=Value.ref a:=rx;obtain⟨b,rfl⟩:=ir j;obtain rfl:iv=Value.ref b:=ry;obtain⟨hd,mu,D,_,U,R,L⟩:=dI F (A.dob k a _ J hk);have dd:=R.of;have rd:=(B.mono p).mono t;have hl:=JX D c b r;have aa:=U.length;refine Va (by show X.A.units+1+5<cLine;omega) (eY F j rfl) R L λ h' tk G K=>?_;obtain⟨q,es,T,g2,g3,g4,_,g5⟩:=G;have cd:bc a (storedH D c b r) h':=%[by rw[ke];omega,hd,g5,q,es,T,g2,g3|g4];have Q:=Step.put (O:=O3) (H:=H3) (cI J) (.ext (bc a (storedH D c b r)));refine%[E,upd H3 a (.ext (bc a (storedH D c b r))),v9 F mu K %[q|T] (ig cd),O3,Γ,_,w,((n.trans p).trans t).trans Q,A.putO J (.m _ _ rfl aL ((U.put j rv rd).conv Q.conv))|(((l.mono n).mono p).mono t).mono Q]
end
section
variable{Ω:Wd}
def Av(y:D)(S:Store)(k:Nat)(W:Kc->Int×List Int->Prop):Prop:=∃c a,y=cD c/\S[k]? =some (.non::List.map encC a)/\W a c
def aby(o a:Ex Ω):Ex Ω where
 lev:=max o.lev a.lev
 chk f N h e:=match e with | .Subscript l r _=>okE r&&(o.chk f N h l&&a.chk f N h r) | _=>false
 wp i S W:=o.wp i S λ x j=>match x with | .dlo k=>a.wp i j λ y g=>Av y g k λ b c=>∃d,bj b c=some d/\W d g | _=>False
 sound:=by
  intro X r f N h e i S W A t m u;obtain⟨v,z⟩:=lv2 t
  cases e with
  | Subscript l C B=>
    refine an3 m λ n p s=>?_;refine Yw A.hu (BJ n) ((o.sound A v p u).mono λ x j q=>?_)
    cases x with
    | dlo k=>exact%[k,rfl|(a.sound A z s q).mono λ y g ⟨ns,b,e1,e2,d,e3,w⟩=>%[ns,b,d,e1,e2,e3|w]]
    | _=>exact(show False from q).elim
  | _=>exact fE m
def abo(o i a:Ex Ω):Sm Ω where
 lev:=max a.lev (max o.lev i.lev)
 chk f N h u:=ixB u λ x y e=>noC e&&(okE y&&(a.chk f N h e&&(o.chk f N h x&&i.chk f N h y)))
 wp g S W:=a.wp g S λ d n=>o.wp g n λ x s=>i.wp g s λ y j=>match x with | .dlo k=>Av y j k λ b c=>b.length<1000000/\W.nx g (j.set k (.non::(putD b c d).map encC)) | _=>False
 sound:=by
  intro X r f N h u g S W A G l H;obtain⟨I,m⟩:=lv2 G;obtain⟨m,J⟩:=lv2 m;refine Ir l λ x y p e t l=>?_
  . refine an5 l λ C L D E F=>?_;refine W7 A.hu ?_ ((a.sound A I D H).mono λ d n q=>(o.sound A m E q).mono λ x s q=>(i.sound A J F q).mono λ y j q=>?_);{exact kW C _ _ _}
    . cases x with
      | dlo k=>obtain⟨K,b,v,z,B,w⟩:=q;exact%[k,K,b,rfl,v,z,B|w]
      | _=>exact(show False from q).elim
def abj(o a b:Ex Ω):Ex Ω where
 lev:=max o.lev (max a.lev b.lev)
 chk d N h e:=oM e λ x m p B q=>two2 B λ y z=>(m==("get":Str))&&(nameE x&&((p.endLine==q.line)&&(okE y&&(okE z&&(o.chk d N h x&&(a.chk d N h y&&b.chk d N h z))))))
 wp i S W:=o.wp i S λ x j=>match x with | .dlo k=>k<j.length/\a.wp i j λ y v=>b.wp i v λ z l=>Av y l k λ f c=>W ((bj f c).getD z) l | _=>False
 sound:=by
  intro X r d N h e i S W A K s L;obtain⟨M,u⟩:=lv2 K;obtain⟨u,O⟩:=lv2 u;refine fX s λ x m p B q t=>?_;refine two2_ind t λ y z s=>?_
  . refine an8 s λ D E F G n H I J=>?_;have e:=ZU D;subst e;have C:=aK G;have g:=aK n;refine Rr A.hu %[?_,by rw[C,g];rfl,F|by rw[C,g];rfl] ((o.sound A M H L).mono λ x j q=>?_);{cases x<;>first | rfl | exact ff E}
    . cases x with
      | dlo k=>exact%[k,rfl,q.1|(a.sound A u I q.2).mono λ y v q=>(b.sound A O J q).mono λ z l ⟨ns,f,e1,e2,w⟩=>%[ns,f,e1,e2|w]]
      | _=>exact(show False from q).elim
end
def KY{K}(s:StOk K O H S)(h:H p=none){o}(r:DOb K (O.more p true) (upd H p o) p ds):
 StOk K (O.more p true) (upd H p o) (S++[ds]):=by have i:=Step.own (O:=O) h o true;have l:=s.fresh_not h;refine%[Cm s.nd λ z=>l (.inl z),by simp[s.len],λ k a f c d=>?_,λ k a f c d=>?_,λ a j=>?_|λ b m=>i.dom b (s.hidden b m)];{rcases jW c with c | ⟨rfl,e⟩;{have g:=(z0.mp c).1;rw[x9 (by rw[<-s.len];exact g)]at d;obtain⟨t,q,n⟩:=s.obj k a f c d;exact%[t,by rw[aq (aJ q h)];exact q|n.mono i]};{cases e}};{rcases jW c with c | ⟨rfl,e⟩;{have g:=(z0.mp c).1;rw[x9 (by rw[<-s.len];exact g)]at d;exact(s.dob k a f c d).move i.conv λ o q=>by rw[aq (aJ q h)];exact q};{cases e;rw[dt (by rw[s.len];exact y9 _),s.len,pb]at d;cases d;exact r}};{rw[cF]at j;rcases cm.mp j with z | z;{exact s.apart a z};{rw[cb.mp z];exact λ q=>l (.inr q)}}
def pq{h:Heap}(a:sysModules<h.objs.size):bc h.objs.size [] (h.push %[|28]):=
 %[db _,pv.mpr (hE (cq a)),fT,_,#[],bS _ rfl,%[rfl,rfl|rfl],rfl|rfl]
section
variable{X:Cx}{Γ:Gam}{S:Store}{W:WD}{pos:Pos}
def VF(h:W (.dlo S.length) (S++[[.non]])):Ev X Γ S (.Dict [] [] pos) W:=by intro d s g H O I f e;have b:=I.hok.fresh (y9 s.heap.objs.size);refine wpAny_Dict_empty %[%[|9],_,I.laid (a:=s.heap.objs.size) (o:=.ext (bc s.heap.objs.size [])) (t':=s.toks) (λ _ _ q=>bE _ q) (y9 _) (ig (pq I.big)),rfl|?_];exact%[O.more s.heap.objs.size true,.dlo S.length,S++[[.non]],h,Step.own b _ true,KY e b (.m [] [] rfl aL .nil)|.dlo (by show(O.A++[(s.heap.objs.size,true)])[S.length]? =some (s.heap.objs.size,true);rw[<-e.len];simp) λ c o q=>bX (I.kIn c o q)]
def Vl(hu:X.A.units+60<cLine)(h:Ev X Γ (S++[[.non]]) L λ y S1=>Ev X Γ S1 P λ z S2=>∃c,y=cD c/\S2[S.length]? =some [.non]/\W (.dlo S.length) (S2.set S.length (.non::[((c,z):(Int×List Int)×D)].map encC))):Ev X Γ S (.Dict [some L] [P] pos) W:=by
 intro e s G H O I l N;have J:=I.hok.fresh (y9 s.heap.objs.size);have R:Inv X e G (upd H s.heap.objs.size (.ext (bc s.heap.objs.size []))) {s with heap:=%[|23]}:=I.laid (a:=s.heap.objs.size) (o:=.ext (bc s.heap.objs.size [])) (t':=s.toks) (λ _ _ q=>bE _ q) (y9 _) (ig (pq I.big));have i:=Step.own (O:=O) J (.ext (bc s.heap.objs.size [])) true;have E:StOk X.K (O.more s.heap.objs.size true) (upd H s.heap.objs.size (.ext (bc s.heap.objs.size []))) (S++[[.non]]):=KY N J (.m [] [] rfl aL .nil);have r:(O.more s.heap.objs.size true).A[S.length]? =some (s.heap.objs.size,true):=by show(O.A++[(s.heap.objs.size,true)])[S.length]? =some (s.heap.objs.size,true);rw[<-N.len];simp
 have w:Abv X.K s.heap.objs.size:=λ c o q=>bX (I.kIn c o q);refine wpAny_Dict_any rfl rfl (by simp) (show 1<=15 by decide) ?_;generalize s.heap.objs.size=p at*;refine evalPairs_cons (thn (h e _ G _ _ R (l.mono i) E) λ ku s1 f=>?_);obtain⟨kx,Q,T,rk,U,kd,S1,h1,j,C,t⟩:=f;refine b0 (thn (h1 e s1 G Q U T ((l.mono i).mono j) C) λ F s2 f=>?_);obtain⟨vx,H2,v,rv,O2,vd,S2,⟨c,rfl,hS,hw⟩,k,n,u⟩:=f;refine b0 (wpAny_standAt (b9 (evalPairs_nil ?_)));have d:O2.A[S.length]? =some (p,true):=k.conv.lc _ _ (j.conv.lc _ _ r);obtain⟨hd,mu,ys,eH,kc,Y,hz⟩:=dI (kcs:=[]) v (n.dob _ _ _ d hS);cases kc;have g:=t.mono k;obtain⟨b,rfl⟩:=ir g;obtain rfl:ku=Value.ref b:=rk;unfold storeAll;rw[me];refine b0 (b0 (v7 (c:=c) %[|0] (eY v g rfl) Y hz λ h' tk x B=>b9 ?_));show wpAny _ _ (forIn [] _ _) _ _ _;rw[kU];refine b9 ?_;obtain⟨q,Z,K,g2,g3,g4,_,g5⟩:=x;have V:bc p (storedH [] c b F) h':=%[by rw[ke];show 1<=_;omega,hd,g5,q,Z,K,g2,g3|g4];have M:=Step.put (O:=O2) (H:=H2) (cI d) (.ext (bc p (storedH [] c b F)));exact%[.ref p,upd H2 p (.ext (bc p (storedH [] c b F))),v9 v mu B %[q|K] (ig V),rfl,O2,.dlo S.length,_,hw,((i.trans j).trans k).trans M,n.putO d (.m _ _ rfl aL ((Kcs.put (kcs:=[]) .nil g rv u).conv M.conv))|.dlo d w]
def Rv{W}(r:attributeBase o "items" X.env (eval o X.env)=eval o X.env)(N:(f.endLine==c.line)=true)
 (h:Ev X Γ S o λ d S1=>∃k kvs,d=.dlo k/\S1[k]? =some (.non::List.map encC kvs)/\W (kvs.map encC) (λ S=>S[k]? =some (.non::kvs.map encC)) S1):ItC X Γ S (.Tuple i n Z) (.Call (.Attribute o "items" f) [] [] c) W:=by
 intro m s σ H O I q U;refine nw (T:="dict") (id:="dict.items") r rfl N F.plainAttrs_dict F.slot_dict_items F.type_dict_items (thn (h m s σ H O I q U) λ u s1 v=>?_);obtain⟨x,C,g,R,E,xd,S1,⟨k,kvs,rfl,M,w⟩,y,l,p⟩:=v
 cases p with
 | @dlo a _ B t=>
   obtain rfl:u=Value.ref a:=R;have A:=l.dob k a _ B M;obtain⟨z,V,Y⟩:=A.typ t g;obtain⟨_,mu,ys,eH,Q,⟨oo,es,J,g2,K,L,_,_⟩,hz⟩:=dI g A;refine%[z,V|?_];show wpAny _ _ (callWith c (.builtin "dict.items") [.ref a] [] []) _ _ s1;refine method_meetsIn F.slot_dict_items F.entry_dict_items rfl (pS %[rfl,z,F.args_dict_items_1 _,_,Gf Y,z|?_]);have G:es.size=ys.length:=by rw[<-dA,L,y7]
   refine Ke (d:=a) (es:=es) (ep:=ys.length) (od:=oo) %[_,bS _ rfl,rfl|rfl] (bE _ J) K ?_;have P:=Q.length;rw[G,P];have j:s1.heap.objs.size<=(s1.heap.push {cls:=.type "dict_items",data:=.fields #[.ref a]}).objs.size:=by rw[gl];exact kB _
   refine%[_,[(s1.heap.push {cls:=.type "dict_items",data:=.fields #[.ref a]}).objs.size],_,_,C,rfl,g.kept (t':=s1.toks) (λ b o e=>bE _ (bE _ e)),Kl a _ kvs.length,%[.none,.none|bS _ rfl],λ b r=>?_,E,kvs.map encC,_,S1,w,y,l|Fe B];rw[cb.mp r];exact g.fpOk j (g.hok.fresh j)
end
section
variable{Ω:Wd}
def abp:Ex Ω where
 lev:=0
 chk f N i e:=anB (Q4 e) λ z=>lC z.1 (lC z.2 true)
 wp l S W:=W (.dlo S.length) (S++[[.non]])
 sound:=by intro X r f N i e l S W A m d g;obtain⟨⟨h,k⟩,a,b⟩:=bD d;clear d;obtain⟨j,a⟩:=Jh a;subst a;obtain⟨a,c⟩:=eO b;clear b;have a:h=[]:=a;subst a;obtain⟨a,d⟩:=eO c;clear c;have a:k=[]:=a;subst a;{exact VF g}
def abD(a b:Ex Ω):Ex Ω where
 lev:=max a.lev b.lev
 chk f N k e:=anB (Q4 e) λ z=>dj z.1 λ o=>anB o λ x=>dj z.2 λ y=>a.chk f N k x&&b.chk f N k y
 wp l S W:=a.wp l (S++[[.non]]) λ y m=>b.wp l m λ z n=>∃c,y=cD c/\n[S.length]? =some [.non]/\W (.dlo S.length) (n.set S.length (.non::[((c,z):(Int×List Int)×D)].map encC))
 sound:=by intro X r f N k e l S W A t j u;obtain⟨w,B⟩:=lv2 t;obtain⟨⟨v,E⟩,d,g⟩:=bD j;clear j;obtain⟨C,d⟩:=Jh d;subst d;obtain⟨o,d,h⟩:=eX g;clear g;have d:v=[o]:=d;subst d;obtain⟨x,d,i⟩:=bD h;clear h;subst d;obtain⟨y,d,j⟩:=eX i;clear i;have d:E=[y]:=d;subst d;{refine an2 j λ p s=>?_;exact Vl A.hu ((a.sound A w p u).mono λ y m q=>b.sound A B s q)}
@[irreducible] noncomputable def JQ(Γ:Gam)(tg:Tg)(body:Bl Ω)(W:DL.Fin)(k:Nat)(kvs:Kc)(S1:Store):Prop:=
  ∃c:Nat->Gam->%[|4],c 0 Γ S1/\(∀i a b,c i a b->b[k]? =some (.non::kvs.map encC))/\(∀i e a b,kvs[i]? =some e->c i a b->tg.wp (encC e) a λ d=>body.wp d b {W with nx:=c (i+1),ct:=c (i+1),bk:=W.nx})/\(∀a b,c kvs.length a b->W.nx a b)
def HD{a:Bl Ω}(h:∃Pv:Nat->Gam->%[|4],Pv 0 d b/\(∀i Γ' S',Pv i Γ' S'->S'[k]? =some (.non::kvs.map encC))/\(∀i kv Γ' S',kvs[i]? =some kv->Pv i Γ' S'->c.wp (encC kv) Γ' λ Γ2=>a.wp Γ2 S' {W with nx:=Pv (i+1),ct:=Pv (i+1),bk:=W.nx})/\(∀Γ' S',Pv kvs.length Γ' S'->W.nx Γ' S')):JQ d c a W k kvs b:=by unfold JQ;exact h
def abM(tg:Tg)(o:Ex Ω)(body:Bl Ω):Sm Ω where
 lev:=max o.lev body.lev
 chk c N s H:=frB H λ t G b=>oM G λ x m p z q=>lC z (ww t&&((m==("items":Str))&&(nameE x&&((p.endLine==q.line)&&(tg.chk c N s t&&(o.chk c N s x&&body.chk c N s b))))))
 wp E S W:=o.wp E S λ d w=>match d with
  | .dlo k=>∃a,w[k]? =some (.non::List.map encC a)/\JQ E tg body W k a w
  | _=>False
 sound:=by
  intro X r c N s H E S W A R B U;obtain⟨Y,Z⟩:=lv2 R;refine oW B λ t G b aa C=>?_;refine fX C λ x m p z q g=>?_;obtain⟨y,h⟩:=eO g;clear g;subst y;refine an2 h λ T B=>?_;clear h;obtain⟨z,n,tp,y⟩:=jL T;subst y
  . refine an6 B λ I J K L M O=>?_;have e:=ZU I;subst e;refine Cu (Rv (by cases x<;>first | rfl | exact ff J) K (Ev.mono (o.sound A Y M U) λ d w q=>?_)) (by rw[A.xe];exact md) A.calm (λ _=>rfl)
    cases d with
    | dlo k=>obtain⟨a,Q,q⟩:=q;unfold JQ at q;obtain⟨u,p0,pC,pt,pe⟩:=q;refine%[k,a,rfl,Q,u,p0,pC,λ i d f v P l=>?_|λ f v l=>pe f v (by rw[y7]at l;exact l)];obtain⟨V,D,rfl⟩:=aV P;exact BdW.mono (Tg.sound A (W:=λ j F=>body.wp j F {W with nx:=u (i+1),ct:=u (i+1),bk:=W.nx}) L (pt i V f v D l)) λ j F q=>body.sound A Z O q
    | _=>exact(show False from q).elim
end
end RF
namespace RF
open PySem PySem.Spec L2 DL
open PyProof.Rows
section
variable{P:Program}{w:World}{A:Around}{E:%[|17]}{s:Shared}{d it:Addr}{i ep:Nat}{es:Array DictEntry}{od:Obj}{e:DictEntry}
def DR(f:s.heap.get? d=some od)(b:od.data=.dict es ep)(c:s.heap.IsKeyIter it d i es.size ep)(m:es[i]? =some e)
 (k:∀h',h'.IsKeyIter it d (i+1) es.size ep->Heap.SameBut it s.heap h'->Q (some e.key) %[|15]):wpAny (model P w) A (pyNext (.ref it)) Q E s:=by
 obtain⟨o,j,l,h⟩:=id c;have T:=c.typeIs;have g:Builtin.Dict_items.ownsTuple "dict_keyiterator"=false:=%[|1]
 unfold pyNext;refine b0 (iq (wpAny_callSpecial?_slot (name:=Str.ofString "__next__") T ia (de ia T F.entry_dict_keyiterator_next ?_ (F.args_dict_keyiterator_next_1 _))));refine b0 (b9 (b0 (b0 ?_)));refine b0 (jv T (b9 (b0 (k9 j h ?_))));simp only[g,cw,e7];show wpAny _ _ (if(Value.ref d==Value.none)=true then _ else _) _ _ s;rw[bP (show ¬((Value.ref d==Value.none)=true)from y6)];refine b0 (b9 (b0 (dE f b ?_)));rw[bP (by simp)];refine b0 (b9 (b0 (fI f b ?_)));rw[bP (by simp)];refine b9 ?_;simp only[show ¬((i:Int)<0)from %[|0],e7,e8,m];refine b0 ?_;refine b0 (jv T (b9 (b0 (wpAny_isOneOf_keyiter T ?_))));show wpAny _ _ (setField (.ref it) 1 (rawInt ((i:Int)+1))>>=_) _ _ s;refine b0 (i8 j h (by simp) ?_);have a:(s.heap.update it (Obj.mapFields (·.setIfInBounds 1 (rawInt ((i:Int)+1))))).IsKeyIter it d (i+1) es.size ep:=
  %[_,eR _ j (ol (kg h _)),(Obj.cls_mapFields ..).trans l|by rw[kg h];simp[rawInt]];refine b0 (ed (b0 (wpAny_isOneOf_keyiter (s:={s with heap:=s.heap.update it (Obj.mapFields (·.setIfInBounds 1 (rawInt ((i:Int)+1))))}) a.typeIs ?_)));show wpAny _ _ (pure e.key) _ _ _;exact b9 (b9 %[_,rfl|b9 (k _ a (dS ..))])
def HX(hh:A.handled=none)(f:s.heap.get? d=some od)(c:od.data=.dict es ep)(e:s.heap.IsKeyIter it d i es.size ep)(l:es.size<=i)
 (k:∀h',Heap.ExtBut it s.heap h'->Q none %[|15]):wpAny (model P w) A (pyNext (.ref it)) Q E s:=by
 obtain⟨o,j,n,h⟩:=id e;have T:=e.typeIs;have g:Builtin.Dict_items.ownsTuple "dict_keyiterator"=false:=%[|1]
 unfold pyNext;refine b0 (iq (wpAny_callSpecial?_slot (name:=Str.ofString "__next__") T ia (de ia T F.entry_dict_keyiterator_next ?_ (F.args_dict_keyiterator_next_1 _))));refine b0 (b9 (b0 (b0 ?_)));refine b0 (jv T (b9 (b0 (k9 j h ?_))));simp only[g,cw,e7];show wpAny _ _ (if(Value.ref d==Value.none)=true then _ else _) _ _ s;rw[bP (show ¬((Value.ref d==Value.none)=true)from y6)];refine b0 (b9 (b0 (dE f c ?_)));rw[bP (by simp)];refine b0 (b9 (b0 (fI f c ?_)));rw[bP (by simp)];refine b9 ?_;simp only[show ¬((i:Int)<0)from %[|0],e7,e8,eW l];refine b0 ?_;refine b0 (jv T (b9 ?_));show wpAny _ _ (setField (.ref it) 0 .none>>=_) _ _ s;refine b0 (i8 j h (by simp) ?_);show wpAny _ _ (newExc (.type "StopIteration") []>>=_) _ _ _;refine b0 ?_;simp only[newExc,newTuple];refine b0 (da (b0 (m:=firstArgMember _ _) (nI (a:=Value.none) (by first | rfl | (simp only[firstArgMember];rfl)) (da ?_ (by size_fits)))) (by size_fits));simp only[raiseNew];refine b0 (nV ?_);rw[show A.in1.handled=none from hh];refine b0 (b9 (wpAny_throw ?_));refine b0 (ft (T:="StopIteration") (b:=true) %[_,bS _ rfl|rfl] n3 ?_);exact b9 (k _ (((dS ..).extBut.push _).push _))
def xU(lo:(d==sysModules)=false)(a:s.heap.get? d=some od)(hc:od.ExactDict)(b:od.data=.dict es ep)
 (c:Q %[|9] {s with heap:=s.heap.push {cls:=.type "dict_keyiterator",data:=.fields #[.ref d,.int 0 0,.int es.size 0,.int ep 0]}}):wpAny (model P w) A (pyIter (.ref d)) Q E s:=by have T:s.TypeIs (.ref d) "dict":=%[od,a|hc.1];refine kw T F.slot_dict_iter (de F.slot_dict_iter T F.entry_dict_iter ?_ (F.args_dict_iter_1 _));unfold Builtin.«dict.__iter__»;refine b0 ?_;unfold Builtin.Dict.dictSlotNone;refine b0 (gp T ?_);show wpAny _ _ (pure (Value.ref d)) _ _ s;refine b9 ?_;show wpAny _ _ (Builtin.Dict.showsAll d>>=_) _ _ s;unfold Builtin.Dict.showsAll;rw[bP (by rw[lo];exact y6)];refine b0 (b9 (b0 (dE a b (b0 (fI a b ?_)))));refine b0 (da (b9 %[_,rfl,"dict_keyiterator",_,%[_,bS _ rfl|rfl],ia.lookup|?_]));simpa[rawInt]using c
def DEs(d:Addr)(es:Array DictEntry)(ep:Nat)(h:Heap):Prop:=∃o,h.get? d=some o/\o.ExactDict/\o.data=.dict es ep
theorem Mf(hh:A.handled=none)(I:Addr)(p:d≠I):Walks P w A I [I,d] [I] es.size (λ i v=>∃e,es[i]? =some e/\v=e.key) (λ i h=>h.IsKeyIter I d i es.size ep/\DEs d es ep h) where
 sub:=λ b c=>by simp at c;simp[c]
 frame:=λ _ _ _ st q=>%[st.1.at λ o e=>q I (by simp) o e|let ⟨o,a,k⟩:=st.2;%[o,q d (by simp) o a|k]]
 item:=λ i s Q E t st f=>by obtain⟨o,a,k,l⟩:=st.2;obtain⟨e,r⟩:∃e,es[i]? =some e:=%[es[i]|by simp[t]];exact DR a l st.1 r λ m g j=>f e.key m s.toks %[e,r|rfl] %[g,o,j.extBut d o p a,k|l] λ b o c e=>j.extBut b o (λ h=>c (by simp[h])) e
 done:=λ s Q E st f=>by obtain⟨o,a,k,l⟩:=st.2;exact HX hh a l st.1 (y9 _) λ m n=>f m s.toks λ b o c e=>n b o (λ h=>c (by simp[h])) e
 self:=λ _ _ _ _ st f=>wpAny_pyIter_keyiter st.1 f
theorem Dl(lo:(d==sysModules)=false):PySem.W.KdlSrc P w "dict" d d es.size (λ i v=>∃e,es[i]? =some e/\v=e.key) (DEs d es ep) where
 type:=λ _ ⟨o,g1,g2,_⟩=>%[o,g1|g2.1]
 there:=λ _ ⟨o,g1,_⟩=>%[bX g1|bX g1]
 keep:=λ _ _ ⟨o,g1,g2⟩ c=>%[o,c d (.inl rfl) o g1|g2]
 notList:=%[|1]
 notTuple:=%[|1]
 hint:=λ _ _ _ _ ⟨o,g1,g2,_⟩ a=>PySem.W.kdl_hint_dict %[o,g1|g2.1] a
 iter:=λ _ _ b ⟨o,g1,g2,g3⟩=>%[_,_,(λ _ _ a=>xU lo g1 g2 g3 a),Mf b _ (cq (bX g1))|%[%[_,bS _ rfl,rfl|rfl]|%[o,bE _ g1,g2|g3]]]
def CN(hh:A.handled=none)(lo:(d==sysModules)=false)(p:DEs d es ep s.heap)(G:es.size<=sizeLine)
 (z:∀h' tk,(∀b o,%[|24])->s.heap.objs.size<=h'.objs.size->Q (es.toList.map (·.key)) {s with heap:=h',toks:=tk}):wpAny (model P w) A (collect (.ref d)) Q E s:=by
 have m:d<s.heap.objs.size:=let ⟨_,g,_⟩:=p;bX g;have h:s.heap.objs.size≠d:=fk m;unfold collect;refine b0 (wpAny_runValue (iN F.entry_proto_collect ?_));rw[i9 F.plain_proto_collect _];show wpAny _ A.in1 (newList []>>=λ l=>again (.builtin "list.__iadd__" %[[l,.ref d]|[]])) _ _ s;refine b0 (da ?_);refine b9 %[lp ny _|iN F.entry_list_iadd ?_];rw[i9 ny _];have B:%[|26].get? s.heap.objs.size=some %[|29]:=bS _ rfl;show wpAny _ A.in1 (Builtin.List.listExtendWith %[|9] (.ref d) %[|9]) _ _ _;have k:DEs d es ep %[|26]:=let ⟨o,g1,g2⟩:=p;%[o,bE _ g1|g2];let R:Result->Shared->Prop:=λ r t=>match r with
  | Except.ok (Flow.ret v)=>wpAny (model P w) A (match v with | Value.ref a=>(do let o <-load a;match o.data with | Data.seq xs _=>pure xs.toList | _=>unsupported "internal:collect") | _=>unsupported "internal:collect") Q E t
  | Except.ok _=>False
  | Except.error e=>E e t;refine PySem.W.kdl_extend (R:=R) (s:={s with heap:=%[|26]}) (Dl lo) hh k s.heap.objs.size h h _ 0 B (λ h' tk c H D f hacc=>?_) G;show wpAny (model P w) A (load s.heap.objs.size>>=_) Q E _;refine b0 (wpAny_load f ?_);have y:c.toList=es.toList.map (·.key):=by
  refine gL λ j=>?_;rw[y8,eD,eD];by_cases C:j<es.size
  . have n:j<c.size:=by rw[hacc.1];exact C
    obtain⟨e,u,x⟩:=hacc.2 j c[j] (by simp[n]);rw[u,fw n,x];rfl
  {rw[eW (by rw[hacc.1];omega),eW %[|0]];rfl}
 have i:∀b o,%[|24]:=λ b o q=>D b o (cq (bX q)) (bE _ q);have:=z h' tk i (f7 (bX f));rw[<-y]at this;exact b9 this
end
def Sg(x y:Int)(xs ys:ab1):ltI (x::xs) (y::ys)=if x=y then ltI xs ys else decide (x<y):=by unfold ltI;rw[show decide ((x::xs).length<(y::ys).length)=decide (xs.length<ys.length) by simp];rfl
def wB(xs:ab1):ltI xs []=false:=by unfold ltI;rw[cK (by simp)];cases xs<;>rfl
def Xf (h1:ltI a b=true)(h2:ltI b c=true):ltI a c=true:=by
 induction a generalizing b c with
 | nil=>
   cases c with
   | nil=>rw[wB]at h2;cases h2
   | cons z c=>rfl
 | cons x a f=>
   cases b with
   | nil=>rw[wB]at h1;cases h1
   | cons y b=>
     cases c with
     | nil=>rw[wB]at h2;cases h2
     | cons z c=>rw[Sg]at h1 h2 ⊢;by_cases e:x=y;{subst e;rw[c9 rfl]at h1;by_cases d:x=z;{subst d;rw[c9 rfl]at h2 ⊢;exact f h1 h2};{rw[bP d]at h2 ⊢;exact h2}};{rw[bP e]at h1;have h1:=cy h1;by_cases d:y=z;{subst d;rw[bP e];exact cc h1};{rw[bP d]at h2;have h2:=cy h2;rw[bP %[|0]];exact cc %[|0]}}
def Pa(h1:ltC a b=true)(h2:ltC b c=true):ltC a c=true:=by unfold ltC at*;by_cases e:a.1=b.1;{rw[c9 e]at h1;by_cases d:b.1=c.1;{rw[c9 d]at h2;rw[c9 (e.trans d)];exact Xf h1 h2};{rw[bP d]at h2;rw[bP (by rw[e];exact d),e];exact h2}};{rw[bP e]at h1;have h1:=cy h1;by_cases d:b.1=c.1;{rw[bP (by rw[<-d];exact e),<-d];exact cc h1};{rw[bP d]at h2;have h2:=cy h2;rw[bP %[|0]];exact cc %[|0]}}
def vZ(n:a≠b)(h:ltC a b=false):ltC b a=true:=by
 unfold ltC at*;by_cases c:a.1=b.1
 . rw[c9 c]at h;rw[c9 c.symm]
   cases q:ltI b.2 a.2 with
   | true=>rfl
   | false=>exact absurd (ms c (Ng h q)) n
 {rw[bP c]at h;have h:=mA h;rw[bP (λ z=>c z.symm)];exact cc %[|0]}
structure OdrL(N:Nat)(lt:ad6)(p:ab4):Prop where
 len:p.length=N
 lt_:∀i∈p,i<N
 nd:p.Nodup
 srt:p.Pairwise λ i j=>lt i j=true
def V8(P:Pm N p)(h:Srt n p N):OdrL N n p.toList:=by
 have c:∀a,a<N->p.toList[a]? =some (p.getD a 0):=λ a d=>by
  have:a<p.size:=by rw[P.sz];exact d
  simp[this]
 have m:p.toList.length=N:=by rw[dA,P.sz]
 refine%[m,λ i o=>?_,?_|?_]
 . obtain⟨a,d⟩:=d6 o;have k:a<N:=by rw[<-m];exact(z0.mp d).1
   rw[c a k]at d;cases d;exact P.lt a k
 {refine fx.mpr λ a b d l j e=>?_;have f:=c a %[|0];have g:=c b %[|0];rw[y3 d]at f;rw[y3 l,<-e]at g;have:=P.inj a b %[|0] %[|0] (cf (f.symm.trans g));omega};{refine fx.mpr λ a b d l j=>?_;have f:=c a %[|0];have g:=c b %[|0];rw[y3 d]at f;rw[y3 l]at g;rw[cf f,cf g];exact h a b j %[|0]}
def SM(n:Nat):∀(q:ab4),q.Nodup->(∀i∈q,i<n)->q.length<=n:=by
 induction n with
 | zero=>
   intro q _ h
   cases q with
   | nil=>exact y9 _
   | cons a q=>exact absurd (h a x6) %[|0]
 | succ n f=>
   intro q d h;by_cases c:n∈q
   . have:=f (q.erase n) (d.erase n) λ i b=>by
      have:=h i (List.mem_of_mem_erase b);have:i≠n:=λ e=>by rw[e]at b;exact d.not_mem_erase b
      omega
     rw[kC c]at this;omega
   . have:=f q d λ i b=>by have:=h i b;have:i≠n:=λ e=>c (e▸b);omega
     omega
def Pj(n:Nat):∀(q:ab4),q.Nodup->(∀i∈q,i<n)->q.length=n->q.Perm (List.range n):=by
 induction n with
 | zero=>intro q _ _ f;obtain rfl:=f8 f;exact .nil
 | succ n b=>
   intro q d h f;by_cases c:n∈q
   . have b:=b (q.erase n) (d.erase n) (λ i a=>by
      have:=h i (List.mem_of_mem_erase a);have:i≠n:=λ e=>by rw[e]at a;exact d.not_mem_erase a
      omega) (by rw[kC c];omega);rw[mh];exact(List.perm_cons_erase c).trans ((List.Perm.cons n b).trans (List.perm_append_singleton _ _).symm)
   . have:=SM n q d λ i a=>by have:=h i a;have:i≠n:=λ e=>c (e▸a);omega
     omega
def OdrL.perm(h:OdrL N a p):p.Perm (List.range N):=Pj N p h.nd h.lt_ h.len
def range_getD{a:Type}(l:List a)(z:a):((List.range l.length).map λ i=>l.getD i z)=l:=by refine gL λ i=>?_;rw[y8];by_cases b:i<l.length;{simp[b]};{rw[fS (by rw[ic];omega),fS %[|0]];rfl}
section
variable{K:PySem.W.Frag}{O:Own}{H:Hp}
def rJ{kcs:Kc}(r:Kcs K O H ys (kcs.map encC)):ys.map (·.1)=kcs.map (·.1):=by
 induction kcs generalizing ys with
 | nil=>cases r;rfl
 | cons d kcs a=>obtain⟨b,u,v,c,rfl,_,_,_,t⟩:=r.inv;rw[cn,cn,a t]
def uN{kcs:Kc}(r:Kcs K O H ys (kcs.map encC)):∀(i:Nat)(y:ad2),ys[i]? =some y->Rep K O H (.ref y.2.1) (cD y.1):=by
 induction kcs generalizing ys with
 | nil=>cases r;intro i y h;simp at h
 | cons e kcs a=>
   obtain⟨b,u,v,d,rfl,c,_,_,t⟩:=r.inv;intro i y h
   cases i with
   | zero=>cases h;exact c
   | succ i=>exact a t i y (by simpa using h)
def Sh(b:a.length=ds.length)(h:∀(i:Nat)(v:V)(d:D),a[i]? =some v->ds[i]? =some d->Rep K O H v d):Reps K O H a ds:=by
 induction a generalizing ds with
 | nil=>
   cases ds with
   | nil=>exact .nil
   | cons=>cases b
 | cons v a g=>
   cases ds with
   | nil=>cases b
   | cons d ds=>exact .cons (h 0 v d rfl rfl) (g (by simpa using b) λ i j c e f=>h (i+1) j c (by simpa using e) (by simpa using f))
def Us(c:b.length=a.length)(h:∀(i:Nat)(v:V)(u:Value),b[i]? =some v->a[i]? =some u->L2.RelV v u):Vals b a:=by
 induction b generalizing a with
 | nil=>
   cases a with
   | nil=>exact .nil
   | cons=>cases c
 | cons v b g=>
   cases a with
   | nil=>cases c
   | cons u a=>exact .cons (h 0 v u rfl rfl) (g (by simpa using c) λ i j d e f=>h (i+1) j d (by simpa using e) (by simpa using f))
end
section
variable{P:Program}{w:World}{A:Around}{E:%[|17]}{s:Shared}{a b:Addr}{ya yb:Cy}{e:Nat -> Bool}
def TQ(A:ad0)(s:ab5)(ya yb:Cy)(e:Nat->Bool):Prop:=∀(i:Nat)(y:ad2),ya[i]? =some y->(atKey yb y.1=none/\e i=false)\/∃p,atKey yb y.1=some p/\SeqAt.EqAt A s y.2.2 p.2 (e i)
def R6(la:(a==sysModules)=false)(lb:(b==sysModules)=false)(hu:A.units+5<cLine)(W:CelM P w s.heap a ya)(X:CelM P w s.heap b yb)(k:TQ A s ya yb e)
 (h:Q (ya.length==yb.length&&(List.range ya.length).all e) s):wpAny (model P w) A (Builtin.Dict.samePairs nm a b) Q E s:=by
 obtain⟨oa,c,C,_,D,O,Z,g6⟩:=W;obtain⟨ob,l,J,_,K,L,k5,S⟩:=X;have U:c.size=ya.length:=size_of_entries O;have V:l.size=yb.length:=size_of_entries L;unfold Builtin.Dict.samePairs Builtin.Dict.showsAll;rw[bP (show ¬(a==sysModules)=true by rw[la];exact y6),bP (show ¬(b==sysModules)=true by rw[lb];exact y6)];refine b0 (b9 (b0 (b9 (b0 (dE C D ?_)))));dsimp only;refine b0 (dE J K ?_);by_cases g:c.size=l.size;case neg=>rw[c9 (by simpa using g)];rw[show(ya.length==yb.length)=false by rw[<-U,<-V];simpa using g,Bool.false_and]at h;exact b0 (iF (b9 h))
 case pos =>
  rw[show(ya.length==yb.length)=true by rw[<-U,<-V,g];exact fq _,i6]at h;rw[bP (by rw[g];simp)];refine b0 (fI C D (b0 ?_));rw[lS];simp only[Std.Legacy.Range.size,Nat.sub_zero,Nat.add_sub_cancel,Nat.div_one];refine gd _ (λ f q B=>B=s/\q=(none,())/\∃i,f=List.range' i (c.size-i)/\i<=c.size/\∀j,j<i->e j=true) _ ?_ ?_ _ _ %[rfl,rfl,0,by simp,db _|λ j G=>by omega]
  . rintro x f q B ⟨rfl,rfl,i,m,hi,d⟩;have H:i<c.size:=by rcases Nat.lt_or_ge i c.size with h | h;{exact h};{rw[Nat.sub_eq_zero_of_le h]at m;simp at m}
    obtain⟨rfl,n⟩:x=i/\f=List.range' (i+1) (c.size-(i+1)):=by rw[show c.size-i=(c.size-(i+1))+1 by omega,l8]at m;injection m with h1 h2;exact%[h1|h2]
    have v:ya[x]? =some (ya[x]'%[|0]):=y3 %[|0];generalize (ya[x]'%[|0])=y at v;have hx:c[x]? =some (entryOfKey (bG P w) y):=by rw[entry_at O,v];rfl
    have M:(bG P w).is B.heap y.1 y.2.1:=Z y (y4 v);have T:e x=false->Q false B:=λ F=>by
     have:(List.range ya.length).all e=false:=by rw[List.all_eq_false];exact%[x,dV.mpr %[|0]|by rw[F];exact y6]
     rw[this]at h;exact h
    refine b0 (dE C D ?_);rw[hx];show wpAny _ _ (holding [Value.ref y.2.1,y.2.2] _>>=_) _ _ _;refine b0 (ed (b0 (wpAny_dictFind_heap (knd:=bG P w) (show A.units+5<cLine from hu) M J K L k5 S (λ o=>?_) λ j p r=>?_)));{have Y:=atKey_none_of_get o;rcases k x y v with⟨_,F⟩ | ⟨p,u,_⟩;{refine b9 ?_;show wpAny _ _ (if(!false)=true then _ else _) _ _ _;rw[c9 %[|1]];exact b9 (b9 (T F))};{rw[Y]at u;cases u}}
    . have N:=atKey_of_get S r;rcases k x y v with⟨R,_⟩ | ⟨p',u,he⟩;{rw[N]at R;cases R}
      . rw[N]at u;cases u;have I:l[j]? =some (entryOfKey (bG P w) (y.1,p)):=by rw[entry_at L,r];rfl
        refine b0 (dE J K ?_);rw[I];refine ed (he P w _ _ ?_)
        cases t:e x with
        | false=>show wpAny _ _ (if(!false)=true then _ else _) _ _ _;rw[c9 %[|1]];exact b9 (b9 (T t))
        | true=>show wpAny _ _ (if(!true)=true then _ else _) _ _ _;rw[bP %[|1]];refine b0 (fI C D ?_);rw[bP (by simp)];refine b9 %[rfl,rfl,x+1,n,H|λ j G=>?_];rcases Nat.lt_or_ge j x with z | z;{exact d j z};{rw[show j=x by omega];exact t}
  . rintro q B ⟨rfl,rfl,i,m,hi,d⟩;have aa:i=c.size:=by rcases Nat.lt_or_ge i c.size with h | h;{rw[show c.size-i=(c.size-(i+1))+1 by omega,l8]at m;cases m};{omega}
    refine b9 ?_;rw[show(List.range ya.length).all e=true by rw[gc];exact λ j G=>d j (by have:=dV.mp G;omega)]at h;exact h
def XD(j:(a==sysModules)=false)(k:(b==sysModules)=false)(l:A.units+6<cLine)(g:CelM P w s.heap a ya)(i:CelM P w s.heap b yb)(c:TQ A.in1 s ya yb e)
 (h:Q (.bool (ya.length==yb.length&&(List.range ya.length).all e)) s):wpAny (model P w) A (compareOp .Eq (.ref a) (.ref b)) Q E s:=by have d:=g.of.typeIs;have f:=i.of.typeIs;refine wpAny_richCompare_same_room (op:=.Eq) d f PySem.F.slot_dict_eq (de PySem.F.slot_dict_eq d PySem.F.entry_dict_eq ?_ (PySem.F.args_dict_eq_2 _ _)) %[|0];show wpAny _ _ (Builtin.Dict.dictSlotArgs "__eq__" %[[.ref a,.ref b]|[]]>>=_) _ _ s;refine b0 ?_;unfold Builtin.Dict.dictSlotArgs;refine b0 (gp d ?_);show wpAny _ _ (pure (Value.ref a,Value.ref b)) _ _ s;refine b9 (b0 (ft (T:="dict") f PySem.F.sub_dict_dict ?_));simp only[fh,cw,e7];refine b0 (b9 (b0 (b9 (b0 (R6 j k (by show A.units+1+5<cLine;omega) g i c ?_)))));refine b9 %[_,rfl,(λ x=>nomatch x)|?_];simpa using h
end
def aaX(ka:Kc):Prop:=∀kv∈ka,okD kv.2=true/\deep kv.2<=50
variable{Ω:Wd}
def Grt(i:Int):Prop:=i.natAbs<2 ^ 100000
def Dg(h:Grt i):Builtin.Int.intBits i<=100000:=by
 unfold Grt at h;unfold Builtin.Int.intBits;split;{exact db _}
 . have:i.natAbs.log2<100000:=by rcases Nat.eq_zero_or_pos i.natAbs with a | b;{rw[a];decide};{exact(Nat.log2_lt (fk b)).mpr h}
   omega
def abu(a b:Ex Ω):Ex Ω where
 lev:=max a.lev b.lev
 chk c N d e:=match e with | .BinOp l o r _=>(o==.Mult)&&(a.chk c N d l&&b.chk c N d r) | _=>false
 wp f S W:=a.wp f S λ x h=>b.wp f h λ y k=>match x,y with
  | .int i,.int j=>(Grt i/\Grt j)/\W (.int (i*j)) k
  | _,_=>False
 sound:=by
  intro X r c N d e f S W A s hc t;obtain⟨u,v⟩:=lv2 s
  cases e with
  | BinOp l o z w=>refine an3 hc λ m n p=>?_;have e:o=.Mult:=ZU m;subst e;refine tX ((a.sound A u n t).mono λ x h q=>(b.sound A v p q).mono λ y k q=>?_);split at q;{exact ie (C:=λ i j=>Grt i/\Grt j) (g:=λ i j=>i*j) (opI λ i j _ _ _ _ _ hc q=>mul_int q (mulOk_of_bits (Dg hc.1) (Dg hc.2) %[|1])) q.1 q.2};{exact(show False from q).elim}
  | _=>exact fE hc
end RF
namespace RF
open PySem PySem.Spec L2 DL
section
open SetTable
def adv(m:Nat)(p:Probe):Probe:=if p.more>0 then{p with j:=p.j+1,more:=p.more-1}else{p with j:=%[|21].1,more:=runEnd m %[|21].1-%[|21].1,i:=%[|21].1,perturb:=%[|21].2}
def adN(m:Nat):Nat->Probe->Probe
 | 0,p=>p
 | n+1,p=>adN m n (adv m p)
def fV(m a b:Nat)(p:Probe):adN m (a+b) p=adN m b (adN m a p):=by
 induction a generalizing p with
 | zero=>rw[mE];rfl
 | succ a c=>rw[Nat.succ_add];exact c _
def RT(m a:Nat)(p:Probe):adN m (a+1) p=adv m (adN m a p):=fV m a 1 p
def nj(m n:Nat)(p:Probe):(adN m n p).dummy=p.dummy:=by
 induction n generalizing p with
 | zero=>rfl
 | succ n a=>show(adN m n (adv m p)).dummy=_;rw[a];unfold adv;split<;>rfl
def lpN(m:Nat):Nat->Nat×Nat->Nat×Nat
 | 0,q=>q
 | n+1,q=>lpN m n (leap m q.1 q.2)
def HH(m a b:Nat)(q:Nat×Nat):lpN m (a+b) q=lpN m b (lpN m a q):=by
 induction a generalizing q with
 | zero=>rw[mE];rfl
 | succ a c=>rw[Nat.succ_add];exact c _
def Aq(m i:Nat):runEnd m i-i<=9:=by unfold runEnd;split<;>omega
def Et(m:Nat):∀(r:Nat)(p:Probe),p.more=r->(adN m (r+1) p).j=%[|21].1/\(adN m (r+1) p).i=%[|21].1/\(adN m (r+1) p).perturb=%[|21].2/\(adN m (r+1) p).more<=9:=by
 intro r
 induction r with
 | zero=>
   intro p h;have e:adN m 1 p=adv m p:=rfl;have b:adv m p={p with j:=%[|21].1,more:=runEnd m %[|21].1-%[|21].1,i:=%[|21].1,perturb:=%[|21].2}:=by unfold adv;rw[bP %[|0]]
   rw[mE,e,b];exact%[rfl,rfl,rfl|Aq _ _]
 | succ r c=>
   intro p h;have e:adv m p={p with j:=p.j+1,more:=p.more-1}:=by unfold adv;rw[c9 %[|0]]
   have:=c (adv m p) (by rw[e];show p.more-1=r;omega);rw[e]at this;have a:adN m (r+1+1) p=adN m (r+1) (adv m p):=rfl;rw[a,e];exact this
def Px(m:Nat):∀(k:Nat)(p:Probe),p.more<=9->∃n,n<=10*(k+1)/\(adN m n p).j=(lpN m (k+1) (p.i,p.perturb)).1:=by
 intro k
 induction k with
 | zero=>intro p h;exact%[p.more+1,%[|0]|(Et m _ p rfl).1]
 | succ k d=>intro p h;obtain⟨f,a,b,c⟩:=Et m _ p rfl;obtain⟨n,g,e⟩:=d (adN m (p.more+1) p) c;refine%[p.more+1+n,%[|0]|?_];rw[fV,e,a,b];rfl
def lc(m i:Nat):Nat:=(i*5+1) % (m+1)
def lcN(m:Nat):Nat->Nat->Nat
 | 0,i=>i
 | n+1,i=>lcN m n (lc m i)
def wJ(m a b i:Nat):lcN m (a+b) i=lcN m b (lcN m a i):=by
 induction a generalizing i with
 | zero=>rw[mE];rfl
 | succ a c=>rw[Nat.succ_add];exact c _
def HS(m:Nat):∀(n i:Nat),lpN m n (i,0)=(lcN m n i,0):=by
 intro n
 induction n with
 | zero=>intro i;rfl
 | succ n a=>intro i;show lpN m n ((i*5+1+0/32) % (m+1),0/32)=_;rw[Nat.zero_div,Nat.add_zero];exact a _
def SN(m:Nat):∀(n:Nat)(q:Nat×Nat),(lpN m n q).2=q.2/32 ^ n:=by
 intro n
 induction n with
 | zero=>intro q;rw[Nat.pow_zero,Nat.div_one];rfl
 | succ n a=>intro q;show(lpN m n (leap m q.1 q.2)).2=_;rw[a];show q.2/32/32 ^ n=_;rw[Nat.div_div_eq_div_mul,Nat.pow_succ,mx]
def Ud(m:Nat):∀(n:Nat)(q:Nat×Nat),(lpN m (n+1) q).1<=m:=by
 intro n
 induction n with
 | zero=>intro q;exact kQ (po _ %[|0])
 | succ n a=>intro q;exact a _
def orb(m:Nat):Nat->Nat->List Nat
 | 0,_=>[]
 | n+1,i=>i::orb m n (lc m i)
def Xu(m:Nat):∀(n i k:Nat),k<n->(orb m n i)[k]? =some (lcN m k i):=by
 intro n
 induction n with
 | zero=>intro i k h;omega
 | succ n a=>
   intro i k h
   cases k with
   | zero=>rfl
   | succ k=>exact a _ k %[|0]
def Wc(m:Nat):∀(n i:Nat),(orb m n i).length=n:=by
 intro n
 induction n with
 | zero=>intro i;rfl
 | succ n a=>intro i;show(orb m n _).length+1=_;rw[a]
def cJ(m:Nat):Bool:=((List.range (m+1)).all λ e=>(orb m (m+1) 0).elem e)&&(lcN m (m+1) 0==0)
def Dr(h:cJ m=true)(o:x<=m)(n:e<=m):∃k,k<=m/\lcN m k x=e:=by
 unfold cJ at h;rw[fg,gc]at h;obtain⟨j,f⟩:=h;have f:lcN m (m+1) 0=0:=by simpa using f
 have c:∀y,y<=m->∃a,a<=m/\lcN m a 0=y:=λ y q=>by have g:=j y (dV.mpr %[|0]);have g:y∈orb m (m+1) 0:=List.elem_iff.mp g;obtain⟨a,d⟩:=d6 g;have i:=(z0.mp d).1;rw[Wc]at i;rw[Xu m _ _ _ i]at d;exact%[a,%[|0]|cf d]
 obtain⟨a,d,rfl⟩:=c x o;obtain⟨b,p,rfl⟩:=c e n;by_cases l:a<=b;{refine%[b-a,%[|0]|?_];rw[<-wJ,show a+(b-a)=b from %[|0]]};{refine%[m+1-a+b,%[|0]|?_];rw[<-wJ,show a+(m+1-a+b)=m+1+b from %[|0],wJ,f]}
def aaR:cJ 7=true:=%[|11]
def Zz:cJ 15=true:=%[|11]
def TY:cJ 31=true:=%[|11]
def Tq:cJ 63=true:=%[|11]
def M4:cJ 127=true:=%[|11]
def LK:cJ 255=true:=%[|11]
def Qm(h:cJ m=true)(f:p.more<=9)(i:p.perturb<2 ^ 64)(g:e<=m):∃n,n<10*turns m/\(adN m n p).j=e:=by
 have a:(lpN m 13 (p.i,p.perturb)).2=0:=by rw[SN];exact Nat.div_eq_of_lt (oT i %[|1])
 have l:=Ud m 12 (p.i,p.perturb);obtain⟨k,o,c⟩:=Dr h l g;obtain⟨n,q,d⟩:=Px m (12+k) p f;refine%[n,by unfold turns;omega|?_];rw[d,show 12+k+1=13+k from %[|0],HH];have b:lpN m 13 (p.i,p.perturb)=((lpN m 13 (p.i,p.perturb)).1,0):=ms rfl a;rw[b,HS];exact c
def QX{ps:ab4}(o:ps.Pairwise (· <·)):∀(c lo hi:Nat),hi<=ps.length->lo<=hi->hi-lo<=c->(∀k x,ps[k]? =some x->k<lo->x<j)->(∀k x,ps[k]? =some x->hi<=k->j<=x)->below.go ps.toArray j c lo hi<=ps.length/\(∀k x,ps[k]? =some x->k<below.go ps.toArray j c lo hi->x<j)/\(∀k x,ps[k]? =some x->below.go ps.toArray j c lo hi<=k->j<=x):=by
 intro c
 induction c with
 | zero=>
   intro lo hi f q r a b;have:lo=hi:=%[|0]
   subst this;exact%[f,a|b]
 | succ c n=>
   intro lo hi f q r a b;by_cases e:lo<hi
   . have g:(lo+hi)/2<ps.length:=%[|0]
     have m:ps[(lo+hi)/2]? =some ps[(lo+hi)/2]:=y3 g;have p:ps.toArray.getD ((lo+hi)/2) j=ps[(lo+hi)/2]:=by simp[Array.getD,g]
     have i:below.go ps.toArray j (c+1) lo hi=if ps[(lo+hi)/2]<j then below.go ps.toArray j c ((lo+hi)/2+1) hi else below.go ps.toArray j c lo ((lo+hi)/2):=by
      conv=>lhs;unfold below.go
      rw[c9 e];show(if ps.toArray.getD ((lo+hi)/2) j<j then _ else _)=_;rw[p]
     rw[i];by_cases l:ps[(lo+hi)/2]<j;{rw[c9 l];refine n ((lo+hi)/2+1) hi f %[|0] %[|0] (λ k x d s=>?_) b;by_cases h:k=(lo+hi)/2;{subst h;rw[m]at d;rw[<-cf d];exact l};{have hk2:=(z0.mp d);have:=fx.mp o k ((lo+hi)/2) hk2.1 g %[|0];have:=hk2.2;omega}};{rw[bP l];refine n lo ((lo+hi)/2) %[|0] %[|0] %[|0] a (λ k x d s=>?_);by_cases h:k=(lo+hi)/2;{subst h;rw[m]at d;rw[<-cf d];omega};{have hk2:=(z0.mp d);have:=fx.mp o ((lo+hi)/2) k g hk2.1 %[|0];have:=hk2.2;omega}}
   . have:lo=hi:=%[|0]
     subst this;have i:below.go ps.toArray j (c+1) lo lo=lo:=by unfold below.go;rw[bP e]
     rw[i];exact%[f,a|b]
def rF{ps:ab4}(b:ps.Pairwise (· <·))(j:Nat):below ps.toArray j<=ps.length/\(∀k x,ps[k]? =some x->k<below ps.toArray j->x<j)/\(∀k x,ps[k]? =some x->below ps.toArray j<=k->j<=x):=by unfold below;have e:ps.toArray.size=ps.length:=rfl;rw[e];refine QX b _ 0 _ (y9 _) %[|0] %[|0] (λ k x _ h=>by omega) (λ k x a h=>?_);have:=(z0.mp a).1;omega
def below_at{ps:ab4}(b:ps.Pairwise (· <·))(h:ps[i]? =some j):below ps.toArray j=i:=by
 obtain⟨f,c,d⟩:=rF b j;generalize below ps.toArray j=r at*;have hi:=z0.mp h;have g:¬i<r:=λ z=>by have:=c i j h z;omega
 by_cases e:r=i;{exact e}
 . have a:r<ps.length:=by have:=hi.1;omega
   have:=fx.mp b r i a hi.1 %[|0];have:=d r _ (y3 a) (y9 _);have:=hi.2;omega
def ao(m:Nat)(ps:ab4)(f:Nat)(led:Bool)(mv:Nat)(pl:Bool):SetTable:={mask:=m,place:=ps.toArray,dummies:=#[],finger:=f,led:=led,moves:=mv,plain:=pl}
section
variable{m f mv:Nat}{ps:List Nat}{led pl:Bool}
def vg(a:ps.Pairwise (· <·))(h:ps[i]? =some j):%[|16].slot j=.live i:=by
 unfold slot ao;simp only[below_at a h];have:ps.toArray[i]? =some j:=by simpa using h
 rw[this];simp
def Hu(h:j∉ps):%[|16].slot j=.empty:=by
 unfold slot ao;have n:¬(ps.toArray[below ps.toArray j]? =some j):=λ e=>h (by
  have e:ps[below ps.toArray j]? =some j:=by simpa using e
  exact y4 e);have a:((ps.toArray[below ps.toArray j]?)==some j)=false:=by simpa using n
 simp only[a];rfl
def Zc :∀(c N:Nat)(p:Probe),p.dummy=none->N<c->t.slot (adN t.mask N p).j=.empty->(∀k,t.slot (adN t.mask k p).j≠.dummy)->
 ∃ n,n<=N/\(∀k,k<n->∃i,t.slot (adN t.mask k p).j=.live i/\hs i≠h)/\
   ((t.slot (adN t.mask n p).j=.empty/\probe.go t hs h c p=some (.empty (adN t.mask n p).j none))\/∃i,t.slot (adN t.mask n p).j=.live i/\hs i=h/\probe.go t hs h c p=some (.candidate (adN t.mask n p).j i (adN t.mask (n+1) p))):=by
 intro c
 induction c with
 | zero=>intro N p _ h;omega
 | succ c r=>
   intro N p l s g d
   cases q:t.slot p.j with
   | empty=>refine%[0,%[|0],λ k m=>by omega|.inl %[q|?_]];unfold probe.go;rw[q,l];rfl
   | dummy=>exact absurd q (d 0)
   | live i=>
     by_cases e:hs i=h;{refine%[0,%[|0],λ k m=>by omega|.inr %[i,q,e|?_]];unfold probe.go;rw[q];simp only[e,fq,ij];rfl}
     . cases N with
       | zero=>rw[show adN t.mask 0 p=p from rfl,q]at g;cases g
       | succ N=>
         have f:(adv t.mask p).dummy=none:=by rw[<-l];exact nj t.mask 1 p
         obtain⟨n,u,a,b⟩:=r N (adv t.mask p) f %[|0] g λ k=>d (k+1);have o:probe.go t hs h (c+1) p=probe.go t hs h c (adv t.mask p):=by
          conv=>lhs;unfold probe.go
          rw[q];simp only[show(hs i==h)=false from by simpa using e];rfl
         refine%[n+1,%[|0],λ k m=>?_|?_]
         . cases k with
           | zero=>exact%[i,q|e]
           | succ k=>exact a k %[|0]
         {rw[o];exact b}
end
end
variable{m:Nat}
section
open SetTable
def stP(m:Nat)(h:Int):Probe:={j:=bits h % (m+1),more:=runEnd m (bits h % (m+1))-bits h % (m+1),i:=bits h % (m+1),perturb:=bits h,dummy:=none}
def Lf(t:SetTable)(h:Int):t.probeStart h=stP t.mask h:=rfl
def au(m:Nat)(h:Int)(n:Nat):Nat:=(adN m n (stP m h)).j
def Hx(h:Int):bits h<2 ^ 64:=by unfold bits;have a:=pu h (b:=2 ^ 64) %[|1];have c:=mI h (b:=2 ^ 64) %[|1];omega
def nZ(h:i<=m):i<=runEnd m i/\runEnd m i<=m:=by unfold runEnd;split<;>omega
structure PIn(m:Nat)(p:Probe):Prop where
 jm:p.j+p.more<=m
 m9:p.more<=9
 pt:p.perturb<2 ^ 64
def MJ(m:Nat)(h:Int):PIn m (stP m h):=by have a:bits h % (m+1)<=m:=kQ (po _ %[|0]);have:=nZ a;exact%[by show bits h % (m+1)+(runEnd m (bits h % (m+1))-bits h % (m+1))<=m;omega,Aq _ _|Hx h]
def Xx(h:PIn m p):PIn m (adv m p):=by unfold adv;split;{exact%[by show p.j+1+(p.more-1)<=m;have:=h.jm;omega,by show p.more-1<=9;have:=h.m9;omega|h.pt]};{have a:%[|21].1<=m:=kQ (po _ %[|0]);have:=nZ a;exact%[by show%[|21].1+(runEnd m %[|21].1-%[|21].1)<=m;omega,Aq _ _|kH (mi _ _) h.pt]}
def WW:∀(n:Nat){p:Probe},PIn m p->PIn m (adN m n p):=by
 intro n
 induction n with
 | zero=>intro p h;exact h
 | succ n a=>intro p h;exact a (Xx h)
def Nr(m:Nat)(h:Int)(n:Nat):au m h n<=m:=by have:=(WW n (MJ m h)).jm;unfold au;omega
def OJ{l:ab4}(nd:l.Nodup):∀{U:ab4},(∀x∈l,x∈U)->l.length<=U.length:=by
 induction l with
 | nil=>intro U _;exact db _
 | cons a l d=>intro U h;rw[fe]at nd;have b:=h a x6;have:=d nd.2 (U:=U.erase a) λ x c=>(List.mem_erase_of_ne (λ e:x=a=>nd.1 (e▸c))).mpr (h x (x4 _ c));rw[kC b]at this;have:0<U.length:=List.length_pos_of_mem b;rw[dQ];omega
def wL{ps:ab4}(b:ps.length<=m):∃e,e<=m/\e∉ps:=by
 by_cases h:∃e,e<=m/\e∉ps;{exact h}
 . have:=OJ (oi (n:=m+1)) (U:=ps) λ x a=>by have a:=dV.mp a;by_cases e:x∈ps;{exact e};{exact absurd %[x,%[|0]|e] h}
   rw[ic]at this;omega
def Rc(g:cJ m=true){ps:ab4}(f:ps.length<=m)(a:PIn m p):∃N,N<10*turns m/\(adN m N p).j∉ps:=by obtain⟨e,d,h⟩:=wL f;obtain⟨N,b,c⟩:=Qm g a.m9 a.pt d;exact%[N,b|by rw[c];exact h]
structure Tab(m:Nat)(hs:ab1)(ps:ab4):Prop where
 len:hs.length=ps.length
 up:ps.Pairwise (· <·)
 le:∀j∈ps,j<=m
 way:∀q∈hs.zip ps,∃n,au m q.1 n=q.2/\∀k,k<n->au m q.1 k∈ps
def Tab.nil(m:Nat):Tab m [] []:=%[rfl,List.Pairwise.nil,(λ _ h=>nomatch h)|(λ _ h=>nomatch h)]
def ins{α:Type}(p:Nat)(x:α)(l:List α):List α:=l.take p++x::l.drop p
def nU(p:Nat)(x:a)(l:List a):(ins p x l).Perm (x::l):=by unfold ins;refine List.perm_middle.trans ?_;rw[gt]
def pD{l:List a}:y∈ins p x l↔y=x\/y∈l:=by rw[(nU p x l).mem_iff,ci]
def pJ(p:Nat)(x:a)(l:List a):(ins p x l).length=l.length+1:=(nU p x l).length_eq
def Wg(p:Nat)(a:c)(b:d)(l:List c)(k:List d)(h:l.length=k.length):(ins p a l).zip (ins p b k)=ins p (a,b) (l.zip k):=by
 unfold ins;have e:(l.zip k).take p=(l.take p).zip (k.take p):=by unfold List.zip;exact List.take_zipWith ..
 have f:(l.zip k).drop p=(l.drop p).zip (k.drop p):=by unfold List.zip;exact List.drop_zipWith ..
 rw[List.zip_append (by rw[ej,ej,h]),pV,e,f]
def Tab.put(T:Tab m hs ps)(x:au m h n∉ps)(w:∀k,k<n->au m h k∈ps):Tab m (ins (below ps.toArray (au m h n)) h hs) (ins (below ps.toArray (au m h n)) (au m h n) ps):=by obtain⟨z,t,s⟩:=rF T.up (au m h n);refine%[by rw[pJ,pJ,T.len],?_,λ j p=>?_|λ q l=>?_];{generalize below ps.toArray (au m h n)=r at*;unfold ins;rw[List.pairwise_append];refine%[List.Pairwise.sublist (kN _ _) T.up,?_|λ a v b f=>?_];{rw[List.pairwise_cons];refine%[λ b f=>?_|List.Pairwise.sublist (List.drop_sublist _ _) T.up];obtain⟨i,c⟩:=d6 f;rw[List.getElem?_drop]at c;have:=s _ _ c %[|0];have:b≠au m h n:=λ e=>x (e▸y4 c);omega};{obtain⟨i,c⟩:=d6 v;rw[g7]at c;split at c;{rename_i o;have u:=t _ _ c o;rw[ci]at f;rcases f with rfl | f;{exact u};{obtain⟨A,g⟩:=d6 f;rw[List.getElem?_drop]at g;have:=s _ _ g %[|0];omega}};{cases c}}};{rcases pD.mp p with rfl | p;{exact Nr _ _ _};{exact T.le j p}};{rw[Wg _ _ _ _ _ T.len]at l;rcases pD.mp l with rfl | l;{exact%[n,rfl|λ k d=>pD.mpr (.inr (w k d))]};{obtain⟨y,e,a⟩:=T.way q l;exact%[y,e|λ k d=>pD.mpr (.inr (a k d))]}}
def wk(m:Nat):∀(r:Nat)(p:Probe),r<=p.more->(adN m r p).j=p.j+r/\(adN m r p).more=p.more-r/\(adN m r p).i=p.i/\(adN m r p).perturb=p.perturb:=by
 intro r
 induction r with
 | zero=>intro p _;exact%[rfl,rfl,rfl|rfl]
 | succ r g=>
   intro p h;have e:adv m p={p with j:=p.j+1,more:=p.more-1}:=by unfold adv;rw[c9 %[|0]]
   have f:adN m (r+1) p=adN m r (adv m p):=rfl;obtain⟨a,b,c,d⟩:=g (adv m p) (by rw[e];show r<=p.more-1;omega);rw[f,a,b,c,d,e];exact%[by show p.j+1+r=_;omega,by show p.more-1-r=_;omega,rfl|rfl]
def QS:adN m (p.more+1) p={j:=%[|21].1,more:=runEnd m %[|21].1-%[|21].1,i:=%[|21].1,perturb:=%[|21].2,dummy:=p.dummy}:=by obtain⟨a,b,c,d⟩:=wk m p.more p (y9 _);have e:=nj m p.more p;rw[RT];unfold adv;rw[bP (by rw[b];omega),c,d,e]
def KD:(∀k,(List.range n).find? q=some k->k<n/\q k=true/\∀i,i<k->q i=false)/\((List.range n).find? q=none->∀i,i<n->q i=false):=by
 constructor
 . intro k h;obtain⟨g,d,f,e,j⟩:=List.find?_eq_some_iff_append.mp h;have c:k∈List.range n:=by rw[e];simp
   refine%[dV.mp c,g|λ i b=>?_];have a:i∈List.range n:=dV.mpr (by have:=dV.mp c;omega);have pw:(d++k::f).Pairwise (· <·):=by rw[<-e];exact List.pairwise_lt_range
   rw[e]at a;rcases cm.mp a with a | a;{have:=j i a;simpa using this};{rw[List.pairwise_append,List.pairwise_cons]at pw;rcases ci.mp a with rfl | a;{omega};{have:=pw.2.1.1 i a;omega}}
 {intro h i b;have:=gx.mp h i (dV.mpr b);simpa using this}
def Uj {J:ab4}(t:∀j,j<=m->((f.getD j (some 0)).isNone=true↔j∉J)):∀(c k i d:Nat),i<=m->k<c->(lpN m k (i,d)).1∉J->∃n,layClean.free m f c i d=some (adN m n {j:=i,more:=runEnd m i-i,i:=i,perturb:=d,dummy:=none}).j/\(adN m n {j:=i,more:=runEnd m i-i,i:=i,perturb:=d,dummy:=none}).j∉J/\∀a,a<n->(adN m a {j:=i,more:=runEnd m i-i,i:=i,perturb:=d,dummy:=none}).j∈J:=by
 intro c
 induction c with
 | zero=>intro k i d _ h;omega
 | succ c H=>
   intro k i d y K w;have L:=nZ y;obtain⟨C,D⟩:=KD (n:=runEnd m i+1-i) (q:=λ k=>(f.getD (i+k) (some 0)).isNone);have l:∀a,a<runEnd m i+1-i->(f.getD (i+a) (some 0)).isNone=false->(adN m a {j:=i,more:=runEnd m i-i,i:=i,perturb:=d,dummy:=none}).j∈J:=by intro a G x;have:=(wk m a {j:=i,more:=runEnd m i-i,i:=i,perturb:=d,dummy:=none} (by show a<=runEnd m i-i;omega)).1;rw[this];show i+a∈J;by_cases e:i+a∈J;{exact e};{rw[(t (i+a) %[|0]).mpr e]at x;cases x}
   unfold layClean.free
   cases q:(List.range (runEnd m i+1-i)).find? λ k=>(f.getD (i+k) (some 0)).isNone with
   | some a=>obtain⟨I,E,F⟩:=C a q;have v:=(wk m a {j:=i,more:=runEnd m i-i,i:=i,perturb:=d,dummy:=none} (by show a<=runEnd m i-i;omega)).1;refine%[a,by rw[v],?_|λ b r=>l b %[|0] (F b r)];rw[v];exact(t (i+a) %[|0]).mp E
   | none=>
     have g:=D q
     cases k with
     | zero=>have o:=g 0 %[|0];have o:(f.getD i (some 0)).isNone=false:=o;have:=(t i y).mpr w;rw[this]at o;cases o
     | succ k=>have u:(leap m i d).1<=m:=kQ (po _ %[|0]);obtain⟨n,z,A,B⟩:=H k (leap m i d).1 (leap m i d).2 u %[|0] w;have s:=QS (m:=m) (p:={j:=i,more:=runEnd m i-i,i:=i,perturb:=d,dummy:=none});refine%[runEnd m i-i+1+n,?_,?_|λ a G=>?_];{rw[fV,s];exact z};{rw[fV,s];exact A};{by_cases r:a<runEnd m i+1-i;{exact l a r (g a r)};{have:=B (a-(runEnd m i-i+1)) %[|0];rw[show a=runEnd m i-i+1+(a-(runEnd m i-i+1))from %[|0],fV,s];exact this}}
end
end RF
namespace RF
open PySem PySem.Spec L2 DL
variable{m:Nat}
section
open SetTable
def Sy(h:cJ m=true)(g:a<2 ^ 64)(f:e<=m):∃k,k<turns m/\(lpN m k (i,a)).1=e:=by
 have b:(lpN m 13 (i,a)).2=0:=by rw[SN];exact Nat.div_eq_of_lt (oT g %[|1])
 have j:=Ud m 12 (i,a);obtain⟨k,l,d⟩:=Dr h j f;refine%[13+k,by unfold turns;omega|?_];rw[HH];have c:lpN m 13 (i,a)=((lpN m 13 (i,a)).1,0):=ms rfl b;rw[c,HS];exact d
structure Ow(m:Nat)(hs:ab1)(ow:ad4)(J:ab4):Prop where
 size:ow.size=m+1
 len:J.length=hs.length
 nd:J.Nodup
 le:∀j∈J,j<=m
 own:∀j q,ow.getD j none=some q↔J[q]? =some j
 way:∀z∈hs.zip J,∃n,au m z.1 n=z.2/\∀k,k<n->au m z.1 k∈J
def Ow.nil(m:Nat):Ow m [] (Array.replicate (m+1) none) []:=by refine%[by simp,rfl,fT,(λ _ h=>nomatch h),λ j q=>?_|(λ _ h=>nomatch h)];constructor;{intro h;by_cases e:j<m+1;{simp[Array.getD,e]at h};{simp[Array.getD,e]at h}};{intro h;simp at h}
def Ow.none_iff(O:Ow m hs b J):b.getD j none=none↔j∉J:=by
 constructor;{intro h c;obtain⟨q,d⟩:=d6 c;rw[(O.own j q).mpr d]at h;cases h}
 . intro h
   cases q:b.getD j none with
   | none=>rfl
   | some a=>exact absurd (y4 ((O.own j a).mp q)) h
def Ow.isNone(O:Ow m hs a J)(j:Nat)(b:j<=m):(a.getD j (some 0)).isNone=true↔j∉J:=by
 have e:a.getD j (some 0)=a.getD j none:=by
  have:j<a.size:=by rw[O.size];omega
  simp[Array.getD,this]
 rw[e,Option.isNone_iff_eq_none];exact O.none_iff
def Ow.step(C:cJ m=true)(O:Ow m hs d J)(B:hs.length<=m)(h:Int):∃j,layClean.free m d (turns m) (bits h % (m+1)) (bits h)=some j/\Ow m (hs++[h]) (d.setIfInBounds j (some hs.length)) (J++[j]):=by
 obtain⟨e,A,D⟩:=wL (m:=m) (ps:=J) (by rw[O.len];exact B);obtain⟨k,o,x⟩:=Sy C (i:=bits h % (m+1)) (Hx h) A;obtain⟨n,s,p,t⟩:=Uj O.isNone (turns m) k (bits h % (m+1)) (bits h) (kQ (po _ %[|0])) o (by rw[x];exact D);have s:layClean.free m d (turns m) (bits h % (m+1)) (bits h)=some (au m h n):=s;have p:au m h n∉J:=p;have t:∀a,a<n->au m h a∈J:=t;have G:=Nr m h n;refine%[_,s,by rw[mM];exact O.size,by rw[x8,x8,O.len];rfl,?_,λ j c=>?_,λ j q=>?_|λ z l=>?_];{rw[iX];refine%[O.nd,by simp|λ a y b w e=>?_];rw[cb]at w;exact p (w▸e▸y)};{rcases cm.mp c with c | c;{exact O.le j c};{rw[cb.mp c];exact G}}
 . have E:=O.size;by_cases v:j=au m h n
   . subst v;have u:(d.setIfInBounds (au m h n) (some hs.length)).getD (au m h n) none=some hs.length:=by
      have:au m h n<d.size:=%[|0]
      simp[Array.getD,this]
     rw[u];constructor;{intro e;rw[<-cf e,<-O.len];simp}
     . intro e;by_cases r:q<J.length;{rw[x9 r]at e;exact absurd (y4 e) p}
       . have g:=(z0.mp e).1;rw[x8,hH]at g;have:q=J.length:=%[|0]
         rw[this,O.len]
   . have u:(d.setIfInBounds (au m h n) (some hs.length)).getD j none=d.getD j none:=by
      unfold Array.getD;by_cases c:j<d.size
      . have f:j<(d.setIfInBounds (au m h n) (some hs.length)).size:=by rw[mM];exact c
        rw[dif_pos f,dif_pos c];exact Array.getElem_setIfInBounds_ne c (λ e=>v e.symm)
      . have f:¬j<(d.setIfInBounds (au m h n) (some hs.length)).size:=by rw[mM];exact c
        rw[dif_neg f,dif_neg c]
     rw[u,O.own];by_cases r:q<J.length;{rw[x9 r]};{constructor;{intro e;exact absurd (z0.mp e).1 r};{intro e;have g:=(z0.mp e).1;rw[x8,hH]at g;rw[show q=J.length from %[|0]]at e;simp at e;exact absurd e.symm v}}
 {rw[List.zip_append O.len.symm]at l;rcases cm.mp l with l | l;{obtain⟨F,a,b⟩:=O.way z l;exact%[F,a|λ k o=>i7 _ (b k o)]};{rw[pV,List.zip_nil_right,cb]at l;subst l;exact%[n,rfl|λ k o=>i7 _ (t k o)]}}
def Bq(m:Nat)(acc:Option (Array (Option Nat)×Nat))(h:Int):Option (Array (Option Nat)×Nat):=do
 let (owner,k) <-acc
 let j <-layClean.free m owner (turns m) (bits h % (m+1)) (bits h)
 pure (owner.setIfInBounds j (some k),k+1)
def Sd(k:cJ m=true):∀(a hs:ab1)(b:ad4)(J:ab4),Ow m hs b J->hs.length+a.length<=m->∃ow' J',a.foldl (Bq m) (some (b,hs.length))=some (ow',(hs++a).length)/\Ow m (hs++a) ow' J':=by
 intro a
 induction a with
 | nil=>intro hs b J O _;exact%[b,J,by rw[gS];rfl|by rw[gS];exact O]
 | cons h a l=>
   intro hs b J O i;rw[dQ]at i;obtain⟨j,e,d⟩:=O.step k %[|0] h;obtain⟨ow',J',f,c⟩:=l (hs++[h]) _ _ d (by rw[x8,hH];omega);refine%[ow',J',?_|by rw[ca]at c;exact c];rw[List.foldl_cons];have g:Bq m (some (b,hs.length)) h=some (b.setIfInBounds j (some hs.length),(hs++[h]).length):=by unfold Bq;show((layClean.free m b (turns m) (bits h % (m+1)) (bits h)).bind λ j=>some (b.setIfInBounds j (some hs.length),hs.length+1))=_;rw[e,x8];rfl
   rw[g,f,ca];rfl
def YX(a:cJ m=true)(b:hs.length<=m):∃ow J,layClean m hs.toArray=some ow/\Ow m hs ow J:=by obtain⟨ow,J,e,O⟩:=Sd a hs [] _ _ (Ow.nil m) (by rw[List.length_nil];omega);refine%[ow,J,?_|O];unfold layClean;show(hs.toArray.foldl (Bq m) (some (Array.replicate (m+1) none,0))).map (·.1)=_;rw[List.foldl_toArray];have e:hs.foldl (Bq m) (some (Array.replicate (m+1) none,0))=some (ow,([]++hs).length):=e;rw[e];rfl
def ph(m:Nat)(ow:ad4):List (Nat×Nat):=(List.range (m+1)).filterMap λ j=>(ow.getD j none).map (j,·)
def iR(h:z∈ph m b):z.1<=m/\b.getD z.1 none=some z.2:=by
 obtain⟨j,c,e⟩:=hV.mp h
 cases q:b.getD j none with
 | none=>rw[q]at e;cases e
 | some a=>rw[q]at e;have e:(j,a)=z:=cf e;subst e;exact%[by have:=dV.mp c;omega|q]
def IV(m:Nat)(g:ad4):(ph m g).Pairwise λ a b=>a.1<b.1:=by
 unfold ph;rw[List.pairwise_filterMap];refine List.Pairwise.imp ?_ (List.pairwise_lt_range (n:=m+1));intro a b f x d y e;have h:x.1=a:=by
  cases q:g.getD a none with
  | none=>rw[q]at d;cases d
  | some c=>rw[q]at d;have d:(a,c)=x:=cf d;rw[<-d]
 have i:y.1=b:=by
  cases q:g.getD b none with
  | none=>rw[q]at e;cases e
  | some c=>rw[q]at e;have e:(b,c)=y:=cf e;rw[<-e]
 rw[h,i];exact f
def Hy(D:cJ m=true){hs:ab1}(C:hs.length<=m)(f mv:Nat)(led pl:Bool):∃(ps order:ab4),SetTable.laid m f mv led pl hs.toArray=some (%[|16],order.toArray)/\order.Perm (List.range hs.length)/\Tab m (order.map λ q=>hs.getD q 0) ps:=by
 obtain⟨l,J,e,O⟩:=YX D C;refine%[(ph m l).map (·.1),(ph m l).map (·.2),?_,?_|?_];{unfold SetTable.laid;rw[e];rfl}
 . refine(lI ?_ oi).mpr λ q=>?_;{rw[List.Nodup,ky];refine List.Pairwise.imp_of_mem (λ{a b} u w v e=>?_) (IV m l);have r:=(O.own _ _).mp (iR u).2;have t:=(O.own _ _).mp (iR w).2;rw[e,t]at r;have:=cf r;omega}
   . rw[dV];constructor;{intro h;obtain⟨z,c,rfl⟩:=c8.mp h;have:=(z0.mp ((O.own _ _).mp (iR c).2)).1;rw[O.len]at this;exact this}
     . intro h;have p:q<J.length:=by rw[O.len];exact h
       have o:J[q]? =some J[q]:=y3 p;have E:=(O.own _ _).mpr o;refine c8.mpr %[(J[q],q),hV.mpr %[J[q],dV.mpr ?_|by rw[E];rfl]|rfl];have:=O.le _ (y4 o);omega
 . have g:∀j,j∈(ph m l).map (·.1)↔j∈J:=by intro j;constructor;{intro h;obtain⟨z,c,rfl⟩:=c8.mp h;exact y4 ((O.own _ _).mp (iR c).2)};{intro h;obtain⟨q,o⟩:=d6 h;refine c8.mpr %[(j,q),hV.mpr %[j,dV.mpr (by have:=O.le j h;omega)|by rw[(O.own _ _).mpr o];rfl]|rfl]}
   refine%[by simp,by rw[ky];exact IV m l,λ j A=>O.le j ((g j).mp A)|λ z c=>?_];rw[df,List.zip_map']at c;obtain⟨y,F,rfl⟩:=c8.mp c;have s:=(O.own _ _).mp (iR F).2;have d:=(z0.mp s).1;rw[O.len]at d;have x:hs[y.2]? =some (hs.getD y.2 0):=by rw[eI,y3 d];rfl
   obtain⟨n,a,b⟩:=O.way (hs.getD y.2 0,y.1) (y4 (i:=y.2) (gX.mpr %[x|s]));exact%[n,a|λ k B=>(g _).mpr (b k B)]
end
end RF
namespace RF
open PySem PySem.Spec L2 DL
open PyProof.Rows
variable{m:Nat}{ps:List Nat}
section
open SetTable
structure HK(prog:ac4)(w:World)(α:Type)[DecidableEq α] where
 h:α->Int
 I:Heap->Value->α->Prop
 keep:∀{h h':Heap}{v:Value}{c:α},(∀b o,h.get? b=some o->o.cls=%[|10]->h'.get? b=some o)->I h v c->I h' v c
 ref:∀{h:Heap}{v:Value}{c:α},I h v c->∃b,v=.ref b
 eq:∀{A:ad0}{s:ab5}{u v:Value}{c d:α},A.units+2<cLine->I s.heap u c->I s.heap v d->SeqAt.EqAt A s u v (decide (c=d))
 seen:∀{A:ad0}{E:ab3}{s:ab5}{x:Value}{c:α}{ys:ab6}{Q:ad5},I s.heap x c->(∀y∈ys,∃d,I s.heap y d)->Q false s->wpAny %[|5] A (searchCouldBeSeen x ys) Q E s
 hbv:∀{A:ad0}{E:ab3}{s:ab5}{b:Addr}{c:α}{Q:ad5},I s.heap (.ref b) c->Q true s->wpAny %[|5] A (hashByValue 8 (.ref b)) Q E s
 hash:∀{A:ad0}{E:ab3}{s:ab5}{v:Value}{c:α}{Q:Int->Shared->Prop},A.units+5<cLine->I s.heap v c->(∀n,Q (h c) {s with toks:=s.toks+n})->wpAny %[|5] A (pyHash v) Q E s
variable{prog:Program}{w:World}{α:Type}[DecidableEq α]{K:HK prog w α}
abbrev Cv(α:Type):=List (α×Value)
def aG(K:HK prog w α)(xs:Cv α):List Int:=xs.map λ x=>K.h x.1
def ak(K:HK prog w α)(xs:Cv α):List (Int×Value):=xs.map λ x=>(K.h x.1,x.2)
def Dz{led pl}(T:Tab m hs ps)(j:Nat):(j∉ps/\%[|16].slot j=.empty)\/∃i,ps[i]? =some j/\%[|16].slot j=.live i:=by by_cases h:j∈ps;{obtain⟨i,a⟩:=d6 h;exact .inr %[i,a|vg T.up a]};{exact .inl %[h|Hu h]}
def Xr(T:Tab m (aG K xs) ps){i j:Nat}(h:ps[i]? =some j):∃x,xs[i]? =some x:=by have:=(z0.mp h).1;have l:=T.len;unfold aG at l;rw[y7]at l;exact%[xs[i]|y3 %[|0]]
def M8{led pl}(T:Tab m (aG K xs) ps)(g:∀(i:Nat)(x:α×Value),xs[i]? =some x->hs i=K.h x.1)(B:n<=N)(A:N<10*turns m)(u:au m h N∉ps):
 ∃ k,n+k<=N/\(∀a,n<=a->a<n+k->∃(i:Nat) (x:α×Value),ps[i]? =some (au m h a)/\xs[i]? =some x/\K.h x.1≠h)/\
   ((au m h (n+k)∉ps/\%[|16].probe hs h (adN m n (stP m h))=some (.empty (au m h (n+k)) none))\/∃(i:Nat) (x:α×Value),ps[i]? =some (au m h (n+k))/\xs[i]? =some x/\K.h x.1=h/\%[|16].probe hs h (adN m n (stP m h))=some (.candidate (au m h (n+k)) i (adN m (n+k+1) (stP m h)))):=by
 have d:∀a,(adN m a (adN m n (stP m h))).j=au m h (n+a):=λ a=>by unfold au;rw[fV]
 obtain⟨k,y,p,q⟩:=Zc (t:=%[|16]) (hs:=hs) (h:=h) (10*turns m) (N-n) (adN m n (stP m h)) (by rw[nj];rfl) %[|0] (by show%[|16].slot (adN m (N-n) (adN m n (stP m h))).j=.empty;rw[d,show n+(N-n)=N from %[|0]];exact Hu u) (λ a=>by rcases Dz (f:=f) (mv:=mv) (led:=led) (pl:=pl) T (adN m a (adN m n (stP m h))).j with⟨_,e⟩ | ⟨i,_,e⟩;{intro z;rw[show%[|16].mask=m from rfl,e]at z;cases z};{intro z;rw[show%[|16].mask=m from rfl,e]at z;cases z});have live:∀a i,%[|16].slot (adN m a (adN m n (stP m h))).j=.live i->ps[i]? =some (au m h (n+a)):=by intro a i e;rw[d]at e;rcases Dz (f:=f) (mv:=mv) (led:=led) (pl:=pl) T (au m h (n+a))with⟨_,c⟩ | ⟨C,b,c⟩;{rw[c]at e;cases e};{rw[c]at e;cases e;exact b}
 refine%[k,%[|0],λ a r s=>?_|?_];{obtain⟨i,b,c⟩:=p (a-n) %[|0];have b:=live _ _ b;rw[show n+(a-n)=a from %[|0]]at b;obtain⟨x,l⟩:=Xr T b;exact%[i,x,b,l|by rw[<-g i x l];exact c]};{rcases q with⟨b,c⟩ | ⟨i,b,c,o⟩;{refine .inl %[λ w=>?_|?_];{obtain⟨i,v⟩:=d6 w;have b:%[|16].slot (adN m k (adN m n (stP m h))).j=.empty:=b;rw[d,vg T.up v]at b;cases b};{show probe.go _ hs h (10*turns m) _=_;rw[c];show some (Met.empty (adN m k (adN m n (stP m h))).j none)=_;rw[d]}};{have b:=live _ _ b;obtain⟨x,l⟩:=Xr T b;refine .inr %[i,x,b,l,by rw[<-g i x l];exact c|?_];show probe.go _ hs h (10*turns m) _=_;rw[o];show some (Met.candidate (adN m k (adN m n (stP m h))).j i (adN m (k+1) (adN m n (stP m h))))=_;rw[d,<-fV,show n+(k+1)=n+k+1 from %[|0]]}}
def Zb(T:Tab m (aG K xs) ps){i:Nat}(d:xs[i]? =some x):∃j n,ps[i]? =some j/\au m (K.h x.1) n=j/\∀k,k<n->au m (K.h x.1) k∈ps:=by
 have f:=(z0.mp d).1;have l:=T.len;unfold aG at l;rw[y7]at l;have c:ps[i]? =some (ps[i]'%[|0]):=y3 %[|0];have e:(aG K xs)[i]? =some (K.h x.1):=by unfold aG;rw[y8,d];rfl
 obtain⟨n,a,b⟩:=T.way (K.h x.1,ps[i]'%[|0]) (y4 (i:=i) (gX.mpr %[e|c]));exact%[_,n,c,a|b]
end
end RF
namespace RF
open PySem PySem.Spec L2 DL
open PyProof.Rows
section
variable{prog:Program}{w:World}{α:Type}[DecidableEq α]{K:HK prog w α}{A:Around}{E:%[|17]}{s:Shared}{m f mv ep:Nat}{led pl:Bool}{xs:Cv α}{ps:List Nat}{a:Addr}
abbrev bA(t:SetTable)(es:List (Int×Value))(ep:Nat):Obj:={cls:=.type "set",dict:=none,data:=.set es.toArray ep t,slots:=#[]}
def iG(T:Tab m (aG K xs) ps)(a:xs.length<=m):%[|16].fits (ak K xs).toArray.size=true:=by have l:=T.len;unfold aG at l;rw[y7]at l;unfold SetTable.fits SetTable.fill ao ak;simp[l];omega
def b8(T:Tab m (aG K xs) ps)(b:xs.length<=m)(c:s.heap.get? a=some (bA %[|16] (ak K xs) ep))(d:Q ((ak K xs).toArray,ep,%[|16]) s):wpAny %[|5] A (setState a) Q E s:=
 wpAny_setState_of c rfl (iG T b) d
def TV{i:Nat}(h:xs[i]? =some x):(ak K xs).toArray[i]? =some (K.h x.1,x.2):=by unfold ak;simp[h]
def FZ(hu:A.units+2<cLine)(ho:s.heap.get? a=some (bA %[|16] (ak K xs) ep))(T:Tab m (aG K xs) ps)(C:xs.length<=m)(aa:m % 2=1)(hv:K.I s.heap v c)(B:∀x∈xs,K.I s.heap x.2 x.1)(hh:h=K.h c)(hN:N<10*SetTable.turns m)(M:au m h N∉ps)
 (h1:(∃x∈xs,x.1=c)->Q (.there none) s)(h2:(∀x∈xs,x.1≠c)->∀n,au m h n∉ps->(∀k,k<n->au m h k∈ps)->Q (.free (au m h n) false) s):
 ∀(g n:Nat)(st:Option SetTable.Probe),st.getD (stP m h)=adN m n (stP m h)->n<=N->N-n<g->(∀k,k<n->∃(i:Nat) (x:α×Value),ps[i]? =some (au m h k)/\xs[i]? =some x/\x.1≠c)->wpAny %[|5] A (setSearchFrom a v h true g st) Q E s:=by
 intro g
 induction g with
 | zero=>intro n st _ _ h;omega
 | succ g ih=>
   intro n st Z hn hf o;have X:∀(i:Nat)(x:α×Value),xs[i]? =some x->(λ i=>(((ak K xs).toArray[i]?).map (·.1)).getD 0) i=K.h x.1:=λ i x B=>by show(((ak K xs).toArray[i]?).map (·.1)).getD 0=_;rw[TV B,Option.map_some,Option.getD_some]
   obtain⟨k,k1,k2,k3⟩:=M8 (f:=f) (mv:=mv) (led:=led) (pl:=pl) T X (h:=h) hn hN M;unfold setSearchFrom;refine b0 (b8 T C ho ?_);dsimp only;rw[bP (show ¬(SetTable.gaveWay %[|16]=true)from by simp[SetTable.gaveWay,ao,aa])];rw[Lf,show%[|16].mask=m from rfl,Z];rcases k3 with⟨S,U⟩ | ⟨i,x,O,l,i3,U⟩
   . generalize t:SetTable.probe %[|16] _ h _=pr;have t:pr=some (.empty (au m h (n+k)) none):=t.symm.trans U;subst t;dsimp only;have no:∀x∈xs,x.1≠c:=by
      intro x B e;obtain⟨i,Y⟩:=d6 B;obtain⟨j,u,P,j2,j3⟩:=Zb T Y;rw[e,<-hh]at j2 j3;have lt:u<n+k:=by by_cases z:u<n+k;{exact z};{by_cases z2:u=n+k;{exact absurd (by rw[<-z2,j2];exact y4 P) S};{exact absurd (j3 (n+k) %[|0]) S}}
      have H:∀l,ps[l]? =some (au m h u)->l=i:=by intro l h2;have h2:=below_at T.up h2;have P:=below_at T.up P;rw[<-h2,<-P,j2]
      by_cases z:u<n;{obtain⟨l,x2,p,r,D⟩:=o u z;rw[H l p,Y]at r;exact D (by rw[<-cf r];exact e)};{obtain⟨l,x2,p,r,D⟩:=k2 u %[|0] lt;rw[H l p,Y]at r;exact D (by rw[<-cf r,e,hh])}
     refine b9 (h2 no _ S λ b hb=>?_);by_cases z:b<n;{obtain⟨l,x2,p,_⟩:=o b z;exact y4 p};{obtain⟨l,x2,p,_⟩:=k2 b %[|0] hb;exact y4 p}
   . generalize t:SetTable.probe %[|16] _ h _=pr;have t:pr=some (.candidate (au m h (n+k)) i (adN m (n+k+1) (stP m h))):=t.symm.trans U;subst t;dsimp only;have G:=y4 l;have F:=B x G;have R:=TV (K:=K) l;have hs:∀y∈List.map (λ x:Int×Value=>x.2) (Array.filter (λ x=>x.fst==h) (ak K xs).toArray).toList,∃d,K.I s.heap y d:=by
      intro y hy;rw[c8]at hy;obtain⟨e,M,rfl⟩:=hy;have:e∈(ak K xs).toArray:=(Array.mem_filter.mp (Array.mem_toList_iff.mp M)).1;have:e∈ak K xs:=by simpa using this
      unfold ak at this;obtain⟨z,hz,rfl⟩:=c8.mp this;exact%[z.1|B z hz]
     have W:SeqAt.EqAt A s x.2 v (decide (x.1=c)):=K.eq hu F hv;have ab:%[|16].slot (au m h (n+k))=.live i:=vg T.up O;have I:x.1≠c->wpAny %[|5] A (setSearchFrom a v h true g (some (adN m (n+k+1) (stP m h)))) Q E s:=by
      intro nc;have lt:n+k<N:=by
       by_cases z:n+k<N;{exact z}
       . have:n+k=N:=%[|0]
         rw[this]at O;exact absurd (y4 O) M
      refine ih (n+k+1) _ rfl %[|0] %[|0] λ b hb=>?_;by_cases z:b<n;{exact o b z};{by_cases z2:b=n+k;{subst z2;exact%[i,x,O,l|nc]};{obtain⟨i3,x3,p,r,D⟩:=k2 b %[|0] %[|0];exact%[i3,x3,p,r|λ e=>D (by rw[e,hh])]}}
     obtain⟨cx,vx⟩:=x;obtain⟨J,V⟩:=K.ref F;have V:vx=.ref J:=V;subst V;have q:wpAny %[|5] A (do
      let equal <-holding [Value.ref J] (eqBool (Value.ref J) v)
      let (es',_,t') <-setState a
      if true&&equal then return SetFound.there none
      let some same:=t'.sameMemory mv m | unsupported "set.changed-during-lookup:is-the-new-block-at-the-old-address"
      let still <-match (if same then t'.slot (au m h (n+k))else .empty)with
       | .live i'=>match es'[i']? with
         | some (_,y')=>do pure (if <-isSame y' (Value.ref J)then some i' else none)
         | none=>pure none
       | _=>pure none
      match still with
      | none=>rule "set.search.anew";setSearchFrom a v h true g none
      | some i'=>if equal then return .there (some i')else setSearchFrom a v h true g (some (adN m (n+k+1) (stP m h)))) Q E s:=by
      refine b0 (ed (W prog w E _ ?_));refine b0 (b8 T C ho ?_);by_cases L:cx=c;{rw[cc L];exact b9 (h1 %[_,G|L])}
      . rw[cK L];dsimp only;rw[bP (show ¬((true&&false)=true)from y6)];have em:SetTable.sameMemory %[|16] mv m=some true:=by unfold SetTable.sameMemory;rw[c9 (by show(mv==mv)=true;exact fq mv)]
        rw[em];dsimp only;rw[c9 rfl,ab];dsimp only;rw[R];dsimp only;refine b0 (Rt ?_);refine b0 (b9 ?_);exact I L
     cases led;{rw[c9 (show(!(ao m ps f false mv pl).led)=true from rfl)];refine b0 (K.seen hv hs ?_);rw[bP y6,R];exact q};{rw[bP (show ¬(!(ao m ps f true mv pl).led)=true from y6),R];exact q}
def nJ{a}(p:Nat)(x:a)(l:List a):SetTable.insertAt l.toArray p x=(ins p x l).toArray:=by apply lh.mp;rw[SetTable.toList_insertAt];rfl
def ZZ(j:Nat):%[|16].put j=(ao m (ins (SetTable.below ps.toArray j) j ps) f led mv pl,SetTable.below ps.toArray j):=by unfold SetTable.put;show((%[m,SetTable.insertAt ps.toArray (SetTable.below ps.toArray j) j,if SetTable.has #[] j=true then _ else #[],f,led,mv|pl]:SetTable),SetTable.below ps.toArray j)=_;rw[bP (show ¬SetTable.has #[] j=true from y6),nJ];rfl
def Ie{a b}(g:a->b)(p:Nat)(x:a)(l:List a):(ins p x l).map g=ins p (g x) (l.map g):=by unfold ins;rw[cE,cn,ln,List.map_drop]
def pN(c:s.heap.get? a=some (bA t es ep))(hz:b.length<=1000)
 (h:∀h',Heap.SameBut a s.heap h'->h'.get? a=some (bA t' b (ep+1))->Q () %[|15]):wpAny %[|5] A (storeSet a b.toArray t') Q E s:=by refine wpAny_storeSet_of c rfl (h _ (dS s.heap a _) ?_) (cS (by rw[x5];exact hz) (%[|1]:1000<=sizeLine));have:=eR (Obj.putSet b.toArray t') c (by rw[putSet_of _ _ rfl];rfl);rw[putSet_of _ _ rfl]at this;exact this
end
variable{n:Nat}
section
variable{prog:Program}{w:World}{α:Type}[DecidableEq α]{K:HK prog w α}{A:Around}{E:%[|17]}{s:Shared}{m f mv ep:Nat}{led pl:Bool}{xs:Cv α}{ps:List Nat}{a:Addr}
def wR{b:Type}{xs:List b}{a:ab4}(h:a.Perm (List.range xs.length)):(a.filterMap (xs[·]?)).Perm xs:=by have:=h.filterMap (xs[·]?);rw[List.filterMap_getElem?_range_length]at this;exact this
def kh{b c:Type}{g:b->c}{xs:List b}{a:ab4}:(a.filterMap (xs[·]?)).map g=a.filterMap ((xs.map g)[·]?):=by rw[List.map_filterMap];congr 1;funext q;rw[y8]
def xj{hs:ab1}:∀{a:ab4},(∀q∈a,q<hs.length)->a.filterMap (hs[·]?)=a.map λ q=>hs.getD q 0:=by
 intro a
 induction a with
 | nil=>intro _;rfl
 | cons q a d=>intro h;have b:=h q x6;rw[fN,y3 b,cn,d λ z c=>h z (x4 _ c)];simp[b]
def xG(p:s.heap.get? a=some (bA %[|16] (ak K xs) ep))(T:Tab m (aG K xs) ps)(k:xs.length<=m)(z:cJ (SetTable.sizeAbove b-1)=true)(d:xs.length<=SetTable.sizeAbove b-1)(y:xs.length<=1000)(hz:SetTable.sizeAbove b<=sizeLine)
 (h:∀h' xs' ps' mv',Heap.SameBut a s.heap h'->h'.get? a=some (bA (ao (SetTable.sizeAbove b-1) ps' f led mv' pl) (ak K xs') (ep+1))->Tab (SetTable.sizeAbove b-1) (aG K xs') ps'->xs'.Perm xs->Q () %[|15]):wpAny %[|5] A (setRelay a b) Q E s:=by
 unfold setRelay;refine b0 (b8 T k p ?_);dsimp only;rw[bP %[|0]];have i:(aG K xs).length=xs.length:=by unfold aG;exact y7 _
 obtain⟨ps',c,e,l,g⟩:=Hy z (hs:=aG K xs) (by rw[i];exact d) f (%[|16].movedTo (SetTable.sizeAbove b-1)) led pl;have u:(ak K xs).toArray.map (·.1)=(aG K xs).toArray:=by unfold ak aG;simp
 rw[i]at l;have F:∀q∈c,q<(aG K xs).length:=λ q B=>by rw[i];exact dV.mp (l.mem_iff.mp B)
 rw[<-xj F]at g;have t:c.filterMap ((aG K xs)[·]?)=aG K (c.filterMap (xs[·]?)):=by unfold aG;rw[kh]
 rw[t]at g;have o:c.toArray.filterMap ((ak K xs).toArray[·]?)=(ak K (c.filterMap (xs[·]?))).toArray:=by
  have r:ak K (c.filterMap (xs[·]?))=c.filterMap ((ak K xs)[·]?):=by unfold ak;rw[kh]
  rw[r];simp
 have n:=wR (xs:=xs) l;have v:SetTable.relaid %[|16] (Array.map (λ x=>x.1) (ak K xs).toArray) b=some (ao (SetTable.sizeAbove b-1) ps' f led (%[|16].movedTo (SetTable.sizeAbove b-1)) pl,c.toArray):=by rw[u];exact e
 rw[v];refine b0 ?_;have j:(c.toArray.filterMap ((ak K xs).toArray[·]?)).size=(ak K xs).toArray.size:=by rw[o];unfold ak;rw[x5,x5,y7,y7,n.length_eq]
 show wpAny _ _ (if((c.toArray.filterMap ((ak K xs).toArray[·]?)).size !=(ak K xs).toArray.size)=true then _ else _) _ _ _;rw[bP (by rw[j];simp),o];refine b9 ?_;exact pN p (by unfold ak;rw[y7,n.length_eq];exact y) λ h' C D=>h h' _ ps' _ C D g n
def bN(m n:Nat):Prop:=(m=7\/m=15\/m=31\/m=63\/m=127\/m=255)/\n*5<m*3
def bN.all(h:bN m n):cJ m=true:=by rcases h.1 with rfl | rfl | rfl | rfl | rfl | rfl;{exact aaR};{exact Zz};{exact TY};{exact Tq};{exact M4};{exact LK}
def bN.odd(h:bN m n):m % 2=1:=by rcases h.1 with rfl | rfl | rfl | rfl | rfl | rfl<;>rfl
def bN.le(h:bN m n):m<=255:=by rcases h.1 with rfl | rfl | rfl | rfl | rfl | rfl<;>decide
def bN.few(h:bN m n):n<m:=by have:=h.2;rcases h.1 with rfl | rfl | rfl | rfl | rfl | rfl<;>omega
def IK(hu:A.units+5<cLine)(j:s.heap.get? a=some (bA (ao m ps f led mv true) (ak K xs) ep))(T:Tab m (aG K xs) ps)(F:bN m xs.length)(lt:xs.length<76)(t:K.I s.heap v c)(hx:∀x∈xs,K.I s.heap x.2 x.1)
 (h1:(∃x∈xs,x.1=c)->∀b,Q b s)
 (h2:(∀x∈xs,x.1≠c)->∀h' b m' xs' ps' mv' ep',Heap.SameBut a s.heap h'->h'.get? a=some (bA (ao m' ps' f led mv' true) (ak K xs') ep')->Tab m' (aG K xs') ps'->bN m' xs'.length->xs'.Perm ((c,v)::xs)->Q b %[|15]):
 wpAny %[|5] A (setAddHashed a v (K.h c)) Q E s:=by
 have hm:=F.all;have y:=F.odd;have Y:=F.few;have m1:=F.le;have l:=T.len;unfold aG at l;rw[y7]at l;obtain⟨N,D,he⟩:=Rc hm (ps:=ps) %[|0] (MJ m (K.h c));have aa:N<100000:=v3 D (by unfold SetTable.turns;omega);unfold setAddHashed;refine ed ?_;generalize hf:(100000:Nat)=fuel;obtain⟨J,rfl⟩:∃J,fuel=J+1:=%[fuel-1|%[|0]];unfold setAddHashedIn;refine b0 (b8 T %[|0] j ?_);have u:=t;obtain⟨g,rfl⟩:=K.ref u;dsimp only;rw[bP (show ¬(byScan (.ref g) _=true)from y6)];unfold setSearch;refine b0 (FZ %[|0] j T %[|0] y t hx rfl D he (λ e=>?_) (λ L n S U=>?_) 100000 0 none rfl (db _) %[|0] (λ k hk=>by omega));{exact b9 (h1 e false)};dsimp only;refine b0 (b8 T %[|0] j ?_);dsimp only;rw[ZZ];dsimp only;rw[c9 (show(ao m (ins (SetTable.below ps.toArray (au m (K.h c) n)) (au m (K.h c) n) ps) f led mv true).plain=true from rfl)];refine b0 (K.hbv t ?_);rw[c9 rfl];have p:=T.put S U;have V:SetTable.insertAt (ak K xs).toArray (SetTable.below ps.toArray (au m (K.h c) n)) (K.h c,Value.ref g)=(ak K (ins (SetTable.below ps.toArray (au m (K.h c) n)) (c,Value.ref g) xs)).toArray:=by rw[nJ];unfold ak;rw[Ie]
 have W:ins (SetTable.below ps.toArray (au m (K.h c) n)) (K.h c) (aG K xs)=aG K (ins (SetTable.below ps.toArray (au m (K.h c) n)) (c,Value.ref g) xs):=by unfold aG;rw[Ie]
 rw[W]at p;rw[V];have o:(ins (SetTable.below ps.toArray (au m (K.h c) n)) (c,Value.ref g) xs).length=xs.length+1:=pJ _ _ _;have O:=nU (SetTable.below ps.toArray (au m (K.h c) n)) (c,Value.ref g) xs;have I:(ins (SetTable.below ps.toArray (au m (K.h c) n)) (au m (K.h c) n) ps).length=ps.length+1:=pJ _ _ _;have q:(ak K xs).toArray.size=xs.length:=by unfold ak;rw[x5,y7]
 generalize ins (SetTable.below ps.toArray (au m (K.h c) n)) (c,Value.ref g) xs=xs2 at*;generalize ins (SetTable.below ps.toArray (au m (K.h c) n)) (au m (K.h c) n) ps=ps2 at*;refine b0 (pN j (by unfold ak;rw[y7,o];omega) λ h' G H=>?_);by_cases tf:(xs.length+1)*5<m*3;{rw[bP (by unfold SetTable.tooFull SetTable.fill ao;simp only[x5,I];simp;omega)];refine b9 (h2 L h' true m xs2 ps2 mv (ep+1) G H p ?_ O);rw[o];exact%[F.1|tf]}
 . rw[c9 (by unfold SetTable.tooFull SetTable.fill ao;simp only[x5,I];simp;omega)];rw[q];have d:∀M,SetTable.sizeAbove (SetTable.grown (xs.length+1))=M+1->cJ M=true->xs.length+1<=M->bN M (xs.length+1)->M<=1000->wpAny %[|5] A (setRelay a (SetTable.grown (xs.length+1))>>=λ _=>pure true) Q E %[|15]:=by intro M i R lM X bM;refine b0 (xG (s:=%[|15]) (K:=K) (xs:=xs2) H p %[|0] (by rw[i];exact R) (by rw[i,o];omega) %[|0] (by rw[i];exact cS (%[|0]:M+1<=1001) %[|1]) λ r xs' ps' mv' Z z B C=>?_);rw[i]at z B;exact b9 (h2 L r true M xs' ps' mv' _ (G.trans Z) z B (by rw[C.length_eq,o];exact X) (C.trans O))
   obtain⟨P,F2⟩:=F;rcases P with rfl | rfl | rfl | rfl | rfl | rfl
   . obtain h:xs.length=4:=%[|0]
     exact d 31 (by rw[h];decide+kernel) TY %[|0] %[.inr (.inr (.inl rfl))|%[|0]] %[|0]
   . obtain h:xs.length=8:=%[|0]
     exact d 63 (by rw[h];decide+kernel) Tq %[|0] %[.inr (.inr (.inr (.inl rfl)))|%[|0]] %[|0]
   . obtain h:xs.length=18:=%[|0]
     exact d 127 (by rw[h];decide+kernel) M4 %[|0] %[.inr (.inr (.inr (.inr (.inl rfl))))|%[|0]] %[|0]
   . obtain h:xs.length=37:=%[|0]
     exact d 255 (by rw[h];decide+kernel) LK %[|0] %[.inr (.inr (.inr (.inr (.inr rfl))))|%[|0]] %[|0]
   {omega};{omega}
end
end RF
namespace RF
open PySem PySem.Spec L2 DL
open PyProof.Rows
section
variable{prog:Program}{w:World}{α:Type}[DecidableEq α]{K:HK prog w α}{A:Around}{E:%[|17]}{s:Shared}
structure LiesM(K:HK prog w α)(its:ab6)(cs:List α)(i:Nat)(xs:Cv α)(m:Nat)(ps:ab4):Prop where
 tab:Tab m (aG K xs) ps
 fill:bN m xs.length
 nd:(xs.map (·.1)).Nodup
 inn:∀x∈xs,x.1∈cs.take i
 its:∀x∈xs,(x.2,x.1)∈its.zip cs
 all:∀c∈cs.take i,∃x∈xs,x.1=c
def jq{cs:List α}(h:cs[i]? =some c):cs.take (i+1)=cs.take i++[c]:=by rw[List.take_succ,h];rfl
def LiesM.same{its}(L:LiesM K its cs i xs m ps)(h:cs[i]? =some c)(ex:∃x∈xs,x.1=c):LiesM K its cs (i+1) xs m ps:=by refine%[L.tab,L.fill,L.nd,λ x b=>?_,L.its|λ d a=>?_];{rw[jq h];exact i7 _ (L.inn x b)};{rw[jq h]at a;rcases cm.mp a with a | a;{exact L.all d a};{rw[cb.mp a];exact ex}}
def LiesM.more{its}(L:LiesM K its cs i xs m ps)(n:its[i]? =some v)(h:cs[i]? =some c)(o:∀x∈xs,x.1≠c)(T:Tab k (aG K b) j)(F:bN k b.length)(g:b.Perm ((c,v)::xs)):LiesM K its cs (i+1) b k j:=by refine%[T,F,?_,λ x a=>?_,λ x a=>?_|λ d f=>?_];{refine(g.map (·.1)).nodup_iff.mpr ?_;rw[cn,fe];refine%[λ l=>?_|L.nd];obtain⟨x,a,e⟩:=c8.mp l;exact o x a e};{rw[jq h];rcases ci.mp (g.mem_iff.mp a)with rfl | a;{exact fb _ (cb.mpr rfl)};{exact i7 _ (L.inn x a)}};{rcases ci.mp (g.mem_iff.mp a)with rfl | a;{exact y4 (i:=i) (gX.mpr %[n|h])};{exact L.its x a}};{rw[jq h]at f;rcases cm.mp f with f | f;{obtain⟨x,a,e⟩:=L.all d f;exact%[x,g.mem_iff.mpr (x4 _ a)|e]};{rw[cb.mp f];exact%[(c,v),g.mem_iff.mpr x6|rfl]}}
end
variable{ps:List Nat}{S:Addr}{ep m f mv:Nat}
def Gx(d:ps.Pairwise (· <·))(hi:i<=ps.length):SetTable.below ps.toArray (slotAt ps i)=i:=by
 obtain⟨g,a,b⟩:=rF d (slotAt ps i);generalize SetTable.below ps.toArray (slotAt ps i)=r at*
 cases i with
 | zero=>
   cases r with
   | zero=>rfl
   | succ r=>have:=a 0 _ (y3 %[|0]) %[|0];exact absurd this (Nat.not_lt_zero _)
 | succ i=>
   have f:slotAt ps (i+1)=ps[i]+1:=by show ps.getD i 0+1=_;rw[eI,y3 %[|0]];rfl
   rw[f]at a b;have h:¬r<=i:=λ z=>by have:=b i _ (y3 %[|0]) z;omega
   by_cases e:r=i+1;{exact e}
   . have c:i+1<ps.length:=%[|0]
     have:=a (i+1) _ (y3 c) %[|0];have:=fx.mp d i (i+1) %[|0] c %[|0];omega
theorem uE{a:Type}:∀{l:List a}{i:Nat}(h:i<l.length),([l[i]]++l.eraseIdx i).Perm l
 | x::l,0,_=>.refl _
 | x::l,i+1,h=>(List.Perm.swap x _ _).trans ((uE (l:=l) (i:=i) (by simpa using h)).cons x)
def V5{f}(c:Nat->Nat):∀(b k:Nat)(a:List f)(out:Array f),a.length=b->(pickOrder.go c b k a out).toList.Perm (out.toList++a):=by
 intro b
 induction b with
 | zero=>intro k a out h;have:a=[]:=f8 h;subst this;rw[gS];exact .refl _
 | succ b g=>
   intro k a out h;have d:c k % a.length<a.length:=po _ %[|0];have e:pickOrder.go c (b+1) k a out=pickOrder.go c b (k+1) (a.eraseIdx (c k % a.length)) (out.push a[c k % a.length]):=by
    conv=>lhs;unfold pickOrder.go
    rw[y3 d]
   rw[e];refine(g (k+1) _ _ (by rw[List.length_eraseIdx_of_lt d];omega)).trans ?_;rw[Array.toList_push,ca];refine List.Perm.append_left _ ?_;exact uE d
def rm(w:World)(S:Addr)(ep:Nat)(es:List (Int×Value)):(dX w S ep es).toList.Perm es:=by unfold dX;split;{have:=V5 (w.params.setOrder S ep) es.toArray.size 0 es.toArray.toList #[] (by simp);simpa[pickOrder]using this};{exact .refl _}
def nu:(dX w S ep es).size=es.length:=by have:=(rm w S ep es).length_eq;rwa[dA]at this
section
variable{prog:Program}{w:World}{α:Type}[DecidableEq α]{K:HK prog w α}{A:Around}{E:%[|17]}{s:Shared}
def HW(r:Tab m (aG K xs) ps):ps.length=(ak K xs).length:=by have:=r.len;unfold aG at this;unfold ak;rw[y7]at this ⊢;exact this.symm
def wW(r:Tab m (aG K xs) ps)(b:xs.length<=m)(l:xs.length<=1000)(hi:i<=(ak K xs).length)(j:s.heap.get? S=some (bA (ao m ps f (aH w) mv true) (ak K xs) ep))
 (h:Q (((dX w S ep (ak K xs))[i]?).map λ e=>(e.2,if w.params.followText "set-order"=true then 0 else slotAt ps (i+1))) s):
 wpAny %[|5] A (setNext S (if w.params.followText "set-order"=true then 0 else slotAt ps i) i ep) Q E s:=by
 unfold setNext;refine b0 (b8 r b j ?_);unfold setsByText;dsimp only;refine b0 (b0 (i4 (b9 ?_)));show wpAny _ _ (if w.params.followText "set-order"=true then _ else _) _ _ _;unfold dX at h;by_cases a:w.params.followText "set-order"=true;{rw[c9 a];rw[c9 a]at h;simp only[c9 a]at h;rw[bP (by simp)];unfold setWalk;refine b0 (b0 (b8 r b j ?_));unfold setsByText;dsimp only;refine b0 (b0 (i4 (b9 ?_)));show wpAny _ _ (if w.params.followText "set-order"=true then _ else _) _ _ _;rw[c9 a];refine b0 (i4 (b9 (b9 ?_)));simp only[c9 a];exact h}
 . rw [bP a];rw[bP a]at h;simp only[bP a]at h ⊢;have c:aH w=true:=by simp[aH,a]
   split;{exact absurd (by assumption) y6}
   . refine b0 ?_;show wpAny _ _ (if(!(aH w)&& !((ak K xs).toArray.isEmpty))=true then _ else pure PUnit.unit) _ _ _;rw[c,bP (show ¬((!true&& !((ak K xs).toArray.isEmpty))=true)from y6)];refine b9 ?_;rw[show(ao m ps f true mv true).place=ps.toArray from rfl,Gx r.up (by rw[HW r];exact hi)];refine b9 ?_;have k:slotAt ps (i+1)=ps.getD i 0+1:=rfl;rw[k]at h;rw[ox]at h;rw[ox,ox]
     cases g:(ak K xs)[i]? with
     | none=>rw[g]at h;exact h
     | some e=>
       rw[g]at h;have d:i<ps.length:=by rw[HW r];exact(z0.mp g).1
       rw[y3 d];rw[eI,y3 d]at h;exact h
def JN(l:S≠I)(r:Tab m (aG K xs) ps)(a:xs.length<=m)(j:xs.length<=1000)(hi:i<(ak K xs).length)(b:s.heap.get? I=some (cW w ps S (ak K xs).length ep i))(d:s.heap.get? S=some (bA (ao m ps f (aH w) mv true) (ak K xs) ep))
 (g:(dX w S ep (ak K xs))[i]? =some e)(h:∀h',Heap.SameBut I s.heap h'->h'.get? I=some (cW w ps S (ak K xs).length ep (i+1))->Q (some e.2) %[|15]):
 wpAny %[|5] A (pyNext (.ref I)) Q E s:=by
 have c:=kO b;unfold pyNext;refine b0 (iq (wpAny_callSpecial?_slot (name:=Str.ofString "__next__") c bx
  (de bx c dY ?_ (dU _))));unfold Builtin.«set_iterator.__next__»;refine b0 (b9 ?_);refine b0 (k9 b rfl ?_);dsimp only;refine b0 (wpAny_setEntries_of d rfl (iG r a) ?_);rw[bP (by simp)];refine b0 ?_;simp only[rawInt,e8];refine wW r a j (f7 hi) d ?_;rw[g];dsimp only[Option.map];refine b0 (i8 b rfl (by simp) ?_);refine b0 (i8 (s:={s with heap:=_}) (lr b) rfl (by simp) ?_);exact b9 %[_,rfl|b9 (h _ ((dS ..).trans (dS ..)) (by have:=lr (k:=1) (x:=rawInt (i+1)) (lr (k:=0) (x:=rawInt (if w.params.followText "set-order"=true then 0 else slotAt ps (i+1):Nat)) b);exact this))]
def JH(hh:A.handled=none)(k:S≠I)(r:Tab m (aG K xs) ps)(c:xs.length<=m)(j:xs.length<=1000)(d:s.heap.get? I=some (cW w ps S (ak K xs).length ep (ak K xs).length))(g:s.heap.get? S=some (bA (ao m ps f (aH w) mv true) (ak K xs) ep))
 (i:(dX w S ep (ak K xs))[(ak K xs).length]? =none)(h:∀h',Heap.ExtBut I s.heap h'->Q none %[|15]):
 wpAny %[|5] A (pyNext (.ref I)) Q E s:=by
 have e:=kO d;unfold pyNext;refine b0 (iq (wpAny_callSpecial?_slot (name:=Str.ofString "__next__") e bx
  (de bx e dY ?_ (dU _))));unfold Builtin.«set_iterator.__next__»;refine b0 (b9 ?_);refine b0 (k9 d rfl ?_);dsimp only;refine b0 (wpAny_setEntries_of g rfl (iG r c) ?_);rw[bP (by simp)];refine b0 ?_;simp only[rawInt,e8];refine wW r c j (y9 _) g ?_;rw[i];dsimp only[Option.map];refine b0 (i8 d rfl (by simp) ?_);show wpAny _ _ (newExc (.type "StopIteration") []>>=_) _ _ _;refine b0 ?_;simp only[newExc,newTuple];refine b0 (da ?_ (by size_fits));refine b0 (m:=firstArgMember _ _) (nI (a:=Value.none) (by first | rfl | (simp only[firstArgMember];rfl)) ?_);refine da ?_ (by size_fits);simp only[raiseNew];refine b0 (nV ?_);rw[show A.in1.handled=none from hh];refine b0 (b9 (wpAny_throw ?_));refine b0 (ft (T:="StopIteration") (b:=true) %[_,bS _ rfl|rfl] n3 ?_);exact b9 (h _ (((dS ..).extBut.push _).push _))
theorem Kp(hh:A.handled=none)(I S:Addr)(a:S≠I)(xs:Cv α)(m f mv:Nat)(ps:ab4)(ep:Nat)(r:Tab m (aG K xs) ps)(d:xs.length<=m)(k:xs.length<=1000):
 Walks prog w A I [I,S] [I] (ak K xs).length (λ i v=>∃e,(dX w S ep (ak K xs))[i]? =some e/\e.2=v) (λ i h=>h.get? I=some (cW w ps S (ak K xs).length ep i)/\h.get? S=some (bA (ao m ps f (aH w) mv true) (ak K xs) ep)) where
 sub:=λ b c=>by simp at c;simp[c]
 frame:=λ _ _ _ st k=>%[k I (by simp) _ st.1|k S (by simp) _ st.2]
 item:=λ i s Q E t st j=>by obtain⟨e,q⟩:∃e,(dX w S ep (ak K xs))[i]? =some e:=%[_|fw (by rw[nu];exact t)];refine JN a r d k t st.1 st.2 q λ l sb g=>j e.2 l s.toks %[e,q|rfl] %[g|?_] λ b o c e=>sb.extBut b o (λ h=>c (by simp[h])) e;rw[sb.2 S a];exact st.2
 done:=λ s Q E st j=>JH hh a r d k st.1 st.2 (eW (by rw[nu];exact y9 _)) λ l p=>j l s.toks λ b o c e=>p b o (λ h=>c (by simp[h])) e
 self:=λ _ s Q E st j=>by have n:=kO (s:=s) st.1;refine kw n d8 (de d8 n jk ?_ (iK _));show wpAny _ _ (ret (.ref I)) _ _ s;exact b9 %[_,rfl,"set_iterator",_,n,bx.lookup|j]
def Pr(r:Tab m (aG K xs) ps)(a:xs.length<=m)(i:xs.length<=1000)(b:s.heap.get? S=some (bA (ao m ps f (aH w) mv true) (ak K xs) ep))
 (h:Q %[|9] {s with heap:=s.heap.push (cW w ps S (ak K xs).length ep 0)}):wpAny %[|5] A (pyIter (.ref S)) Q E s:=by
 have d:s.TypeIs (.ref S) "set":=%[_,b|rfl];refine kw d F.slot_set_iter (de F.slot_set_iter d wI ?_ (F.args_set_iter_1 _));unfold Builtin.«frozenset.__iter__» Builtin.Frozenset.slot0 Builtin.Frozenset.sizeOf setDrawn;refine b0 (b0 (b9 (b9 ?_)));refine b0 (b0 (wpAny_setEntries_of b rfl (iG r a) (b9 ?_)));refine b0 (b0 (b8 r a b ?_));unfold setsByText;dsimp only;refine b0 (b0 (i4 (b9 (b9 ?_))));split;{rename_i hx;rw[fg]at hx;exact absurd hx.2 y6}
 . refine b0 (b9 ?_);refine b0 (wpAny_setEpoch_of b rfl (iG r a) ?_);refine b0 (da ?_ (by size_fits));have g:(ak K xs).toArray.size=(ak K xs).length:=x5;have e:((if w.params.followText "set-order"=true then 0 else slotAt ps 0:Nat))=0:=by split<;>rfl
   have c:cW w ps S (ak K xs).length ep 0={cls:=.type "set_iterator",dict:=none,data:=.fields [rawInt 0,rawInt 0,.ref S,rawInt ((ak K xs).toArray.size:Nat),rawInt (ep:Nat)].toArray,slots:=#[]}:=by unfold cW;rw[e,g];rfl
   rw[c]at h;exact b9 %[_,rfl,"set_iterator",_,%[_,bS _ rfl|rfl],bx.lookup|h]
def DN(hh:A.handled=none)(r:Tab m (aG K xs) ps)(u:xs.length<=m)(J:xs.length<=1000)(P:s.heap.get? S=some (bA (ao m ps f (aH w) mv true) (ak K xs) ep))
 (h:∀h' tk,(∀b o,b<s.heap.objs.size->%[|24])->s.heap.objs.size<=h'.objs.size->Q ((dX w S ep (ak K xs)).toList.map (·.2)) {s with heap:=h',toks:=tk}):wpAny %[|5] A (collect (.ref S)) Q E s:=by
 have O:S<s.heap.objs.size:=bX P;have g:s.heap.objs.size≠S:=fk O;unfold collect;refine b0 (wpAny_runValue (iN F.entry_proto_collect ?_));rw[i9 F.plain_proto_collect _];show wpAny _ A.in1 (newList []>>=λ l=>again (.builtin "list.__iadd__" %[[l,.ref S]|[]])) _ _ s;refine b0 (da ?_);refine b9 %[lp ny _|iN F.entry_list_iadd ?_];rw[i9 ny _];have n:%[|26].get? S=some (bA (ao m ps f (aH w) mv true) (ak K xs) ep):=bE _ P;have I:Shared.TypeIs {s with heap:=%[|26]} (.ref S) "set":=%[_,n|rfl];show wpAny _ A.in1 (Builtin.List.listExtendWith %[|9] (.ref S) %[|9]) _ _ _;unfold Builtin.List.listExtendWith;refine b0 (hY I ?_);have Y:Builtin.List.listSameRef %[|9] (.ref S)=false:=by simp[Builtin.List.listSameRef,g]
 have Z:(Value.type "set"==Value.type "list")=false:=%[|1]
 have h3:(Value.type "set"==Value.type "tuple")=false:=%[|1]
 simp only[Y,Z,h3,Bool.or_false,cw,e7];refine b0 (Pr (s:={s with heap:=%[|26]}) r u J n ?_);refine b0 (ed ?_);have B:%[|26].objs.size=s.heap.objs.size+1:=size_push' _ _;have y:(%[|26].push (cW w ps S (ak K xs).length ep 0)).get? S=some (bA (ao m ps f (aH w) mv true) (ak K xs) ep):=bE _ n;have D:(%[|26].push (cW w ps S (ak K xs).length ep 0)).get? (s.heap.objs.size+1)=some (cW w ps S (ak K xs).length ep 0):=by rw[<-B];exact bS _ rfl
 have k:Shared.TypeIs {s with heap:=%[|26].push (cW w ps S (ak K xs).length ep 0)} (.ref S) "set":=%[_,y|rfl];have c:(%[|26].push (cW w ps S (ak K xs).length ep 0)).get? s.heap.objs.size=some %[|29]:=bE _ (bS _ rfl);show wpAny %[|5] A.in1 (Builtin.List.listLengthHint (.ref S)) _ _ {s with heap:=%[|26].push (cW w ps S (ak K xs).length ep 0)};unfold Builtin.List.listLengthHint;refine b0 (gT k F.slot_set_len.lookup ?_);have L:splitId "set.__len__"=some ("set","__len__"):=by kernel_rfl
 dsimp only;rw[L];dsimp only;refine b0 (ft k sub_set_self ?_);rw[bP (show ¬((!true)=true)from y6)];rw[c9]
 . refine b0 (hY k ?_);dsimp only;refine b9 ?_;rw[c9]
   . refine b0 (iF ?_);refine b0 ?_;show wpAny _ A.in1 (updateSeq s.heap.objs.size (·.push .none)>>=λ _=>updateSeq s.heap.objs.size (·.pop)) _ _ _;refine b0 (wpAny_updateSeq c rfl ?_);have d:=eR (Obj.mapSeq (·.push Value.none)) c rfl;refine wpAny_updateSeq d rfl ?_;have i:=eR (Obj.mapSeq (·.pop)) d rfl;have p:∀b o,b≠s.heap.objs.size->(%[|26].push (cW w ps S (ak K xs).length ep 0)).get? b=some o->
      (((%[|26].push (cW w ps S (ak K xs).length ep 0)).update s.heap.objs.size (Obj.mapSeq (·.push Value.none))).update s.heap.objs.size (Obj.mapSeq (·.pop))).get? b=some o:=
      λ b o q e=>(kL _ _ (hE q)).trans ((kL _ _ (hE q)).trans e);have H:S≠s.heap.objs.size+1:=cq (ja O);have G:s.heap.objs.size∉[s.heap.objs.size+1,S]:=by intro z;rcases ci.mp z with z | z;{exact absurd z (cq (og _))};{exact g (cb.mp z)}
     have hn:(ak K xs).length<=sizeLine:=by unfold ak;rw[y7];exact cS J %[|1]
     rw[B];refine b9 %[lp F.plain_extend_loop _|codeAny_extend_loopS (Kp (prog:=prog) (A:=A.in1) (by simpa using hh) (s.heap.objs.size+1) S H xs m f mv ps ep r u J).toS hn _ G _ (ak K xs).length 0 _ _ _ rfl (Nat.zero_le _)
      %[p _ _ (fk (og _)) D|p _ _ g.symm y] i (ItemsOf.nil _) λ R a c' C v hacc=>?_];show wpAny _ A (load s.heap.objs.size>>=_) _ _ R;refine b0 (wpAny_load v ?_);obtain⟨h',X,T,N,M⟩:=R;have V:X=s.gens:=C.gens;have U:T=s.drawn:=C.drawn;have W:M=s.os:=C.os;subst V;subst U;subst W;have t:a.toList=(dX w S ep (ak K xs)).toList.map (·.2):=by
      apply gL;intro j;rw[y8,eD,eD];by_cases hj:j<(ak K xs).length
      . have x:j<a.size:=by rw[hacc.1];exact hj
        obtain⟨e,he,hv⟩:=hacc.2 j a[j] (fw x);rw[fw x,he,<-hv];rfl
      {rw[eW (by rw[hacc.1];omega),eW (by rw[nu];omega)];rfl}
     refine b9 ?_;show Q a.toList _;rw[t];refine h h' N (λ b o q e=>?_) ?_;{refine C.heap b o ?_ (p b o (cq q) (bE _ (bE _ e)));intro z;rcases ci.mp z with z | z;{exact absurd z (cq q)};{exact absurd (cb.mp z) (cq (ja q))}};{exact f7 (bX v)}
   {decide}
 {decide}
end
end RF
namespace RF
open PySem PySem.Spec L2 DL
open PyProof.Rows
structure SK(prog:ac4)(w:World)(α:Type)[DecidableEq α](lt:α->α->Bool)(good:α->Prop)(enc:α->D) extends HK prog w α where
 tot:∀{a b:α},a≠b->lt a b=false->lt b a=true
 tr:∀{a b c:α},lt a b=true->lt b c=true->lt a c=true
 irr:∀a:α,lt a a=false
 inj:∀{h:Heap}{v:Value}{c d:α},I h v c->I h v d->c=d
 first:∀{h:Heap}{v:Value}{c:α},I h v c->good c->∃a o xs n f,v=.ref a/\h.get? a=some o/\o.cls=%[|10]/\o.data=.seq xs n/\xs[0]? =some f/\∃k t,f=Value.int k t
 ask:∀{A:ad0}{E:ab3}{s:ab5}{b:Bool}{u v:Value}{c d:α}{Q:ad5},A.units+2<cLine->I s.heap u c->I s.heap v d->Q (lt c d) s->wpAny %[|5] A (keyLt' (tuples' b) u v) Q E s
 of:∀{X:Cx}{pins:ab7}{σ:DL.St}{H:Hp}{s:ab5}{O:Own},X.prog=prog->X.w=w->%[|3]->∀{y:V}{u:Value}{c:α},Rep X.K O H y (enc c)->RelV y u->I s.heap u c
abbrev vC{α:Type}[Inhabited α](lt:α->α->Bool)(cs:List α)(i j:Nat):Bool:=lt (cs.getD i default) (cs.getD j default)
section
variable{prog:Program}{w:World}{α:Type}[DecidableEq α][Inhabited α]{lt:α -> α -> Bool}{good:α -> Prop}{enc:α -> D}
def YQ(K:SK prog w α lt good enc)(nd:cs.Nodup):LtOk cs.length (vC lt cs):=by refine%[λ i j c d f h=>K.tot (λ e=>f ?_) h|λ i j k _ _ _ a b=>K.tr a b];rw[eI,eI,y3 c,y3 d]at e;exact(List.getElem_inj nd).mp e
end
section
variable{prog:Program}{w:World}{α:Type}[DecidableEq α][Inhabited α]{lt:α -> α -> Bool}{good:α -> Prop}{enc:α -> D}{K:SK prog w α lt good enc}{A:Around}{E:%[|17]}{s:Shared}
def Qy{cs:List α}(g:a.length=cs.length)(e:∀c∈cs,good c)(j:∀(i:Nat)(v:Value)(c:α),a[i]? =some v->cs[i]? =some c->K.I h v c):
 ∃fs:List Value,PySem.W.KatTups h a fs/\fs.length=a.length/\∀v∈fs,∃n t,v=Value.int n t:=by
 induction a generalizing cs with
 | nil=>exact%[[],.nil,rfl|λ _ z=>nomatch z]
 | cons v a y=>
   cases cs with
   | nil=>cases g
   | cons c cs=>obtain⟨fs,t,o,b⟩:=y (cs:=cs) (by simpa using g) (λ c x=>e c (x4 _ x)) λ i u k l m=>j (i+1) u k (by simpa using l) (by simpa using m);obtain⟨A,B,C,n,f,rfl,p,q,r,s,w⟩:=K.first (j 0 v c rfl rfl) (e c x6);refine%[f::fs,PySem.W.KatTups.cons p q r s t,by simp[o]|λ v d=>?_];rcases ci.mp d with rfl | d;{exact w};{exact b v d}
def uX(hu:A.units+2<cLine)(F:s.heap.get? a=some (seqObj "list" d.toArray n))
 (z:d.length=cs.length)(hr:∀(i:Nat)(v:Value)(c:α),d[i]? =some v->cs[i]? =some c->K.I s.heap v c)(hg:∀c∈cs,good c)(nd:cs.Nodup)(y:d.length<64)
 (h:∀p:List Nat,OdrL cs.length (vC lt cs) p->R (.done (.ret .none)) {s with heap:=sortedHeap s.heap a d (List.toArray (p.map λ i=>d.getD i Value.none))}):
 wpAny %[|5] A (Builtin.«list.sort» %[[.ref a]|[]]) R E s:=by
 rw[list_sort_plain];have B:a<s.heap.objs.size:=bX F;have r:d.length<=sizeLine:=cS (f7 y) %[|1];refine b0 (listItems_at F rfl ?_);refine b0 (listUpdate_at F rfl ?_ (by rw[x5];exact r) (db _));obtain⟨N,H⟩:∃N,(s.heap.update a (Obj.mapSeq λ _=>#[])).get? a=some (seqObj "list" #[] N):=%[_|get?_update_seq F (λ _=>#[])];refine b0 (seqEpoch_at H rfl ?_);refine b0 (wpAny_newTuple ?_ (by show d.length<=_;exact r));refine b0 (wpAny_newList ?_ (db _));refine ed ?_;have g:(((s.heap.update a (Obj.mapSeq λ _=>#[])).push (seqObj "tuple" d.toArray 0)).push (seqObj "list" #[] 0)).get? a=some (seqObj "list" #[] N):=by rw[kR _ _ _ (by rw[size_push',lj];exact cq (ja B)),kR _ _ _ (by rw[lj];exact cq B)];exact H
 show wpAny %[|5] A _ R E {s with heap:=((s.heap.update a (Obj.mapSeq λ _=>#[])).push (seqObj "tuple" d.toArray 0)).push (seqObj "list" #[] 0)};dsimp only;have J:(d.toArray.zip d.toArray).map (·.2)=d.toArray:=by apply lh.mp;simp[List.map_snd_zip]
 have M:∀(i:Nat)(v:Value)(c:α),d[i]? =some v->cs[i]? =some c->K.I (((s.heap.update a (Obj.mapSeq λ _=>#[])).push (seqObj "tuple" d.toArray 0)).push (seqObj "list" #[] 0)) v c:=λ i v c q1 q2=>K.keep (λ b o e c=>by
  have S:b≠a:=by rintro rfl;rw[F]at e;cases e;exact absurd (show Value.type "list"=Value.type "tuple" from c) %[|1]
  have D:b<s.heap.objs.size:=bX e;rw[kR _ _ _ (by rw[size_push',lj];exact cq (ja D)),kR _ _ _ (by rw[lj];exact cq D),Heap.get?_update_ne _ _ _ _ S];exact e) (hr i v c q1 q2);by_cases u:d.toArray.size<2
 . rw[c9 u,c9 u];refine b0 (b9 ?_);rw[StateT.run_pure];refine b0 (b9 ?_);dsimp only;refine b0 (seqEpoch_at g rfl ?_);rw[show arrOf (SortSt.mk' general' (d.toArray.zip d.toArray) #[] 7 none)=d.toArray.zip d.toArray from rfl,J];refine b0 (listUpdate_at g rfl ?_ (db _) (by rw[x5];omega));simp only[bne_self_eq_false,cw,e7];have L:OdrL cs.length (vC lt cs) (List.range cs.length):=by refine%[by simp,λ i m=>dV.mp m,oi|?_];rw[x5]at u;rcases cs with _ | ⟨k1,_ | ⟨k2,cs⟩⟩;{exact List.Pairwise.nil};{simp[mh]};{exfalso;simp at z;omega}
   have Z:((List.range cs.length).map λ i=>d.getD i Value.none)=d:=by rw[<-z];refine gL λ i=>?_;rw[y8];by_cases m:i<d.length;{simp[m]};{rw[fS (by rw[ic];omega),fS %[|0]];rfl}
   have h:=h _ L;rw[Z]at h;exact b9 h
 . rw[bP u,bP u];rw[x5]at u;obtain⟨fs,tp,fl,fi⟩:=Qy z hg M;refine b0 (PySem.W.kat_kind (T:=.type "int") tp %[|0] (λ v hv=>?_) rfl ?_);{obtain⟨n,t,rfl⟩:=fi v hv;exact PySem.W.Looks.of_pure rfl};have W:=V0 (YQ K nd) %[|0];generalize hs1:({s with heap:=((s.heap.update a (Obj.mapSeq λ _=>#[])).push (seqObj "tuple" d.toArray 0)).push (seqObj "list" #[] 0)}:Shared)=s1;have V:∀(i:Nat)(v:Value)(c:α),d[i]? =some v->cs[i]? =some c->K.I s1.heap v c:=by rw[<-hs1];exact M
   refine b0 (gy (PySem.W.kat_run (Q:=λ l f=>f=s1/\∃p:List Nat,(arrOf l).map (·.2)=List.toArray (p.map λ i=>d.getD i Value.none)/\failedOf l=none/\OdrL cs.length (vC lt cs) p) (G:=λ p f=>f=s1/\Pm cs.length p/\Srt (vC lt cs) p cs.length) rfl %[|0] y ?_ ?_) ?_ λ _ _ x=>x);{rintro p l f L O U ⟨rfl,P,X⟩;exact%[rfl,p.toList,PySem.W.kat_snds rfl O,U|V8 P X]};{rw[z];refine bw.wp (I:=λ f=>f=s1) (λ i j C f m hj e k=>?_) _ s1 W rfl λ p f q e=>%[e|q];subst e;have Y:∀i,i<cs.length->K.I f.heap (d.getD i Value.none) (cs.getD i default):=λ i m=>V i _ _ (by rw[eI];simp[show i<d.length by omega]) (by rw[eI];simp[m]);unfold PySem.W.kas_ask;exact K.ask hu (Y i m) (Y j hj) (k _ rfl)}
   . rintro⟨⟨⟩,l⟩ f ⟨rfl,p,h1,U,L⟩;subst hs1;dsimp only;refine b0 (seqEpoch_at g rfl ?_);rw[h1];have hz:(p.map λ i=>d.getD i Value.none).length=d.length:=by rw[y7,L.len,z]
     refine b0 (listUpdate_at g rfl ?_ (db _) (by rw[x5,hz];exact Nat.le_succ_of_le r));rw[U];simp only[bne_self_eq_false,cw,e7];exact b9 (h p L)
def tL{k n:Type}{f}:∀{l m:List n},l.Perm m->∀{xs:List k},m=xs.map f->∃ys:List k,ys.Perm xs/\l=ys.map f:=by
 intro l m h
 induction h with
 | nil=>
   intro xs e;have:xs=[]:=by cases xs with | nil=>rfl | cons=>cases e
   subst this;exact%[[],.refl _|rfl]
 | cons x _ o=>
   intro xs e
   cases xs with
   | nil=>cases e
   | cons y xs=>injection e with d c;obtain⟨ys,p,g⟩:=o c;exact%[y::ys,p.cons y|by rw[d,g];rfl]
 | swap x y l=>
   intro xs e
   cases xs with
   | nil=>cases e
   | cons a xs=>
     cases xs with
     | nil=>cases e
     | cons b xs=>injection e with d c;injection c with c g;exact%[b::a::xs,.swap ..|by rw[d,c,g];rfl]
 | trans _ _ i j=>intro xs e;obtain⟨ys,p,d⟩:=j e;obtain⟨r,q,c⟩:=i d;exact%[r,q.trans p|c]
end
def Dw(c:ac9):ltC c c=false:=by unfold ltC;rw[c9 rfl];exact Cw _
def kJ(prog:ac4)(w:World):SK prog w (Int×List Int) ltC (λ _=>True) cD where
 h:=hC prog w
 I:=bO
 keep:=bO.keep
 ref:=λ⟨b,_,_,_,_,e,_⟩=>%[b|e]
 eq:=λ d a f=>Ay d a f
 seen:=QL
 hbv:=λ a h=>U9 (n:=6) a h
 hash:=λ d a h=>Sw d a h
 tot:=vZ
 tr:=Pa
 irr:=Dw
 inj:=Dc
 first:=by rintro h v c ⟨b,o,k,q,u,i,j,l,m,t⟩ _;exact%[b,o,_,k,_,i,j,l,m,rfl,_,q|rfl]
 ask:=λ d a f h=>Y0 d a f h
 of:=by rintro X g x H s O rfl rfl I y u c r p;exact eY I r p
def W4{kvs:Kc}(Q:X.calm=true)(T:S[k]? =some (.non::kvs.map encC))
 (w:W (.lst ((kvs.map (·.1)).map cD)) S):dw X (.type "list") [.dlo k] S W:=by
 intro D s σ H O vs us I A r ru;obtain⟨v,rfl,r'⟩:=cO r;obtain⟨u,rfl,z⟩:=vals1 ru
 cases r' with
 | @dlo a _ P U=>
   cases z;obtain⟨Y,mu,f,eH,x,⟨oo,es,J,K,L,B,g5,g6⟩,hz⟩:=dI I (A.dob k a _ P T);have t:=x.length;have p:=rJ x;have G:es.size=f.length:=by rw[<-dA,B,y7]
   refine PySem.W.kdl_call (Dl (es:=es) Y) (I.ok.hd Q) %[oo,J,K|L] %[|0] λ M tk g c n N hacc=>?_;have l:H s.heap.objs.size=none:=I.hok.fresh (y9 _);have F:g.toList=f.map λ y=>Value.ref y.2.1:=by
    refine gL λ j=>?_;rw[y8,eD];by_cases R:j<es.size
    . have C:j<g.size:=by rw[hacc.1];exact R
      obtain⟨e,b,h⟩:=hacc.2 j g[j] (by simp[C]);have m:es.toList[j]? =some e:=by rw[eD];exact b
      rw[B,y8]at m
      cases q:f[j]? with
      | none=>rw[q]at m;cases m
      | some y=>rw[q]at m;cases m;rw[fw C,h];rfl
    {rw[eW (by rw[hacc.1];omega),fS %[|0]];rfl}
   have E:g=(f.map λ y=>Value.ref y.2.1).toArray:=by rw[<-F]
   have Z:aN X.prog X.w (upd H s.heap.objs.size (.lst (f.map λ y=>V.ref y.2.1))) M s.heap.objs.size (.lst (f.map λ y=>V.ref y.2.1)):=
    ⟨by rw[y7];omega,f.map λ y=>Value.ref y.2.1,c,Us (by simp) (λ i v u b h=>by
     rw[y8]at b h
     cases q:f[i]? with
     | none=>rw[q]at b;cases b
     | some j=>rw[q]at b h;cases b;cases h;rfl),by rw[<-E];exact N⟩;have rk:=uN x;have o:Reps X.K O H (f.map λ y=>V.ref y.2.1) ((kvs.map (·.1)).map cD):=Sh (by simp[t]) λ i v d b h=>by
    rw[y8]at b;rw[<-p,y8,y8]at h
    cases q:f[i]? with
    | none=>rw[q]at b;cases b
    | some y=>rw[q]at b h;cases b;cases h;exact rk i y q
   refine%[%[|9],_,I.laid (t':=tk) n (y9 _) Z,rfl|?_];exact%[O,_,S,w,Step.fresh l _,A.fresh l _|.lst (Ln A l) (o.mono (Step.fresh l _))]
def Ea:Bc where
 x:="list"
 id:="list"
 boot:=%[|11]
 wp b S W:=∃(k:Nat) (a:Kc),b=[.dlo k]/\S[k]? =some (.non::a.map encC)/\W (.lst ((a.map (·.1)).map cD)) S
 sound:=by rintro X b S W e f ⟨k,a,rfl,c,d⟩;exact W4 e c d
section
variable{P:Program}{w:World}{K:PySem.W.Frag}
def WL(a:Addr)(n:Nat):It:=
 %[λ i H=>∃d c b u,H a=some (.ext (bc a d))/\d.length=n/\d[i]? =some (c,b,u),
  λ i H x e=>e=H/\∀d,H a=some (.ext (bc a d))->∃c b u,d[i]? =some (c,b,u)/\x=.ref b|
  λ i H=>∃d,H a=some (.ext (bc a d))/\d.length=n/\n<=i]
theorem O9(a r:Addr)(n:Nat):Turn P w K tg (WL a n) [r] r (λ i h=>h.IsKeyIter r a i n n) where
 mem:=by simp
 obj:=λ i h A b m=>by obtain⟨o,ho,W,hd⟩:=A;rw[cb.mp m];exact%[o,ho|λ v z=>by rw[hd]at z;cases z]
 keep:=λ i h C A k=>A.at λ o e=>k r (by simp) o e
 item:=by
  intro X U hw hK W i l s σ H E I G p Y;obtain⟨ys,c,b,u,S,x,Z⟩:=Y;obtain⟨⟨_,_,_,o,B,D,h2,q,F⟩,_,_⟩:=(show aN X.prog X.w H s.heap a (.ext (bc a ys))from I.hok a _ S);have d:B.size=n:=by rw[<-dA,F,y7,x]
  have j:B[i]? =some %[hC0 c,.ref b|u]:=by rw[<-eD,F,y8,Z];rfl
  have uq:∀g,H a=some (.ext (bc a g))->∃t L u',g[i]? =some (t,L,u')/\V.ref b=.ref L:=λ g T=>by
   obtain⟨⟨_,_,_,o',aa,k1,_,J,k4⟩,_,_⟩:=(show aN X.prog X.w H s.heap a (.ext (bc a g))from I.hok a _ T);obtain rfl:o=o':=cf (D.symm.trans k1);rw[q]at J;injection J with J _;subst J;rw[<-eD,k4,y8]at j
   cases e:g[i]? with
   | none=>rw[e]at j;cases j
   | some y=>rw[e]at j;obtain⟨t,L,u'⟩:=y;have j:=cf j;injection j with _ hx1 hx2;injection hx1 with hx1;subst hx1;exact%[t,_,u',rfl|rfl]
  rw[x]at q;subst U hw;obtain⟨M,N,f2,O,Q,R⟩:=G r (by simp);refine DR D q (by rw[d];exact p) j λ C f sb=>?_;have I1:Inv X l σ H {s with heap:=C}:=I.turned (t':=s.toks) (λ b o m e=>(sb.2 b m).trans e) M N O Q R;rw[d]at f;obtain⟨o',e,t,d'⟩:=id f;exact%[.ref b,rfl|zx (s:={s with heap:=C}) e t d' %[|1] %[.ref b,H,I1,rfl,%[rfl|uq],f|λ b m=>(G b m).1]]
 done:=by
  intro X U hw hK W i l s σ H E I G p Y;obtain⟨ys,S,x,Z⟩:=Y;obtain⟨⟨_,_,_,o,B,D,h2,q,F⟩,_,_⟩:=(show aN X.prog X.w H s.heap a (.ext (bc a ys))from I.hok a _ S);have d:B.size=n:=by rw[<-dA,F,y7,x]
  rw[x]at q;subst U hw;obtain⟨M,N,f2,O,Q,R⟩:=G r (by simp);exact HX (I.ok.hd W) D q (by rw[d];exact p) (by rw[d];exact Z) λ C ext=>%[rfl|I.turned (t':=s.toks) (λ b o m e=>ext b o m e) M N O Q R]
 self:=λ _ _ _ _ _ A h=>wpAny_pyIter_keyiter A h
end
section
variable{K:PySem.W.Frag}{O:Own}{H:Hp}
def Hb{k:Nat}{kcs:Kc}(h:O.A[k]? =some (a,true)):jH K (WL a kcs.length) O H (λ S=>S[k]? =some (.non::kcs.map encC)) (kcs.map λ kv=>cD kv.1):=by
 intro w s Y L V N i;have M:w.A[k]? =some (a,true):=L.lc k _ h;have P:=V.dob k a _ M N;obtain⟨f,e,r⟩:∃f,s a=some (.ext (bc a f))/\Kcs K w s f (kcs.map encC):=by
  cases P with
  | t U e r=>cases r
  | c f n e r=>cases r
  | o f n e r=>cases r
  | m f d' j e r=>obtain⟨_,rfl⟩:=io j;exact%[f,e|r]
  | p ps n b l c z q k e j g=>cases j
 have G:=r.length;have B:∀(kcs:Kc)(f:Cy),Kcs K w s f (kcs.map encC)->∀(i:Nat)(kv:(Int×List Int)×D),kcs[i]? =some kv->∃b u,f[i]? =some (kv.1,b,u)/\Rep K w s (.ref b) (cD kv.1):=by
  intro kcs
  induction kcs with
  | nil=>intro f r i kv h;simp at h
  | cons T kcs R=>
    intro f r i kv h;obtain⟨b,u,v,F,rfl,W,rv,rd,t⟩:=r.inv
    cases i with
    | zero=>cases h;exact%[b,u,rfl|W]
    | succ i=>obtain⟨b,u,A,C⟩:=R F t i kv (by simpa using h);exact%[b,u,by simpa using A|C]
 refine%[λ d j=>?_|λ Q=>%[f,e,G|by rw[Q,y7];exact y9 _]];obtain⟨kv,E,rfl⟩:=aV j;obtain⟨b,u,A,C⟩:=B kcs f r i kv E;refine%[%[f,kv.1,b,u,e,G|A]|λ x J y=>?_];obtain⟨rfl,X⟩:=y;obtain⟨c2,Z,u2,I,rfl⟩:=X f e;rw[A]at I;cases I;exact%[dR.refl _|C]
end
section
variable{X:Cx}{Γ:Gam}{S:Store}
def VP
 (h:Ev X Γ S o λ d S1=>∃k kvs,d=.dlo k/\S1[k]? =some (.non::List.map encC kvs)/\W (kvs.map λ kv=>cD kv.1) (λ S=>S[k]? =some (.non::kvs.map encC)) S1):ItC X Γ S N o W:=by
 intro f s Q H O I j M;refine thn (h f s Q H O I j M) λ u s1 l=>?_;obtain⟨x,p,i,L,q,Y,S1,⟨k,kvs,rfl,E,w⟩,m,c,g⟩:=l
 cases g with
 | @dlo a _ n G=>
   obtain rfl:u=Value.ref a:=L;have B:=c.dob k a _ n E;obtain⟨K,U,P,R,J,⟨V,r,v,y,z,A,_,_⟩,T⟩:=dI i B;have t:r.size=P.length:=by rw[<-dA,A,y7]
   refine xU K v y z ?_;have F:=J.length;rw[t,F];refine%[_,[s1.heap.objs.size],_,_,p,rfl,i.kept (t':=s1.toks) (λ b o e=>bE _ e),O9 a _ kvs.length,%[_,bS _ rfl,rfl|rfl],λ b C=>?_,q,kvs.map λ kv=>cD kv.1,_,S1,w,m,c|Hb n];rw[cb.mp C];exact i.fpOk (y9 _) (i.hok.fresh (y9 _))
end
section
variable{Ω:Wd}
@[irreducible] noncomputable def zU(Γ:Gam)(tg:Tg)(body:Bl Ω)(W:DL.Fin)(k:Nat)(kvs:Kc)(S1:Store):Prop:=
  ∃c:Nat->Gam->%[|4],c 0 Γ S1/\(∀i a b,c i a b->b[k]? =some (.non::kvs.map encC))/\(∀i kv a b,kvs[i]? =some kv->c i a b->tg.wp (cD kv.1) a λ d=>body.wp d b {W with nx:=c (i+1),ct:=c (i+1),bk:=W.nx})/\(∀a b,c kvs.length a b->W.nx a b)
def Vj{a:Bl Ω}(h:∃Pv:Nat->Gam->%[|4],Pv 0 d b/\(∀i Γ' S',Pv i Γ' S'->S'[k]? =some (.non::kvs.map encC))/\(∀i kv Γ' S',kvs[i]? =some kv->Pv i Γ' S'->c.wp (cD kv.1) Γ' λ Γ2=>a.wp Γ2 S' {W with nx:=Pv (i+1),ct:=Pv (i+1),bk:=W.nx})/\(∀Γ' S',Pv kvs.length Γ' S'->W.nx Γ' S')):zU d c a W k kvs b:=by unfold zU;exact h
def abN(tg:Tg)(o:Ex Ω)(body:Bl Ω):Sm Ω where
 lev:=max o.lev body.lev
 chk c N h v:=frB v λ t x b=>nameE x&&(tg.chk c N h t&&(o.chk c N h x&&body.chk c N h b))
 wp s S W:=o.wp s S λ d m=>match d with
  | .dlo k=>∃a,m[k]? =some (.non::List.map encC a)/\zU s tg body W k a m
  | _=>False
 sound:=by
  intro X r c N h v s S W A E n F;obtain⟨H,I⟩:=lv2 E;refine oW n λ t x b M n=>?_
  . refine an4 n λ w y z B=>?_;refine Cu (VP (Ev.mono (o.sound A H z F) λ d m q=>?_)) (by rw[A.xe];exact md) A.calm (λ _=>by cases x<;>first | rfl | exact ff w)
    cases d with
    | dlo k=>obtain⟨a,D,q⟩:=q;unfold zU at q;obtain⟨j,J,K,O,L⟩:=q;refine%[k,a,rfl,D,j,J,K,λ i d e l C g=>?_|λ e l g=>L e l (by rw[y7]at g;exact g)];obtain⟨G,p,rfl⟩:=aV C;exact BdW.mono (Tg.sound A (W:=λ f u=>body.wp f u {W with nx:=j (i+1),ct:=j (i+1),bk:=W.nx}) y (O i G e l p g)) λ f u q=>body.sound A I B q
    | _=>exact(show False from q).elim
end
section
variable{P:Program}{w:World}{A:Around}{E:%[|17]}{s:Shared}{d v:Addr}{ep:Nat}{es:Array DictEntry}{od:Obj}
def Ba(a:(d==sysModules)=false):MeetsIn P w (Builtin.«dict.values» %[[.ref d]|[]]) (λ _ R s=>s.TypeIs (.ref d) "dict"/\R (.ok (.ret %[|9])) {s with heap:=s.heap.push {cls:=.type "dict_values",data:=.fields #[.ref d]}}):=
 .of_wp λ A R s ⟨T,h⟩=>by unfold Builtin.«dict.values»;refine b0 ?_;unfold Builtin.Dict.noArgs;refine b0 (gp T ?_);show wpAny _ _ (pure d) _ _ s;refine b9 ?_;show wpAny _ _ (Builtin.Dict.showsAll d>>=_) _ _ s;unfold Builtin.Dict.showsAll;rw[bP (by rw[a];exact y6)];exact b0 (b9 (b0 (da (b9 %[_,rfl|h]))))
def Fx(g:s.heap.IsValuesView v d)(b:s.heap.get? d=some od)(a:od.data=.dict es ep)
 (h:Q %[|9] {s with heap:=s.heap.push {cls:=.type "dict_valueiterator",data:=.fields #[.ref d,.int 0 0,.int es.size 0,.int ep 0]}}):
 wpAny (model P w) A (pyIter (.ref v)) Q E s:=by
 obtain⟨j,f,i,e⟩:=id g;have c:Builtin.Dict_items.ownsTuple "dict_valueiterator"=false:=%[|1]
 refine kw g.typeIs F.slot_dict_values_iter (de F.slot_dict_values_iter g.typeIs F.entry_dict_values_iter ?_ (F.args_dict_values_iter_1 _));unfold Builtin.«dict_values.__iter__»;refine b0 (b9 (b0 ?_));unfold Builtin.Dict_items.dictOf;refine b0 (eM f e (x:=.ref d) rfl (b9 (b0 ?_)));unfold Builtin.Dict_items.newIterator;refine b0 (dE b a (b0 (fI b a ?_)));simp only[c,cw,e7];refine da (b9 %[_,rfl,"dict_valueiterator",_,%[_,bS _ rfl|rfl],h8.lookup|?_]);simpa[rawInt]using h
end
section
variable{P:Program}{w:World}{A:Around}{E:%[|17]}{s:Shared}{d it:Addr}{i ep:Nat}{es:Array DictEntry}{od:Obj}{e:DictEntry}
def Q0(f:s.heap.get? d=some od)(b:od.data=.dict es ep)(c:s.heap.IsValIter it d i es.size ep)(m:es[i]? =some e)
 (k:∀h',h'.IsValIter it d (i+1) es.size ep->Heap.SameBut it s.heap h'->Q (some e.val) %[|15]):wpAny (model P w) A (pyNext (.ref it)) Q E s:=by
 obtain⟨o,j,l,h⟩:=id c;have T:=c.typeIs;have g:Builtin.Dict_items.ownsTuple "dict_valueiterator"=false:=%[|1]
 unfold pyNext;refine b0 (iq (wpAny_callSpecial?_slot (name:=Str.ofString "__next__") T h8 (de h8 T F.entry_dict_valueiterator_next ?_ (F.args_dict_valueiterator_next_1 _))));refine b0 (b9 (b0 (b0 ?_)));refine b0 (jI T (b9 (b0 (k9 j h ?_))));simp only[g,cw,e7];show wpAny _ _ (if(Value.ref d==Value.none)=true then _ else _) _ _ s;rw[bP (show ¬((Value.ref d==Value.none)=true)from y6)];refine b0 (b9 (b0 (dE f b ?_)));rw[bP (by simp)];refine b0 (b9 (b0 (fI f b ?_)));rw[bP (by simp)];refine b9 ?_;simp only[show ¬((i:Int)<0)from %[|0],e7,e8,m];refine b0 ?_;refine b0 (jI T (b9 (b0 (oy T ?_))));show wpAny _ _ (setField (.ref it) 1 (rawInt ((i:Int)+1))>>=_) _ _ s;refine b0 (i8 j h (by simp) ?_);have a:(s.heap.update it (Obj.mapFields (·.setIfInBounds 1 (rawInt ((i:Int)+1))))).IsValIter it d (i+1) es.size ep:=
  %[_,eR _ j (ol (kg h _)),(Obj.cls_mapFields ..).trans l|by rw[kg h];simp[rawInt]];refine b0 (ed (b0 (oy (s:={s with heap:=s.heap.update it (Obj.mapFields (·.setIfInBounds 1 (rawInt ((i:Int)+1))))}) a.typeIs ?_)));rw[bP %[|1]];refine b0 (oy (s:={s with heap:=s.heap.update it (Obj.mapFields (·.setIfInBounds 1 (rawInt ((i:Int)+1))))}) a.typeIs ?_);show wpAny _ _ (pure e.val) _ _ _;exact b9 (b9 %[_,rfl|b9 (k _ a (dS ..))])
def Vh(hh:A.handled=none)(f:s.heap.get? d=some od)(c:od.data=.dict es ep)(e:s.heap.IsValIter it d i es.size ep)(l:es.size<=i)
 (k:∀h',Heap.ExtBut it s.heap h'->Q none %[|15]):wpAny (model P w) A (pyNext (.ref it)) Q E s:=by
 obtain⟨o,j,n,h⟩:=id e;have T:=e.typeIs;have g:Builtin.Dict_items.ownsTuple "dict_valueiterator"=false:=%[|1]
 unfold pyNext;refine b0 (iq (wpAny_callSpecial?_slot (name:=Str.ofString "__next__") T h8 (de h8 T F.entry_dict_valueiterator_next ?_ (F.args_dict_valueiterator_next_1 _))));refine b0 (b9 (b0 (b0 ?_)));refine b0 (jI T (b9 (b0 (k9 j h ?_))));simp only[g,cw,e7];show wpAny _ _ (if(Value.ref d==Value.none)=true then _ else _) _ _ s;rw[bP (show ¬((Value.ref d==Value.none)=true)from y6)];refine b0 (b9 (b0 (dE f c ?_)));rw[bP (by simp)];refine b0 (b9 (b0 (fI f c ?_)));rw[bP (by simp)];refine b9 ?_;simp only[show ¬((i:Int)<0)from %[|0],e7,e8,eW l];refine b0 ?_;refine b0 (jI T (b9 ?_));show wpAny _ _ (setField (.ref it) 0 .none>>=_) _ _ s;refine b0 (i8 j h (by simp) ?_);show wpAny _ _ (newExc (.type "StopIteration") []>>=_) _ _ _;refine b0 ?_;simp only[newExc,newTuple];refine b0 (da (b0 (m:=firstArgMember _ _) (nI (a:=Value.none) (by first | rfl | (simp only[firstArgMember];rfl)) (da ?_ (by size_fits)))) (by size_fits));simp only[raiseNew];refine b0 (nV ?_);rw[show A.in1.handled=none from hh];refine b0 (b9 (wpAny_throw ?_));refine b0 (ft (T:="StopIteration") (b:=true) %[_,bS _ rfl|rfl] n3 ?_);exact b9 (k _ (((dS ..).extBut.push _).push _))
end
section
variable{P:Program}{w:World}{A:Around}{E:%[|17]}{s:Shared}{d:Addr}
def Gh:MeetsIn P w (Builtin.«dict.clear» %[[.ref d]|[]]) (λ _ R s=>s.TypeIs (.ref d) "dict"/\∃o es ep,s.heap.get? d=some o/\o.data=.dict es ep/\es.size<=sizeLine/\R (.ok (.ret .none)) {s with heap:=s.heap.update d (Obj.mapDictKeys λ _=>#[])}):=
 .of_wp λ A R s ⟨T,o,es,ep,g1,g2,g3,h⟩=>by unfold Builtin.«dict.clear»;refine b0 ?_;unfold Builtin.Dict.noArgs;refine b0 (gp T ?_);show wpAny _ _ (pure d) _ _ s;refine b9 ?_;refine b0 (dE g1 g2 (b0 ?_));unfold bearsInstanceDictMark;refine b0 (wpAny_load g1 (b9 ?_));refine b0 (pk g1 g2 ?_ g3 (db _));dsimp only;split;{exact b0 (wpAny_letGo (b9 %[_,rfl|h]))};{exact b9 %[_,rfl|h]}
end
section
variable{X:Cx}{Γ:Gam}{S:Store}{W:WD}
def Uv(E:attributeBase o "clear" X.env (eval o X.env)=eval o X.env)(J:(c.endLine==b.line)=true)
 (h:Ev X Γ S o λ d S1=>∃k kvs,d=.dlo k/\S1[k]? =some (.non::List.map encC kvs)/\W .non (S1.set k [])):Ev X Γ S (.Call (.Attribute o "clear" c) [] [] b) W:=by
 intro g s V H O I l R;refine nw (T:="dict") (id:="dict.clear") E rfl J F.plainAttrs_dict F.slot_dict_clear F.type_dict_clear (thn (h g s V H O I l R) λ u s1 q=>?_);obtain⟨x,H1,j,P,O1,xd,S1,⟨k,kvs,rfl,G,w⟩,r,f,i⟩:=q
 cases i with
 | @dlo a _ n p=>
   obtain rfl:u=Value.ref a:=P;have A:=f.dob k a _ n G;obtain⟨v,U,t3⟩:=A.typ p j;obtain⟨K,L,B,Y,kc,⟨N,y,z,C,m,D,_,_⟩,hz⟩:=dI j A;have Z:y.size=B.length:=by rw[<-dA,D,y7]
   refine%[v,U|?_];show wpAny _ _ (callWith b (.builtin "dict.clear") [.ref a] [] []) _ _ s1;refine method_meetsIn F.slot_dict_clear F.entry_dict_clear rfl (pS %[rfl,v,F.args_dict_clear_1 _,_,Gh,v,N,y,B.length,z,m,%[|0]|?_]);have e:=eR (Obj.mapDictKeys λ _=>#[]) z (lP (kA m _));have M:aN X.prog X.w (upd H1 a (.dT [])) (s1.heap.update a (Obj.mapDictKeys λ _=>#[])) a (.dT []):=
    %[db _,K,[],.nil,_,#[],_,e,C.mapDictKeys _,kA m _,rfl|fT];have Q:=Step.put (O:=O1) (H:=H1) (cI n) (.dT []);exact%[.non,upd H1 a (.dT []),v9 (t':=s1.toks) j L (dS ..) %[_|e] M,rfl,O1,.non,_,w,r.trans Q,f.putO n (.t [] aL .nil)|.non]
end
def zy:D->Bool
 | .dic=>true
 | .dlo _=>true
 | _=>false
def Vk(K:ab2)(d:D):PySem.W.kitOne K (.type (tyD d)) (.type "dict")=some (zy d):=by cases d<;>kernel_rfl
def Vw(h:Ev X z S a λ x S1=>W (.bl (zy x)) S1)(n:X.mg "isinstance"=none)(D:X.mg "dict"=none)(m:Gl X "isinstance")(C:Gl X "dict")
 (i:starEach [a,.Name "dict" q] X.env=(false,eval a X.env)::starEach [.Name "dict" q] X.env):Ev X z S (.Call (.Name "isinstance" p) [a,.Name "dict" q] [] pos) W:=by
 intro b s A H O I l J;have B:eZ X (.builtin "isinstance") (λ y k Q=>∃v,y=[v,.ty "dict"]/\∃f d g,StOk X.K f k g/\Rep X.K f k v d/\Q (.bl (zy d)) k):=by intro b s A H y M Q I r h;obtain⟨v,rfl,f,d,g,o,c,q⟩:=h;obtain⟨u,L,rfl,F,G⟩:=vals2 r;cases G;refine Ij I o c F λ Z e p E=>?_;subst e;exact PySem.W.kia_one Z I.kIn p (Vk X.K d) E λ K=>%[.bl _,H,I.tok K,rfl|q]
 refine zL B m n PyProof.Rows.boot_isinstance (iw h.pe (iw (Hz C D (show bootBuiltins "dict"=some (.type "dict")from %[|11]) (v:=.ty "dict") rfl %[|1] %[|1]) uo rfl) i) %[|1] %[|1] i rfl b s A H _ I %[O,l,J|λ v k q=>?_];obtain⟨f,d,g,w,t,j,c⟩:=q;exact%[v,rfl,f,d,g,j,c,f,_,g,w,t,j|.bl _]
section
variable{Ω:Wd}
def abV(hm1:Ω.mg "isinstance"=none)(a:Ex Ω)(hm:Ω.mg "dict"=none):Ex Ω where
 lev:=a.lev
 chk g N d e:=cA e λ f j=>two2 j λ b n=>anB (nameV n) λ t=>(f==("isinstance":Str))&&((t==("dict":Str))&&(glb d "isinstance"&&(glb d "dict"&&(okE b&&a.chk g N d b))))
 wp k S W:=a.wp k S λ x l=>W (.bl (zy x)) l
 sound:=by intro X r g N d e k S W A z y C;refine bh y λ f p j D h=>?_;refine two2_ind h λ b n c=>?_;have c:anB (nameV n) (λ t=>(f==("isinstance":Str))&&((t==("dict":Str))&&(glb d "isinstance"&&(glb d "dict"&&(okE b&&a.chk g N d b)))))=true:=c;obtain⟨t,B,i⟩:=bD c;obtain⟨q,rfl⟩:=gr B;refine an6 i λ m o s u v w=>?_;obtain rfl:=ZU m;obtain rfl:=ZU o;exact Vw (a.sound A z w C) (by rw[A.g];exact hm1) (by rw[A.g];exact hm) (A.glb s) (A.glb u) (aK v _ _)
end
section
variable{prog:Program}{w:World}{α:Type}[DecidableEq α]{K:HK prog w α}{A:Around}{E:%[|17]}{s:Shared}
def bN.mono(h:bN m n)(a:k<=n):bN m k:=%[h.1|by have:=h.2;omega]
def QK:∀n,n<253->n<SetTable.sizeAbove n/\(SetTable.sizeAbove n-1=7\/SetTable.sizeAbove n-1=15\/SetTable.sizeAbove n-1=31\/SetTable.sizeAbove n-1=63\/SetTable.sizeAbove n-1=127\/SetTable.sizeAbove n-1=255):=%[|11]
def Dy(d:s.heap.get? a=some (bA %[|16] (ak K xs) ep))(T:Tab m (aG K xs) ps)(F:bN m xs.length)(q:xs.length+more<=126)
 (h:∀h' m' xs' ps' mv' ep',Heap.SameBut a s.heap h'->h'.get? a=some (bA (ao m' ps' f led mv' pl) (ak K xs') ep')->Tab m' (aG K xs') ps'->bN m' (xs.length+more)->xs'.Perm xs->Q () %[|15]):
 wpAny %[|5] A (setRoomFor a more) Q E s:=by
 unfold setRoomFor;refine b0 (b8 T (f7 F.few) d ?_);have l:=T.len;unfold aG at l;rw[y7]at l;have i:%[|16].roomFor more=if(xs.length+more)*5≥m*3 then some ((xs.length+more)*2)else none:=by unfold SetTable.roomFor SetTable.fill ao;simp only[x5,<-l];rfl
 rw[i];by_cases c:(xs.length+more)*5≥m*3;{rw[c9 c];obtain⟨p,g⟩:=QK ((xs.length+more)*2) %[|0];have e:bN (SetTable.sizeAbove ((xs.length+more)*2)-1) (xs.length+more):=%[g|by generalize SetTable.sizeAbove ((xs.length+more)*2)=M at p g;omega];have b:=e.mono (gz xs.length more);refine xG d T (f7 F.few) b.all (f7 b.few) %[|0] (cS (by have:=b.le;omega:_<=256) %[|1]) λ h' xs' ps' mv' j k n o=>?_;exact h h' _ xs' ps' mv' _ j k n e o};{rw[bP c];exact b9 (h s.heap m xs ps mv ep (Heap.SameBut.refl _ _) d T %[F.1|%[|0]] (.refl _))}
def abO(T:Tab m (aG K xs) ps)(F:bN m xs.length)(e:xs=[]):LiesM K its cs 0 xs m ps:=by subst e;exact%[T,F,List.Pairwise.nil,(λ _ h=>nomatch h),(λ _ h=>nomatch h)|λ c h=>by simp at h]
def j4(n:Nat)(b:a)(f:Nat->a->Sem (ForInStep a)):forIn [:n] b f=forIn (List.range' 0 n 1) b f:=by rw[lS];simp[Std.Legacy.Range.size]
inductive CsI(K:HK prog w α)(s:ab5)(vs:ab6)(cs:List α)(n:Nat)(led:Bool)(rest:ab4)(s1:ab5):Prop
 | mk(i:Nat)(h':Heap)(xs:Cv α)(m:Nat)(ps:ab4)(mv ep:Nat)(e1:rest=List.range' i (n-i))(e2:i<=n)(e3:s1=%[|15])(g:h'.get? s.heap.objs.size=some (bA (ao m ps 0 led mv true) (ak K xs) ep))(L:LiesM K vs cs i xs m ps)(k:∀b o,b<s.heap.objs.size->%[|24]):CsI K s vs cs n led rest s1
set_option maxHeartbeats 8000000 in
theorem yR {d:Addr}{es:Array DictEntry}{epd:Nat}{cs:List α}{Q:ab3}
 (hu:A.units+12<cLine)(lo:(d==sysModules)=false)(hD:DEs d es epd s.heap)(hlen:es.size=cs.length)(h63:cs.length<=63)(hc:∀(i:Nat)(e:DictEntry)(c:α),es.toList[i]? =some e->cs[i]? =some c->K.I s.heap e.key c/\e.hash=K.h c)
 (h:∀(h':Heap)(xs:Cv α)(m:Nat)(ps:ab4)(mv ep:Nat),h'.get? s.heap.objs.size=some (bA (ao m ps 0 (aH w) mv true) (ak K xs) ep)->LiesM K (es.toList.map (·.key)) cs cs.length xs m ps->
  (∀b o,b<s.heap.objs.size->%[|24])->Q %[|9] %[|15]):
 wpAny %[|5] A (call (.type "set") [.ref d]) Q E s:=by
 obtain⟨c,tl,hmro⟩:=kD.mro;have hmade:=kD.made;have hsub:=kD.sub;refine wpAny_call (codeAny_of_tree ?_);show wpAny _ _ (callAny (.type "set") _) _ _ _;refine b9 %[Code.quiet_builtin _ %[|11]|iN F.entry_type_call ?_];rw[Around.under_plain (weight_type_call_type "set" [.ref d] []) rfl];have h1:=kD.notType;have h2:=kD.canCreate;have hct:=F.typeCall_set_1 (.ref d);repeat(any_goals (first | assumption | wp_step))
 refine oP (zT (.ref d) (E:=E) (Q₁:=λ obj s₁=>∃led:Bool,led=aH w/\obj=%[|9]/\s₁={s with heap:=s.heap.push {cls:=.type "set",dict:=none,data:=.set #[] 0 (.fresh 0 0 led)}}) %[_,rfl,rfl|rfl]) λ r s₁ hr=>?_
 cases r with
 | error e=>exact hr
 | ok fl =>
   cases fl with
   | next=>exact hr.elim
   | brk=>exact hr.elim
   | cont=>exact hr.elim
   | ret obj =>
     obtain⟨led,hled,rfl,rfl⟩:=hr;have hS:(s.heap.push {cls:=.type "set",dict:=none,data:=.set #[] 0 (.fresh 0 0 led)}).get? s.heap.objs.size=some {cls:=.type "set",dict:=none,data:=.set #[] 0 (.fresh 0 0 led)}:=bS _ rfl;have hT:Shared.TypeIs {s with heap:=s.heap.push {cls:=.type "set",dict:=none,data:=.set #[] 0 (.fresh 0 0 led)}} %[|9] "set":=%[_,hS|rfl];have hli:=kD.init.lookup;have hbi:=kD.init.bind %[|9];repeat(any_goals (first | assumption | wp_step))
     refine oP (codeAny_call_builtin (R:=wants (λ r s₂=>r=.none/\∃h' xs m ps mv ep,s₂=%[|15]/\
      h'.get? s.heap.objs.size=some (bA (ao m ps 0 led mv true) (ak K xs) ep)/\LiesM K (es.toList.map (·.key)) cs cs.length xs m ps/\
      (∀b o,b<s.heap.objs.size->%[|24])) E) kD.init.plain F.entry_set_init (check_set_init_1 hT ?_)) λ r₂ s₂ hr₂=>?_
     . obtain⟨od,hod,hcl,hdd⟩:=hD;have hod':(s.heap.push {cls:=.type "set",dict:=none,data:=.set #[] 0 (.fresh 0 0 led)}).get? d=some od:=bE _ hod;have hsls:=F.sub_dict_set;have hslf:=F.sub_dict_frozenset;have hTd:Shared.TypeIs {s with heap:=s.heap.push {cls:=.type "set",dict:=none,data:=.set #[] 0 (.fresh 0 0 led)}} (.ref d) "dict":=%[_,hod'|hcl.1];unfold Builtin.«set.__init__» noKeywords Builtin.Frozenset.updateFrom;generalize hPI:setRoomFor=PI;wp_walk;rw[hdd];refine b9 ?_;refine b0 (dE hod' hdd ?_);subst hPI;have hdS:d<s.heap.objs.size:=bX hod;refine b0 (Dy (K:=K) (m:=7) (f:=0) (mv:=0) (ep:=0) (led:=led) (pl:=true) (xs:=[]) (ps:=[]) hS (Tab.nil 7) %[.inl rfl|(%[|1]:0*5<7*3)] (show 0+es.size<=126 by omega) λ h0 m0 xs0 ps0 mv0 ep0 sb0 g0 T0 F0 p0=>?_);have k0:∀b o,b<s.heap.objs.size->s.heap.get? b=some o->h0.get? b=some o:=λ b o hb e=>by rw[sb0.2 b (cq hb)];exact bE _ e
       refine b0 (dE (k0 d od hdS hod) hdd ?_);rw[j4];refine b0 (gd _ (λ rest _ s1=>CsI K s (es.toList.map (·.key)) cs es.size led rest s1) _ ?turn ?fin _ _ %[0,h0,xs0,m0,ps0,mv0,ep0,rfl,db _,rfl,g0,abO T0 (F0.mono (by rw[List.Perm.eq_nil p0];exact db _)) (List.Perm.eq_nil p0)|k0]);case turn=>
        rintro x rest _ s1 ⟨i,h',xs,m,ps,mv,ep,e1,e2,rfl,g,L,k1⟩;have hi:i<es.size:=by by_cases z:i<es.size;{exact z};{rw[show es.size-i=0 from %[|0]]at e1;cases e1}
        rw[show es.size-i=(es.size-(i+1))+1 from %[|0],l8]at e1;obtain⟨rfl,rfl⟩:=io e1;have hod1:=k1 d od hdS hod;refine b0 (dE (s:=%[|15]) hod1 hdd ?_);obtain⟨e,he⟩:∃e,es[x]? =some e:=%[_|fw hi];have he':es.toList[x]? =some e:=by rw[eD];exact he
        obtain⟨c,hcx⟩:∃c,cs[x]? =some c:=%[_|y3 %[|0]];rw[he];dsimp only;obtain⟨q1,q2⟩:=hc x e c he' hcx;have kp:∀{v:Value}{c:α},K.I s.heap v c->K.I h' v c:=λ z=>K.keep (λ b o e _=>k1 b o (bX e) e) z;have hxs:∀z∈xs,K.I h' z.2 z.1:=λ z hz=>by
         obtain⟨j,hj⟩:=d6 (L.its z hz);rw[gX,y8]at hj;obtain⟨j1,j2⟩:=hj
         cases q:es.toList[j]? with
         | none=>rw[q]at j1;cases j1
         | some e'=>rw[q]at j1;have ez:e'.key=z.2:=cf j1;rw[<-ez];exact kp (hc j e' _ q j2).1
        have lt:xs.length<76:=by have:=kK L.nd (λ z hz=>by obtain⟨y,hy,rfl⟩:=c8.mp hz;exact iL (L.inn y hy):∀z∈xs.map (·.1),z∈cs);rw[y7]at this;omega
        have back:∀h2(Q1:ForInStep PUnit->Shared->Prop)(E1:ab3),h2.get? d=some od->Q1 (.yield PUnit.unit) {s with heap:=h2}->wpAny %[|5] A.in1.in1 (do
         let __do_lift <-dictEpoch d
         if (__do_lift !=epd)=true then do
             unsupported (toString "set.__init__"++toString ":changed-during-callback")
             pure (ForInStep.yield PUnit.unit)
          else pure (ForInStep.yield PUnit.unit)) Q1 E1 {s with heap:=h2}:=by intro h2 Q1 E1 q hq;refine b0 (fI (s:={s with heap:=h2}) q hdd ?_);rw[bP (by simp)];exact b9 hq
        refine b0 (ed ?_);rw[q2];refine IK (s:=%[|15]) (by show A.units+1+1+5<cLine;omega) g L.tab L.fill lt (kp q1) hxs (λ ex b=>?_) λ no h2 b m' xs' ps' mv' ep' sb g2 T' F' pm=>?_;{exact back h' _ _ hod1 %[x+1,h',xs,m,ps,mv,ep,rfl,hi,rfl,g,L.same hcx ex|k1]}
        . have k2:∀b o,b<s.heap.objs.size->s.heap.get? b=some o->h2.get? b=some o:=λ b' o' hb' e'=>by rw[sb.2 b' (cq hb')];exact k1 b' o' hb' e'
          exact back h2 _ _ (k2 d od hdS hod) %[x+1,h2,xs',m',ps',mv',ep',rfl,hi,rfl,g2,L.more (by rw[y8,he'];rfl) hcx no T' F' pm|k2]
       case fin=>
        rintro _ s1 ⟨i,h',xs,m,ps,mv,ep,e1,e2,rfl,g,L,k1⟩;have hi:i=es.size:=by by_cases z:i<es.size;{rw[show es.size-i=(es.size-(i+1))+1 from %[|0],l8]at e1;cases e1};{omega}
        subst hi;rw[hlen]at L;exact b9 (b9 %[rfl,h',xs,m,ps,mv,ep,rfl,g,L|k1])
     . cases r₂ with
       | error e=>exact hr₂
       | ok fl₂=>
         cases fl₂ with
         | next=>exact hr₂.elim
         | brk=>exact hr₂.elim
         | cont=>exact hr₂.elim
         | ret r=>
           obtain⟨rfl,h',xs,m,ps,mv,ep,rfl,k2,k3,k1⟩:=hr₂;repeat(any_goals (first | assumption | wp_step))
           exact h _ _ _ _ _ _ (hled▸k2) k3 k1
end
section
variable{prog:Program}{w:World}{α:Type}[DecidableEq α]{K:HK prog w α}{A:Around}{E:%[|17]}{s:Shared}
def GX(T:Tab m (aG K xs) ps)(a:xs.length<=m)(d:s.heap.get? S=some (bA (ao m ps f (aH w) mv true) (ak K xs) ep))
 (h:Q (dX w S ep (ak K xs)) s):wpAny %[|5] A (setWalkUnseen S [r] (some r)) Q E s:=by
 unfold setWalkUnseen;refine b0 (b8 T a d ?_);unfold setsByText;dsimp only;refine b0 (b0 (i4 (b9 ?_)));unfold dX at h;have e:(w.params.followText "set-order"||((ao m ps f (aH w) mv true).led&&(ao m ps f (aH w) mv true).plain)||decide ((ak K xs).toArray.size<=1))=true:=by show(w.params.followText "set-order"||(aH w&&true)||_)=true;simp only[aH];cases w.params.followText "set-order"<;>rfl
 refine(c9 e)▸?_;unfold setWalk;refine b0 (b8 T a d ?_);unfold setsByText;dsimp only;refine b0 (b0 (i4 (b9 ?_)));show wpAny _ _ (if w.params.followText "set-order"=true then _ else _) _ _ _;by_cases c:w.params.followText "set-order"=true;{rw[c9 c]at h ⊢;exact b0 (i4 (b9 h))}
 . rw[bP c]at h ⊢;have b:aH w=true:=by simp[aH,c]
   split;{exact absurd (by assumption) y6};{refine b0 ?_;show wpAny _ _ (if(!(aH w)&&_)=true then _ else pure PUnit.unit) _ _ _;rw[b,bP (show ¬((!true&&_)=true)from y6)];exact b9 (b9 h)}
def Um:∀{l:Cv α},(z.2,z.1)∈(l.map (·.2)).zip (l.map (·.1))->z∈l:=by
 intro l h
 induction l with
 | nil=>cases h
 | cons a l b=>rcases ci.mp h with e | h;{exact ci.mpr (.inl (ms (eL Prod.snd e) (eL Prod.fst e)))};{exact .tail _ (b h)}
def K8{xs:Cv α}{U:List α}(nx:(xs.map (·.1)).Nodup)(c:∀x∈xs,x.1∈U)(h:U.length<=n):xs.length<=n:=by have:=kK nx (λ z b=>by obtain⟨y,a,rfl⟩:=c8.mp b;exact c y a:∀z∈xs.map (·.1),z∈U);rw[y7]at this;omega
inductive MgI(K:HK prog w α)(s:ab5)(r:Addr)(f:Nat)(ys:Cv α)(n:Nat)(vs:ab6)(cs:List α)(rest:List (Int×Value))(s1:ab5):Prop
 | mk(i:Nat)(h':Heap)(xs':Cv α)(m':Nat)(ps':ab4)(mv' ep':Nat)(e1:rest=(ys.drop i).map (λ x=>(K.h x.1,x.2)))(e2:i<=ys.length)(e3:s1=%[|15])(sb:Heap.SameBut r s.heap h')(g:h'.get? r=some (bA (ao m' ps' f (aH w) mv' true) (ak K xs') ep'))(L:LiesM K vs cs (n+i) xs' m' ps'):MgI K s r f ys n vs cs rest s1
def xY{U:List α}(hu:A.units+8<cLine)(V:r≠o)
 (hr:s.heap.get? r=some (bA (ao m ps f (aH w) mv true) (ak K xs) ep))(T:Tab m (aG K xs) ps)(F:bN m xs.length)
 (ho:s.heap.get? o=some (bA (ao M n O (aH w) u true) (ak K zs) J))(T2:Tab M (aG K zs) n)(F2:bN M zs.length)
 (W:∀x∈xs,K.I s.heap x.2 x.1)(hz:∀x∈zs,K.I s.heap x.2 x.1)(nx:(xs.map (·.1)).Nodup)(nz:(zs.map (·.1)).Nodup)
 (hU:U.length<=63)(ux:∀x∈xs,x.1∈U)(uz:∀x∈zs,x.1∈U)
 (he:∀(h':Heap)(X:Unit->Shared->Prop)(E1:ab3),h'.get? o=s.heap.get? o->X () %[|15]->wpAny %[|5] A H X E1 %[|15])
 (h:∀h' m' xs' ps' mv' ep',Heap.SameBut r s.heap h'->h'.get? r=some (bA (ao m' ps' f (aH w) mv' true) (ak K xs') ep')->Tab m' (aG K xs') ps'->bN m' xs'.length->(xs'.map (·.1)).Nodup->(∀x∈xs',x∈xs\/x∈zs)->(∀c,c∈xs.map (·.1)\/c∈zs.map (·.1)->c∈xs'.map (·.1))->Q () %[|15]):
 wpAny %[|5] A (setMerge r o H) Q E s:=by
 have lx:=K8 nx ux hU;have lz:=K8 nz uz hU;unfold setMerge;rw[bP (by simpa using V)];refine b0 (b8 T2 (f7 F2.few) ho ?_);dsimp only;have ab:(ak K zs).toArray.size=zs.length:=by unfold ak;rw[x5,y7]
 by_cases ez:zs=[];{subst ez;rw[c9 (by rfl)];exact b9 (h s.heap m xs ps mv ep (Heap.SameBut.refl _ _) hr T F nx (λ x W=>.inl W) λ c C=>C.elim id λ C=>nomatch C)};rw[bP (by intro e;rw[Array.isEmpty_iff_size_eq_zero,ab]at e;exact ez (f8 e))];rw[ab];refine b0 (Dy hr T F %[|0] λ S p k l d aj sb1 g1 T1 F1 p1=>?_);have l1:=p1.length_eq;have ap:=f7 F1.few;refine b0 (b8 (s:={s with heap:=S}) T1 %[|0] g1 ?_);dsimp only;have af:=T1.len;unfold aG at af;rw[y7]at af;have al:S.get? o=some (bA (ao M n O (aH w) u true) (ak K zs) J):=by rw[sb1.2 o (hE V)];exact ho
 have er:(ao p l f (aH w) d true).road (ao M n O (aH w) u true)=if l.length≠0 then .oneByOne else if p=M then .slotForSlot else .clean:=by unfold SetTable.road SetTable.fill ao;simp
 rw[er];by_cases n0:l.length≠0
 . rw [c9 n0];dsimp only;refine b0 (GX (s:={s with heap:=S}) T2 (f7 F2.few) al ?_);obtain⟨B,py,ey⟩:=tL (rm w o J (ak K zs)) (xs:=zs) (f:=λ x=>(K.h x.1,x.2)) rfl;have P:∀{z:α×Value},(z.2,z.1)∈((k++B).map (·.2)).zip ((k++B).map (·.1))->z∈xs\/z∈zs:=λ h=>(cm.mp (Um h)).imp p1.mem_iff.mp py.mem_iff.mp;refine b0 (wpAny_forIn_array' _ (λ R _ s1=>MgI K s r f B k.length ((k++B).map (·.2)) ((k++B).map (·.1)) R s1) _ ?turn ?fin _ _ %[0,S,k,p,l,d,aj,ey,db _,rfl,sb1,g1|?_]);case turn=>
    rintro e R _ s1 ⟨i,h',xs',m',ps',mv',ep',I,e2,rfl,sb,g,L⟩;have Y:i<B.length:=by by_cases z:i<B.length;{exact z};{rw[nK %[|0]]at I;cases I}
    rw[List.drop_eq_getElem_cons Y,cn]at I;obtain⟨rfl,rfl⟩:=io I;have Z:B[i]? =some B[i]:=y3 Y;generalize B[i]=y at Z;have am:=y4 Z;have hk:∀{v:Value}{c:α},K.I s.heap v c->K.I h' v c:=λ z=>K.keep (λ b o e c=>by
     have:b≠r:=by rintro rfl;rw[hr]at e;cases e;exact absurd (show Value.type "set"=Value.type "tuple" from c) %[|1]
     rw[sb.2 b this];exact e) z;have ag:((k++B).map (·.2))[k.length+i]? =some y.2:=by rw[y8,dt (gz _ _),Nat.add_sub_cancel_left,Z];rfl
    have aa:((k++B).map (·.1))[k.length+i]? =some y.1:=by rw[y8,dt (gz _ _),Nat.add_sub_cancel_left,Z];rfl
    have ad:∀z∈xs',z∈xs\/z∈zs:=λ z hz=>P (L.its z hz);have lt:=kH (K8 L.nd (λ y Z=>(ad y Z).elim (ux y) (uz y)) hU) (%[|1]:63<76);have ac:∀D,Heap.SameBut r s.heap D->D.get? o=s.heap.get? o:=λ D q=>q.2 o (hE V);have N:∀D(X:ForInStep PUnit->Shared->Prop)(E1:ab3),Heap.SameBut r s.heap D->X (.yield PUnit.unit) {s with heap:=D}->wpAny %[|5] A (do
     H
     let __do_lift <-setState o
     if (__do_lift.2.1 !=J)=true then do
         unsupported "set.changed-during-merge"
         pure (ForInStep.yield PUnit.unit)
      else pure (ForInStep.yield PUnit.unit)) X E1 {s with heap:=D}:=by intro D X E1 q hq;refine b0 (he D _ _ (ac D q) ?_);refine b0 (b8 (s:={s with heap:=D}) T2 (f7 F2.few) (by rw[ac D q];exact ho) ?_);rw[bP (by simp)];exact b9 hq
    refine b0 (ed ?_);refine IK (s:=%[|15]) %[|0] g L.tab L.fill lt (hk (hz y (py.mem_iff.mp am))) (λ z an=>hk ((ad z an).elim (W z) (hz z))) (λ ex b=>?_) λ no D b m' xs' ps' mv' ep' ae g2 T' F' pm=>?_;{exact N h' _ _ sb %[i+1,h',xs',m',ps',mv',ep',rfl,Y,rfl,sb,g|L.same aa ex]};{exact N D _ _ (sb.trans ae) %[i+1,D,xs',m',ps',mv',ep',rfl,Y,rfl,sb.trans ae,g2|L.more ag aa no T' F' pm]}
   case fin=>
    rintro _ s1 ⟨i,h',xs',m',ps',mv',ep',I,e2,rfl,sb,g,L⟩;have Y:i=B.length:=by by_cases z:i<B.length;{rw[List.drop_eq_getElem_cons z]at I;cases I};{omega}
    subst Y;have tk:(((k++B).map (·.1)).take (k.length+B.length))=(k++B).map (·.1):=ck (by simp);refine b9 (h h' m' xs' ps' mv' ep' sb g L.tab L.fill L.nd (λ z hz=>?_) λ c C=>?_);{exact P (L.its z hz)};{obtain⟨x,G,e⟩:=L.all c (by rw[tk,cE,cm];rcases C with C | C;{exact .inl ((p1.map (·.1)).mem_iff.mpr C)};{exact .inr ((py.map (·.1)).mem_iff.mpr C)});exact c8.mpr %[x,G|e]}
   {refine%[T1,F1.mono %[|0],(p1.map (·.1)).nodup_iff.mpr nx,λ x G=>?_,λ x G=>?_|λ c C=>?_];{rw[Nat.add_zero,cE,List.take_append_of_le_length (by simp),ck (by simp)];exact c8.mpr %[x,G|rfl]};{obtain⟨j,hj⟩:=d6 G;refine y4 (i:=j) (gX.mpr %[?_|?_]);{rw[y8,x9 (z0.mp hj).1,hj];rfl};{rw[y8,x9 (z0.mp hj).1,hj];rfl}};{rw[Nat.add_zero,cE,List.take_append_of_le_length (by simp),ck (by simp)]at C;obtain⟨x,G,e⟩:=c8.mp C;exact%[x,G|e]}}
 . have n1:k=[]:=f8 %[|0];subst n1;have e0:xs=[]:=List.Perm.eq_nil p1.symm;subst e0;rw[bP n0];have Fz:bN p zs.length:=F1.mono %[|0];by_cases em:p=M
   . subst em;rw[c9 rfl];dsimp only;have et:({ao p n O (aH w) u true with finger:=(ao p l f (aH w) d true).finger,led:=(ao p l f (aH w) d true).led&&(ao p n O (aH w) u true).led,moves:=(ao p l f (aH w) d true).moves,plain:=(ao p l f (aH w) d true).plain&&(ao p n O (aH w) u true).plain}:SetTable)=ao p n f (aH w) d true:=by show(%[p,n.toArray,#[],f,aH w&&aH w,d|true&&true]:SetTable)=%[p,n.toArray,#[],f,aH w,d|true];rw[Bool.and_self];rfl
     refine(eL (λ t=>wpAny %[|5] A (storeSet r (ak K zs).toArray t) Q E {s with heap:=S}) et).mpr ?_;refine pN (s:={s with heap:=S}) g1 (by unfold ak;rw[y7];omega) λ h' k1 k2=>?_;exact h h' p zs n d _ (sb1.trans k1) k2 T2 Fz nz (λ x W=>.inr W) λ c C=>C.elim (λ h=>nomatch h) id
   . rw[bP em];dsimp only;have el:(aG K zs).length=zs.length:=by unfold aG;exact y7 _
     obtain⟨ps',a,e,pm,T'⟩:=Hy Fz.all (hs:=aG K zs) (by rw[el];exact f7 Fz.few) f d (aH w) true;have ai:(ak K zs).toArray.map (·.1)=(aG K zs).toArray:=by unfold ak aG;simp
     rw[el]at pm;have lt:∀q∈a,q<(aG K zs).length:=λ q hq=>by rw[el];exact dV.mp (pm.mem_iff.mp hq)
     rw[<-xj lt]at T';have eh:a.filterMap ((aG K zs)[·]?)=aG K (a.filterMap (zs[·]?)):=by unfold aG;rw[kh]
     rw[eh]at T';have ee:a.toArray.filterMap ((ak K zs).toArray[·]?)=(ak K (a.filterMap (zs[·]?))).toArray:=by
      have I:ak K (a.filterMap (zs[·]?))=a.filterMap ((ak K zs)[·]?):=by unfold ak;rw[kh]
      rw[I];simp
     have pp:=wR (xs:=zs) pm;have er:SetTable.laid (ao p l f (aH w) d true).mask (ao p l f (aH w) d true).finger (ao p l f (aH w) d true).moves ((ao p l f (aH w) d true).led&&(ao M n O (aH w) u true).led) ((ao p l f (aH w) d true).plain&&(ao M n O (aH w) u true).plain) (Array.map (λ x=>x.1) (ak K zs).toArray)=some (ao p ps' f (aH w) d true,a.toArray):=by rw[ai];show SetTable.laid p f d (aH w&&aH w) (true&&true) _=_;rw[Bool.and_self];exact e
     rw[er];refine b0 ?_;have ah:(a.toArray.filterMap ((ak K zs).toArray[·]?)).size=(ak K zs).toArray.size:=by rw[ee];unfold ak;rw[x5,x5,y7,y7,pp.length_eq]
     show wpAny _ _ (if((a.toArray.filterMap ((ak K zs).toArray[·]?)).size !=(ak K zs).toArray.size)=true then _ else _) _ _ _;rw[bP (by rw[ah];simp),ee];refine b9 ?_;refine pN (s:={s with heap:=S}) g1 (by unfold ak;rw[y7,pp.length_eq];omega) λ h' k1 k2=>?_;exact h h' p _ ps' d _ (sb1.trans k1) k2 T' (by rw[pp.length_eq];exact Fz) ((pp.map (·.1)).nodup_iff.mpr nz) (λ x W=>.inr (pp.mem_iff.mp W)) λ c C=>C.elim (λ h=>nomatch h) ((pp.map (·.1)).mem_iff.mpr)
def zK:entryFor table "set.__or__"=some Builtin.«frozenset.__or__»:=
 entryFor_alias (id':="frozenset.__or__") (by kernel_rfl) rfl %[|11] (by kernel_rfl)
def Uw(h:Q %[|9] {s with heap:=s.heap.push (bA (ao 7 [] 0 (aH w) 0 true) (ak K ([]:Cv α)) 0)}):wpAny %[|5] A (newSet (.type "set")) Q E s:=by unfold newSet setsByText;refine b0 (b0 (i4 (b9 ?_)));exact da h (by size_fits)
def Vo{U:List α}(hu:A.units+12<cLine)(I:a≠b)
 (G:s.heap.get? a=some (bA (ao m ps f (aH w) mv true) (ak K xs) ep))(T:Tab m (aG K xs) ps)(V:bN m xs.length)
 (d:s.heap.get? b=some (bA (ao y g f2 (aH w) p true) (ak K zs) j))(t:Tab y (aG K zs) g)(r:bN y zs.length)
 (C:∀x∈xs,K.I s.heap x.2 x.1)(hz:∀x∈zs,K.I s.heap x.2 x.1)(nx:(xs.map (·.1)).Nodup)(nz:(zs.map (·.1)).Nodup)
 (N:U.length<=63)(P:∀x∈xs,x.1∈U)(uz:∀x∈zs,x.1∈U)
 (h:∀h' m' xs' ps' mv' ep',(∀b o,b<s.heap.objs.size->%[|24])->h'.get? s.heap.objs.size=some (bA (ao m' ps' 0 (aH w) mv' true) (ak K xs') ep')->Tab m' (aG K xs') ps'->bN m' xs'.length->(xs'.map (·.1)).Nodup->(∀x∈xs',x∈xs\/x∈zs)->(∀c,c∈xs.map (·.1)\/c∈zs.map (·.1)->c∈xs'.map (·.1))->Q %[|9] %[|15]):
 wpAny %[|5] A (binaryOp .BitOr (.ref a) (.ref b)) Q E s:=by
 have D:s.TypeIs (.ref a) "set":=%[_,G|rfl];have O:s.TypeIs (.ref b) "set":=%[_,d|rfl];have la:a<s.heap.objs.size:=bX G;have lb:b<s.heap.objs.size:=bX d;refine wpAny_binaryOp_same (op:=.BitOr) D O F.fills_set_or F.slot_set_or (de F.slot_set_or D zK ?_ (F.args_set_or_2 _ _));have i:=F.sub_set_set;have l:∀{A:ad0}{E:ab3}{s:ab5}{v:Value}{Q:ad5},s.TypeIs v "set"->Q true s->wpAny %[|5] A (Builtin.Frozenset.isAnySet v) Q E s:=λ T h=>by unfold Builtin.Frozenset.isAnySet;exact b0 (ft T i (b9 h))
 show wpAny _ _ (Builtin.Frozenset.slot1 "__or__" %[[.ref a,.ref b]|[]]>>=_) _ _ _;refine b0 (b0 (m:=slotArgs "__or__" 1 %[[.ref a,.ref b]|[]]) (b9 (b9 ?_)));refine b0 (b0 (l D (l O ?_)));rw[bP %[|1]];refine b0 (b9 ?_);refine b0 ?_;show wpAny _ _ (Builtin.Frozenset.copyOf a>>=_) _ _ _;refine b0 ?_;unfold Builtin.Frozenset.copyOf Builtin.Frozenset.baseOf;refine b0 (b0 (ft D i (b9 ?_)));rw[c9 rfl];refine b0 (Uw (K:=K) ?_);refine b0 (b9 ?_);have L:∀b o,s.heap.get? b=some o->(s.heap.push (bA (ao 7 [] 0 (aH w) 0 true) (ak K ([]:Cv α)) 0)).get? b=some o:=λ b o e=>bE _ e;have J:∀{h:Heap}{v:Value}{c:α},(∀b o,s.heap.get? b=some o->h.get? b=some o)->K.I s.heap v c->K.I h v c:=λ k z=>K.keep (λ b o e _=>k b o e) z;refine b0 (xY (s:={s with heap:=s.heap.push (bA (ao 7 [] 0 (aH w) 0 true) (ak K ([]:Cv α)) 0)}) (xs:=[]) (U:=U) (by show A.units+1+8<cLine;omega) (fk la) (bS _ rfl) (Tab.nil 7) %[.inl rfl|(%[|1]:0*5<7*3)] (L _ _ G) T V (λ _ h=>nomatch h) (λ x h=>J L (C x h)) fT nx N (λ _ h=>nomatch h) P (λ h' W R _ q=>b9 q) λ B m1 xs1 ac ab aa sb1 g1 X S n1 u Y=>?_);refine b9 ?_;have u:∀x∈xs1,x∈xs:=λ x h=>(u x h).elim (λ h=>nomatch h) id;have n:∀b o,s.heap.get? b=some o->B.get? b=some o:=λ b o e=>by have d:b<s.heap.objs.size:=bX e;exact(sb1.2 b (cq d)).trans (L b o e)
 dsimp only;rw[c9 (by simpa using Ne.symm I)];refine b0 (b9 ?_);refine b0 (ed ?_);unfold Builtin.Frozenset.updateFrom;refine b0 (l (s:={s with heap:=B}) %[_,n _ _ d|rfl] ?_);rw[c9 rfl];refine b0 (b9 ?_);unfold Builtin.Frozenset.merge;refine b0 (wpAny_setEpoch_of (s:={s with heap:=B}) (n _ _ d) rfl (iG t (f7 r.few)) ?_);refine xY (s:={s with heap:=B}) (xs:=xs1) (zs:=zs) (U:=U) (by show A.units+1+8<cLine;omega) (fk lb) g1 X S (n _ _ d) t r (λ x h=>J n (C x (u x h))) (λ x h=>J n (hz x h)) n1 nz N (λ x h=>P x (u x h)) uz (λ h' W R e q=>?_) λ h2 y M g p j sb2 g2 t r n2 i2 Z=>?_;{unfold Builtin.Frozenset.unchanged;refine b0 (wpAny_setEpoch_of (s:=%[|15]) (e.trans (n _ _ d)) rfl (iG t (f7 r.few)) ?_);rw[bP (by simp)];exact b9 q};{refine b9 (b9 %[_,rfl,(λ z=>nomatch z)|h h2 y M g p j (λ b o d e=>(sb2.2 b (cq d)).trans (n b o e)) g2 t r n2 (λ x C=>(i2 x C).imp (u x) id) λ c H=>Z c (H.imp (λ H=>Y c (.inr H)) id)])}
end
def Dv:typeLookup (.type "list") "keys"=pure none:=by rw[typeLookup_type,ot];kernel_rfl
def Mv
 (p:s.heap.get? a=some o)(m:o.cls=.type "list")(f:o.data=.seq xs k)(n:o.dict=none)(t:A.handled=none)
 (h:∀h' tk,(∀b ob,s.heap.get? b=some ob->h'.get? b=some ob)->Q none {s with heap:=h',toks:=tk}):
 wpAny %[|5] A (getAttr? (.ref a) "keys") Q E s:=by
 obtain⟨c,r,q,x⟩:=o;simp only at m f n;subst m f n;obtain⟨u,g,d,tk,v⟩:=s;have l:∀j,(%[u,g,d,j|v]:Shared).TypeIs (.ref a) "list":=λ _=>%[_,p|rfl];have y:=sub_AttributeError;have z:=mN.lookup;have B:=F.slot_list_getattribute.bind (.ref a);have C:=am_list_getattr_none;unfold getAttr? getAttrBy? getAttrBy;repeat(any_goals (first | assumption | exact l _ | ((with_reducible show wpAny _ _ (call (Value.builtin "list.__getattribute__") _ _) _ _ _);refine kG mN (l _) am_entry_list_getattribute (F.args_list_getattribute_2 _ _) (meets_getattribute_miss_list a xs k x "keys" _ Dv %[|1] %[|1]) %[p,t|λ h' j e i=>?_]) | wp_step))
 obtain⟨G,H,D⟩:=i.there;show wpAny _ _ (getattributeRaised _ _ _ _ _ _ _) _ _ _;unfold getattributeRaised;repeat(any_goals (first | assumption | wp_step))
 exact h _ _ i.keeps
def ju:entryFor table "dict.update.loop"=some Builtin.«dict.update.loop»:=entryFor_of_tree (by kernel_rfl)
def dJ:plainId "dict.update.loop"=true:=%[|11]
section
variable{prog:Program}{w:World}{A:Around}{E:%[|17]}{R:Result -> Shared -> Prop}{d I l:Addr}{ys:Cy}
def iU(h:Heap)(v:Value)(y:ad2):Prop:=∃p o n,v=.ref p/\h.get? p=some o/\o.cls=%[|10]/\o.data=.seq #[.ref y.2.1,y.2.2] n/\bO h (.ref y.2.1) y.1
def iU.keep(k:∀b o,h.get? b=some o->o.cls=%[|10]->h'.get? b=some o)(x:iU h v y):iU h' v y:=by obtain⟨p,o,n,c,d,a,e,f⟩:=x;exact%[p,o,n,c,k p o d a,a,e|f.keep k]
def CelM.on(x:CelM prog w h d ys)(l:∀o,h.get? d=some o->h'.get? d=some o)(k:∀b o,h.get? b=some o->o.cls=%[|10]->h'.get? b=some o):CelM prog w h' d ys:=by obtain⟨o,a,c,e,f,g,i,j⟩:=x;exact%[o,a,l o c,e,f,g,λ y m=>(i y m).keep k|j]
def Lb(P:l≠I)(q:d≠I)(K:d≠l)(hh:A.handled=none)(hu:A.units+7<cLine)(hl:its.size=ys.length)(nd:(ys.map (·.1)).Nodup)(hz:ys.length<=1000):
 ∀(k i:Nat)(s:ab5),its.size-i=k->i<=its.size->s.heap.IsListIter I l i->s.heap.IsList l its->CelM prog w s.heap d (ys.take i)->
 (∀(j:Nat)(v:Value) y,its[j]? =some v->ys[j]? =some y->iU s.heap v y)->
 (∀h' tk,CelM prog w h' d ys->(∀b o,b≠I->b≠d->%[|24])->R (.ok (.ret .none)) {s with heap:=h',toks:=tk})->
 codeAny %[|5] A (.builtin "dict.update.loop" %[[.ref d,.ref I,rawInt i,.none]|[]]) R s:=by
 intro k
 induction k with
 | zero=>
   intro i s hk hi a E G W J;refine iN ju ?_;rw[i9 dJ _];show wpAny _ A.in1 (pyNext (.ref I)>>=_) _ _ s;have ei:i=ys.length:=%[|0]
   have M:its[i]? =none:=eW %[|0];refine b0 (wpAny_pyNext_list_end (show A.in1.handled=none from hh) a E M λ h' m=>?_);show wpAny _ _ (Builtin.Dict.addKeywords d []>>=_) _ _ _;refine b0 (b9 (b9 ?_));have U:∀b o,s.heap.get? b=some o->o.cls=%[|10]->b≠I:=by rintro b o e c rfl;obtain⟨Z,h,c',_⟩:=a;rw[e]at h;cases h;rw[c]at c';exact absurd c' %[|1]
   rw[ei,cr]at G;exact J h' s.toks (G.on (λ o e=>m d o q e) λ b o e c=>m b o (U b o e c) e) λ b o F _ e=>m b o F e
 | succ k ih=>
   intro i s hk hi a E G W J;refine iN ju ?_;rw[i9 dJ _];show wpAny _ A.in1 (pyNext (.ref I)>>=_) _ _ s;have O:i<its.size:=%[|0]
   have Q:its[i]? =some its[i]:=by simp[O]
   generalize its[i]=v at Q;obtain⟨y,S⟩:∃y,ys[i]? =some y:=%[_|y3 %[|0]];have U:∀b o,s.heap.get? b=some o->o.cls=%[|10]->b≠I:=by rintro b o e c rfl;obtain⟨Z,h,c',_⟩:=a;rw[e]at h;cases h;rw[c]at c';exact absurd c' %[|1]
   refine b0 (wpAny_pyNext_list_item a E Q λ f B g=>?_);have X:∀b o,s.heap.get? b=some o->o.cls=%[|10]->f.get? b=some o:=λ b o e c=>g.extBut b o (U b o e c) e;have D:∀(j:Nat)(v:Value) y,its[j]? =some v->ys[j]? =some y->iU f v y:=λ j v y r t=>(W j v y r t).keep X;have C:CelM prog w f d (ys.take i):=G.on (λ o e=>g.extBut d o q e) X;have H:f.IsList l its:=E.extBut g.extBut P;obtain⟨p,o,n,rfl,q1,q2,q3,q4⟩:=D i v y Q S;obtain⟨c,b,u⟩:=y;have nk:∀(j:Nat)(z:Addr×Value),(ys.take i)[j]?≠some (c,z):=by intro j z e;rw[g7]at e;split at e;{rename_i N;have:=(fx.mp nd) j i (by rw[y7];omega) (by rw[y7];omega) N;have r:=(z0.mp e).2;have t:=(z0.mp S).2;rw[gE,gE,r,t]at this;exact this rfl};{cases e}
   have eS:storedH (ys.take i) c b u=ys.take (i+1):=by rw[storedH_new (atKey_none_of_get nk),List.take_succ,S];rfl
   refine b0 (ed (b0 (wpAny_tryCatch ?_)));unfold Builtin.Dict.pairItems;refine b0 (hY (s:={s with heap:=f}) (T:="tuple") %[o,q1|q2] ?_);rw[c9 %[|1]];refine b0 (fo (s:={s with heap:=f}) q1 q3 (b9 ?_));show wpAny _ _ (holding [Value.ref b,u] (dictSet d (.ref b) u)) _ _ _;refine ed (v7 (s:={s with heap:=f}) (c:=c) (by show A.units+1+5<cLine;omega) q4 C (by rw[ej,ke];omega) λ h2 tk Y sb2=>?_);rw[eS]at Y;have L:∀b o,f.get? b=some o->o.cls=%[|10]->b≠d:=by rintro b o e c rfl;obtain⟨Z,_,h,c',_⟩:=C;rw[e]at h;cases h;exact absurd (c.symm.trans c'.1) %[|1]
   have k2:∀b o,f.get? b=some o->o.cls=%[|10]->h2.get? b=some o:=λ b o e c=>(sb2.2 b (L b o e c)).trans e;have ri:(rawInt ((i:Int)+1))=rawInt ((i+1:Nat):Int):=by congr 1
   show wpAny _ _ (again (.builtin "dict.update.loop" %[[.ref d,.ref I,rawInt ((i:Int)+1),.none]|[]])) _ _ _;rw[ri];refine b9 %[lp dJ _|ih (i+1) _ %[|0] %[|0] (B.at λ o e=>(sb2.2 I (hE q)).trans e) (H.at λ o e=>(sb2.2 l (hE K)).trans e) Y (λ j v y r t=>(D j v y r t).keep k2) λ h' V m' kk=>?_];exact J h' V m' λ b o F x e=>kk b o F x ((sb2.2 b x).trans (g.extBut b o F e))
def tH(hh:A.handled=none)(N:A.units+12<cLine)(B:s.heap.get? l=some o)(t:o.cls=.type "list")(a:o.data=.seq its k)(I:o.dict=none)
 (J:its.size=ys.length)(nd:(ys.map (·.1)).Nodup)(hz:ys.length<=1000)(K:∀(j:Nat)(v:Value) y,its[j]? =some v->ys[j]? =some y->iU s.heap v y)
 (h:∀h' tk,CelM prog w h' s.heap.objs.size ys->(∀b ob,s.heap.get? b=some ob->h'.get? b=some ob)->Q %[|9] {s with heap:=h',toks:=tk}):
 wpAny %[|5] A (call (.type "dict") [.ref l]) Q E s:=by
 refine callType_codes (Q₁:=λ q c=>q=%[|9]/\c={s with heap:=%[|23]}) F.kt_called_dict (F.kt_typeCall_dict_1 _) F.entry_dict_init (kt_code_dict_new _ %[rfl|rfl]) ?_;rintro q c ⟨rfl,rfl⟩;have m:l<s.heap.objs.size:=bX B;have n:CelM prog w %[|23] s.heap.objs.size []:=%[_,#[],bS _ rfl,%[rfl,rfl|rfl],rfl,rfl,(λ _ h=>nomatch h)|fT];have x:=n.of.typeIs (s:={s with heap:=%[|23]});refine%[x,F.args_dict_init_2 _ _|?_];unfold Builtin.«dict.__init__»;refine b0 ?_;unfold Builtin.Dict.selfAndRest;refine b0 (gp x ?_);show wpAny _ _ (pure (s.heap.objs.size,[Value.ref l])) _ _ _;refine b9 ?_;show wpAny _ _ (Builtin.Dict.updateFrom "dict.__init__" s.heap.objs.size (.ref l) [] .none) _ _ _;unfold Builtin.Dict.updateFrom;have f:%[|23].get? l=some o:=bE _ B;refine b0 (hY (T:="list") %[o,f|t] ?_);rw[c9 %[|1]];refine b0 (Mv (s:={s with heap:=%[|23]}) f t a I hh λ g tk r=>?_);rw[c9 (show(none:Option Value).isNone=true from rfl)];have i:g.IsList l its:=%[o,r l o f,t,k|a];have C:∀b ob,s.heap.get? b=some ob->g.get? b=some ob:=λ b ob e=>r b ob (bE _ e);have p:CelM prog w g s.heap.objs.size []:=n.on (λ o e=>r _ o e) λ b o e _=>r b o e;have d:s.heap.objs.size<g.objs.size:=by obtain⟨_,_,e,_⟩:=p;exact bX e
 refine b0 (iF (b0 (kr i ?_)));have H:g.objs.size≠s.heap.objs.size:=fk d;refine b9 %[lp dJ _|Lb (ys:=ys) (its:=its) (l:=l) (cq (oT m d)) (hE H) (fk m) (show A.in1.handled=none from hh) (by show A.units+1+7<cLine;omega) J nd hz its.size 0 _ rfl (db _) ?_ (i.push _) ?_ (λ j v y D G=>(K j v y D G).keep λ b ob e _=>bE _ (C b ob e)) λ h' u M L=>%[rfl|h h' u M λ b ob e=>?_]];{exact%[_,bS _ rfl,rfl|rfl]};{rw[kX];exact p.on (λ o e=>bE _ e) λ b o e _=>bE _ e};{have z:b<s.heap.objs.size:=bX e;exact L b ob (cq (oT z d)) (cq z) (bE _ (C b ob e))}
end
section
variable{prog:Program}{w:World}{A:Around}{E:%[|17]}{R:Result -> Shared -> Prop}{d I l:Addr}{ys:Cy}
def yS(lo:(l==sysModules)=false)(D:CelM prog w s.heap l ys)(h1:ys.length<=1)
 (h:∀h',CelM prog w h' s.heap.objs.size ys->(∀b ob,s.heap.get? b=some ob->h'.get? b=some ob)->Q %[|9] %[|15]):
 wpAny %[|5] A (call (.type "dict") [.ref l]) Q E s:=by
 refine callType_codes (Q₁:=λ n j=>n=%[|9]/\j={s with heap:=%[|23]}) F.kt_called_dict (F.kt_typeCall_dict_1 _) F.entry_dict_init (kt_code_dict_new _ %[rfl|rfl]) ?_;rintro n j ⟨rfl,rfl⟩;have X:=D.of.typeIs;obtain⟨o,z,I,Z,p,q,J,R⟩:=id D;have C:l<s.heap.objs.size:=bX I;have m:CelM prog w %[|23] s.heap.objs.size []:=%[_,#[],bS _ rfl,%[rfl,rfl|rfl],rfl,rfl,(λ _ h=>nomatch h)|fT];have G:CelM prog w %[|23] l ys:=D.on (λ o e=>bE _ e) λ b o e _=>bE _ e;have H:=m.of.typeIs (s:={s with heap:=%[|23]});have v:=G.of.typeIs (s:={s with heap:=%[|23]});have i:%[|23].get? l=some o:=bE _ I;have B:%[|23].get? s.heap.objs.size=some %[|28]:=bS _ rfl;have O:z.size=ys.length:=by rw[<-dA,q,y7]
 refine%[H,F.args_dict_init_2 _ _|?_];unfold Builtin.«dict.__init__»;refine b0 ?_;unfold Builtin.Dict.selfAndRest;refine b0 (gp H ?_);show wpAny _ _ (pure (s.heap.objs.size,[Value.ref l])) _ _ _;refine b9 ?_;show wpAny _ _ (Builtin.Dict.updateFrom "dict.__init__" s.heap.objs.size (.ref l) [] .none) _ _ _;unfold Builtin.Dict.updateFrom;refine b0 (hY v ?_);rw[bP %[|1]];refine b0 ?_;unfold Builtin.Dict.merge;refine b0 ?_;unfold Builtin.Dict.readDirectly;refine b0 (ft v isSubtype_dict_dict ?_);simp only[fh,cw,e7];refine b0 (gT v F.slot_dict_iter.lookup (b9 ?_));simp only[fq,ij];refine b0 (b9 ?_);unfold Builtin.Dict.mergeDict;rw[bP (by simpa using Nat.ne_of_gt C)];unfold Builtin.Dict.showsAll;rw[bP (by rw[lo];exact y6)];refine b0 (b9 ?_);refine b0 (dE i p ?_);have g:∀h',CelM prog w h' s.heap.objs.size ys->(∀b ob,s.heap.get? b=some ob->h'.get? b=some ob)->wpAny %[|5] A.in1.in1 (Builtin.Dict.addKeywords s.heap.objs.size []>>=λ _=>ret .none)
  (λ g t=>match g with | .done f=>wants (λ r d=>r=.none/\Q %[|9] d) E (.ok f) t | .again c'=>c'.quiet=true/\codeAny %[|5] A.in1 c' (wants (λ r d=>r=.none/\Q %[|9] d) E) t)
  (λ e t=>wants (λ r d=>r=.none/\Q %[|9] d) E (.error e) t) %[|15]:=λ h' a b=>b0 (b9 (b9 %[rfl|h h' a b]));rcases ys with _ | ⟨⟨c,b,u⟩,_ | ⟨y2,ys⟩⟩;{have y:z=#[]:=lh.mp q;subst y;rw[bP (by simp)];refine b0 (fI i p ?_);refine b0 (dE i p ?_);refine b0 ?_;rw[j4];exact b9 (b9 (g _ m λ b ob e=>bE _ e))}
 . have y:z=#[%[hC0 c,.ref b|u]]:=lh.mp q;subst y;have S:Shared.TypeIs {s with heap:=%[|23]} (.ref b) "tuple":=by obtain⟨k,V,k',W,u',L,M,N,Y⟩:=J (c,b,u) x6;cases L;exact%[V,bE _ M|N]
   generalize hhc:hC0 c=hc at*;rw[c9 (by simp[keyPart])];refine b0 (dE B rfl ?_);rw[c9 (by simp)];refine b0 ?_;unfold Builtin.Dict.entriesForEmpty;refine b0 (dE i p ?_);refine b0 ?_;rw[<-i0];show wpAny _ _ (forIn [(%[hc,.ref b|u]:DictEntry)] PUnit.unit _) _ _ _;rw[me];refine b0 ?_;refine b0 ?_;show wpAny _ _ (Builtin.Dict.quietEq (.ref b)) _ _ _;unfold Builtin.Dict.quietEq;refine b0 (gT S F.slot_tuple_eq.lookup (b9 ?_));rw[c9 %[|1]];have P:(Array.filter (λ x:DictEntry=>x.hash==hc) #[%[hc,.ref b|u]]).size=1:=by simp
   rw[bP (by rw[P];decide)];refine b9 ?_;show wpAny _ _ (forIn [] _ _) _ _ _;rw[kU];refine b9 (b9 ?_);rw[c9 (by simp)];have sb:=dS %[|23] s.heap.objs.size (Obj.mapDictKeys λ _=>#[%[hc,.ref b|u]]);have K:∀k ob,s.heap.get? k=some ob->(%[|23].update s.heap.objs.size (Obj.mapDictKeys λ _=>#[%[hc,.ref b|u]])).get? k=some ob:=λ k ob e=>by have T:k<s.heap.objs.size:=bX e;exact(sb.2 k (cq T)).trans (bE _ e)
   refine b0 (pk B rfl (b9 (g _ %[_,#[%[hc,.ref b|u]],eR _ B (lP (kA rfl _)),%[rfl,rfl|rfl],rfl,q,λ x U=>(J x U).keep λ b ob e _=>K b ob e|R] K)) (db _) (by show 1<=_;decide))
 {simp at h1}
end
section
variable{X:Cx}{S:Store}{W:WD}
def VH {kvs : Kc} (U:X.calm=true)(Z:X.A.units+12<cLine)(nd:(kvs.map (·.1)).Nodup)(hz:kvs.length<=1000)(w:W (.dlo S.length) (S++[.non::kvs.map encC])):dw X (.type "dict") [.lst (kvs.map encC)] S W:=by
 intro K s σ H O vs us I M r ru;obtain⟨v,rfl,r'⟩:=cO r;obtain⟨u,rfl,G⟩:=vals1 ru
 cases r' with
 | @lst a d _ R q1=>
   cases G;obtain⟨its,f,⟨o,n,p1,p2,p3,p4⟩,aa⟩:=I.list R.sq;have mk : ∀ (kvs : Kc)(d:List V)(its:ab6),Reps X.K O H d (kvs.map encC)->Vals d its->∃ys:Cy,Kcs X.K O H ys (kvs.map encC)/\ys.map (·.1)=kvs.map (·.1)/\its.length=ys.length/\∀(j:Nat)(v:Value) y,its[j]? =some v->ys[j]? =some y->iU s.heap v y:=by
    intro kvs
    induction kvs with
    | nil=>intro d its r f;cases r;cases f;exact%[[],.nil,rfl,rfl|λ j v y e=>by simp at e]
    | cons kv kvs ih=>
      intro d its r f
      cases r with
      | cons r t=>
        cases f with
        | cons rx rt=>
          obtain⟨ys,k,l,x,z⟩:=ih _ _ t rt;have r:Rep X.K O H _ (.tup [cD kv.1,kv.2]):=r
          cases r with
          | @tup p zs _ T q2=>
            cases rx;obtain⟨js,rj,⟨ob,o1,o2,m,o3⟩,_⟩:=I.tuple T.sq
            cases q2 with
            | cons E t2=>
              cases t2 with
              | cons rd t3=>
                cases t3
                cases rj with
                | cons F C=>
                  cases C with
                  | cons B D=>
                    cases D;obtain⟨b,rfl⟩:=ir E;cases F;refine%[(kv.1,b,_)::ys,.cons rfl E B rd k,by rw[cn,cn,l],by simp[x]|λ j v y g i=>?_]
                    cases j with
                    | zero=>cases g;cases i;exact%[p,ob,m,rfl,o1,o2,o3|eY I E rfl]
                    | succ j=>exact z j v y (by simpa using g) (by simpa using i)
   obtain⟨ys,k,l,x,z⟩:=mk kvs d its q1 f;have ly:ys.length=kvs.length:=k.length;refine tH (ys:=ys) (its:=its.toArray) (I.ok.hd U) Z p1 p2 p4 p3 (by rw[x5,x]) (by rw[l];exact nd) %[|0] (λ j v y g i=>z j v y (by simpa using g) i) λ Q tk m kk=>?_;obtain⟨q,P,Y,m2,m3,m4,_,m5⟩:=m;have J:=I.hok.fresh (y9 s.heap.objs.size);have A:(s.heap.objs.size==sysModules)=false:=by have:=(pq (h:=s.heap) I.big).2.1;exact this
   have N:bc s.heap.objs.size ys Q:=%[by rw[ke];omega,A,m5,q,P,Y,m2,m3|m4];refine%[%[|9],_,I.laid (a:=s.heap.objs.size) (o:=.ext (bc s.heap.objs.size ys)) (t':=tk) kk (y9 _) (ig N),rfl|?_];have L:=Step.own (O:=O) J (.ext (bc s.heap.objs.size ys)) true;exact%[O.more s.heap.objs.size true,.dlo S.length,S++[.non::kvs.map encC],w,L,KY M J (.m ys _ rfl aL (k.conv L.conv))|.dlo (by show(O.A++[(s.heap.objs.size,true)])[S.length]? =some (s.heap.objs.size,true);rw[<-M.len];simp) λ c o q=>bX (I.kIn c o q)]
def Uo{kvs:Kc}(z:S[k]? =some (.non::kvs.map encC))(h1:kvs.length<=1)(w:W (.dlo S.length) (S++[.non::kvs.map encC])):dw X (.type "dict") [.dlo k] S W:=by
 intro j s U H O T R I f r M;obtain⟨v,rfl,L⟩:=cO r;obtain⟨u,rfl,e⟩:=vals1 M
 cases L with
 | @dlo a _ y A=>
   cases e;obtain⟨E,Q,b,N,i,p,C⟩:=dI I (f.dob k a _ y z);have P:=i.length;refine yS E p %[|0] λ x m D=>?_;obtain⟨q,t,B,F,G,J,_,K⟩:=m;have g:=I.hok.fresh (y9 s.heap.objs.size);have d:(s.heap.objs.size==sysModules)=false:=by have:=(pq (h:=s.heap) I.big).2.1;exact this
   have n:bc s.heap.objs.size b x:=%[C,d,K,q,t,B,F,G|J];refine%[%[|9],_,I.laid (a:=s.heap.objs.size) (o:=.ext (bc s.heap.objs.size b)) (t':=s.toks) D (y9 _) (ig n),rfl|?_];have l:=Step.own (O:=O) g (.ext (bc s.heap.objs.size b)) true;exact%[O.more s.heap.objs.size true,.dlo S.length,S++[.non::kvs.map encC],w,l,KY f g (.m b _ rfl aL (i.conv l.conv))|.dlo (by show(O.A++[(s.heap.objs.size,true)])[S.length]? =some (s.heap.objs.size,true);rw[<-f.len];simp) λ c o q=>bX (I.kIn c o q)]
end
def Mj:Bc where
 x:="dict"
 id:="dict"
 boot:=%[|11]
 wp b S W:=∃a:Kc,b=[.lst (a.map encC)]/\(a.map (·.1)).Nodup/\a.length<=1000/\W (.dlo S.length) %[|13]
 sound:=by rintro X b S W f g ⟨a,rfl,c,d,e⟩;exact VH f (by have:=g.un;omega) c d e
def MK:Bc where
 x:="dict"
 id:="dict"
 boot:=%[|11]
 wp b S W:=∃(k:Nat) (a:Kc),b=[.dlo k]/\S[k]? =some (.non::a.map encC)/\a.length<=1/\W (.dlo S.length) %[|13]
 sound:=by rintro X b S W f g ⟨k,a,rfl,c,d,e⟩;exact Uo c d e
section
variable{prog:Program}{w:World}{α:Type}[DecidableEq α][Inhabited α]{lt:α -> α -> Bool}{good:α -> Prop}{enc:α -> D}{K:SK prog w α lt good enc}{A:Around}{E:%[|17]}{s:Shared}
def Js{xs:Cv α}(T:A.units+8<cLine)
 (n:∀{E':ab3}{G:List Value->Shared->Prop},(∀h' tk,(∀b o,%[|24])->s.heap.objs.size<=h'.objs.size->G (xs.map (·.2)) {s with heap:=h',toks:=tk})->wpAny %[|5] A.in1 (collect (.ref x)) G E' s)
 (B:xs.length<64)(nd:(xs.map (·.1)).Nodup)(O:∀x∈xs,good x.1)(C:∀x∈xs,K.I s.heap x.2 x.1)
 (h:∀(ys:Cv α) h' tk a e,ys.Perm xs->ys.Pairwise (λ x y=>lt x.1 y.1=true)->(∀b o,%[|24])->s.heap.objs.size<=a->h'.get? a=some (seqObj "list" (ys.map (·.2)).toArray e)->Q (.ref a) {s with heap:=h',toks:=tk}):
 wpAny %[|5] A (call (.builtin "sorted") [.ref x]) Q E s:=by
 refine Calls.call_function_entry kind_sorted plain_sorted entry_sorted (args_sorted1 _) ?_;unfold Builtin.«sorted»;refine b0 (m:=checkCount "sorted" 1 1 _) (b9 ?_);refine b0 (n λ h' tk S J=>?_);have F:(xs.map (·.2)).length<=sizeLine:=cS (by rw[y7];omega:_<=64) %[|1];refine b0 (wpAny_newList ?_ F);have k:(h'.push (seqObj "list" (xs.map (·.2)).toArray 0)).get? h'.objs.size=some (seqObj "list" (xs.map (·.2)).toArray 0):=bS _ rfl;have f:∀b o,s.heap.get? b=some o->(h'.push (seqObj "list" (xs.map (·.2)).toArray 0)).get? b=some o:=λ b o q=>bE _ (S b o q);show wpAny _ _ _ _ _ {s with heap:=h'.push (seqObj "list" (xs.map (·.2)).toArray 0),toks:=tk};refine b0 (ed (de slot_list_sort %[_,k|rfl] entry_list_sort (uX (K:=K) (cs:=xs.map (·.1)) (show A.units+1+1+2<cLine by omega) k (by rw[y7,y7]) (λ i v c l u=>?_) (λ c C=>?_) nd (by rw[y7];exact B) λ p D=>%[_,rfl|?_]) (args_list_sort _)))
 . rw[y8]at l u
   cases q:xs[i]? with
   | none=>rw[q]at l;cases l
   | some z=>rw[q]at l u;cases l;cases u;exact K.keep (λ b o e _=>f b o e) (C z (y4 q))
 {obtain⟨z,R,rfl⟩:=c8.mp C;exact O z R}
 . obtain⟨e,I⟩:=sortedHeap_at (out:=List.toArray (p.map λ i=>(xs.map (·.2)).getD i Value.none)) k;have L:∀i∈p,i<xs.length:=λ i d=>by have:=D.lt_ i d;rwa[y7]at this
   have t:∀i,i<xs.length->xs[i]? =some (xs.getD i (default,.none)):=λ i d=>by rw[eI];simp[d]
   have N:(p.map λ i=>(xs.map (·.2)).getD i Value.none)=(p.map λ i=>xs.getD i (default,.none)).map (·.2):=by rw[df];refine kF λ i d=>?_;rw[eI,y8,t i (L i d)];rfl
   have M:(seqObj "list" (p.map λ i=>(xs.map (·.2)).getD i Value.none).toArray e)=seqObj "list" ((p.map λ i=>xs.getD i (default,Value.none)).map (·.2)).toArray e:=by rw[N]
   rw[M]at I;refine b9 %[_,rfl|h _ _ tk _ e ?_ ?_ (λ b o q=>?_) J I];{have H:=D.perm;rw[y7]at H;have:=H.map λ i=>xs.getD i (default,Value.none);rw[range_getD]at this;exact this}
   . rw[ky];refine D.srt.imp_of_mem λ{i j} d P h=>?_;have g:∀i∈p,(xs.map (·.1)).getD i default=(xs.getD i (default,Value.none)).1:=λ i d=>by rw[eI,y8,t i (L i d)];rfl
     unfold vC at h;rw[g i d,g j P]at h;exact h
   {have r:b<h'.objs.size:=v3 (bX q) J;rw[sortedHeap_old (cq r) (by rw[size_push'];exact ja r)];exact f b o q}
def Ab(hh:A.handled=none)(r:Tab m (aG K.toHK xs) ps)(a:xs.length<=m)(e:xs.length<=1000)(g:s.heap.get? S=some (bA (ao m ps f (aH w) mv true) (ak K.toHK xs) ep)):
 ∃ws:Cv α,ws.Perm xs/\∀{E':ab3}{c:List Value->Shared->Prop},(∀h' tk,(∀b o,%[|24])->s.heap.objs.size<=h'.objs.size->c (ws.map (·.2)) {s with heap:=h',toks:=tk})->wpAny %[|5] A (collect (.ref S)) c E' s:=by obtain⟨ws,k,d⟩:=tL (rm w S ep (ak K.toHK xs)) (xs:=xs) (f:=λ x=>(K.h x.1,x.2)) rfl;refine%[ws,k|λ h=>DN hh r a e g λ h' tk i j=>?_];rw[d,df];exact h h' tk (λ b o q=>i b o (bX q) q) j
end
section
variable{X:Cx}{S:Store}{W:WD}
def NK{K}:∀{zs:Cv (Int×List Int)},(∀z∈zs,∃b,z.2=.ref b/\Rep K O H (.ref b) (cD z.1))->∃vs,Vals vs (zs.map (·.2))/\Reps K O H vs ((zs.map (·.1)).map cD):=by
 intro zs
 induction zs with
 | nil=>intro _;exact%[[],.nil|.nil]
 | cons z zs d=>intro h;obtain⟨vs,a,b⟩:=d λ y c=>h y (x4 _ c);obtain⟨p,e,r⟩:=h z x6;exact%[.ref p::vs,.cons (by show L2.RelV (V.ref p) z.2;rw[e];rfl) a|.cons r b]
def jA{pins:Pins}{σ:DL.St}{xs:Cv (Int×List Int)}(q:X.A.units+8<cLine)(I:%[|3])(st:%[|14])
 (c:∀{E':ab3}{i:List Value->Shared->Prop},(∀h' tk,(∀b o,%[|24])->s.heap.objs.size<=h'.objs.size->i (xs.map (·.2)) {s with heap:=h',toks:=tk})->wpAny %[|6] X.A.in1 (collect (.ref x)) i E' s)
 (d:xs.length<64)(nd:(xs.map (·.1)).Nodup)(l:∀z∈xs,∃b,z.2=.ref b/\Rep X.K O H (.ref b) (cD z.1))
 (w:∀ks:List (Int×List Int),ks.Perm (xs.map (·.1))->ks.Pairwise (λ a b=>ltC a b=true)->W (.lst (ks.map cD)) S):
 wpAny %[|6] X.A (call (.builtin "sorted") [.ref x]) (EP X pins σ (QG X.K O H W)) X.xe s:=by
 refine Js (K:=kJ X.prog X.w) q c d nd (λ _ _=>trivial) (λ z f=>?_) λ ys h' tk a e g h k j p=>?_;{obtain⟨b,e,r⟩:=l z f;rw[e];exact eY I r rfl}
 . obtain⟨m,n,u⟩:=NK (zs:=ys) λ z f=>l z (g.mem_iff.mp f);have t:m.length<=64:=by rw[n.length,y7,g.length_eq];omega
   exact%[.ref a,_,I.laid (t':=tk) k j (show aN X.prog X.w _ _ _ (.lst m)from%[cS t %[|1],_,e,n|p]),rfl|dM (w _ (g.map (·.1)) (ky.mpr h)) st (I.hok.fresh j) u]
def V4(Y:X.calm=true)(M:X.A.units+8<cLine)(h2:cs.length<64)(nd:cs.Nodup)(Z:d=.lst (cs.map cD)\/∃(k:Nat) (kvs:Kc),d=.dlo k/\S[k]? =some (.non::kvs.map encC)/\cs=kvs.map (·.1))
 (w:∀ks:List (Int×List Int),ks.Perm cs->ks.Pairwise (λ a b=>ltC a b=true)->W (.lst (ks.map cD)) S):dw X (.builtin "sorted") [d] S W:=by
 intro P s σ H O vs us I G r ru;obtain⟨v,rfl,Q⟩:=cO r;obtain⟨u,rfl,p⟩:=vals1 ru;rcases Z with rfl | ⟨k,kvs,rfl,hk,rfl⟩
 . cases Q with
   | @lst a xs _ T q1=>
     cases p;obtain⟨f,x,pl,g⟩:=I.list T.sq;have mk:∀(cs:List (Int×List Int))(xs:List V)(f:ab6),Reps X.K O H xs (cs.map cD)->Vals xs f->∃i:Cv (Int×List Int),i.map (·.1)=cs/\i.map (·.2)=f/\∀z∈i,∃b,z.2=.ref b/\Rep X.K O H (.ref b) (cD z.1):=by
      intro cs
      induction cs with
      | nil=>intro xs f r x;cases r;cases x;exact%[[],rfl,rfl|λ _ h=>nomatch h]
      | cons c cs ih=>intro xs f r x;cases r with| cons r t=>cases x with| cons rx rt=>obtain⟨i,E,F,l⟩:=ih _ _ t rt;obtain⟨b,rfl⟩:=ir r;cases rx;exact%[(c,.ref b)::i,by rw[cn,E],by rw[cn,F]|λ z g=>(ci.mp g).elim (λ e=>e▸%[b,rfl|r]) (l z)]
     obtain⟨i,rfl,rfl,l⟩:=mk cs xs f q1 x;rw[y7]at h2;exact jA M I G (λ A=>collect_list pl.isList (A _ _ (λ b o q=>by have n:b<s.heap.objs.size:=bX q;rw[Heap.get?_update_ne _ _ _ _ (cq n),kR _ _ _ (cq n)];exact q) (by rw[lj,size_push'];exact kB _)) (by rw[y7,ke];omega)) h2 nd l w
 . cases Q with
   | @dlo a _ U aa=>
     cases p;obtain⟨lo,mu,B,eH,N,⟨oo,K,E,F,l,L,g5,g6⟩,g⟩:=dI I (G.dob k a _ U hk);have m:=rJ N;have C:K.size=B.length:=by rw[<-dA,L,y7]
     have R:(B.map λ y=>(y.1,Value.ref y.2.1)).map (·.2)=K.toList.map (·.key):=by rw[L,df,df];rfl
     have J:(B.map λ y=>(y.1,Value.ref y.2.1)).map (·.1)=kvs.map (·.1):=by rw[<-m,df];rfl
     refine jA (xs:=B.map λ y=>(y.1,Value.ref y.2.1)) M I G (λ A=>?_) (by rw[<-m,y7]at h2;rw[y7];exact h2) (by rw[J];exact nd) (λ z g=>?_) (by rw[J];exact w);{rw[R]at A;exact CN (by simpa using I.ok.hd Y) lo %[oo,E,F|l] (by rw[C,sizeLine_eq];rw[ke]at g;omega) A};{obtain⟨y,hy,rfl⟩:=c8.mp g;obtain⟨j,hj⟩:=d6 hy;exact%[y.2.1,rfl|uN N j y hj]}
end
def N6:Bf where
 x:="sorted"
 id:="sorted"
 boot:=%[|11]
 wp g S W:=∃(c:List (Int×List Int)) (d:D),g=[d]/\c.length<64/\c.Nodup/\(d=.lst (c.map cD)\/∃(k:Nat) (e:Kc),d=.dlo k/\S[k]? =some (.non::List.map encC e)/\c=e.map (·.1))/\∀f:List (Int×List Int),f.Perm c->f.Pairwise (λ a b=>ltC a b=true)->W (.lst (f.map cD)) S
 sound:=by rintro X g S W m n ⟨c,d,rfl,h,i,j,l⟩;exact V4 m (by have:=n.un;omega) h i j l
section
variable{X:Cx}
def Xk{σ:DL.St}{i:Nat}(I:%[|3])(j:X.N[i]? =some x)(p:Vis X.env.scope x)(e:σ[i]? =some (some v))(h:∀u,RelV v u->Q u s)
 (f:(x==("__debug__":Str))=false)(d:(x==("__classdict__":Str))=false):wpAny %[|6] X.A (eval (.Name x pos) X.env) Q E s:=by obtain⟨m,o,k⟩:=I.loc;obtain⟨u,r,l⟩:=k i x v j e p;rcases l with⟨b,n⟩ | ⟨b,c,g,a⟩;{exact oC (oI I.ok.kind b o n (h u r)) f};{rcases b with b | b;{exact oC (wpAny_loadName_cell I.ok.kind b g a (h u r)) f};{exact oC (wpAny_loadName_free I.ok.kind b g a (h u r) d) f}}
def KC{pins:Pins}{σ:DL.St}{k:Nat}{l:Kc}(G:X.A.units+12<cLine)(I:%[|3])(st:%[|14])(C:O.A[k]? =some (a,true))(F:S[k]? =some (.non::l.map encC))(r:l.length<=63)
 (h:∀(h':Heap)(xs:Cv (Int×List Int))(m:Nat)(ps:ab4)(mv ep:Nat),h'.get? s.heap.objs.size=some (bA (ao m ps 0 (aH X.w) mv true) (ak (kJ X.prog X.w).toHK xs) ep)->Tab m (aG (kJ X.prog X.w).toHK xs) ps->bN m xs.length->(xs.map (·.1)).Nodup->
  (∀b o,%[|24])->(∀x∈xs,x.1∈l.map (·.1)/\∃b,x.2=.ref b/\Rep X.K O H (.ref b) (cD x.1))->(∀c∈l.map (·.1),c∈xs.map (·.1))->Q %[|9] %[|15]):
 wpAny %[|6] X.A (call (.type "set") [.ref a]) Q E s:=by
 obtain⟨J,W,ys,T,v,⟨M,es,w,z,A,p,B,U⟩,V⟩:=dI I (st.dob k a _ C F);have u:=v.length;have g:=rJ v;have R:=uN v;have n:es.size=ys.length:=by rw[<-dA,p,y7]
 refine yR (K:=(kJ X.prog X.w).toHK) (es:=es) (epd:=ys.length) (cs:=l.map (·.1)) G J %[M,w,z|A] (by rw[n,u,y7]) (by rw[y7];exact r) (λ i e c f d=>?_) λ h' xs m ps mv ep N L P=>?_
 . rw[p,y8]at f;rw[<-g,y8]at d
   cases q:ys[i]? with
   | none=>rw[q]at f;cases f
   | some y=>rw[q]at f d;cases f;cases d;exact%[B y (y4 q)|rfl]
 . refine h h' xs m ps mv ep N L.tab L.fill L.nd (λ b o e=>P b o (bX e) e) (λ x t=>?_) λ c D=>?_
   . obtain⟨j,hj⟩:=d6 (L.its x t);rw[gX,y8,p,y8]at hj;have d:=hj.2;rw[<-g,y8]at d
     cases q:ys[j]? with
     | none=>rw[q]at d;cases d
     | some y=>have f:=hj.1;rw[q]at f d;have f:Value.ref y.2.1=x.2:=cf f;have d:y.1=x.1:=cf d;refine%[y4 hj.2,y.2.1,f.symm|?_];rw[<-d];exact R j y q
   {obtain⟨x,t,e⟩:=L.all c (by rw[ck (y9 _)];exact D);exact c8.mpr %[x,t|e]}
end
def aaO(e:Expr):Option {x:Expr×Operator×Expr×Pos // e=.BinOp x.1 x.2.1 x.2.2.1 x.2.2.2}:=match e with
 | .BinOp l o r p=>some %[(l,o,r,p)|rfl]
 | _=>none
def RD(N:ab8)(nm:Nm)(i:Nat)(e:Expr):Bool:=cA e λ z a=>(z=="set")&&dj a λ b=>anB (nameV b) λ x=>(N[i]? ==some x)&&(vis nm x&&okN x)
section
variable{Ω:Wd}
def abF(hm:Ω.mg "sorted"=none)(hm2:Ω.mg "set"=none)(i j:Nat):Ex Ω where
 lev:=0
 chk af N G e:=cA e λ y es=>(y=="sorted")&&dj es λ J=>anB (aaO J) λ z=>(z.1.2.1==.BitOr)&&(glb G "sorted"&&(glb G "set"&&(RD N G i z.1.1&&RD N G j z.1.2.2.1)))
 wp Γ S W:=∃(k q:Nat) (f F:Kc) (U:List (Int×List Int)),Γ[i]? =some (some (.dlo k))/\Γ[j]? =some (some (.dlo q))/\S[k]? =some (.non::List.map encC f)/\S[q]? =some (.non::List.map encC F)/\f.length<=63/\F.length<=63/\U.length<=63/\(∀c∈f.map (·.1),c∈U)/\(∀c∈F.map (·.1),c∈U)/\∀V:List (Int×List Int),V.Pairwise (λ a b=>ltC a b=true)->(∀c,c∈V↔c∈f.map (·.1)\/c∈F.map (·.1))->W (.lst (V.map cD)) S
 sound:=by
  intro X r af N G e Γ S W A hl n hw;refine bh n λ y p es ad t=>?_;refine an2 t λ h1 w=>?_;refine cP w λ J B=>?_;obtain⟨⟨⟨el,op,er,bp⟩,eb⟩,_,C⟩:=bD B;have eb:J=.BinOp el op er bp:=eb;subst eb;refine an5 C λ h2 h3 h4 h5 h6=>?_;have e1:=ZU h1;have e2:op=.BitOr:=ZU h2;subst e1 e2;obtain⟨k,q,f,F,U,w1,w2,w3,w4,w5,w6,w7,w8,w9,ag⟩:=hw;have hu:=A.hu;have Y:∀{i:Nat}{e:Expr}{k:Nat}{f:Kc}{d:Pins}{s:ab5}{D:DL.St}{H:Hp}{O:Own}{Q:ab3}{E:ab3},RD N G i e=true->Γ[i]? =some (some (.dlo k))->S[k]? =some (.non::f.map encC)->f.length<=63->Inv X d D H s->EnvOk X.K O H D Γ->%[|14]->
   (∀(h':Heap)(xs:Cv (Int×List Int))(m:Nat)(ps:ab4)(mv ep:Nat),h'.get? s.heap.objs.size=some (bA (ao m ps 0 (aH X.w) mv true) (ak (kJ X.prog X.w).toHK xs) ep)->Tab m (aG (kJ X.prog X.w).toHK xs) ps->bN m xs.length->(xs.map (·.1)).Nodup->
    (∀b o,%[|24])->(∀x∈xs,x.1∈f.map (·.1)/\∃b,x.2=.ref b/\Rep X.K O H (.ref b) (cD x.1))->(∀c∈f.map (·.1),c∈xs.map (·.1))->Q %[|9] %[|15])->
   wpAny %[|6] X.A (eval e X.env) Q E s:=by
   intro i e k f d s D H O Q E n ab hk aa I l st h;refine bh n λ z pz aj Z t=>?_;refine an2 t λ g1 w=>?_;refine cP w λ b B=>?_;obtain⟨x,ex,C⟩:=bD B;obtain⟨px,ee⟩:=gr ex;subst ee;refine an3 C λ g2 g3 g4=>?_;have e1:=ZU g1;subst e1;obtain⟨d1,d2,_⟩:=gG g4;have hN:X.N[i]? =some x:=by rw[A.n];exact ZU g2
   obtain⟨v,ev,ae⟩:=l.at_ i _ ab;refine gv (cz I (A.glb h4) (by rw[A.g];exact hm2) (show bootBuiltins "set"=some (.type "set")from %[|11]) ?_ %[|1] %[|1]);refine eu ?_ rfl rfl;show wpAny _ _ (spliced ((false,eval (.Name x px) X.env)::backTo Z (starEach [] X.env))) _ _ s;refine fA (Xk I hN (A.vis g3) ev (λ u ru=>?_) d1 d2);cases ae with| @dlo a _ M al=>cases ru;refine gi ?_;exact KC %[|0] I st M hk aa h
  intro d s D H O I l st;refine gv (cz I (A.glb h3) (by rw[A.g];exact hm) (show bootBuiltins "sorted"=some (.builtin "sorted")from %[|11]) ?_ %[|1] %[|1]);refine iE ?_ rfl rfl;show wpAny _ _ (spliced ((false,eval (.BinOp el .BitOr er bp) X.env)::backTo ad (starEach [] X.env))) _ _ s;refine fA ?_;refine wpAny_BinOp (Y h5 w1 w3 w5 I l st λ M xs m ps mv ep a1 a2 a3 a4 a5 a6 a7=>?_);have Ia:Inv X d D H {s with heap:=M}:=I.kept (t':=s.toks) a5;refine Y (s:={s with heap:=M}) h6 w2 w4 w6 Ia l st λ hb zs m2 aq am ah J b2 b3 b4 b5 b6 b7=>?_;have Ib:Inv X d D H {s with heap:=hb}:=Ia.kept (t':=s.toks) b5;have lt:s.heap.objs.size<M.objs.size:=bX a1;have L:∀{x:(Int×List Int)×Value},(∃b,x.2=.ref b/\Rep X.K O H (.ref b) (cD x.1))->(kJ X.prog X.w).I hb x.2 x.1:=by rintro x ⟨b,e,r⟩;rw[e];exact eY Ib r rfl
  refine Vo (K:=(kJ X.prog X.w).toHK) (s:={s with heap:=hb}) (U:=U) %[|0] (cq lt) (b5 _ _ a1) a2 a3 J b2 b3 (λ x g=>L (a6 x g).2) (λ x g=>L (b6 x g).2) a4 b4 w7 (λ x g=>w8 _ (a6 x g).1) (λ x g=>w9 _ (b6 x g).1) λ n m3 us ar an ai c1 c2 c3 c4 c5 c6 c7=>?_;have kc:∀b o,hb.get? b=some o->n.get? b=some o:=λ b o e=>c1 b o (bX e) e;have Ic:Inv X d D H {s with heap:=n}:=Ib.kept (t':=s.toks) kc;have ac:∀x∈us,∃b,x.2=.ref b/\Rep X.K O H (.ref b) (cD x.1):=λ x g=>(c6 x g).elim (λ h=>(a6 x h).2) λ h=>(b6 x h).2;have T:∀x∈us,x.1∈f.map (·.1)\/x.1∈F.map (·.1):=λ x g=>(c6 x g).imp (λ h=>(a6 x h).1) λ h=>(b6 x h).1;have ap:us.length<=63:=by have:=kK c5 (λ z R=>by obtain⟨y,hy,rfl⟩:=c8.mp R;exact(T y hy).elim (w8 _) (w9 _):∀z∈us.map (·.1),z∈U);rw[y7]at this;omega
  refine gi ?_;obtain⟨ws,pz,P⟩:=Ab (K:=kJ X.prog X.w) (A:=X.A.in1) (s:={s with heap:=n}) (by simpa using I.ok.hd A.calm) c3 (Nat.le_of_lt c4.few) %[|0] c2;refine thn (jA (xs:=ws) %[|0] Ic st P (by rw[pz.length_eq];omega) ((pz.map (·.1)).nodup_iff.mpr c5) (λ z R=>ac z (pz.mem_iff.mp R)) λ V k1 k2=>ag V k2 λ c=>(k1.trans (pz.map (·.1))).mem_iff.trans %[λ hm=>by obtain⟨z,R,rfl⟩:=c8.mp hm;exact T z R|λ hm=>c7 c (hm.imp (a7 c) (b7 c))]) λ _ _ q=>q
end
section
variable{P:Program}{w:World}{A:Around}{d r:Addr}{es:Array DictEntry}{ep:Nat}
theorem Ld(hh:A.handled=none)(I:Addr)(p:d≠I):Walks P w A I [I,d] [I] es.size (λ i v=>∃e,es[i]? =some e/\v=e.val) (λ i h=>h.IsValIter I d i es.size ep/\DEs d es ep h) where
 sub:=λ b c=>by simp at c;simp[c]
 frame:=λ _ _ _ st q=>%[st.1.at λ o e=>q I (by simp) o e|let ⟨o,a,k⟩:=st.2;%[o,q d (by simp) o a|k]]
 item:=λ i s Q E t st f=>by obtain⟨o,a,k,l⟩:=st.2;obtain⟨e,r⟩:∃e,es[i]? =some e:=%[es[i]|by simp[t]];exact Q0 a l st.1 r λ m g j=>f e.val m s.toks %[e,r|rfl] %[g,o,j.extBut d o p a,k|l] λ b o c e=>j.extBut b o (λ h=>c (by simp[h])) e
 done:=λ s Q E st f=>by obtain⟨o,a,k,l⟩:=st.2;exact Vh hh a l st.1 (y9 _) λ m n=>f m s.toks λ b o c e=>n b o (λ h=>c (by simp[h])) e
 self:=λ _ _ _ _ st f=>wpAny_pyIter_valiter st.1 f
theorem P0:PySem.W.KdlSrc P w "dict_values" r d es.size (λ i v=>∃e,es[i]? =some e/\v=e.val) (λ h=>h.IsValuesView r d/\DEs d es ep h) where
 type:=λ _ hm=>hm.1.typeIs
 there:=λ _ hm=>%[let ⟨_,ho,_⟩:=hm.1;bX ho|let ⟨_,ho,_⟩:=hm.2;bX ho]
 keep:=λ _ _ hm g=>%[let ⟨o,ho,x⟩:=hm.1;%[o,g r (.inl rfl) o ho|x]|let ⟨o,a,b⟩:=hm.2;%[o,g d (.inr rfl) o a|b]]
 notList:=%[|1]
 notTuple:=%[|1]
 hint:=λ _ _ _ _ hm c=>PySem.W.kdl_hint_values hm.1.typeIs c
 iter:=λ _ _ j hm=>by obtain⟨o,a,b,f⟩:=hm.2;exact%[_,_,(λ _ _ c=>Fx hm.1 a f c),Ld j _ (cq (bX a))|%[%[_,bS _ rfl,rfl|rfl]|%[o,bE _ a,b|f]]]
end
section
variable{Ω:Wd}
def abQ(hm:Ω.mg "list"=none)(o:Ex Ω):Ex Ω where
 lev:=o.lev
 chk E N nm e:=cA e λ y es=>(y=="list")&&dj es λ b1=>oM b1 λ x m p l q=>lC l ((m==("values":Str))&&(nameE x&&((p.endLine==q.line)&&(glb nm "list"&&o.chk E N nm x))))
 wp Γ S W:=o.wp Γ S λ x L=>∃k d,x=.dlo k/\L[k]? =some (.non::List.map encC d)/\W (.lst (d.map λ kv=>kv.2)) L
 sound :=by
  intro X r E N nm e Γ S W A hl hc hw;refine bh hc λ y p0 es ac R=>?_;refine an2 R λ J U=>?_;refine cP U λ b1 V=>?_;refine fX V λ x m p l q n=>?_;obtain⟨ee,Y⟩:=eO n;clear n;subst ee;refine an5 Y λ h2 h3 h4 h5 h6=>?_;have M:=ZU J;have P:=ZU h2;subst M P;have hb:attributeBase x "values" X.env (eval x X.env)=eval x X.env:=by cases x<;>first | rfl | exact ff h3
  intro C s σ H O I Q st;refine gv (cz I (A.glb h5) (by rw[A.g];exact hm) (show bootBuiltins "list"=some (.type "list")from %[|11]) ?_ %[|1] %[|1]);refine eu ?_ rfl rfl;show wpAny _ _ (spliced ((false,eval (.Call (.Attribute x "values" p) [] [] q) X.env)::backTo ac (starEach [] X.env))) _ _ s;refine fA ?_;refine nw (T:="dict") (id:="dict.values") hb rfl h4 F.plainAttrs_dict F.slot_dict_values F.type_dict_values (thn (o.sound A hl h6 hw C s σ H O I Q st) λ u h ab=>?_);obtain⟨x',K,G,rx,O1,xd,L,⟨k,d,rfl,hk,w⟩,ad,B,D⟩:=ab
  cases D with
  | @dlo a _ ha Z=>
    obtain rfl:u=Value.ref a:=rx;have hD:=B.dob k a _ ha hk;obtain⟨t1,t2,t3⟩:=hD.typ Z G;obtain⟨_,mu,ys,eH,kc,⟨oo,es,g1,g2,g3,g4,_,_⟩,hz⟩:=dI G hD;refine%[t1,t2|?_];show wpAny _ _ (callWith q (.builtin "dict.values") [.ref a] [] []) _ _ h;refine method_meetsIn F.slot_dict_values F.entry_dict_values rfl (pS %[rfl,t1,F.args_dict_values_1 _,_,Ba t3,t1|?_]);refine gi ?_;have af:es.size=ys.length:=by rw[<-dA,g4,y7]
    have ag:=kc.length;refine PySem.W.kdl_call (s:={h with heap:=h.heap.push {cls:=.type "dict_values",data:=.fields #[.ref a]}}) (P0 (es:=es) (ep:=ys.length)) (I.ok.hd A.calm) %[%[_,bS _ rfl,rfl|rfl]|%[oo,bE _ g1,g2|g3]] %[|0] λ h' tk f c z hL hacc=>?_;have sz:h.heap.objs.size<=(h.heap.push {cls:=.type "dict_values",data:=.fields #[.ref a]}).objs.size:=by rw[gl];exact kB _
    have ea:f.toList=ys.map λ y=>y.2.2:=by
     refine gL λ j=>?_;rw[y8,eD];by_cases hj:j<es.size
     . have J:j<f.size:=by rw[hacc.1];exact hj
       obtain⟨e,M,P⟩:=hacc.2 j f[j] (by simp[J]);have i:es.toList[j]? =some e:=by rw[eD];exact M
       rw[g4,y8]at i
       cases q:ys[j]? with
       | none=>rw[q]at i;cases i
       | some y=>rw[q]at i;cases i;rw[fw J,P];rfl
     {rw[eW (by rw[hacc.1];omega),fS %[|0]];rfl}
    have mk:∀(d:Kc)(ys:Cy),Kcs X.K O1 K ys (d.map encC)->∃g,Vals g (ys.map λ y=>y.2.2)/\Reps X.K O1 K g (d.map λ kv=>kv.2):=by
     intro d
     induction d with
     | nil=>intro ys r;cases r;exact%[[],.nil|.nil]
     | cons kv d ih=>intro ys r;obtain⟨b,u,v,ae,rfl,rk,rv,rd,t⟩:=r.inv;obtain⟨g,a,b⟩:=ih ae t;exact%[v::g,.cons rv a|.cons rd b]
    obtain⟨g,vv,rr⟩:=mk d ys kc;have aa:K (h.heap.push {cls:=.type "dict_values",data:=.fields #[.ref a]}).objs.size=none:=G.hok.fresh sz;have lv:g.length<=sizeLine:=by rw[vv.length,y7];exact hz
    have eA:f=(ys.map λ y=>y.2.2).toArray:=by rw[<-ea]
    rw[eA]at hL;refine%[.ref _,_,G.laid (t':=tk) (λ b o q=>z b o (bE _ q)) sz (show aN X.prog X.w _ _ _ (.lst g)from%[lv,_,c,vv|hL]),rfl|?_];have q:=dM w B aa rr;obtain⟨O2,d2,S2,w2,s2,o2,r2⟩:=q;exact%[O2,d2,S2,w2,ad.trans s2,o2|r2]
def abR(o:Ex Ω):Ex Ω where
 lev:=o.lev
 chk g N n e:=oM e λ x m p l q=>lC l ((m==("clear":Str))&&(YL x&&((p.endLine==q.line)&&o.chk g N n x)))
 wp s S W:=o.wp s S λ x h=>match x with | .dlo k=>∃c,h[k]? =some (.non::List.map encC c)/\W .non (h.set k []) | _=>False
 sound:=by
  intro X r g N n e s S W A y j z;refine fX j λ x m p l q f=>?_;obtain⟨i,j⟩:=eO f;clear f;subst i;refine an4 j λ t u v w=>?_;have e:=ZU t;subst e;obtain⟨B,C,D,i⟩:=Uy u;subst i;refine Uv rfl v ((o.sound A y w z).mono λ d h q=>?_)
  cases d with
  | dlo k=>obtain⟨c,a,b⟩:=q;exact%[k,c,rfl,a|b]
  | _=>exact(show False from q).elim
end
section
variable{X:Cx}{S:Store}{W:WD}
def CelM.any(m:CelM P w h d ys):CelM a k h d ys:=by obtain⟨o,b,c,e,f,g,i,j⟩:=m;exact%[o,b,c,e,f,g,i|j]
def Qh{pins:Pins}{σ:DL.St}{k j:Nat}{kvs:Kc}(V:A.units+52<cLine)(I:%[|3])(st:%[|14])(q:O.A[k]? =some (a,true))(u:O.A[j]? =some (b,true))(x:S[k]? =some (.non::kvs.map encC))(v:S[j]? =some (.non::kvs.map encC))(h1:kvs.length<=1)(ok:∀kv∈kvs,okD kv.2=true/\deep kv.2<=40):
 SeqAt.EqAt A s (.ref a) (.ref b) true:=by
 by_cases e:a=b;{subst e;exact mf _};refine mB e λ prog w E Q z=>?_;obtain⟨D,_,o,_,c,G,_⟩:=dI I (st.dob k a _ q x);obtain⟨F,_,N,_,d,J,_⟩:=dI I (st.dob j b _ u v);have B:=c.length;have C:=d.length;refine XD (P:=prog) (w:=w) (e:=λ _=>true) D F %[|0] G.any J.any (λ i y f=>?_) ?_
 . match kvs,c,d,ok,h1 with
   | [],r,_,_,_=>cases r;simp at f
   | [kv],r,r',ok,_=>
     obtain⟨U,Y,Z,R,rfl,_,L,K,t⟩:=r.inv;cases t;obtain⟨p,M,v2,T,rfl,_,l,g,t⟩:=r'.inv;cases t
     cases i with
     | zero=>cases f;refine .inr %[(p,M),by simp[atKey]|?_];obtain⟨m,W⟩:=ok kv x6;have n:=iI m K;have:=zW 50 kv.2 kv.2 %[|0] I n (iI m g) L l (A:=A.in1) (by show A.units+1+50<cLine;omega);rw[fY _ (lu n)]at this;exact this
     | succ i=>simp at f
   | _::_::_,_,_,_,h=>simp at h
 . have:(o.length==N.length&&(List.range o.length).all λ _=>true)=true:=by rw[B,C];simp
   rw[this];exact z
def aaa {kvs:Kc}(hu:X.A.units+60<cLine)(hk:S[k]? =some (.non::kvs.map encC))(hj:S[j]? =some (.non::kvs.map encC))(h1:kvs.length<=1)(ok:∀kv∈kvs,okD kv.2=true/\deep kv.2<=40)(oa:∀d∈[x,o,y,z],okD d=true/\deep d<=40)(w:W (.bl true) S):
 bW X .Eq (.tup [x,.dlo k,o,y,z]) (.tup [x,.dlo j,o,y,z]) S W:=by
 intro U s σ H O v w' u t I st r1 r2 ru P;have m:∀{d:D}{v B:V}{u t:Value},d∈[x,o,y,z]->Rep X.K O H v d->Rep X.K O H B d->RelV v u->RelV B t->SeqAt.EqAt X.A.in1 s u t true:=λ{d v B u t} hd r l q i=>by obtain⟨T,o2⟩:=oa d hd;have sn:=iI T r;have:=zW 50 d d %[|0] I sn (iI T l) q i (A:=X.A.in1) (by show X.A.units+1+50<cLine;omega);rw[fY _ (lu sn)]at this;exact this
 cases r1 with
 | @tup a xs _ K Y=>
   cases r2 with
   | @tup b ys _ L Z=>
     cases ru;cases P;obtain⟨f,v1,M,_⟩:=I.tuple K.sq;obtain⟨c,v2,N,_⟩:=I.tuple L.sq;have M:s.heap.IsTuple a f.toArray:=M;have N:s.heap.IsTuple b c.toArray:=N;have R:f.length=5:=by rw[<-v1.length,Y.length];rfl
     have l2:c.length=5:=by rw[<-v2.length,Z.length];rfl
     have C:∀n(Q:n<f.toArray.size)(g2:n<c.toArray.size),SeqAt.EqAt X.A.in1 s f.toArray[n] c.toArray[n] true:=by
      intro n Q g2;have hn:n<5:=by simpa[R]using Q
      have g:∀{d F:D},[x,D.dlo k,o,y,z][n]? =some d->[x,D.dlo j,o,y,z][n]? =some F->(∀{v B:V}{u t:Value},Rep X.K O H v d->Rep X.K O H B F->RelV v u->RelV B t->SeqAt.EqAt X.A.in1 s u t true)->SeqAt.EqAt X.A.in1 s f.toArray[n] c.toArray[n] true:=by
       intro d F G J h;obtain⟨z1,E,b1⟩:=Y.get G;obtain⟨z2,o,b2⟩:=Z.get J;obtain⟨u1,c1,d1⟩:=v1.get E;obtain⟨u2,c2,d2⟩:=v2.get o;have G:f.toArray[n]=u1:=by have:=(z0.mp c1).2;simpa using this
       have J:c.toArray[n]=u2:=by have:=(z0.mp c2).2;simpa using this
       rw[G,J];exact h b1 b2 d1 d2
      rcases n with _ | _ | _ | _ | _ | n;{exact g rfl rfl λ r l q i=>m (by simp) r l q i};{refine g rfl rfl λ r l q i=>?_;cases r with| @dlo p _ ha aa=>cases l with| @dlo p' _ hb ab=>cases q;cases i;exact Qh (by show X.A.units+1+52<cLine;omega) I st ha hb hk hj h1 ok};{exact g rfl rfl λ r l q i=>m (by simp) r l q i};{exact g rfl rfl λ r l q i=>m (by simp) r l q i};{exact g rfl rfl λ r l q i=>m (by simp) r l q i};{omega}
     have E:=SeqAt.RcAt.tuples (e:=λ _=>true) M N %[|0] C;have e:((List.range (min f.toArray.size c.toArray.size)).all (λ _=>true)&&f.toArray.size==c.toArray.size)=true:=by rw[x5,x5,R,l2];rfl
     rw[e]at E;exact E _ _ _ _ %[.bl true,H,I,rfl|J3 w st (.bl true)]
end
section
variable{Ω:Wd}
def abZ(a b:Ex Ω):Ex Ω where
 lev:=max a.lev b.lev
 chk f N s e:=cm1 e λ l o r=>(o==CmpOp.Eq)&&(okE r&&(a.chk f N s l&&b.chk f N s r))
 wp t S W:=a.wp t S λ x u=>b.wp t u λ y g=>∃k j c h i m n,x=.tup [h,.dlo k,i,m,n]/\y=.tup [h,.dlo j,i,m,n]/\g[k]? =some (.non::List.map encC c)/\g[j]? =some (.non::List.map encC c)/\c.length<=1/\(∀kv∈c,okD kv.2=true/\deep kv.2<=40)/\(∀d∈[h,i,m,n],okD d=true/\deep d<=40)/\W (.bl true) g
 sound:=by intro X r f N s e t S W A J I K;obtain⟨L,M⟩:=lv2 J;refine vA I λ l o P O p=>?_;refine an4 p λ F E G H=>?_;have e:=ZU F;subst e;refine Mz ((a.sound A L G K).mono λ x u q=>(b.sound A M H q).mono λ y g q=>?_) (iT E);obtain⟨k,j,c,h,i,m,n,rfl,rfl,v,z,B,C,D,w⟩:=q;exact aaa A.hu v z B C D w
end
end RF
namespace K38
open PySem L2 DL RF
variable{Ω:Wd}{f:Addr}{fd:FuncData}
def top(i:Nat):Stmt:=PySem.Challenge.pw_nestturn_k38_two_rows_compared.main.body.getD i (.Pass %[0,0,0|0])
structure Bi(mg:ab9):Prop where
 MOST_STEPS_:∃t,mg "MOST_STEPS"=some (.int 60 t)
 abs_:mg "abs"=none
 all_:mg "all"=none
 bool_:mg "bool"=none
 dict_:mg "dict"=none
 enumerate_:mg "enumerate"=none
 int_:mg "int"=none
 isinstance_:mg "isinstance"=none
 len_:mg "len"=none
 list_:mg "list"=none
 max_:mg "max"=none
 min_:mg "min"=none
 range_:mg "range"=none
 set_:mg "set"=none
 sorted_:mg "sorted"=none
 sum_:mg "sum"=none
 tuple_:mg "tuple"=none
 zip_:mg "zip"=none
section
variable{Ω:Wd}
abbrev mW:=top 1
abbrev Ca:ab8:=["thing"]
def BZ(B:%[|2]):Bl Ω:=
 il (FN (abk (abb (abw B.isinstance_ (eN 0) .int B.int_) (abg (abW (abw B.isinstance_ (eN 0) .bool B.bool_)))))) u5
abbrev jw:=top 2
abbrev uH:ab8:=["thing","least","most"]
def uw(B:%[|2]):Bl Ω:=
 il (FN (abk (abb (abw B.isinstance_ (eN 0) .tuple B.tuple_) (abg (Ex.ch2 (eN 1) .LtE (S9 cX B.len_ (fM (eN 0) qe)) .LtE (eN 2)))))) u5
abbrev qJ:=top 3
abbrev Fw:ab8:=["thing","d"]
def FW(B:%[|2]){qc:Ct}(qf:Cal Ω "is_whole" 1 1 qc){qh:Ct}(qk:Cal Ω "is_tuple_of" 1 3 qh):Bl Ω:=
 il (FN (abk (abb (vy qk (fM (eN 0) (fM (Hh .Add (eN 1) (sy 1)) (fM (Hh .Add (eN 1) (sy 1)) qe)))) (abg (S9 gM B.all_ (fM (aa3 ["number"] [none] (vy qf (fM (eN 0) qe)) (Tg.nm 0) (aa7 (eN 0)) aa6) qe)))))) u5
abbrev oO:=top 4
abbrev zR:ab8:=["form","counts"]
def Be(B:%[|2]):Bl Ω:=
 il (FN (Hh .Add (Hc (eN 0) (sy 0)) (S9 uD B.sum_ (fM (aa3 ["number","count"] [none,none] (Hh .Mult (eN 0) (eN 1)) (Tg.tup [0,1]) (abT B.zip_ (abt (eN 0) (Po.so (sy 1)) Po.no) (eN 1)) aa6) qe)))) u5
abbrev nA:=top 5
def wu(B:%[|2]){qo:Ct}(qq:Cal Ω "is_form" 2 2 qo):Bl Ω:=
 il (FN (abk (abb (Ex.ch2 (abq (sy 9)) .LtE (Hc (eN 0) (sy 0)) .LtE (sy 9)) (abg (S9 gM B.all_ (fM (aa3 ["number"] [none] (Ex.ch2 (abq (sy 2)) .LtE (eN 0) .LtE (sy 2)) (Tg.nm 0) (aa7 (abt (eN 0) (Po.so (sy 1)) Po.no)) aa6) qe)))))) u5
def Dq(B:%[|2]){qo:Ct}(qq:Cal Ω "is_form" 2 2 qo):Bl Ω:=
 il (aa2 (abd (aa9 (vy qq (fM (eN 0) (fM (eN 1) qe))))) (il (FN (Ex.bl false)) u5) u5) (wu B qq)
abbrev qH:=top 6
def Fq{qh:Ct}(qk:Cal Ω "is_tuple_of" 1 3 qh){qr:Ct}(qs:Cal Ω "is_bound" 3 2 qr):Bl Ω:=
 il (FN (abk (abb (vy qk (fM (eN 0) (fM (sy 2) (fM (sy 2) qe)))) (abb (vy qs (fM (Hc (eN 0) (sy 0)) (fM (eN 1) qe))) (abg (vy qs (fM (Hc (eN 0) (sy 1)) (fM (eN 1) qe)))))))) u5
abbrev oF:=top 7
def Ag(B:%[|2]){qh:Ct}(qk:Cal Ω "is_tuple_of" 1 3 qh){qv:Ct}(qA:Cal Ω "is_loop" 4 2 qv):Bl Ω:=
 il (FN (abk (abb (vy qk (fM (eN 0) (fM (sy 1) (fM (sy 3) qe)))) (abg (S9 gM B.all_ (fM (aa3 ["k","loop"] [none,none] (vy qA (fM (eN 1) (fM (eN 0) qe))) (Tg.tup [0,1]) (abK B.enumerate_ (eN 0)) aa6) qe)))))) u5
abbrev fO:=top 8
abbrev lX:ab8:=["ahead","low","high","longer","counts","count"]
abbrev mQ:ab8:=["ahead","low","high"]
section
variable(B:%[|2]){qB:Ct}(qE:Cal Ω "comes_to" 1 2 qB)
def j5(B:%[|2]){qB:Ct}(qE:Cal Ω "comes_to" 1 2 qB):Bl Ω:=
 il (FN (eN 3)) u5
def jX:Bl Ω:=
 il (abe (Tg.nm 4) (eN 0) (il (abn (Tg.nm 5) (abE B.range_ (vy qE (fM (eN 1) (fM (eN 4) qe))) (vy qE (fM (eN 2) (fM (eN 4) qe)))) (il (abf (aa8 (eN 3) (Hh .Add (eN 4) (aa1 (fM (eN 5) qe))))) u5)) u5)) (j5 B qE)
def mH:Bl Ω:=
 il (Ac 3 (Ex.own qe)) (jX B qE)
end
abbrev lQ:=top 9
abbrev ym:ab8:=["loops","told","low","high"]
abbrev yL:ab8:=["loops"]
section
variable{qS:Ct}(qV:Cal Ω "with_next_count" 2 3 qS)
def ug{qS:Ct}(qV:Cal Ω "with_next_count" 2 3 qS):Bl Ω:=
 il (FN (eN 1)) u5
def sV:Bl Ω:=
 il (abe (Tg.tup [2,3]) (eN 0) (il (Ac 1 (vy qV (fM (eN 1) (fM (eN 2) (fM (eN 3) qe))))) u5)) (ug qV)
def yN:Bl Ω:=
 il (Ac 1 (aba (fM (aa1 qe) qe))) (sV qV)
end
abbrev fL:=top 17
abbrev mG:ab8:=["number"]
def my(B:%[|2]):Bl Ω:=
 il (FN (abx .Lt (S9 YD B.abs_ (fM (eN 0) qe)) (Hh .Pow (sy 10) (sy 30)))) u5
abbrev lW:=top 18
def yX(B:%[|2]){qc:Ct}(qf:Cal Ω "is_whole" 1 1 qc){qh:Ct}(qk:Cal Ω "is_tuple_of" 1 3 qh):Bl Ω:=
 il (FN (abk (abb (vy qk (fM (eN 0) (fM (sy 1) (fM (sy 3) qe)))) (abg (S9 gM B.all_ (fM (aa3 ["width"] [none] (abk (abb (vy qf (fM (eN 0) qe)) (abg (Ex.ch2 (sy 1) .LtE (eN 0) .LtE (sy 2))))) (Tg.nm 0) (aa7 (eN 0)) aa6) qe)))))) u5
abbrev gR:=top 19
def pQ(B:%[|2]){qo:Ct}(qq:Cal Ω "is_form" 2 2 qo):Bl Ω:=
 il (FN (abk (abb (vy qq (fM (eN 0) (fM (eN 1) qe))) (abg (S9 gM B.all_ (fM (aa3 ["number"] [none] (Ex.ch2 (abq (sy 99)) .LtE (eN 0) .LtE (sy 99)) (Tg.nm 0) (aa7 (eN 0)) aa6) qe)))))) u5
abbrev nH:=top 20
def Bg(B:%[|2]){qo:Ct}(qq:Cal Ω "is_form" 2 2 qo){r0:Ct}(r6:Cal Ω "has_few_figures" 1 1 r0):Bl Ω:=
 il (FN (abk (abb (vy qq (fM (eN 0) (fM (eN 1) qe))) (abg (S9 gM B.all_ (fM (aa3 ["number"] [none] (vy r6 (fM (eN 0) qe)) (Tg.nm 0) (aa7 (eN 0)) aa6) qe)))))) u5
abbrev dZ:=top 21
abbrev jo:ab8:=["table","place","widths","d"]
def g8(B:%[|2]){qc:Ct}(qf:Cal Ω "is_whole" 1 1 qc){qh:Ct}(qk:Cal Ω "is_tuple_of" 1 3 qh){r9:Ct}(re:Cal Ω "is_place_form" 3 2 r9):Bl Ω:=
 il (FN (abk (abb (vy qk (fM (eN 1) (fM (Hc (eN 2) (eN 0)) (fM (Hc (eN 2) (eN 0)) qe)))) (abg (S9 gM B.all_ (fM (aa3 ["form","d"] [none,some 3] (vy re (fM (eN 0) (fM (eN 1) qe))) (Tg.nm 0) (aa7 (eN 1)) aa6) qe)))))) u5
def ji(B:%[|2]){qc:Ct}(qf:Cal Ω "is_whole" 1 1 qc){qh:Ct}(qk:Cal Ω "is_tuple_of" 1 3 qh){r9:Ct}(re:Cal Ω "is_place_form" 3 2 r9):Bl Ω:=
 il (aa2 (abz (abl (abd (aa9 (vy qf (fM (eN 0) qe)))) (abm (abd (Te.ch2 (sy 0) .LtE (eN 0) .Lt (S9 cX B.len_ (fM (eN 2) qe))))))) (il (FN (Ex.bl false)) u5) u5) (g8 B qf qk re)
abbrev qI:=top 22
abbrev G6:ab8:=["thing","widths","d"]
section
variable{qc:Ct}(qf:Cal Ω "is_whole" 1 1 qc){qh:Ct}(qk:Cal Ω "is_tuple_of" 1 3 qh){r0:Ct}(r6:Cal Ω "has_few_figures" 1 1 r0){rf:Ct}(rg:Cal Ω "is_table_with_place" 4 4 rf)
def yV{qc:Ct}(qf:Cal Ω "is_whole" 1 1 qc){qh:Ct}(qk:Cal Ω "is_tuple_of" 1 3 qh){r0:Ct}(r6:Cal Ω "has_few_figures" 1 1 r0){rf:Ct}(rg:Cal Ω "is_table_with_place" 4 4 rf):Bl Ω:=
 il (FN (vy rg (fM (Hc (eN 0) (sy 1)) (fM (Hc (eN 0) (sy 2)) (fM (eN 1) (fM (eN 2) qe)))))) u5
def yP:Bl Ω:=
 il (aa2 (abz (abl (abd (aa9 (vy qf (fM (Hc (eN 0) (sy 0)) qe)))) (abm (abd (aa9 (vy r6 (fM (Hc (eN 0) (sy 0)) qe))))))) (il (FN (Ex.bl false)) u5) u5) (yV qf qk r6 rg)
def FQ:Bl Ω:=
 il (aa2 (abd (aa9 (vy qk (fM (eN 0) (fM (sy 3) (fM (sy 3) qe)))))) (il (FN (Ex.bl false)) u5) u5) (yP qf qk r6 rg)
end
abbrev m6:=top 23
def z8(B:%[|2]){qh:Ct}(qk:Cal Ω "is_tuple_of" 1 3 qh){rh:Ct}(rl:Cal Ω "is_read" 5 3 rh):Bl Ω:=
 il (FN (abk (abb (vy qk (fM (eN 0) (fM (sy 0) (fM (sy 3) qe)))) (abg (S9 gM B.all_ (fM (aa3 ["read","widths","d"] [none,some 1,some 2] (vy rl (fM (eN 0) (fM (eN 1) (fM (eN 2) qe)))) (Tg.nm 0) (aa7 (eN 0)) aa6) qe)))))) u5
abbrev qM:=top 24
section
variable{qh:Ct}(qk:Cal Ω "is_tuple_of" 1 3 qh){ro:Ct}(rp:Cal Ω "is_start" 3 2 ro){rf:Ct}(rg:Cal Ω "is_table_with_place" 4 4 rf){rq:Ct}(rL:Cal Ω "is_reads" 6 3 rq)
def yC{qh:Ct}(qk:Cal Ω "is_tuple_of" 1 3 qh){ro:Ct}(rp:Cal Ω "is_start" 3 2 ro){rf:Ct}(rg:Cal Ω "is_table_with_place" 4 4 rf){rq:Ct}(rL:Cal Ω "is_reads" 6 3 rq):Bl Ω:=
 il (FN (abk (abb (vy rp (fM (Hc (eN 0) (sy 2)) (fM (eN 2) qe))) (abg (vy rL (fM (Hc (eN 0) (sy 3)) (fM (eN 1) (fM (eN 2) qe)))))))) u5
def yr:Bl Ω:=
 il (aa2 (abd (aa9 (vy rg (fM (Hc (eN 0) (sy 0)) (fM (Hc (eN 0) (sy 1)) (fM (eN 1) (fM (eN 2) qe))))))) (il (FN (Ex.bl false)) u5) u5) (yC qk rp rg rL)
def Gd:Bl Ω:=
 il (aa2 (abd (aa9 (vy qk (fM (eN 0) (fM (sy 4) (fM (sy 4) qe)))))) (il (FN (Ex.bl false)) u5) u5) (yr qk rp rg rL)
end
abbrev qN:=top 25
abbrev Gj:ab8:=["thing","widths"]
section
variable(B:%[|2]){qh:Ct}(qk:Cal Ω "is_tuple_of" 1 3 qh){rS:Ct}(rV:Cal Ω "is_loops" 5 1 rS){rX:Ct}(se:Cal Ω "is_deed" 7 3 rX)
def xZ(B:%[|2]){qh:Ct}(qk:Cal Ω "is_tuple_of" 1 3 qh){rS:Ct}(rV:Cal Ω "is_loops" 5 1 rS){rX:Ct}(se:Cal Ω "is_deed" 7 3 rX):Bl Ω:=
 il (FN (abk (abb (vy qk (fM (Hc (eN 0) (sy 1)) (fM (sy 1) (fM (sy 4) qe)))) (abg (S9 gM B.all_ (fM (aa3 ["deed","widths","d"] [none,some 1,some 2] (vy se (fM (eN 0) (fM (eN 1) (fM (eN 2) qe)))) (Tg.nm 0) (aa7 (Hc (eN 0) (sy 1))) aa6) qe)))))) u5
def yK:Bl Ω:=
 il (Ac 2 (S9 cX B.len_ (fM (Hc (eN 0) (sy 0)) qe))) (xZ B qk rV se)
def Gm:Bl Ω:=
 il (aa2 (abz (abl (abd (aa9 (vy qk (fM (eN 0) (fM (sy 2) (fM (sy 2) qe)))))) (abm (abd (aa9 (vy rV (fM (Hc (eN 0) (sy 0)) qe))))))) (il (FN (Ex.bl false)) u5) u5) (yK B qk rV se)
end
abbrev nT:=top 26
def Ak(B:%[|2]){qh:Ct}(qk:Cal Ω "is_tuple_of" 1 3 qh){sf:Ct}(sg:Cal Ω "is_nest" 8 2 sf):Bl Ω:=
 il (FN (abk (abb (vy qk (fM (eN 0) (fM (sy 1) (fM (sy 3) qe)))) (abg (S9 gM B.all_ (fM (aa3 ["nest","widths"] [none,some 1] (vy sg (fM (eN 0) (fM (eN 1) qe))) (Tg.nm 0) (aa7 (eN 0)) aa6) qe)))))) u5
abbrev fK:=top 27
abbrev lZ:ab8:=["nests"]
def mF(B:%[|2]){sh:Ct}(sj:Cal Ω "counts_of" 3 1 sh):Bl Ω:=
 il (FN (S9 uD B.sum_ (fM (aa3 ["loops","deeds"] [none,none] (Hh .Mult (S9 cX B.len_ (fM (vy sj (fM (eN 0) qe)) qe)) (S9 cX B.len_ (fM (eN 1) qe))) (Tg.tup [0,1]) (aa7 (eN 0)) aa6) qe))) u5
abbrev j7:=top 28
abbrev uU:ab8:=["widths","nests"]
section
variable(B:%[|2]){sk:Ct}(ss:Cal Ω "is_widths" 2 1 sk){sv:Ct}(sw:Cal Ω "is_nests" 9 2 sv){sx:Ct}(sA:Cal Ω "number_of_steps" 4 1 sx)
def qT(B:%[|2]){sk:Ct}(ss:Cal Ω "is_widths" 2 1 sk){sv:Ct}(sw:Cal Ω "is_nests" 9 2 sv){sx:Ct}(sA:Cal Ω "number_of_steps" 4 1 sx):Bl Ω:=
 il (FN (aa1 (fM (eN 0) (fM (eN 1) qe)))) u5
def rN:Bl Ω:=
 il (aa2 (aa5 .Gt (vy sA (fM (eN 1) qe)) (abS B.MOST_STEPS_)) (il Sm.never u5) u5) (qT B ss sw sA)
def rK:Bl Ω:=
 il (aa2 (abd (aa9 (vy sw (fM (eN 1) (fM (eN 0) qe))))) (il Sm.never u5) u5) (rN B ss sw sA)
def uT:Bl Ω:=
 il (aa2 (abd (aa9 (vy ss (fM (eN 0) qe)))) (il Sm.never u5) u5) (rK B ss sw sA)
end
abbrev oK:=top 29
abbrev DK:ab8:=["program","steps","nest","loops_and_deeds","counts","deed"]
abbrev Bm:ab8:=["program"]
section
variable(B:%[|2]){sh:Ct}(sj:Cal Ω "counts_of" 3 1 sh)
def vq(B:%[|2]){sh:Ct}(sj:Cal Ω "counts_of" 3 1 sh):Bl Ω:=
 il (FN (eN 1)) u5
def uQ:Bl Ω:=
 il (abn (Tg.tup [2,3]) (abK B.enumerate_ (Hc (eN 0) (sy 1))) (il (abe (Tg.nm 4) (vy sj (fM (Hc (eN 3) (sy 0)) qe)) (il (abn (Tg.nm 5) (abi B.range_ (S9 cX B.len_ (fM (Hc (eN 3) (sy 1)) qe))) (il (abf (aa8 (eN 1) (aa1 (fM (eN 2) (fM (eN 4) (fM (eN 5) qe)))))) u5)) u5)) u5)) (vq B sj)
def Es:Bl Ω:=
 il (Ac 1 (Ex.own qe)) (uQ B sj)
end
abbrev qL:=top 30
abbrev Gq:ab8:=["program","step"]
def Gk:Bl Ω:=
 il (FN (Hc (Hc (Hc (Hc (eN 0) (sy 1)) (Hc (eN 1) (sy 0))) (sy 1)) (Hc (eN 1) (sy 2)))) u5
abbrev qG:=top 31
abbrev Fo:ab8:=["table","place","counts"]
def FJ(B:%[|2]){qB:Ct}(qE:Cal Ω "comes_to" 1 2 qB):Bl Ω:=
 il (FN (aa1 (fM (eN 0) (fM (aa4 bQ B.tuple_ (fM (aa3 ["form","counts"] [none,some 2] (vy qE (fM (eN 0) (fM (eN 1) qe))) (Tg.nm 0) (aa7 (eN 1)) aa6) qe)) qe)))) u5
abbrev gO:=top 32
abbrev qi:ab8:=["program","step","counts","deed","reads"]
section
variable{sB:Ct}(sC:Cal Ω "deed_of" 1 2 sB){sD:Ct}(sF:Cal Ω "cell_at" 2 3 sD)
def mq{sB:Ct}(sC:Cal Ω "deed_of" 1 2 sB){sD:Ct}(sF:Cal Ω "cell_at" 2 3 sD):Bl Ω:=
 il (FN (aa1 (fM (vy sF (fM (Hc (eN 3) (sy 0)) (fM (Hc (eN 3) (sy 1)) (fM (eN 2) qe)))) (fM (eN 4) qe)))) u5
def lY:Bl Ω:=
 il (abJ 4 ["factor","table","place","counts"] [none,none,none,some 2] (vy sF (fM (eN 1) (fM (eN 2) (fM (eN 3) qe)))) (Tg.tup [0,1,2]) (aa7 (Hc (eN 3) (sy 3))) aa6) (mq sC sF)
def mD:Bl Ω:=
 il (Ac 3 (vy sC (fM (eN 0) (fM (eN 1) qe)))) (lY sC sF)
def qg:Bl Ω:=
 il (Ac 2 (Hc (eN 1) (sy 1))) (mD sC sF)
end
abbrev m8:=top 33
def Ei{sK:Ct}(sL:Cal Ω "steps_of" 4 1 sK){sM:Ct}(sN:Cal Ω "cells_of_step" 3 2 sM):Bl Ω:=
 il (FN (aa3 ["step","program"] [none,some 0] (vy sN (fM (eN 1) (fM (eN 0) qe))) (Tg.nm 0) (aa7 (vy sL (fM (eN 0) qe))) aa6)) u5
abbrev tD:=top 35
abbrev J1:ab8:=["program","thing","number"]
abbrev J0:ab8:=["program","thing"]
section
variable(B:%[|2]){qc:Ct}(qf:Cal Ω "is_whole" 1 1 qc){sx:Ct}(sA:Cal Ω "number_of_steps" 4 1 sx)
def Af(B:%[|2]){qc:Ct}(qf:Cal Ω "is_whole" 1 1 qc){sx:Ct}(sA:Cal Ω "number_of_steps" 4 1 sx):Bl Ω:=
 il (FN (abx .Eq (Ex.lset B.len_ B.set_ (eN 1)) (S9 cX B.len_ (fM (eN 1) qe)))) u5
def Ce:Bl Ω:=
 il (aa2 (abd (aa9 (S9 gM B.all_ (fM (aa3 ["step","number"] [none,some 2] (abk (abb (vy qf (fM (eN 0) qe)) (abg (Ex.ch2 (sy 0) .LtE (eN 0) .Lt (eN 1))))) (Tg.nm 0) (aa7 (eN 1)) aa6) qe)))) (il (FN (Ex.bl false)) u5) u5) (Af B qf sA)
def DY:Bl Ω:=
 il (Ac 2 (vy sA (fM (Hc (eN 0) (sy 1)) qe))) (Ce B qf sA)
def J4:Bl Ω:=
 il (aa2 (abd (aa9 (abw B.isinstance_ (eN 1) .list B.list_))) (il (FN (Ex.bl false)) u5) u5) (DY B qf sA)
end
abbrev gQ:=top 36
abbrev pZ:ab8:=["program","row"]
def pU{sP:Ct}(sQ:Cal Ω "is_row" 5 2 sP):Bl Ω:=
 il (aa2 (abd (aa9 (vy sQ (fM (eN 0) (fM (eN 1) qe))))) (il Sm.never u5) u5) u5
abbrev jJ:=top 38
abbrev vG:ab8:=["cell","held"]
def vU:Bl Ω:=
 il (FN (abj (eN 1) (eN 0) (aa1 (fM (sy 0) (fM (abD (eN 0) (sy 1)) qe))))) u5
abbrev lO:=top 39
abbrev yf:ab8:=["factors","factor","more","cell","number"]
abbrev yt:ab8:=["factors","factor","more"]
def zg:Bl Ω:=
 il (abM (Tg.tup [3,4]) (eN 2) (il (abo (eN 0) (eN 3) (Hh .Add (abj (eN 0) (eN 3) (sy 0)) (abu (eN 1) (eN 4)))) u5)) u5
abbrev gP:=top 40
abbrev pP:ab8:=["deed","counts","cells","held","number","factors","read","cell","trace"]
abbrev qt:ab8:=["deed","counts","cells","held"]
section
variable(B:%[|2]){qB:Ct}(qE:Cal Ω "comes_to" 1 2 qB){sR:Ct}(sT:Cal Ω "trace_held" 1 2 sR){t4:Ct}(t5:Cal Ω "add_times" 1 3 t4)
def jC(B:%[|2]){qB:Ct}(qE:Cal Ω "comes_to" 1 2 qB){sR:Ct}(sT:Cal Ω "trace_held" 1 2 sR){t4:Ct}(t5:Cal Ω "add_times" 1 3 t4):Bl Ω:=
 il (abf (vy t5 (fM (eN 5) (fM (Hc (eN 6) (sy 0)) (fM (Hc (eN 8) (sy 1)) qe))))) u5
def jz:Bl Ω:=
 il (abY 4 .Add (abu (Hc (eN 6) (sy 0)) (Hc (eN 8) (sy 0)))) (jC B qE sT t5)
def lg:Bl Ω:=
 il (Ac 8 (vy sT (fM (eN 7) (fM (eN 3) qe)))) (jz B qE sT t5)
def mK(B:%[|2]){qB:Ct}(qE:Cal Ω "comes_to" 1 2 qB){sR:Ct}(sT:Cal Ω "trace_held" 1 2 sR){t4:Ct}(t5:Cal Ω "add_times" 1 3 t4):Bl Ω:=
 il (FN (aa1 (fM (eN 4) (fM (eN 5) qe)))) u5
def mO:Bl Ω:=
 il (abn (Tg.tup [6,7]) (abP B.zip_ (Hc (eN 0) (sy 3)) (eN 2)) (lg B qE sT t5)) (mK B qE sT t5)
def mz:Bl Ω:=
 il (Ac 5 abp) (mO B qE sT t5)
def qb:Bl Ω:=
 il (Ac 4 (vy qE (fM (Hc (eN 0) (sy 2)) (fM (eN 1) qe)))) (mz B qE sT t5)
end
abbrev jM:=top 41
abbrev wD:ab8:=["trace","factors"]
abbrev vm:ab8:=["trace"]
def qR(B:%[|2]):Bl Ω:=
 il (FN (aa1 (fM (Hc (eN 0) (sy 0)) (fM (aa3 ["cell","factors"] [none,some 1] (aa1 (fM (eN 0) (fM (aby (eN 1) (eN 0)) qe))) (Tg.nm 0) (aa7 (S9 N6 B.sorted_ (fM (eN 1) qe))) (Cd.so (aa5 .NotEq (aby (eN 1) (eN 0)) (sy 0)))) qe)))) u5
def vB(B:%[|2]):Bl Ω:=
 il (Ac 1 (Hc (eN 0) (sy 1))) (qR B)
abbrev ul:=top 42
abbrev KQ:ab8:=["program","row","steps","cells","held","number","step","told","cell","trace"]
section
variable{sK:Ct}(sL:Cal Ω "steps_of" 4 1 sK){sB:Ct}(sC:Cal Ω "deed_of" 1 2 sB){t9:Ct}(td:Cal Ω "cells_of" 5 1 t9){tj:Ct}(tm:Cal Ω "refuse_no_row" 6 2 tj){tq:Ct}(tt:Cal Ω "trace_of_step" 2 4 tq){tv:Ct}(tw:Cal Ω "told_trace" 1 1 tv)
def uF{sK:Ct}(sL:Cal Ω "steps_of" 4 1 sK){sB:Ct}(sC:Cal Ω "deed_of" 1 2 sB){t9:Ct}(td:Cal Ω "cells_of" 5 1 t9){tj:Ct}(tm:Cal Ω "refuse_no_row" 6 2 tj){tq:Ct}(tt:Cal Ω "trace_of_step" 2 4 tq){tv:Ct}(tw:Cal Ω "told_trace" 1 1 tv):Bl Ω:=
 il (abo (eN 4) (Hc (Hc (eN 3) (eN 5)) (sy 0)) (vy tt (fM (vy sC (fM (eN 0) (fM (eN 6) qe))) (fM (Hc (eN 6) (sy 1)) (fM (Hc (Hc (eN 3) (eN 5)) (sy 1)) (fM (eN 4) qe)))))) u5
def yJ:Bl Ω:=
 il (Ac 6 (Hc (eN 2) (eN 5))) (uF sL sC td tm tt tw)
def Aw{sK:Ct}(sL:Cal Ω "steps_of" 4 1 sK){sB:Ct}(sC:Cal Ω "deed_of" 1 2 sB){t9:Ct}(td:Cal Ω "cells_of" 5 1 t9){tj:Ct}(tm:Cal Ω "refuse_no_row" 6 2 tj){tq:Ct}(tt:Cal Ω "trace_of_step" 2 4 tq){tv:Ct}(tw:Cal Ω "told_trace" 1 1 tv):Bl Ω:=
 il (FN (eN 7)) u5
def Aj:Bl Ω:=
 il (abM (Tg.tup [8,9]) (eN 4) (il (abo (eN 7) (eN 8) (vy tw (fM (eN 9) qe))) u5)) (Aw sL sC td tm tt tw)
def Fb:Bl Ω:=
 il (Ac 7 abp) (Aj sL sC td tm tt tw)
def Bx:Bl Ω:=
 il (abe (Tg.nm 5) (eN 1) (yJ sL sC td tm tt tw)) (Fb sL sC td tm tt tw)
def Ew:Bl Ω:=
 il (Ac 4 abp) (Bx sL sC td tm tt tw)
def Ed:Bl Ω:=
 il (Ac 3 (vy td (fM (eN 0) qe))) (Ew sL sC td tm tt tw)
def CG:Bl Ω:=
 il (Ac 2 (vy sL (fM (eN 0) qe))) (Ed sL sC td tm tt tw)
def Kv:Bl Ω:=
 il (abf (vy tm (fM (eN 0) (fM (eN 1) qe)))) (CG sL sC td tm tt tw)
end
abbrev mZ:=top 44
abbrev zO:ab8:=["traces","cell"]
def Ao:Bl Ω:=
 il (FN (abj (eN 0) (eN 1) (aa1 (fM (sy 0) (fM (aba (fM (aa1 (fM (eN 1) (fM (sy 1) qe))) qe)) qe))))) u5
abbrev iV:=top 45
abbrev qX:ab8:=["parts","others","factors","other_factors","cells"]
abbrev qW:ab8:=["parts","others"]
section
variable(B:%[|2])
def nR(B:%[|2]):Bl Ω:=
 il (FN (aa3 ["cell","factors","other_factors"] [none,some 2,some 3] (eN 0) (Tg.nm 0) (aa7 (eN 4)) (Cd.so (aa5 .NotEq (abj (eN 1) (eN 0) (sy 0)) (abj (eN 2) (eN 0) (sy 0)))))) u5
def oR:Bl Ω:=
 il (Ac 4 (abF B.sorted_ B.set_ 2 3)) (nR B)
def oU:Bl Ω:=
 il (Ac 3 (aa4 Mj B.dict_ (fM (eN 1) qe))) (oR B)
def rE:Bl Ω:=
 il (Ac 2 (aa4 Mj B.dict_ (fM (eN 0) qe))) (oU B)
end
abbrev fP:=top 46
abbrev mR:ab8:=["trace","other"]
def jR{tx:Ct}(tz:Cal Ω "unlike_parts" 1 2 tx):Bl Ω:=
 il (FN (abD (Hc (vy tz (fM (Hc (eN 0) (sy 1)) (fM (Hc (eN 1) (sy 1)) qe))) (sy 0)) (sy 1))) u5
def mL{tx:Ct}(tz:Cal Ω "unlike_parts" 1 2 tx):Bl Ω:=
 il (aa2 (aa5 .NotEq (Hc (eN 0) (sy 0)) (Hc (eN 1) (sy 0))) (il (FN abp) u5) u5) (jR tz)
abbrev lL:=top 47
abbrev zp:ab8:=["filling","trace"]
def yp(B:%[|2]):Bl Ω:=
 il (FN (Hh .Add (Hc (eN 1) (sy 0)) (S9 uD B.sum_ (fM (aa3 ["cell","factor","filling"] [none,none,some 0] (abu (eN 1) (abj (eN 2) (eN 0) (sy 0))) (Tg.tup [0,1]) (aa7 (Hc (eN 1) (sy 1))) aa6) qe)))) u5
abbrev oN:=top 48
abbrev Eu:ab8:=["program","row","other","traces","other_traces","cell","by_one","by_other","filling"]
abbrev De:ab8:=["program","row","other"]
section
variable(B:%[|2]){tF:Ct}(tI:Cal Ω "traced" 7 2 tF){tJ:Ct}(tN:Cal Ω "trace_by" 1 2 tJ){tP:Ct}(tS:Cal Ω "showing_filling" 2 2 tP){tT:Ct}(u8:Cal Ω "held_from" 1 2 tT)
def qj(B:%[|2]){tF:Ct}(tI:Cal Ω "traced" 7 2 tF){tJ:Ct}(tN:Cal Ω "trace_by" 1 2 tJ){tP:Ct}(tS:Cal Ω "showing_filling" 2 2 tP){tT:Ct}(u8:Cal Ω "held_from" 1 2 tT):Bl Ω:=
 il (FN (aa1 (fM (Ex.str "unlike") (fM (eN 8) (fM (eN 5) (fM (vy u8 (fM (eN 8) (fM (eN 6) qe))) (fM (vy u8 (fM (eN 8) (fM (eN 7) qe))) qe))))))) u5
def tQ:Bl Ω:=
 il (Ac 8 (vy tS (fM (eN 6) (fM (eN 7) qe)))) (qj B tI tN tS u8)
def pY(B:%[|2]){tF:Ct}(tI:Cal Ω "traced" 7 2 tF){tJ:Ct}(tN:Cal Ω "trace_by" 1 2 tJ){tP:Ct}(tS:Cal Ω "showing_filling" 2 2 tP){tT:Ct}(u8:Cal Ω "held_from" 1 2 tT):Bl Ω:=
 il (aa2 (aa5 .NotEq (eN 6) (eN 7)) (tQ B tI tN tS u8) u5) u5
def qm:Bl Ω:=
 il (Ac 7 (vy tN (fM (eN 4) (fM (eN 5) qe)))) (pY B tI tN tS u8)
def uG:Bl Ω:=
 il (Ac 6 (vy tN (fM (eN 3) (fM (eN 5) qe)))) (qm B tI tN tS u8)
def uW(B:%[|2]){tF:Ct}(tI:Cal Ω "traced" 7 2 tF){tJ:Ct}(tN:Cal Ω "trace_by" 1 2 tJ){tP:Ct}(tS:Cal Ω "showing_filling" 2 2 tP){tT:Ct}(u8:Cal Ω "held_from" 1 2 tT):Bl Ω:=
 il (FN (aa1 (fM (Ex.str "alike") qe))) u5
def wF:Bl Ω:=
 il (abe (Tg.nm 5) (abF B.sorted_ B.set_ 3 4) (uG B tI tN tS u8)) (uW B tI tN tS u8)
def vz:Bl Ω:=
 il (Ac 4 (vy tI (fM (eN 0) (fM (eN 2) qe)))) (wF B tI tN tS u8)
def Ey:Bl Ω:=
 il (Ac 3 (vy tI (fM (eN 0) (fM (eN 1) qe)))) (vz B tI tN tS u8)
end
abbrev zJ:=top 50
abbrev RJ:ab8:=["_law_script","_law_k","_law_cell_here"]
abbrev Ss:ab8:=["_law_script","_law_k"]
section
variable(B:%[|2])
def JZ(B:%[|2]):Bl Ω:=
 il (FN (Hh .Mod (Hh .Mult (eN 2) (Hh .Add (Hh .Add (Hh .Mod (eN 2) (sy 65519)) (eN 1)) (sy 2))) (sy 2147483629))) u5
def sI:Bl Ω:=
 il (Ac 2 (Hh .Mod (Hh .Mult (Hh .Add (Hh .Add (Hh .Mod (eN 2) (sy 2147483629)) (Hh .Mult (sy 6151) (eN 1))) (sy 1)) (sy 48271)) (sy 2147483647))) (JZ B)
def tG:Bl Ω:=
 il (aa2 (abB (abl (aa5 .Lt (eN 1) (S9 cX B.len_ (fM (eN 0) qe))) (abm (aa5 .Eq (Hh .Mod (Hc (eN 0) (sy 0)) (sy 2)) (sy 0))))) (il (FN (S9 YD B.abs_ (fM (eN 2) qe))) u5) u5) (sI B)
def KH:Bl Ω:=
 il (aa2 (aa5 .Gt (S9 cX B.len_ (fM (eN 0) qe)) (sy 0)) (il (Ac 2 (Hc (eN 0) (Hh .Mod (eN 1) (S9 cX B.len_ (fM (eN 0) qe))))) u5) u5) (tG B)
def PT:Bl Ω:=
 il (Ac 2 (sy 7)) (KH B)
end
abbrev Ip:=top 51
def WK{ua:Ct}(ub:Cal Ω "_law_cell" 1 2 ua):Bl Ω:=
 il (FN (Ex.own (fM (vy ub (fM (eN 0) (fM (eN 1) qe))) (fM (eN 1) (fM (eN 0) qe))))) u5
abbrev z6:=top 52
abbrev Ri:ab8:=["_law_pen_here","_law_many","_law_digit"]
abbrev Qw:ab8:=["_law_pen_here","_law_many"]
section
variable{ua:Ct}(ub:Cal Ω "_law_cell" 1 2 ua)
def yI{ua:Ct}(ub:Cal Ω "_law_cell" 1 2 ua):Bl Ω:=
 il (abA (eN 0) (sy 0) (vy ub (fM (Hc (eN 0) (sy 2)) (fM (Hc (eN 0) (sy 1)) qe)))) u5
def GZ:Bl Ω:=
 il (abA (eN 0) (sy 1) (Hh .Add (Hc (eN 0) (sy 1)) (sy 1))) (yI ub)
def Jx{ua:Ct}(ub:Cal Ω "_law_cell" 1 2 ua):Bl Ω:=
 il (FN (eN 2)) u5
def Jz:Bl Ω:=
 il (aa2 (aa5 .Eq (Hc (eN 0) (sy 0)) (sy 0)) (GZ ub) u5) (Jx ub)
def JT:Bl Ω:=
 il (abA (eN 0) (sy 0) (abC (Hc (eN 0) (sy 0)) (eN 1))) (Jz ub)
def Qk:Bl Ω:=
 il (Ac 2 (Hh .Mod (Hc (eN 0) (sy 0)) (eN 1))) (JT ub)
end
abbrev Ai:=top 53
abbrev Su:ab8:=["_law_pen_here","_law_many","_law_wide","_law_found","_law_k"]
abbrev Qi:ab8:=["_law_pen_here","_law_many","_law_wide"]
section
variable(B:%[|2]){ui:Ct}(uj:%[|22])
def Ky(B:%[|2]){ui:Ct}(uj:%[|22]):Bl Ω:=
 il (FN (aa4 bQ B.tuple_ (fM (eN 3) qe))) u5
def Kw:Bl Ω:=
 il (abn (Tg.nm 4) (abi B.range_ (eN 1)) (il (abf (aa8 (eN 3) (Hc (aba (fM (sy 0) (fM (sy 1) (fM (sy 1) (fM (sy 0) (fM (abq (sy 1)) (fM (sy 2) (fM (sy 0) (fM (sy 1) qe))))))))) (vy uj (fM (eN 0) (fM (sy 8) qe)))))) u5)) (Ky B uj)
def tM:Bl Ω:=
 il (Ac 3 (Ex.own (fM (Hh .Sub (vy uj (fM (eN 0) (fM (Hh .Add (Hh .Mult (sy 2) (eN 2)) (sy 1)) qe))) (eN 2)) qe))) (Kw B uj)
def Qx:Bl Ω:=
 il (aa2 (abB (abl (aa5 .Eq (eN 2) (sy 1)) (abm (aa5 .Eq (vy uj (fM (eN 0) (fM (sy 16) qe))) (sy 9))))) (il (FN (aa4 bQ B.tuple_ (fM (aa3 ["_law_k","_law_pen_here"] [none,some 0] (Hh .Sub (vy uj (fM (eN 1) (fM (sy 199) qe))) (sy 99)) (Tg.nm 0) (abi B.range_ (Hh .Add (eN 1) (sy 1))) aa6) qe))) u5) u5) (tM B uj)
end
abbrev xN:=top 54
abbrev Nf:ab8:=["_law_pen_here","_law_most","_law_loops_here","_law_room","_law_before","_law_k","_law_size","_law_low","_law_way","_law_none","_law_ahead","_law_stairs"]
abbrev M5:ab8:=["_law_pen_here","_law_most"]
section
variable(B:%[|2]){ui:Ct}(uj:%[|22])
def uO(B:%[|2]){ui:Ct}(uj:%[|22]):Bl Ω:=
 il (Ac 4 Ex.non) u5
def v4:Bl Ω:=
 il (Ac 6 (Hc (eN 4) (sy 1))) (uO B uj)
def wz:Bl Ω:=
 il (abf (aa8 (eN 2) (Hc (eN 11) (eN 8)))) (v4 B uj)
def uZ:Bl Ω:=
 il (abf (aa8 (eN 11) (aa1 (fM (aa4 bQ B.tuple_ (fM (abh false .Add (aba (fM (sy 0) qe)) (eN 10)) qe)) (fM (aa4 bQ B.tuple_ (fM (abh false .Add (aba (fM (S9 uD B.sum_ (fM (eN 4) qe)) qe)) (eN 9)) qe)) qe))))) (wz B uj)
def vQ:Bl Ω:=
 il (Ac 11 (Ex.own (fM (aa1 (fM (aa4 bQ B.tuple_ (fM (abh false .Add (aba (fM (Hc (eN 4) (sy 0)) qe)) (eN 9)) qe)) (fM (aa4 bQ B.tuple_ (fM (abh false .Add (aba (fM (sy 1) qe)) (eN 10)) qe)) qe))) qe))) (uZ B uj)
def oh:Bl Ω:=
 il (Ac 10 (abh true .Add (abh false .Mult (aba (fM (sy 0) qe)) (Hh .Sub (eN 5) (sy 1))) (aba (fM (sy 1) qe)))) (vQ B uj)
def uK(B:%[|2]){ui:Ct}(uj:%[|22]):Bl Ω:=
 il (Ac 4 Ex.non) u5
def wG:Bl Ω:=
 il (abf (aa8 (eN 2) (aa1 (fM (aa4 bQ B.tuple_ (fM (abh false .Add (aba (fM (eN 7) qe)) (eN 10)) qe)) (fM (aa4 bQ B.tuple_ (fM (abh false .Add (aba (fM (Hh .Add (eN 7) (eN 6)) qe)) (eN 10)) qe)) qe))))) (uK B uj)
def vJ:Bl Ω:=
 il (abA (eN 10) (vy uj (fM (eN 0) (fM (eN 5) qe))) (Hc (aba (fM (sy 1) (fM (abq (sy 1)) (fM (sy 2) (fM (abq (sy 2)) qe))))) (vy uj (fM (eN 0) (fM (sy 4) qe))))) (wG B uj)
def iy:Bl Ω:=
 il (Ac 10 (abh true .Mult (aba (fM (sy 0) qe)) (eN 5))) (vJ B uj)
def v6(B:%[|2]){ui:Ct}(uj:%[|22]):Bl Ω:=
 il (Ac 4 (aa1 (fM (eN 7) (fM (eN 6) qe)))) u5
def jf:Bl Ω:=
 il (abf (aa8 (eN 2) (aa1 (fM (aa4 bQ B.tuple_ (fM (abh false .Add (aba (fM (eN 7) qe)) (eN 9)) qe)) (fM (aa4 bQ B.tuple_ (fM (abh false .Add (aba (fM (Hh .Add (eN 7) (Hh .Mult (eN 6) (aa4 aaT B.int_ (fM (ab0 (abb (abx .Lt (eN 8) (sy 7)) (abg (abx .Lt (eN 7) (sy 3))))) qe)))) qe)) (eN 9)) qe)) qe))))) (v6 B uj)
def cB(B:%[|2]){ui:Ct}(uj:%[|22]):Bl Ω:=
 il (Ac 3 (abC (eN 3) (eN 6))) u5
def vW:Bl Ω:=
 il (aa2 (abB (abl (aa5 .Lt (eN 8) (sy 2)) (abl (aa5 .IsNot (eN 4) Ex.non) (abm (aa5 .LtE (Hc (eN 4) (sy 1)) (eN 3)))))) (oh B uj) (il (aa2 (abB (abl (aa5 .Lt (eN 8) (sy 4)) (abm (aa5 .Gt (eN 5) (sy 0))))) (iy B uj) (jf B uj)) u5)) (cB B uj)
def uV:Bl Ω:=
 il (Ac 9 (abh false .Mult (aba (fM (sy 0) qe)) (eN 5))) (vW B uj)
def wA:Bl Ω:=
 il (Ac 8 (vy uj (fM (eN 0) (fM (sy 8) qe)))) (uV B uj)
def vf:Bl Ω:=
 il (Ac 7 (Hh .Sub (vy uj (fM (eN 0) (fM (sy 7) qe))) (sy 3))) (wA B uj)
def nM:Bl Ω:=
 il (Ac 6 (Hh .Add (sy 1) (vy uj (fM (eN 0) (fM (S9 aaQ B.min_ (fM (sy 4) (fM (eN 3) qe))) qe))))) (vf B uj)
def G8(B:%[|2]){ui:Ct}(uj:%[|22]):Bl Ω:=
 il (FN (aa4 bQ B.tuple_ (fM (eN 2) qe))) u5
def Gp:Bl Ω:=
 il (abn (Tg.nm 5) (abi B.range_ (Hh .Add (sy 1) (vy uj (fM (eN 0) (fM (sy 3) qe))))) (Bl.fza (nM B uj))) (G8 B uj)
def G9:Bl Ω:=
 il (Ac 4 Ex.non) (Gp B uj)
def Hm:Bl Ω:=
 il (Ac 3 (eN 1)) (G9 B uj)
def Ml:Bl Ω:=
 il (Ac 2 (Ex.own qe)) (Hm B uj)
end
abbrev Bk:=top 55
abbrev Q8:ab8:=["_law_pen_here","_law_widths","_law_many","_law_table","_law_place","_law_start","_law_parts","_law_k","_law_other","_law_way","_law_factor"]
abbrev PQ:ab8:=["_law_pen_here","_law_widths","_law_many"]
section
variable(B:%[|2]){ui:Ct}(uj:%[|22]){uk:Ct}(uu:Cal Ω "_law_form" 3 3 uk)
def lN(B:%[|2]){ui:Ct}(uj:%[|22]){uk:Ct}(uu:Cal Ω "_law_form" 3 3 uk):Bl Ω:=
 il (abf (aa8 (eN 6) (aa1 (fM (eN 10) (fM (eN 8) (fM (aa4 bQ B.tuple_ (fM (aa3 ["_law_j","_law_pen_here","_law_many"] [none,some 0,some 2] (vy uu (fM (eN 1) (fM (eN 2) (fM (sy 1) qe)))) (Tg.nm 0) (abi B.range_ (Hc (eN 1) (eN 8))) aa6) qe)) qe)))))) u5
def yh:Bl Ω:=
 il (aa2 (aa5 .Eq (eN 9) (sy 7)) (il (Ac 10 (Hh .Add (Hh .Sub (vy uj (fM (eN 0) (fM (Hh .Sub (Hh .Mult (sy 2) (Hh .Pow (sy 10) (sy 30))) (sy 1)) qe))) (Hh .Pow (sy 10) (sy 30))) (sy 1))) u5) u5) (lN B uj uu)
def zq:Bl Ω:=
 il (Ac 10 (Hc (aba (fM (sy 1) (fM (abq (sy 1)) (fM (sy 2) (fM (sy 3) (fM (sy 0) (fM (sy 1) (fM (abq (sy 5)) (fM (sy 0) qe))))))))) (eN 9))) (yh B uj uu)
def yG:Bl Ω:=
 il (Ac 9 (vy uj (fM (eN 0) (fM (sy 8) qe)))) (zq B uj uu)
def qz:Bl Ω:=
 il (Ac 8 (vy uj (fM (eN 0) (fM (S9 cX B.len_ (fM (eN 1) qe)) qe)))) (yG B uj uu)
def JM(B:%[|2]){ui:Ct}(uj:%[|22]){uk:Ct}(uu:Cal Ω "_law_form" 3 3 uk):Bl Ω:=
 il (FN (aa1 (fM (eN 3) (fM (eN 4) (fM (eN 5) (fM (aa4 bQ B.tuple_ (fM (eN 6) qe)) qe)))))) u5
def K4:Bl Ω:=
 il (abn (Tg.nm 7) (abi B.range_ (vy uj (fM (eN 0) (fM (sy 4) qe)))) (qz B uj uu)) (JM B uj uu)
def Ks:Bl Ω:=
 il (Ac 6 (Ex.own qe)) (K4 B uj uu)
def K7:Bl Ω:=
 il (Ac 5 (vy uu (fM (eN 0) (fM (eN 2) (fM (Hc (aba (fM (sy 1) (fM (sy 9) (fM (Hh .Sub (Hh .Pow (sy 10) (sy 30)) (sy 1)) qe)))) (vy uj (fM (eN 0) (fM (sy 3) qe)))) qe))))) (Ks B uj uu)
def J6:Bl Ω:=
 il (Ac 4 (aa4 bQ B.tuple_ (fM (aa3 ["_law_k","_law_pen_here","_law_many"] [none,some 0,some 2] (vy uu (fM (eN 1) (fM (eN 2) (fM (sy 1) qe)))) (Tg.nm 0) (abi B.range_ (Hc (eN 1) (eN 3))) aa6) qe))) (K7 B uj uu)
def Ry:Bl Ω:=
 il (Ac 3 (vy uj (fM (eN 0) (fM (S9 cX B.len_ (fM (eN 1) qe)) qe)))) (J6 B uj uu)
end
abbrev qu:=top 56
abbrev G5:ab8:=["_law_pen_here","_law_most","_law_widths","_law_many","_law_nests","_law_k","_law_deeds","_law_loops_here"]
section
variable(B:%[|2]){ui:Ct}(uj:%[|22]){uS:Ct}(vc:Cal Ω "_law_loops" 3 2 uS){ve:Ct}(vi:Cal Ω "_law_deed" 4 3 ve)
def qZ(B:%[|2]){ui:Ct}(uj:%[|22]){uS:Ct}(vc:Cal Ω "_law_loops" 3 2 uS){ve:Ct}(vi:Cal Ω "_law_deed" 4 3 ve):Bl Ω:=
 il (abf (aa8 (eN 4) (aa1 (fM (eN 7) (fM (aa4 bQ B.tuple_ (fM (aa3 ["_law_j","_law_pen_here","_law_widths","_law_loops_here"] [none,some 0,some 2,some 7] (vy vi (fM (eN 1) (fM (eN 2) (fM (S9 cX B.len_ (fM (eN 3) qe)) qe)))) (Tg.nm 0) (abi B.range_ (eN 6)) aa6) qe)) qe))))) u5
def rD:Bl Ω:=
 il (Ac 7 (vy vc (fM (eN 0) (fM (S9 aaP B.max_ (fM (sy 1) (fM (abC (abC (eN 1) (eN 3)) (eN 6)) qe))) qe)))) (qZ B uj vc vi)
def jK:Bl Ω:=
 il (Ac 6 (Hh .Add (sy 1) (vy uj (fM (eN 0) (fM (sy 4) qe))))) (rD B uj vc vi)
def yU(B:%[|2]){ui:Ct}(uj:%[|22]){uS:Ct}(vc:Cal Ω "_law_loops" 3 2 uS){ve:Ct}(vi:Cal Ω "_law_deed" 4 3 ve):Bl Ω:=
 il (FN (aa1 (fM (eN 2) (fM (aa4 bQ B.tuple_ (fM (eN 4) qe)) qe)))) u5
def yZ:Bl Ω:=
 il (abn (Tg.nm 5) (abi B.range_ (eN 3)) (jK B uj vc vi)) (yU B uj vc vi)
def yE:Bl Ω:=
 il (Ac 4 (Ex.own qe)) (yZ B uj vc vi)
def yW:Bl Ω:=
 il (Ac 3 (Hh .Add (sy 1) (vy uj (fM (eN 0) (fM (sy 3) qe))))) (yE B uj vc vi)
def Hn:Bl Ω:=
 il (Ac 2 (aa4 bQ B.tuple_ (fM (aa3 ["_law_k","_law_pen_here"] [none,some 0] (Hh .Add (sy 1) (vy uj (fM (eN 1) (fM (sy 2) qe)))) (Tg.nm 0) (abi B.range_ (Hh .Add (sy 1) (vy uj (fM (eN 0) (fM (sy 3) qe))))) aa6) qe))) (yW B uj vc vi)
end
abbrev K9:=top 57
abbrev Xi:ab8:=["_law_form_here","_law_counts_here"]
def WN(B:%[|2]):Bl Ω:=
 il (FN (Hh .Add (Hc (eN 0) (sy 0)) (S9 uD B.sum_ (fM (aa3 ["_law_k","_law_form_here","_law_counts_here"] [none,some 0,some 1] (Hh .Mult (Hc (eN 1) (Hh .Add (sy 1) (eN 0))) (Hc (eN 2) (eN 0))) (Tg.nm 0) (abi B.range_ (S9 cX B.len_ (fM (eN 1) qe))) aa6) qe)))) u5
abbrev tV:=top 58
abbrev Kz:ab8:=["_law_loops_here","_law_found","_law_low","_law_high","_law_longer","_law_counts_here","_law_count"]
abbrev Ju:ab8:=["_law_loops_here"]
section
variable(B:%[|2]){vj:Ct}(vk:Cal Ω "_law_at" 1 2 vj)
def tR(B:%[|2]){vj:Ct}(vk:Cal Ω "_law_at" 1 2 vj):Bl Ω:=
 il (Ac 1 (eN 4)) u5
def tK:Bl Ω:=
 il (abe (Tg.nm 5) (eN 1) (il (abn (Tg.nm 6) (abE B.range_ (vy vk (fM (eN 2) (fM (eN 5) qe))) (vy vk (fM (eN 3) (fM (eN 5) qe)))) (il (abf (aa8 (eN 4) (Hh .Add (eN 5) (aa1 (fM (eN 6) qe))))) u5)) u5)) (tR B vk)
def yo:Bl Ω:=
 il (Ac 4 (Ex.own qe)) (tK B vk)
def zN(B:%[|2]){vj:Ct}(vk:Cal Ω "_law_at" 1 2 vj):Bl Ω:=
 il (FN (eN 1)) u5
def CT:Bl Ω:=
 il (abe (Tg.tup [2,3]) (eN 0) (abX (yo B vk))) (zN B vk)
def Ko:Bl Ω:=
 il (Ac 1 (aba (fM (aa1 qe) qe))) (CT B vk)
end
abbrev BV:=top 59
abbrev Rk:ab8:=["_law_table","_law_place","_law_counts_here"]
def Qc(B:%[|2]){vj:Ct}(vk:Cal Ω "_law_at" 1 2 vj):Bl Ω:=
 il (FN (aa1 (fM (eN 0) (fM (aa4 bQ B.tuple_ (fM (aa3 ["_law_form_here","_law_counts_here"] [none,some 2] (vy vk (fM (eN 0) (fM (eN 1) qe))) (Tg.nm 0) (aa7 (eN 1)) aa6) qe)) qe)))) u5
abbrev xK:=top 60
abbrev Lq:ab8:=["_law_program_here","_law_steps_here","_law_loops_here","_law_deeds","_law_counts_here","_law_table","_law_place","_law_start","_law_parts","_law_some"]
abbrev Mr:ab8:=["_law_program_here"]
section
variable{vj:Ct}(vk:Cal Ω "_law_at" 1 2 vj){vn:Ct}(vr:Cal Ω "_law_counts" 2 1 vn){vt:Ct}(vE:Cal Ω "_law_spot" 2 3 vt)
def wy{vj:Ct}(vk:Cal Ω "_law_at" 1 2 vj){vn:Ct}(vr:Cal Ω "_law_counts" 2 1 vn){vt:Ct}(vE:Cal Ω "_law_spot" 2 3 vt):Bl Ω:=
 il (abf (aa8 (eN 1) (aa1 (fM (vy vE (fM (eN 5) (fM (eN 6) (fM (eN 4) qe)))) (fM (vy vk (fM (eN 7) (fM (eN 4) qe))) (fM (eN 9) qe)))))) u5
def CJ:Bl Ω:=
 il (abJ 9 ["_law_factor","_law_other","_law_there","_law_counts_here"] [none,none,none,some 4] (aa1 (fM (eN 0) (fM (vy vE (fM (eN 1) (fM (eN 2) (fM (eN 3) qe)))) qe))) (Tg.tup [0,1,2]) (aa7 (eN 8)) aa6) (wy vk vr vE)
def FP{vj:Ct}(vk:Cal Ω "_law_at" 1 2 vj){vn:Ct}(vr:Cal Ω "_law_counts" 2 1 vn){vt:Ct}(vE:Cal Ω "_law_spot" 2 3 vt):Bl Ω:=
 il (FN (eN 1)) u5
def Gu:Bl Ω:=
 il (abe (Tg.tup [2,3]) (Hc (eN 0) (sy 1)) (il (abe (Tg.nm 4) (vy vr (fM (eN 2) qe)) (il (abe (Tg.tup [5,6,7,8]) (eN 3) (CJ vk vr vE)) u5)) u5)) (FP vk vr vE)
def OD:Bl Ω:=
 il (Ac 1 (Ex.own qe)) (Gu vk vr vE)
end
abbrev Ih:=top 61
abbrev U6:ab8:=["_law_pen_here","_law_many","_law_way","_law_found","_law_t"]
section
variable(B:%[|2]){ui:Ct}(uj:%[|22])
def PK(B:%[|2]){ui:Ct}(uj:%[|22]):Bl Ω:=
 il (FN (eN 3)) u5
def Om:Bl Ω:=
 il (aa2 (aa5 .Eq (eN 2) (sy 1)) (il (FN (abt (eN 3) Po.no (Po.so (vy uj (fM (eN 0) (fM (Hh .Add (eN 1) (sy 1)) qe)))))) u5) u5) (PK B uj)
def NQ:Bl Ω:=
 il (abn (Tg.nm 4) (abi B.range_ (eN 1)) (il (abf (abH (eN 3) (vy uj (fM (eN 0) (fM (Hh .Add (S9 cX B.len_ (fM (eN 3) qe)) (sy 1)) qe))) (eN 4))) u5)) (Om B uj)
def Nx:Bl Ω:=
 il (Ac 3 (Ex.own qe)) (NQ B uj)
def LQ:Bl Ω:=
 il (aa2 (aa5 .Eq (eN 2) (sy 0)) (il (FN (abL B.range_ B.list_ (eN 1))) u5) u5) (Nx B uj)
def Wh:Bl Ω:=
 il (Ac 2 (vy uj (fM (eN 0) (fM (sy 4) qe)))) (LQ B uj)
end
abbrev sU:=top 62
abbrev JS:ab8:=["_law_steps_here","_law_row_here","_law_held_here","_law_t","_law_cell_here","_law_number","_law_parts","_law_whole","_law_factor","_law_spot_here","_law_more","_law_some","_law_other","_law_found"]
abbrev JC:ab8:=["_law_steps_here","_law_row_here"]
section
variable(B:%[|2])
def uh(B:%[|2]):Bl Ω:=
 il (abN (Tg.nm 12) (eN 11) (il (abo (eN 7) (eN 12) (Hh .Add (abj (eN 7) (eN 12) (sy 0)) (abu (eN 8) (aby (eN 11) (eN 12))))) u5)) u5
def tu:Bl Ω:=
 il (Ac 5 (Hh .Add (eN 5) (abu (eN 8) (eN 10)))) (uh B)
def yH:Bl Ω:=
 il (abr [10,11] (abj (eN 2) (eN 9) (aa1 (fM (sy 0) (fM (abD (eN 9) (sy 1)) qe))))) (tu B)
def t7(B:%[|2]):Bl Ω:=
 il (abo (eN 2) (eN 4) (aa1 (fM (eN 5) (fM (eN 7) qe)))) u5
def tU:Bl Ω:=
 il (abe (Tg.tup [8,9]) (eN 6) (yH B)) (t7 B)
def ud:Bl Ω:=
 il (Ac 7 abp) (tU B)
def zr:Bl Ω:=
 il (abr [4,5,6] (Hc (eN 0) (eN 3))) (ud B)
def uC(B:%[|2]):Bl Ω:=
 il (abo (eN 13) (eN 4) (aa1 (fM (eN 5) (fM (aa3 ["_law_spot_here","_law_whole"] [none,some 7] (aa1 (fM (eN 0) (fM (aby (eN 1) (eN 0)) qe))) (Tg.nm 0) (aa7 (S9 N6 B.sorted_ (fM (aa4 Ea B.list_ (fM (eN 7) qe)) qe))) (Cd.so (aa5 .NotEq (aby (eN 1) (eN 0)) (sy 0)))) qe)))) u5
def ye:Bl Ω:=
 il (abr [5,7] (aby (eN 2) (eN 4))) (uC B)
def Cp(B:%[|2]):Bl Ω:=
 il (FN (eN 13)) u5
def DQ:Bl Ω:=
 il (abN (Tg.nm 4) (eN 2) (ye B)) (Cp B)
def BK:Bl Ω:=
 il (Ac 13 abp) (DQ B)
def Eb:Bl Ω:=
 il (abe (Tg.nm 3) (eN 1) (zr B)) (BK B)
def Ka:Bl Ω:=
 il (Ac 2 abp) (Eb B)
end
abbrev Ef:=top 63
abbrev QM:ab8:=["_law_steps_here","_law_row_here","_law_filling","_law_cell_here","_law_held_here","_law_t","_law_there","_law_number","_law_parts","_law_factor","_law_spot_here"]
abbrev QR:ab8:=["_law_steps_here","_law_row_here","_law_filling","_law_cell_here"]
section
variable(B:%[|2])
def yQ(B:%[|2]):Bl Ω:=
 il (abo (eN 4) (eN 6) (eN 7)) u5
def yx:Bl Ω:=
 il (abe (Tg.tup [9,10]) (eN 8) (il (Ac 7 (Hh .Add (eN 7) (abu (eN 9) (abj (eN 4) (eN 10) (sy 0))))) u5)) (yQ B)
def Fv:Bl Ω:=
 il (abr [6,7,8] (Hc (eN 0) (eN 5))) (yx B)
def Kf(B:%[|2]):Bl Ω:=
 il (FN (abj (eN 4) (eN 3) (sy 0))) u5
def Jr:Bl Ω:=
 il (abe (Tg.nm 5) (eN 1) (Fv B)) (Kf B)
def RM:Bl Ω:=
 il (Ac 4 (aa4 MK B.dict_ (fM (eN 2) qe))) (Jr B)
end
abbrev Eg:=top 64
abbrev Qp:ab8:=["_law_steps_here","_law_row_here","_law_other","_law_first","_law_second","_law_cell_here","_law_itself"]
abbrev R5:ab8:=["_law_steps_here","_law_row_here","_law_other"]
section
variable(B:%[|2]){vF:Ct}(vS:Cal Ω "_law_traces" 1 2 vF)
def yj(B:%[|2]){vF:Ct}(vS:Cal Ω "_law_traces" 1 2 vF):Bl Ω:=
 il (aa2 (aa5 .NotEq (abj (eN 3) (eN 5) (eN 6)) (abj (eN 4) (eN 5) (eN 6))) (il (FN (Ex.bl false)) u5) u5) u5
def Fj:Bl Ω:=
 il (Ac 6 (aa1 (fM (sy 0) (fM (aba (fM (aa1 (fM (eN 5) (fM (sy 1) qe))) qe)) qe)))) (yj B vS)
def K5(B:%[|2]){vF:Ct}(vS:Cal Ω "_law_traces" 1 2 vF):Bl Ω:=
 il (FN (Ex.bl true)) u5
def Jt:Bl Ω:=
 il (abe (Tg.nm 5) (Hh .Add (aa4 Ea B.list_ (fM (eN 3) qe)) (aa4 Ea B.list_ (fM (eN 4) qe))) (Fj B vS)) (K5 B vS)
def KN:Bl Ω:=
 il (Ac 4 (vy vS (fM (eN 0) (fM (eN 2) qe)))) (Jt B vS)
def Rx:Bl Ω:=
 il (Ac 3 (vy vS (fM (eN 0) (fM (eN 1) qe)))) (KN B vS)
end
abbrev xm:=top 65
abbrev Mq:ab8:=["_law_steps_here","_law_row_here","_law_other","_law_found","_law_word","_law_filling","_law_cell_here","_law_one","_law_two","_law_number"]
abbrev Ma:ab8:=["_law_steps_here","_law_row_here","_law_other","_law_found"]
section
variable(B:%[|2]){vT:Ct}(wa:Cal Ω "_law_held" 1 4 vT)
def Ge(B:%[|2]){vT:Ct}(wa:Cal Ω "_law_held" 1 4 vT):Bl Ω:=
 il (FN (abx .Eq (eN 8) (vy wa (fM (eN 0) (fM (eN 2) (fM (eN 5) (fM (eN 6) qe))))))) u5
def G7:Bl Ω:=
 il (aa2 (abz (abl (aa5 .Eq (eN 7) (eN 8)) (abm (aa5 .NotEq (eN 7) (vy wa (fM (eN 0) (fM (eN 1) (fM (eN 5) (fM (eN 6) qe))))))))) (il (FN (Ex.bl false)) u5) u5) (Ge B wa)
def Hj:Bl Ω:=
 il (abe (Tg.nm 9) (abh false .Add (aba (fM (eN 7) (fM (eN 8) qe))) (abQ B.list_ (eN 5))) (il (aa2 (abz (abl (abd (aa9 (abw B.isinstance_ (eN 9) .int B.int_))) (abm (aa9 (abw B.isinstance_ (eN 9) .bool B.bool_))))) (il (FN (Ex.bl false)) u5) u5) u5)) (G7 B wa)
def Hd:Bl Ω:=
 il (aa2 (abd (aa9 (abV B.isinstance_ (eN 5) B.dict_))) (il (FN (Ex.bl false)) u5) u5) (Hj B wa)
def Hk:Bl Ω:=
 il (abr [4,5,6,7,8] (eN 3)) (Hd B wa)
def Py:Bl Ω:=
 il (aa2 (abz (abl (abd (aa9 (abw B.isinstance_ (eN 3) .tuple B.tuple_))) (abm (aa5 .NotEq (S9 cX B.len_ (fM (eN 3) qe)) (sy 5))))) (il (FN (Ex.bl false)) u5) u5) (Hk B wa)
end
abbrev xJ:=top 66
abbrev Lh:ab8:=["_law_program_here","_law_steps_here","_law_row_here","_law_other","_law_handed","_law_found","_law_kept"]
abbrev Og:ab8:=["_law_program_here","_law_steps_here","_law_row_here","_law_other"]
section
variable(B:%[|2]){wb:Ct}(wd:Cal Ω "compared" 8 3 wb){we:Ct}(wf:Cal Ω "_law_same" 2 3 we){wh:Ct}(wl:Cal Ω "_law_shown" 2 4 wh)
def Gy(B:%[|2]){wb:Ct}(wd:Cal Ω "compared" 8 3 wb){we:Ct}(wf:Cal Ω "_law_same" 2 3 we){wh:Ct}(wl:Cal Ω "_law_shown" 2 4 wh):Bl Ω:=
 il (FN (abZ (vy wd (fM (eN 0) (fM (eN 2) (fM (eN 3) qe)))) (eN 6))) u5
def Gs:Bl Ω:=
 il (abf (abR (Hc (eN 5) (sy 1)))) (Gy B wd wf wl)
def Ga:Bl Ω:=
 il (Ac 6 (Hh .Add (aa1 (fM (Hc (eN 5) (sy 0)) (fM (aa4 MK B.dict_ (fM (Hc (eN 5) (sy 1)) qe)) qe))) (abt (eN 5) (Po.so (sy 2)) Po.no))) (Gs B wd wf wl)
def Ha:Bl Ω:=
 il (aa2 (abz (abl (aa5 .NotEq (Hc (eN 5) (sy 0)) (Ex.str "unlike")) (abm (abd (aa9 (vy wl (fM (eN 1) (fM (eN 2) (fM (eN 3) (fM (eN 5) qe)))))))))) (il (FN (Ex.bl false)) u5) u5) (Ga B wd wf wl)
def GP:Bl Ω:=
 il (aa2 (aa9 (vy wf (fM (eN 1) (fM (eN 2) (fM (eN 3) qe))))) (il (FN (abx .Eq (eN 5) (aa1 (fM (Ex.str "alike") qe)))) u5) u5) (Ha B wd wf wl)
def G3:Bl Ω:=
 il (aa2 (aa5 .NotEq (eN 4) (aa1 (fM (eN 2) (fM (eN 3) qe)))) (il (FN (Ex.bl false)) u5) u5) (GP B wd wf wl)
def GF:Bl Ω:=
 il (Ac 5 (vy wd (fM (eN 0) (fM (Hc (eN 4) (sy 0)) (fM (Hc (eN 4) (sy 1)) qe))))) (G3 B wd wf wl)
def Nb:Bl Ω:=
 il (Ac 4 (aa1 (fM (aa4 Uc B.list_ (fM (eN 2) qe)) (fM (aa4 Uc B.list_ (fM (eN 3) qe)) qe)))) (GF B wd wf wl)
end
abbrev pF:=top 67
abbrev Zt:ab8:=["_law_script","_law_pen_here","_law_drawn","_law_steps_here","_law_program_here","_law_row_here","_law_at_here","_law_lower","_law_upper","_law_bent","_law_some","_law_other"]
abbrev ZR:ab8:=["_law_script"]
section
variable(B:%[|2]){wm:Ct}(wn:Cal Ω "program_of" 10 2 wm){wo:Ct}(wq:Cal Ω "_law_pen" 2 2 wo){ui:Ct}(uj:%[|22]){wr:Ct}(wt:Cal Ω "_law_program" 5 2 wr){wv:Ct}(wx:Cal Ω "_law_steps" 3 1 wv){wE:Ct}(wP:Cal Ω "_law_row" 3 2 wE){wS:Ct}(wT:Cal Ω "_law_right" 9 4 wS)
def J5(B:%[|2]){wm:Ct}(wn:Cal Ω "program_of" 10 2 wm){wo:Ct}(wq:Cal Ω "_law_pen" 2 2 wo){ui:Ct}(uj:%[|22]){wr:Ct}(wt:Cal Ω "_law_program" 5 2 wr){wv:Ct}(wx:Cal Ω "_law_steps" 3 1 wv){wE:Ct}(wP:Cal Ω "_law_row" 3 2 wE){wS:Ct}(wT:Cal Ω "_law_right" 9 4 wS):Bl Ω:=
 il (aa2 (abd (aa9 (vy wT (fM (eN 4) (fM (eN 3) (fM (eN 11) (fM (eN 5) qe))))))) (il (FN (Ex.bl false)) u5) u5) u5
def R1:Bl Ω:=
 il (aa2 (abd (aa9 (vy wT (fM (eN 4) (fM (eN 3) (fM (eN 5) (fM (eN 11) qe))))))) (il (FN (Ex.bl false)) u5) u5) (J5 B wn wq uj wt wx wP wT)
def QF(B:%[|2]){wm:Ct}(wn:Cal Ω "program_of" 10 2 wm){wo:Ct}(wq:Cal Ω "_law_pen" 2 2 wo){ui:Ct}(uj:%[|22]){wr:Ct}(wt:Cal Ω "_law_program" 5 2 wr){wv:Ct}(wx:Cal Ω "_law_steps" 3 1 wv){wE:Ct}(wP:Cal Ω "_law_row" 3 2 wE){wS:Ct}(wT:Cal Ω "_law_right" 9 4 wS):Bl Ω:=
 il (FN (Ex.bl true)) u5
def Rq:Bl Ω:=
 il (abe (Tg.nm 11) (abh false .Add (eN 10) (aba (fM (eN 5) qe))) (R1 B wn wq uj wt wx wP wT)) (QF B wn wq uj wt wx wP wT)
def PX:Bl Ω:=
 il (abf (aa8 (eN 10) (vy wP (fM (eN 1) (fM (S9 cX B.len_ (fM (eN 3) qe)) qe))))) (Rq B wn wq uj wt wx wP wT)
def Ux:Bl Ω:=
 il (Ac 10 (Ex.own (fM (abL B.range_ B.list_ (S9 cX B.len_ (fM (eN 3) qe))) (fM (eN 9) (fM (Hh .Add (eN 7) (abt (eN 8) (Po.so (sy 1)) Po.no)) qe))))) (PX B wn wq uj wt wx wP wT)
def Uq:Bl Ω:=
 il (Ac 9 (Hh .Add (Hh .Add (eN 7) (Ex.rev (abt (eN 8) Po.no (Po.so (sy 2))))) (abt (eN 8) (Po.so (sy 2)) Po.no))) (Ux B wn wq uj wt wx wP wT)
def Up:Bl Ω:=
 il (Ac 8 (abt (eN 5) (Po.so (eN 6)) Po.no)) (Uq B wn wq uj wt wx wP wT)
def U3:Bl Ω:=
 il (Ac 7 (abt (eN 5) Po.no (Po.so (eN 6)))) (Up B wn wq uj wt wx wP wT)
def Vf:Bl Ω:=
 il (Ac 6 (vy uj (fM (eN 1) (fM (Hh .Add (S9 cX B.len_ (fM (eN 5) qe)) (sy 1)) qe)))) (U3 B wn wq uj wt wx wP wT)
def V9:Bl Ω:=
 il (Ac 5 (vy wP (fM (eN 1) (fM (S9 cX B.len_ (fM (eN 3) qe)) qe)))) (Vf B wn wq uj wt wx wP wT)
def Wb:Bl Ω:=
 il (Ac 4 (vy wn (fM (Hc (eN 2) (sy 0)) (fM (Hc (eN 2) (sy 1)) qe)))) (V9 B wn wq uj wt wx wP wT)
def Wj:Bl Ω:=
 il (Ac 3 (vy wx (fM (eN 2) qe))) (Wb B wn wq uj wt wx wP wT)
def Ut:Bl Ω:=
 il (Ac 2 (vy wt (fM (eN 1) (fM (sy 20) qe)))) (Wj B wn wq uj wt wx wP wT)
def aar:Bl Ω:=
 il (Ac 1 (vy wq (fM (eN 0) (fM (sy 1) qe)))) (Ut B wn wq uj wt wx wP wT)
end
end
end K38
local macro_rules | `(tactic| walk_at "w") => `(tactic| first | refine (?_ : _ /\ _) | refine (?_ : ∃ _, _) | (conv => whnf))
local macro_rules | `(tactic| walk_at "n") => `(tactic| (walk_at "w"; repeat (with_reducible first | apply RF.cLt | apply RF.cLe | apply RF.cGt | apply RF.cGe | apply RF.cEqI | apply RF.cNeI | apply RF.cEqB | apply RF.cNeB | apply RF.cIsN | apply RF.cIsB | apply RF.cIsNotB | apply RF.cIsNot); walk_at "w"))
local macro_rules | `(tactic| walk_at "at") => `(tactic| first | (with_reducible assumption) | exact DL.set_get (by first | (with_reducible assumption) | exact DL.set_get (by with_reducible assumption)))
local macro_rules | `(tactic| walk_at "o") => `(tactic| first | omega | decide | (simp; done) | (simp; omega))
local macro_rules | `(tactic| walk_at "a1") => `(tactic| first
 | refine RF.wM1 (by first | exact .inl ⟨by walk_at "o", by walk_at "o"⟩ | exact .inr ⟨by walk_at "o", by walk_at "o"⟩) ?_
 | refine RF.wM2 ⟨by decide, by decide, by decide⟩ ?_
 | refine RF.wM3 ⟨by omega, by omega⟩ ?_
 | refine RF.wM4 (by omega) ?_
 | ((fail_if_success (with_reducible show (_ /\ ∃ _ : Nat -> List DL.D -> DL.Store -> Prop, _))); refine RF.wM5 (by walk_at "o") ?_)
 | refine RF.wM6 (by walk_at "o") ?_
 | (refine' RF.wM7 ?h1 ?h2 ?h3; (case h1 => walk_at "at"); (case h2 => exact rfl); (try rw [List.set_set]))
 | (refine' RF.wM8 ?h1 ?h2 ?h3; (case h1 => walk_at "at"); (case h2 => exact rfl))
 | refine RF.wM9 rfl ?_)
local macro_rules | `(tactic| walk_at "a") => `(tactic| (walk_at "n"; repeat (walk_at "a1"; walk_at "n")))
local macro_rules | `(tactic| walk_at "b") => `(tactic| (walk_at "n"; repeat ((first | walk_at "a1" | apply RF.bT | apply RF.bF | apply RF.dT | apply RF.dF); walk_at "n")))
local macro_rules|`(tactic|try?)=>`(tactic|walk_at "b")
namespace K38
open PySem L2 DL RF
variable{cs ws:List Int}{i n k m t B X B':Nat}{d:D}{a b:Int}{ds l:List D}{S S' J:Store}{W:WD}{Γ:Gam}{o:List Nat}
variable{Ω:Wd}{f:Addr}{fd:FuncData}
def whole:D->Bool
 | .int _=>true
 | _=>false
def bV(x:D)(a b:Int):Bool:=match x with
 | .tup ds=>decide (a<=(ds.length:Int))&&decide ((ds.length:Int)<=b)
 | _=>false
def dB(x:D)(d:Int):Bool:=match x with
 | .tup ds=>decide ((ds.length:Int)=d+1)&&ds.all whole
 | _=>false
inductive c_whole(ds:List D)(S:Store)(W:WD):Prop
 | mk(x:_):ds=[x]->W (.bl (whole x)) S->c_whole ds S W
inductive c_tup(ds:List D)(S:Store)(W:WD):Prop
 | mk(x a b:_):ds=[x,.int a,.int b]->W (.bl (bV x a b)) S->c_tup ds S W
inductive c_form(ds:List D)(S:Store)(W:WD):Prop
 | mk(x d:_):ds=[x,.int d]->d<=1000->W (.bl (dB x d)) S->c_form ds S W
def comesTo(f:Int)(fs cs:ab1):Int:=f+(List.zipWith (λ a b=>a*b) fs cs).sum
inductive c_comes(ds:List D)(S:Store)(W:WD):Prop
 | mk(f fs cs:_):ds=[.tup (.int f::fs.map .int),.tup (cs.map .int)]->fs.length<=1000->(∀c∈cs,-(2 ^ 64)<c/\c<2 ^ 64)->W (.int (comesTo f fs cs)) S->c_comes ds S W
def Oo(ds:List D):(ds.map whole).all id=ds.all whole:=by rw[List.all_map];rfl
def Uk{fs:ab1}(h:(List.zipWith (λ x y=>D.tup [x,y]) (fs.map D.int) (cs.map D.int))[i]? =some d):∃a b,fs[i]? =some a/\cs[i]? =some b/\d=.tup [.int a,.int b]:=by
 rw[om,y8,y8]at h
 cases c:fs[i]? with
 | none=>rw[c]at h;cases h
 | some a=>
   cases e:cs[i]? with
   | none=>rw[c,e]at h;cases h
   | some b=>rw[c,e]at h;cases h;exact%[a,b,rfl,rfl|rfl]
def yq(F:Fun Ω.K "is_whole" "is_whole" mW f fd)(b:%[|7])(B:%[|2]):Ok Ω 1 f fd Ca c_whole:=by
 refine aC b (N:=Ca) F (BZ B) %[|8] ?_;rintro d S W ⟨x,rfl,a⟩ g;walk_at "n";refine%[λ c=>?_|λ c=>?_]
 . walk_at "n";have e:(!isD .bool x)=whole x:=by cases x<;>first | rfl | exact ff c | exact tf c
   rw[e];exact a
 . have e:whole x=false:=by cases x<;>first | rfl | exact ff c | exact tf c
   rw[e]at a;exact a
def rG(F:Fun Ω.K "is_tuple_of" "is_tuple_of" jw f fd)(i:%[|7])(B:%[|2]):Ok Ω 1 f fd uH c_tup:=by
 refine aC i (N:=uH) F (uw B) %[|8] ?_;rintro g S W ⟨x,a,b,rfl,d⟩ j;walk_at "n"
 cases x with
 | tup g=>
   refine%[λ _=>?_|λ c=>tf c];walk_at "n";refine%[λ h=>?_|λ h=>?_]
   . have e:bV (.tup g) a b=false:=by show(decide _&&decide _)=false;rw[h];rfl
     rw[e]at d;exact d
   . walk_at "n";have e:bV (.tup g) a b=decide ((g.length:Int)<=b):=by show(decide _&&decide _)=_;rw[h];rfl
     rw[e]at d;exact d
 | _=>exact%[λ c=>ff c|λ _=>d]
def DX(F:Fun Ω.K "is_form" "is_form" qJ f fd)(n:%[|7])(B:%[|2])(h:Cal Ω "is_whole" 1 1 c_whole)(g:Cal Ω "is_tuple_of" 1 3 c_tup):Ok Ω 2 f fd Fw c_form:=by
 refine aC n (N:=Fw) F (FW B h g) %[|8] ?_;rintro a S W ⟨x,d,rfl,q,k⟩ r;walk_at "n";refine%[rfl,_,_,_,rfl|?_];refine%[λ c=>?_|λ c=>?_]
 . cases x with
   | tup a=>
     have j:(a.length:Int)=d+1:=by have m:(decide (d+1<=(a.length:Int))&&decide ((a.length:Int)<=d+1))=true:=c;rw[fg,ib,ib]at m;omega
     walk_at "n";refine eU %[%[|0],λ i b l=>b=(a.take i).map (λ d=>.bl (whole d))/\l=S,%[rfl|rfl],?_|?_];{rintro i e b l p ⟨rfl,rfl⟩;walk_at "n";refine%[λ _=>%[rfl,_,rfl,?_|rfl]|λ z=>tf z];rw[aD p,cE];rfl}
     . rintro b l ⟨rfl,rfl⟩;rw[cr];refine%[a.map whole,by rw[df];rfl|?_];have o:dB (.tup a) d=(a.map whole).all id:=by show(decide _&&_)=_;rw[cc j,Oo];rfl
       rw[o]at k;exact k
   | _=>exact ff c
 . have e:dB x d=false:=by
    cases x with
    | tup a=>have m:(decide (d+1<=(a.length:Int))&&decide ((a.length:Int)<=d+1))=false:=c;show(decide _&&_)=false;rw[Bool.and_eq_false_iff,decide_eq_false_iff_not,decide_eq_false_iff_not]at m;rw[cK %[|0]];rfl
    | _=>rfl
   rw[e]at k;exact k
def yc(F:Fun Ω.K "comes_to" "comes_to" oO f fd)(m:%[|7])(B:%[|2]):Ok Ω 1 f fd zR c_comes:=by
 refine aC m (N:=zR) F (Be B) %[|8] ?_;rintro s S W ⟨g,h,d,rfl,q,k,r⟩ t;walk_at "n";refine%[_,EY _ _|?_];walk_at "n";rw[Do];refine eU %[by rw[List.length_zipWith,y7];omega,λ i c j=>c=((List.zipWith (λ a b=>a*b) h d).take i).map D.int/\j=S,%[rfl|rfl],?_|?_]
 . rintro i e c j p ⟨rfl,rfl⟩;obtain⟨a,b,o,l,rfl⟩:=Uk p;walk_at "n";refine%[rfl,λ _=>%[.inr (k b (y4 l)),?_|rfl]|λ z=>tf z];have n:(List.zipWith (λ a b=>a*b) h d)[i]? =some (a*b):=by rw[om,o,l]
   rw[aD n,cE];rfl
 . rintro c j ⟨rfl,rfl⟩;have e:(List.zipWith (λ x y=>D.tup [x,y]) (h.map D.int) (d.map D.int)).length=(List.zipWith (λ a b=>a*b) h d).length:=by simp
   rw[e,cr];exact%[_,rfl|r]
def small:D->Bool
 | .int n=>decide (-2<=n)&&decide (n<=2)
 | _=>false
def ZJ:List D->Bool
 | .int a::fs=>decide (-9<=a)&&(decide (a<=9)&&fs.all small)
 | _=>false
def cL(x:D)(d:Int):Bool:=dB x d&&ZJ (match x with | .tup ds=>ds | _=>[])
def jb(x:D)(d:Int):Bool:=match x with
 | .tup [a,b]=>cL a d&&cL b d
 | _=>false
def fZ(x:D):Bool:=match x with
 | .tup ds=>(decide (1<=(ds.length:Int))&&decide ((ds.length:Int)<=3))&&(ds.mapIdx λ i d=>jb d i).all id
 | _=>false
inductive c_bound(ds:List D)(S:Store)(W:WD):Prop
 | mk(x d:_):ds=[x,.int d]->0<=d->d<=1000->W (.bl (cL x d)) S->c_bound ds S W
inductive c_loop(ds:List D)(S:Store)(W:WD):Prop
 | mk(x d:_):ds=[x,.int d]->0<=d->d<=1000->W (.bl (jb x d)) S->c_loop ds S W
inductive c_loops(ds:List D)(S:Store)(W:WD):Prop
 | mk(x:_):ds=[x]->W (.bl (fZ x)) S->c_loops ds S W
theorem ints_of:∀{ds:List D},ds.all whole=true->∃ns:List Int,ds=ns.map .int
 | [],_=>%[[]|rfl]
 | d::ds,h=>by
   rw[ip]at h;obtain⟨a,b⟩:=bu h;obtain⟨ns,rfl⟩:=ints_of b
   cases d with
   | int i=>exact%[i::ns|rfl]
   | _=>exact ff a
def jF{d}(h:dB x d=true)(l:0<=d):∃a fs,x=.tup (.int a::List.map .int fs)/\(fs.length:Int)=d:=by
 cases x with
 | tup f=>
   obtain⟨b,c⟩:=bu h;have b:=cy b
   cases f with
   | nil=>simp at b;omega
   | cons e k=>
     rw[ip]at c;obtain⟨c,g⟩:=bu c;have i:=ints_of g;obtain⟨j,rfl⟩:=i
     cases e with
     | int a=>exact%[a,j,rfl|by simp at b;omega]
     | _=>exact ff c
 | _=>exact ff h
def Dt(p:D->Bool)(ds:List D):(ds.map p).all id=ds.all p:=by rw[List.all_map];rfl
def yu (F:Fun Ω.K "is_bound" "is_bound" nA f fd)(r:%[|7])(B:%[|2])(j:Cal Ω "is_form" 2 2 c_form):Ok Ω 3 f fd Fw c_bound:=by
 refine aC r (N:=Fw) F (Dq B j) %[|8] ?_;rintro t S W ⟨x,d,rfl,p,s,b⟩ v;walk_at "a";refine%[rfl,_,_,rfl,s|?_];walk_at "a"
 cases h:dB x d with
 | false=>
   have e:cL x d=false:=by unfold cL;rw[h];rfl
   rw[e]at b;exact%[λ _=>b|λ z=>tf z]
 | true=>
   refine%[λ z=>ff z|λ _=>?_];obtain⟨a,l,rfl,u⟩:=jF h p;have e:cL (.tup (.int a::l.map .int)) d=(decide (-9<=a)&&(decide (a<=9)&&(l.map D.int).all small)):=by unfold cL;rw[h];rfl
   rw[e]at b;walk_at "a";refine%[_,EY _ _|?_];walk_at "a";refine%[λ c=>?_|λ c=>?_];{have c:decide (-9<=a)=false:=c;rw[c]at b;exact%[λ z=>ff z|λ _=>b]};have c:decide (-9<=a)=true:=c;rw[c,i6]at b;walk_at "a";refine%[λ o=>?_|λ o=>?_]
   . rw [o,i6]at b;walk_at "a";rw[Do];refine d9 (λ d=>.bl (small d)) (by simp;omega) ?_ ?_
     . intro i e k Q m;rw[y8]at k
       cases q:l[i]? with
       | none=>rw[q]at k;cases k
       | some n=>
         rw[q]at k;cases k;walk_at "a";refine%[λ g=>?_|λ g=>?_]
         . have g:decide (-2<=n)=false:=g;have e:small (.int n)=false:=by show(decide _&&_)=false;rw[g];rfl
           rw[e]at m;exact m
         . have g:decide (-2<=n)=true:=g;walk_at "a";have e:small (.int n)=decide (n<=2):=by show(decide _&&_)=_;rw[g];rfl
           rw[e]at m;exact m
     {refine%[(l.map D.int).map small,by simp only[df];rfl|?_];rw[Dt];exact b}
   {rw[o]at b;exact b}
def Dh(F:Fun Ω.K "is_loop" "is_loop" qH f fd)(m:%[|7])(i:Cal Ω "is_tuple_of" 1 3 c_tup)(g:Cal Ω "is_bound" 3 2 c_bound):Ok Ω 4 f fd Fw c_loop:=by
 refine aC m (N:=Fw) F (Fq i g) %[|8] ?_;rintro k S W ⟨x,d,rfl,j,l,c⟩ n;walk_at "a";refine%[rfl,_,_,_,rfl|?_];walk_at "a"
 cases x with
 | tup k=>
   match k,c with
   | [a,b],c=>refine%[λ _=>?_|λ z=>tf z];walk_at "a";refine%[rfl,_,_,rfl,j,l|?_];have e:jb (.tup [a,b]) d=(cL a d&&cL b d):=rfl;rw[e]at c;refine%[λ h=>?_|λ h=>?_];{rw[h,i6]at c;walk_at "a";exact%[rfl,_,_,rfl,j,l|c]};{rw[h]at c;exact c}
   | [],c=>exact%[λ z=>ff z|λ _=>c]
   | [_],c=>exact%[λ z=>ff z|λ _=>c]
   | _::_::_::es,c=>refine%[λ z=>?_|λ _=>c];obtain⟨_,z⟩:=bu z;have z:=cy z;simp at z;omega
 | _=>exact%[λ z=>ff z|λ _=>c]
def yz(F:Fun Ω.K "is_loops" "is_loops" oF f fd)(m:%[|7])(B:%[|2])(g:Cal Ω "is_tuple_of" 1 3 c_tup)(c:Cal Ω "is_loop" 4 2 c_loop):Ok Ω 5 f fd Ca c_loops:=by
 refine aC m (N:=Ca) F (Ag B g c) %[|8] ?_;rintro a S W ⟨x,rfl,b⟩ r;walk_at "a";refine%[rfl,_,_,_,rfl|?_];walk_at "a"
 cases x with
 | tup a=>
   have e:fZ (.tup a)=((decide (1<=(a.length:Int))&&decide ((a.length:Int)<=3))&&(a.mapIdx λ i d=>jb d i).all id):=rfl;rw[e]at b;refine%[λ h=>?_|λ h=>?_]
   . have h:(decide (1<=(a.length:Int))&&decide ((a.length:Int)<=3))=true:=h;rw[h,i6]at b;have l:=cy (bu h).2;walk_at "a";refine d9 (λ p=>match p with | .tup [.int i,d]=>.bl (jb d i) | _=>.non) (by simp;omega) ?_ ?_
     . intro i e j Q n;rw[kz]at j
       cases k:a[i]? with
       | none=>rw[k]at j;cases j
       | some o=>rw[k]at j;cases j;have q:i<a.length:=(z0.mp k).1;walk_at "a";refine%[rfl|?_];walk_at "a";exact%[rfl,_,_,rfl,%[|0],%[|0]|n]
     {refine%[a.mapIdx λ i d=>jb d i,?_|b];apply gL;intro i;simp only[y8,kz];cases a[i]?<;>rfl}
   {have h:(decide (1<=(a.length:Int))&&decide ((a.length:Int)<=3))=false:=h;rw[h]at b;exact b}
 | _=>exact%[λ z=>ff z|λ _=>b]
abbrev Fm:=Int×List Int
abbrev Lp:=Fm×Fm
def dF(f:Fm):D:=.tup (.int f.1::f.2.map .int)
def dC(cs:ab1):D:=.tup (cs.map .int)
def dL(l:Lp):D:=.tup [dF l.1,dF l.2]
def atC(f:Fm)(cs:ab1):Int:=comesTo f.1 f.2 cs
def upI(a:Int)(n:Nat):List Int:=(List.range n).map λ(k:Nat)=>a+(k:Int)
def bU(lo hi:Fm)(cs:ab1):List (List Int):=(upI (atC lo cs) (atC hi cs-atC lo cs).toNat).map λ c=>cs++[c]
def aY(lo hi:Fm)(ahead:ad3):List (List Int):=ahead.flatMap (bU lo hi)
def cnt(ls:List Lp):List (List Int):=ls.foldl (λ a l=>aY l.1 l.2 a) [[]]
def Sm6(ns:ab1):Prop:=ns.length<=10/\∀n∈ns,-1000000<=n/\n<=1000000
def SmF(f:Fm):Prop:= -1000000<=f.1/\f.1<=1000000/\Sm6 f.2
theorem wZ:∀(fs cs:ab1),(∀n∈fs,-1000000<=n/\n<=1000000)->(∀n∈cs,-1000000<=n/\n<=1000000)-> -(1000000000000*(cs.length:Int))<=(List.zipWith (λ a b=>a*b) fs cs).sum/\(List.zipWith (λ a b=>a*b) fs cs).sum<=1000000000000*(cs.length:Int)
 | [],cs,_,_=>by simp;omega
 | f::fs,[],_,_=>by simp
 | f::fs,c::cs,h1,h2=>by
   have i:=wZ fs cs (λ n d=>h1 n (x4 _ d)) (λ n d=>h2 n (x4 _ d));have g:=h1 f x6;have e:=h2 c x6;have h:(f*c).natAbs<=1000000*1000000:=by rw[n4];exact ng %[|0] %[|0]
   simp only[List.zipWith_cons_cons,nX,dQ];omega
def wY{f}(hf:SmF f)(hc:Sm6 cs): -(2 ^ 62)<=atC f cs/\atC f cs<2 ^ 62:=by have:=wZ f.2 cs hf.2.2.2 hc.2;have a:=hf.1;have b:=hf.2.1;have c:=hc.1;unfold atC comesTo;omega
def U8(a:Int)(n:Nat):(upI a n).length=n:=by simp[upI]
def HY(h:i<n):(upI a n)[i]? =some (a+i):=by simp[upI,h]
def di(lo hi:Fm)(cs:ab1):(bU lo hi cs).length=(atC hi cs-atC lo cs).toNat:=by simp[bU,U8]
def jd{ahead:ad3}(h:ahead[i]? =some cs):aY lo hi (ahead.take (i+1))=aY lo hi (ahead.take i)++bU lo hi cs:=by unfold aY;rw[aD h,jS];simp
def Dm(h:ahead[i]? =some cs):(aY lo hi (ahead.take i)).length+(bU lo hi cs).length<=(aY lo hi ahead).length:=by
 have e:aY lo hi ahead=aY lo hi (ahead.take (i+1))++aY lo hi (ahead.drop (i+1)):=by unfold aY;rw[<-jS,gt]
 rw[e,jd h,x8,x8];omega
def nO(xs:ad3):aa (xs.map dC)=true:=by
 induction xs with
 | nil=>rfl
 | cons x xs a=>
   simp only[cn,aa,a,dk];show aa (x.map D.int)=true
   induction x with
   | nil=>rfl
   | cons y b a=>simp only[cn,aa,a,dk];rfl
inductive c_next(ds:List D)(S:Store)(W:WD):Prop
 | mk(ahead lo hi:_):ds=[.lst (List.map dC ahead),dF lo,dF hi]->SmF lo->SmF hi->(∀cs∈ahead,Sm6 cs)->ahead.length<=1000000->(aY lo hi ahead).length<=1000000->flat S->hand W ((aY lo hi ahead).map dC) S->c_next ds S W
def lG(F:Fun Ω.K "with_next_count" "with_next_count" fO f fd)(r:%[|7])(B:%[|2])(l:Cal Ω "comes_to" 1 2 c_comes):Ok Ω 2 f fd mQ c_next:=by
 refine aC r (N:=lX) F (Bl.frz (mH B l)) %[|8] ?_;rintro A S W ⟨a,lo,hi,rfl,hlo,hhi,p,z,E,v,y⟩ C;try?;refine cu %[λ i d g=>(∃q k,d=[some (.lst (a.map dC)),some (dF lo),some (dF hi),%[|19],q,k])/\g=S++[(aY lo hi (a.take i)).map dC],%[%[_,_|rfl]|rfl],?_|?_]
 . rintro i e d g h ⟨⟨q,k,rfl⟩,rfl⟩;rw[y8]at h
   cases m:a[i]? with
   | none=>rw[m]at h;cases h
   | some b=>
     rw[m]at h;cases h;have hcs:=p b (y4 m);have b1:=wY hlo hcs;have b2:=wY hhi hcs;have n:∀c∈b,-(2 ^ 64)<c/\c<2 ^ 64:=λ c w=>by have:=hcs.2 c w;omega
     try?;refine%[rfl,lo.1,lo.2,b,rfl,by have:=hlo.2.2.1;omega,n|?_];try?;refine%[rfl,hi.1,hi.2,b,rfl,by have:=hhi.2.2.1;omega,n|?_];try?;refine%[%[b1.1,b1.2,b2.1|b2.2]|cu %[λ j d g=>(∃k,d=[some (.lst (a.map dC)),some (dF lo),some (dF hi),%[|19],some (dC b),k])/\g=S++[(aY lo hi (a.take i)++(bU lo hi b).take j).map dC],%[%[_|rfl]|by simp],?_|?_]]
     . rintro j e d g h ⟨⟨k,rfl⟩,rfl⟩;obtain⟨x,rfl⟩:=cU h;have o:j<(bU lo hi b).length:=by rw[di];exact x
       have G:=Dm (lo:=lo) (hi:=hi) m;try?;refine%[by simp;have:=hcs.1;omega,_,aO _ _,by simp;omega|?_];refine%[%[_|rfl]|?_];rw[cj];have s:(bU lo hi b)[j]? =some (b++[atC lo b+(j:Int)]):=by unfold bU;rw[y8,HY (by rw[di]at o;exact o)];rfl
       have t:dC (b++[atC lo b+(j:Int)])=D.tup (b.map D.int++[D.int (comesTo lo.1 lo.2 b+(j:Int))]):=by unfold dC;rw[cE];rfl
       rw[aD s,<-ca,cE (l₂:=[_]),List.map_singleton,t]
     . rintro d g ⟨⟨k,rfl⟩,rfl⟩;refine%[%[_,_|rfl]|?_];have u:(bU lo hi b).take (DL.upTo (comesTo lo.1 lo.2 b) (comesTo hi.1 hi.2 b-comesTo lo.1 lo.2 b).toNat).length=bU lo hi b:=by rw[aF];exact ck (by rw[di];exact y9 _)
       rw[u,jd m]
 {rintro d g ⟨⟨q,k,rfl⟩,rfl⟩;rw[y7,cr];exact qO y (nO _) v}
def Fits(ls:List Lp):Prop:=(∀l∈ls,SmF l.1/\SmF l.2)/\∀i,i<=ls.length->(cnt (ls.take i)).length<=1000000/\∀a∈cnt (ls.take i),Sm6 a
inductive c_counts(ds:List D)(S:Store)(W:WD):Prop
 | mk(ls:_):ds=[.tup (List.map dL ls)]->1<=ls.length->Fits ls->flat S->hand W ((cnt ls).map dC) S->c_counts ds S W
def km{ls:List Lp}{l}(h:ls[i]? =some l):cnt (ls.take (i+1))=aY l.1 l.2 (cnt (ls.take i)):=by unfold cnt;rw[aD h,jp];rfl
def vY(F:Fun Ω.K "counts_of" "counts_of" lQ f fd)(z:%[|7])(u:Cal Ω "with_next_count" 2 3 c_next):Ok Ω 3 f fd yL c_counts:=by
 refine aC z (N:=ym) F (Bl.frz (yN u)) %[|8] ?_;rintro E S W ⟨j,rfl,H,hf,A,v⟩ G;try?;have t:∀(i:Nat)(e:D),(j.map dL)[i]? =some e->∃l,j[i]? =some l/\e=dL l:=λ i e o=>by
  rw[y8]at o
  cases y:j[i]? with
  | none=>rw[y]at o;cases o
  | some l=>rw[y]at o;cases o;exact%[l,rfl|rfl]
 have n:∀(i:Nat)(l:Lp)(W:WD),j[i]? =some l->hand W ((cnt (j.take (i+1))).map dC) S->c_next [.lst ((cnt (j.take i)).map dC),dF l.1,dF l.2] S W:=λ i l W h w=>by have B:=(z0.mp h).1;obtain⟨a,b⟩:=hf.1 l (y4 h);obtain⟨c,d⟩:=hf.2 i %[|0];obtain⟨x,C⟩:=hf.2 (i+1) %[|0];rw[km h]at x w;exact%[_,_,_,rfl,a,b,d,c,x,A|w]
 rcases v with v | v;{refine cu %[λ i g s=>(∃p r,g=[some (.tup (j.map dL)),some (.lst ((cnt (j.take i)).map dC)),p,r])/\s=S,%[%[_,_|rfl]|rfl],?_|?_];{rintro i e g s o ⟨⟨p,r,rfl⟩,rfl⟩;obtain⟨l,k,rfl⟩:=t i e o;try?;refine%[rfl|?_];walk_at "n";exact%[rfl|n i l _ k (.inl %[%[_,_|rfl]|rfl])]};{rintro g s ⟨⟨p,r,rfl⟩,rfl⟩;rw[y7,cr];exact .inl v}};{refine cu %[λ i g s=>(i<j.length/\(∃p r,g=[some (.tup (j.map dL)),some (.lst ((cnt (j.take i)).map dC)),p,r])/\s=S)\/(i=j.length/\(∃p r,g=[some (.tup (j.map dL)),%[|19],p,r])/\s=S++[(cnt j).map dC]),.inl %[%[|0],%[_,_|rfl]|rfl],?_|?_];{rintro i e g s o q;obtain⟨l,k,rfl⟩:=t i e o;have B:=(z0.mp k).1;rcases q with⟨_,⟨p,r,rfl⟩,rfl⟩ | ⟨q,_⟩;{try?;refine%[rfl|?_];walk_at "n";by_cases m:i+1=j.length;{refine%[rfl|n i l _ k (.inr (.inr %[m,%[_,_|rfl]|?_]))];rw[m,cr]};{exact%[rfl|n i l _ k (.inl (.inl %[%[|0],%[_,_|rfl]|rfl]))]}};{omega}};{rintro g s q;rw[y7]at q;rcases q with⟨q,_⟩ | ⟨_,⟨p,r,rfl⟩,rfl⟩;{omega};{exact .inl v}}}
def BdF(f:Fm)(k:Nat):Prop:=f.2.length=k/\ -9<=f.1/\f.1<=9/\∀n∈f.2,-2<=n/\n<=2
def K6{g m}(c: -2<=g/\g<=2)(b: -m<=a/\a<=m): -(2*m)<=g*a/\g*a<=2*m:=by
 have:g= -2\/g= -1\/g=0\/g=1\/g=2:=%[|0]
 rcases this with rfl | rfl | rfl | rfl | rfl<;>omega
def bnd:Nat->Int
 | 0=>0
 | 1=>9
 | 2=>27
 | _=>117
def Cs(i:Nat)(cs:ab1):Prop:=cs.length=i/\∀c∈cs,-(bnd i)<=c/\c<=bnd i
def jO{f}(hi:i<=2)(m:BdF f i)(l:Cs i cs): -(bnd (i+1))<=atC f cs/\atC f cs<=bnd (i+1):=by
 obtain⟨a,h⟩:=f;obtain⟨b,j,k,c⟩:=m;obtain⟨d,e⟩:=l;dsimp only at b j k c;unfold atC comesTo;have:i=0\/i=1\/i=2:=%[|0]
 rcases this with rfl | rfl | rfl
 . match h,cs,b,d with
   | [],[],_,_=>simp[bnd];omega
 . match h,cs,b,d with
   | [g],[x],_,_=>have:=K6 (c g (by simp)) (e x (by simp));simp[bnd]at this ⊢;omega
 . match h,cs,b,d with
   | [g,g'],[x,x'],_,_=>have n:=K6 (c g (by simp)) (e x (by simp));have o:=K6 (c g' (by simp)) (e x' (by simp));simp[bnd]at n o ⊢;omega
def Yl:bnd i<=bnd (i+1):=by
 match i with
 | 0=>decide
 | 1=>decide
 | 2=>decide
 | i+3=>exact Int.le_refl _
def tO(i:Nat):bnd i<=117:=by
 match i with
 | 0=>decide
 | 1=>decide
 | 2=>decide
 | i+3=>exact Int.le_refl _
def Vu{ds}(b:i<=2)(e:BdF lo i)(d:BdF hi i)(hc:Cs i cs)(h:ds∈bU lo hi cs):Cs (i+1) ds:=by
 unfold bU at h;obtain⟨c,a,rfl⟩:=c8.mp h;unfold upI at a;obtain⟨k,f,rfl⟩:=c8.mp a;have f:=dV.mp f;have g:=jO b e hc;have j:=jO b d hc;refine%[by simp[hc.1]|λ c h=>?_];rcases cm.mp h with h | h;{have:=hc.2 c h;have:=Yl (i:=i);omega}
 . have:c=atC lo cs+(k:Int):=by simpa using h
   omega
def Lps(ls:List Lp):Prop:=1<=ls.length/\ls.length<=3/\∀(i:Nat)(l:Lp),ls[i]? =some l->BdF l.1 i/\BdF l.2 i
theorem jY(h:Lps ls):∀i,i<=ls.length->∀cs∈cnt (ls.take i),Cs i cs
 | 0,_,cs,a=>by
   have:cs=[]:=by simpa[cnt]using a
   subst this;exact%[rfl|λ c a=>by simp at a]
 | i+1,hi,cs,a=>by have b:=y3 (l:=ls) (i:=i) %[|0];rw[km b]at a;obtain⟨d,e,a⟩:=ge.mp a;have:=h.2.2 i _ b;have f:=h.2.1;exact Vu %[|0] this.1 this.2 (jY h i %[|0] d e) a
def Km:Nat->Nat
 | 0=>1
 | 1=>18
 | 2=>972
 | _=>227448
theorem rC:∀{ahead:ad3},(∀cs∈ahead,(bU lo hi cs).length<=m)->(aY lo hi ahead).length<=ahead.length*m
 | [],_=>by simp[aY]
 | a::as,h=>by have c:=rC (ahead:=as) λ cs b=>h cs (x4 _ b);have:=h a x6;unfold aY at c ⊢;rw[kS,x8,dQ,oS];omega
theorem HJ(h:Lps ls):∀i,i<=ls.length->(cnt (ls.take i)).length<=Km i
 | 0,_=>by simp[cnt,Km]
 | i+1,hi=>by
   have b:=y3 (l:=ls) (i:=i) %[|0];have k:=HJ h i %[|0];have j:=h.2.1;have hb:=h.2.2 i _ b;rw[km b];have e:∀a∈cnt (ls.take i),(bU ls[i].1 ls[i].2 a).length<=(2*bnd (i+1)).toNat:=λ a d=>by have c:=jY h i %[|0] a d;have f:=jO %[|0] hb.1 c;have g:=jO %[|0] hb.2 c;rw[di];omega
   have:=rC e;have:i=0\/i=1\/i=2:=%[|0]
   rcases this with rfl | rfl | rfl<;>simp[bnd,Km]at* <;>omega
def Lps.fits(h:Lps ls):Fits ls:=by
 refine%[λ l k=>?_|λ i a=>%[?_|λ g j=>?_]];{obtain⟨i,a⟩:=d6 k;have m:=(z0.mp a).1;have d:=h.2.1;obtain⟨⟨o,p,q,e⟩,r,s,t,f⟩:=h.2.2 i l a;exact%[%[%[|0],%[|0],%[|0]|λ n b=>by have:=e n b;omega],%[|0],%[|0],%[|0]|λ n b=>by have:=f n b;omega]}
 . have:=HJ h i a;have d:=h.2.1;have:i=0\/i=1\/i=2\/i=3:=%[|0]
   rcases this with rfl | rfl | rfl | rfl<;>simp only[Km]at* <;>omega
 {have c:=jY h i a g j;have d:=h.2.1;exact%[by have:=c.1;omega|λ n b=>by have:=c.2 n b;have:=tO i;omega]}
def lJ(a b:Int):D->Bool
 | .int n=>decide (a<=n)&&decide (n<=b)
 | _=>false
def qU(n:Int):Bool:=decide ((if n<0 then-n else n)<10 ^ Int.toNat 30)
def vI:D->Bool
 | .int n=>qU n
 | _=>false
def parts:D->List D
 | .tup ds=>ds
 | _=>[]
def iz(x:D):Bool:=bV x 1 3&&(parts x).all (lJ 1 2)
def isPlace(d:Int)(x:D):Bool:=dB x d&&(parts x).all (lJ (-99) 99)
def isStart(x:D)(d:Int):Bool:=dB x d&&(parts x).all vI
def jG(t p:D)(ws:ab1)(d:Int):Bool:=match t with
 | .int n=>(decide (0<=n)&&decide (n<(ws.length:Int)))&&(bV p (ws.getD n.toNat 0) (ws.getD n.toNat 0)&&(parts p).all (isPlace d))
 | _=>false
def jT(ws:ab1)(d:Int)(x:D):Bool:=match x with
 | .tup [f,t,p]=>vI f&&jG t p ws d
 | _=>false
def pg(x:D)(ws:ab1)(d:Int):Bool:=bV x 0 3&&(parts x).all (jT ws d)
def fG(ws:ab1)(d:Int)(x:D):Bool:=match x with
 | .tup [t,p,s,r]=>jG t p ws d&&(isStart s d&&pg r ws d)
 | _=>false
def iH(ws:ab1)(x:D):Bool:=match x with
 | .tup [l,ds]=>fZ l&&(bV ds 1 4&&(parts ds).all (fG ws ((parts l).length:Int)))
 | _=>false
def pH(x:D)(ws:ab1):Bool:=bV x 1 3&&(parts x).all (iH ws)
inductive c_few(ds:List D)(S:Store)(W:WD):Prop
 | mk(n:_):ds=[.int n]->W (.bl (qU n)) S->c_few ds S W
inductive c_widths(ds:List D)(S:Store)(W:WD):Prop
 | mk(x:_):ds=[x]->W (.bl (iz x)) S->c_widths ds S W
inductive c_placef(ds:List D)(S:Store)(W:WD):Prop
 | mk(x d:_):ds=[x,.int d]->0<=d->d<=1000->W (.bl (isPlace d x)) S->c_placef ds S W
inductive c_start(ds:List D)(S:Store)(W:WD):Prop
 | mk(x d:_):ds=[x,.int d]->0<=d->d<=1000->W (.bl (isStart x d)) S->c_start ds S W
def Ws(ws:ab1):Prop:=ws.length<=3/\∀w∈ws,1<=w/\w<=2
inductive c_tp(ds:List D)(S:Store)(W:WD):Prop
 | mk(t p ws d:_):ds=[t,p,.tup (List.map .int ws),.int d]->Ws ws->0<=d->d<=1000->W (.bl (jG t p ws d)) S->c_tp ds S W
inductive c_read(ds:List D)(S:Store)(W:WD):Prop
 | mk(x ws d:_):ds=[x,.tup (List.map .int ws),.int d]->Ws ws->0<=d->d<=1000->W (.bl (jT ws d x)) S->c_read ds S W
inductive c_reads(ds:List D)(S:Store)(W:WD):Prop
 | mk(x ws d:_):ds=[x,.tup (List.map .int ws),.int d]->Ws ws->0<=d->d<=1000->W (.bl (pg x ws d)) S->c_reads ds S W
inductive c_deed(ds:List D)(S:Store)(W:WD):Prop
 | mk(x ws d:_):ds=[x,.tup (List.map .int ws),.int d]->Ws ws->0<=d->d<=1000->W (.bl (fG ws d x)) S->c_deed ds S W
inductive c_nest(ds:List D)(S:Store)(W:WD):Prop
 | mk(x ws:_):ds=[x,.tup (List.map .int ws)]->Ws ws->W (.bl (iH ws x)) S->c_nest ds S W
inductive c_nests(ds:List D)(S:Store)(W:WD):Prop
 | mk(x ws:_):ds=[x,.tup (List.map .int ws)]->Ws ws->W (.bl (pH x ws)) S->c_nests ds S W
def dO(w:W (.bl (ds.all p)) S):gM.wp [.lst (ds.map λ d=>.bl (p d))] S W:=
 %[ds.map p,by rw[df];rfl|by rw[Dt];exact w]
def xM(h:bV (.tup ds) a b=true):a<=(ds.length:Int)/\(ds.length:Int)<=b:=by obtain⟨c,d⟩:=bu h;exact%[cy c|cy d]
def dg(h:bV x a b=true):∃ds,x=.tup ds/\a<=(ds.length:Int)/\(ds.length:Int)<=b:=by
 cases x with
 | tup ds=>exact%[ds,rfl|xM h]
 | _=>exact ff h
def pG{n}{Q:WD}(c:Q (.bl (lJ a b (.int n))) S):(decide (a<=n)=false->Q (.bl false) S)/\(decide (a<=n)=true->Q (.bl (decide (n<=b))) S):=by have e:lJ a b (.int n)=(decide (a<=n)&&decide (n<=b)):=rfl;rw[e]at c;exact%[λ h=>by rw[h]at c;exact c|λ h=>by rw[h]at c;exact c]
def kZ(F:Fun Ω.K "has_few_figures" "has_few_figures" fL f fd)(a:%[|7])(B:%[|2]):Ok Ω 1 f fd mG c_few:=by refine aC a (N:=mG) F (my B) %[|8] ?_;rintro c S W ⟨n,rfl,b⟩ d;try?;exact b
def vV(F:Fun Ω.K "is_widths" "is_widths" lW f fd)(j:%[|7])(B:%[|2])(b:Cal Ω "is_whole" 1 1 c_whole)(a:Cal Ω "is_tuple_of" 1 3 c_tup):Ok Ω 2 f fd Ca c_widths:=by
 refine aC j (N:=Ca) F (yX B b a) %[|8] ?_;rintro k S W ⟨x,rfl,c⟩ m;try?;refine%[rfl,_,_,_,rfl|?_];try?;unfold iz at c;refine%[λ h=>?_|λ h=>by rw[h]at c;exact c];rw[h]at c;obtain⟨k,rfl,o,p⟩:=dg h;try?;refine d9 (λ d=>.bl (lJ 1 2 d)) %[|0] ?_ (dO c);intro i e l Q g;try?;refine%[rfl,_,rfl|?_]
 cases e with
 | int n=>try?;refine%[(pG g).1|λ h=>?_];try?;exact(pG g).2 h
 | _=>try?;exact g
def nQ(F:Fun Ω.K "is_place_form" "is_place_form" gR f fd)(k:%[|7])(B:%[|2])(b:Cal Ω "is_form" 2 2 c_form):Ok Ω 3 f fd Fw c_placef:=by
 refine aC k (N:=Fw) F (pQ B b) %[|8] ?_;rintro o S W ⟨x,d,rfl,g,l,c⟩ r;try?;refine%[rfl,_,_,rfl,l|?_];try?;unfold isPlace at c;refine%[λ h=>?_|λ h=>by rw[h]at c;exact c];rw[h]at c;obtain⟨a,p,rfl,q⟩:=jF h g;try?;refine d9 (λ d=>.bl (lJ (-99) 99 d)) (by simp;omega) ?_ (dO c);intro i e m Q j;have:∃n,e=.int n:=by have:=y4 m;rcases ci.mp this with rfl | h;{exact%[_|rfl]};{obtain⟨n,_,rfl⟩:=c8.mp h;exact%[n|rfl]}
 obtain⟨n,rfl⟩:=this;try?;refine%[(pG j).1|λ h=>?_];try?;exact(pG j).2 h
def yM(F:Fun Ω.K "is_start" "is_start" nH f fd)(k:%[|7])(B:%[|2])(c:Cal Ω "is_form" 2 2 c_form)(b:Cal Ω "has_few_figures" 1 1 c_few):Ok Ω 3 f fd Fw c_start:=by
 refine aC k (N:=Fw) F (Bg B c b) %[|8] ?_;rintro p S W ⟨x,d,rfl,j,l,g⟩ s;try?;refine%[rfl,_,_,rfl,l|?_];try?;unfold isStart at g;refine%[λ h=>?_|λ h=>by rw[h]at g;exact g];rw[h]at g;obtain⟨a,q,rfl,r⟩:=jF h j;try?;refine d9 (λ d=>.bl (vI d)) (by simp;omega) ?_ (dO g);intro i e m Q o;have:∃n,e=.int n:=by have:=y4 m;rcases ci.mp this with rfl | h;{exact%[_|rfl]};{obtain⟨n,_,rfl⟩:=c8.mp h;exact%[n|rfl]}
 obtain⟨n,rfl⟩:=this;try?;exact%[rfl,_,rfl|o]
def iW(F:Fun Ω.K "is_table_with_place" "is_table_with_place" dZ f fd)(A:%[|7])(B:%[|2])(o:Cal Ω "is_whole" 1 1 c_whole)(m:Cal Ω "is_tuple_of" 1 3 c_tup)(l:Cal Ω "is_place_form" 3 2 c_placef):Ok Ω 4 f fd jo c_tp:=by
 refine aC A (N:=jo) F (ji B o m l) %[|8] ?_;rintro C S W ⟨t,p,a,d,rfl,hws,s,G,b⟩ K;try?;refine%[rfl,_,rfl|?_]
 cases t with
 | int n=>
   have e:jG (.int n) p a d=((decide (0<=n)&&decide (n<(a.length:Int)))&&(bV p (a.getD n.toNat 0) (a.getD n.toNat 0)&&(parts p).all (isPlace d))):=rfl;rw[e]at b;have y:((a.map D.int).length:Int)=(a.length:Int):=by rw[y7]
   try?;refine%[λ h=>?_|λ h=>?_];{rw[h]at b;try?;exact b};rw[h,i6]at b;try?;rw[y];refine%[λ c=>?_|λ c=>?_];{have c:decide (n<(a.length:Int))=false:=nt c;rw[c]at b;try?;exact b};have c:decide (n<(a.length:Int))=true:=by
    cases q:decide (n<(a.length:Int))with
    | true=>rfl
    | false=>rw[q]at c;exact tf c
   rw[c,i6]at b;have E:=cy h;have I:=cy c;have u:n.toNat<a.length:=%[|0]
   have z:a.getD n.toNat 0=a[n.toNat]:=by simp[List.getD,u]
   have k:atI (a.map D.int) n=some (.int (a.getD n.toNat 0)):=by have:=cG (xs:=a.map D.int) (j:=n.toNat) (v:=.int a[n.toNat]) (by rw[y8,y3 u];rfl);rw[pE E]at this;rw[z];exact this
   have g:=hws.2 _ (List.getElem_mem u);rw[<-z]at g;generalize a.getD n.toNat 0=w at k b g;try?;refine%[_,k|?_];try?;refine%[_,k|?_];try?;refine%[rfl,_,_,_,rfl|?_];try?;refine%[λ r=>?_|λ r=>by rw[r]at b;exact b];rw[r]at b;obtain⟨C,rfl,L,M⟩:=dg r;try?;refine d9 (λ x=>.bl (isPlace d x)) %[|0] ?_ (dO b);intro i e J Q H;try?;exact%[rfl,_,_,rfl,s,G|H]
 | _=>try?;exact b
def BW(F:Fun Ω.K "is_read" "is_read" qI f fd)(w:%[|7])(m:Cal Ω "is_whole" 1 1 c_whole)(l:Cal Ω "is_tuple_of" 1 3 c_tup)(j:Cal Ω "has_few_figures" 1 1 c_few)(k:Cal Ω "is_table_with_place" 4 4 c_tp):Ok Ω 5 f fd G6 c_read:=by
 refine aC w (N:=G6) F (FQ m l j k) %[|8] ?_;rintro o S W ⟨x,u,d,rfl,r,q,y,g⟩ z;try?;refine%[rfl,_,_,_,rfl|?_]
 cases h:bV x 3 3 with
 | false=>
   have e:jT u d x=false:=by
    cases x with
    | tup o=>
      match o,h with
      | [a,b,c],h=>exact tf h
      | [],_=>rfl
      | [_],_=>rfl
      | [_,_],_=>rfl
      | _::_::_::_::_,_=>rfl
    | _=>rfl
   rw[e]at g;try?;exact g
 | true=>
   obtain⟨o,rfl,i,s⟩:=dg h;match o,i,s,g with
   | [f, t,p],_,_,g=>
     try?;refine%[rfl,_,rfl|?_];have e:jT u d (.tup [f,t,p])=(vI f&&jG t p u d):=rfl;rw[e]at g
     cases f with
     | int n=>
       try?;refine%[rfl,_,rfl|?_];have e:vI (.int n)=qU n:=rfl;rw[e]at g
       cases v:qU n with
       | true=>rw[v]at g;try?;exact%[rfl,_,_,_,_,rfl,r,q,y|g]
       | false=>rw[v]at g;try?;exact g
     | _=>try?;exact g
   | [],i,_,_=>simp at i
   | [_],i,_,_=>simp at i
   | [_,_],i,_,_=>simp at i
   | _::_::_::_::es,_,s,_=>simp at s;omega
def zj(F:Fun Ω.K "is_reads" "is_reads" m6 f fd)(k:%[|7])(B:%[|2])(b:Cal Ω "is_tuple_of" 1 3 c_tup)(a:Cal Ω "is_read" 5 3 c_read):Ok Ω 6 f fd G6 c_reads:=by refine aC k (N:=G6) F (z8 B b a) %[|8] ?_;rintro l S W ⟨x,o,d,rfl,j,g,m,c⟩ q;try?;refine%[rfl,_,_,_,rfl|?_];try?;unfold pg at c;refine%[λ h=>?_|λ h=>by rw[h]at c;exact c];rw[h]at c;obtain⟨l,rfl,r,s⟩:=dg h;try?;refine d9 (λ x=>.bl (jT o d x)) %[|0] ?_ (dO c);intro i e p Q n;try?;exact%[rfl,_,_,_,rfl,j,g,m|n]
def zV(F:Fun Ω.K "is_deed" "is_deed" qM f fd)(A:%[|7])(n:Cal Ω "is_tuple_of" 1 3 c_tup)(l:Cal Ω "is_start" 3 2 c_start)(m:Cal Ω "is_table_with_place" 4 4 c_tp)(k:Cal Ω "is_reads" 6 3 c_reads):Ok Ω 7 f fd G6 c_deed:=by
 refine aC A (N:=G6) F (Gd n l m k) %[|8] ?_;rintro u S W ⟨x,q,d,rfl,o,j,v,g⟩ B;try?;refine%[rfl,_,_,_,rfl|?_]
 cases h:bV x 4 4 with
 | false=>
   have e:fG q d x=false:=by
    cases x with
    | tup u=>
      match u,h with
      | [a,b,c,d],h=>exact tf h
      | [],_=>rfl
      | [_],_=>rfl
      | [_,_],_=>rfl
      | [_,_,_],_=>rfl
      | _::_::_::_::_::_,_=>rfl
    | _=>rfl
   rw[e]at g;try?;exact g
 | true=>
   obtain⟨u,rfl,i,w⟩:=dg h;match u,i,w,g with
   | [t, p,s,r],_,_,g=>
     have e:fG q d (.tup [t,p,s,r])=(jG t p q d&&(isStart s d&&pg r q d)):=rfl;rw[e]at g;try?;refine%[rfl,_,_,_,_,rfl,o,j,v|?_]
     cases y:jG t p q d with
     | false=>rw[y]at g;try?;exact g
     | true=>
       rw[y,i6]at g;try?;refine%[rfl,_,_,rfl,j,v|?_]
       cases z:isStart s d with
       | false=>rw[z]at g;try?;exact g
       | true=>rw[z,i6]at g;try?;exact%[rfl,_,_,_,rfl,o,j,v|g]
   | [],i,_,_=>simp at i
   | [_],i,_,_=>simp at i
   | [_,_],i,_,_=>simp at i
   | [_,_,_],i,_,_=>simp at i
   | _::_::_::_::_::es,_,w,_=>simp at w;omega
def zZ(F:Fun Ω.K "is_nest" "is_nest" qN f fd)(u:%[|7])(B:%[|2])(k:Cal Ω "is_tuple_of" 1 3 c_tup)(j:Cal Ω "is_loops" 5 1 c_loops)(g:Cal Ω "is_deed" 7 3 c_deed):Ok Ω 8 f fd Gj c_nest:=by
 refine aC u (N:=G6) F (Gm B k j g) %[|8] ?_;rintro n S W ⟨x,m,rfl,r,c⟩ z;try?;refine%[rfl,_,_,_,rfl|?_]
 cases h:bV x 2 2 with
 | false=>
   have e:iH m x=false:=by
    cases x with
    | tup n=>
      match n,h with
      | [a,b],h=>exact tf h
      | [],_=>rfl
      | [_],_=>rfl
      | _::_::_::_,_=>rfl
    | _=>rfl
   rw[e]at c;try?;exact c
 | true=>
   obtain⟨n,rfl,d,q⟩:=dg h;match n,d,q,c with
   | [l, dd],_,_,c=>
     have e:iH m (.tup [l,dd])=(fZ l&&(bV dd 1 4&&(parts dd).all (fG m ((parts l).length:Int)))):=rfl;rw[e]at c;try?;refine%[rfl,_,rfl|?_]
     cases o:fZ l with
     | false=>rw[o]at c;try?;exact c
     | true=>
       rw[o,i6]at c
       cases l with
       | tup s=>have t:(s.length:Int)<=3:=cy (bu (bu o).1).2;have c:W (.bl (bV dd 1 4&&(parts dd).all (fG m (s.length:Int)))) S:=c;try?;refine%[rfl,_,_,_,rfl|?_];try?;refine%[λ p=>?_|λ p=>by rw[p]at c;exact c];rw[p]at c;obtain⟨v,rfl,d,q⟩:=dg p;try?;refine d9 (λ x=>.bl (fG m (s.length:Int) x)) %[|0] ?_ (dO c);intro i e y Q w;try?;exact%[rfl,_,_,_,rfl,r,%[|0],%[|0]|w]
       | _=>exact ff o
   | [],d,_,_=>simp at d
   | [_],d,_,_=>simp at d
   | _::_::_::v,_,q,_=>simp at q;omega
def zc(F:Fun Ω.K "is_nests" "is_nests" nT f fd)(g:%[|7])(B:%[|2])(b:Cal Ω "is_tuple_of" 1 3 c_tup)(a:Cal Ω "is_nest" 8 2 c_nest):Ok Ω 9 f fd Gj c_nests:=by refine aC g (N:=Gj) F (Ak B b a) %[|8] ?_;rintro j S W ⟨x,l,rfl,d,c⟩ n;try?;refine%[rfl,_,_,_,rfl|?_];try?;unfold pH at c;refine%[λ h=>?_|λ h=>by rw[h]at c;exact c];rw[h]at c;obtain⟨j,rfl,o,p⟩:=dg h;try?;refine d9 (λ x=>.bl (iH l x)) %[|0] ?_ (dO c);intro i e m Q k;try?;exact%[rfl,_,_,rfl,d|k]
structure Rd where
 fac:Int
 tab:Nat
 pl:List Fm
structure Dd where
 tab:Nat
 pl:List Fm
 st:Fm
 rds:List Rd
structure Ns where
 lps:List Lp
 dds:List Dd
structure Pg where
 ws:List Int
 nss:List Ns
def dP(pl:List Fm):D:=.tup (pl.map dF)
def dRd(r:Rd):D:=.tup [.int r.fac,.int r.tab,dP r.pl]
def dDd(x:Dd):D:=.tup [.int x.tab,dP x.pl,dF x.st,.tup (x.rds.map dRd)]
def dNs(n:Ns):D:=.tup [.tup (n.lps.map dL),.tup (n.dds.map dDd)]
def dWs(ws:ab1):D:=.tup (ws.map .int)
def dPg(p:Pg):D:=.tup [dWs p.ws,.tup (p.nss.map dNs)]
def many(nss:List Ns):Int:=(nss.map λ n=>((cnt n.lps).length:Int)*(n.dds.length:Int)).sum
def mX(n:Ns):Prop:=1<=n.lps.length/\Fits n.lps/\n.dds.length<=1000
def tB:Ct:=λ b S W=>∃a,b=[.tup (List.map dNs a)]/\a.length<=1000/\(∀n∈a,mX n)/\flat S/\W (.int (many a)) S
def Ek:Ct:=λ a S W=>∃p:Pg,a=[dWs p.ws,.tup (List.map dNs p.nss)]/\iz (dWs p.ws)=true/\pH (.tup (p.nss.map dNs)) p.ws=true/\p.nss.length<=1000/\(∀n∈p.nss,mX n)/\many p.nss<=60/\flat S/\W (dPg p) S
def Oq(h:iz (dWs ws)=true):Ws ws:=by obtain⟨c,d⟩:=bu h;have:=xM c;refine%[by simp at this;omega|λ w f=>?_];have e:=gc.mp d (.int w) (c8.mpr %[w,f|rfl]);obtain⟨a,b⟩:=bu e;exact%[cy a|cy b]
def kj(F:Fun Ω.K "number_of_steps" "number_of_steps" fK f fd)(d:%[|7])(B:%[|2])(a:Cal Ω "counts_of" 3 1 c_counts):Ok Ω 4 f fd lZ tB:=by
 refine aC d (N:=lZ) F (mF B a) %[|8] ?_;rintro p S W ⟨c,rfl,s,b,k,o⟩ r;try?;refine iJ (λ n=>.int (((cnt n.lps).length:Int)*(n.dds.length:Int))) %[|0] ?_ ?_
 . intro i n l Q m;obtain⟨h,h2,q⟩:=b n (y4 l);have j:=(h2.2 n.lps.length (y9 _)).1;rw[cr]at j;try?;refine%[rfl|?_];try?;refine%[rfl,_,rfl,h,h2,k|.inl ?_];have e:(((cnt n.lps).map dC).length:Int)=((cnt n.lps).length:Int):=by rw[y7]
   have g:((n.dds.map dDd).length:Int)=(n.dds.length:Int):=by rw[y7]
   walk_at "n";rw[e,g];exact%[.inl %[%[|0]|%[|0]]|m]
 {exact%[c.map λ(n:Ns)=>((cnt n.lps).length:Int)*(n.dds.length:Int),by rw[df];rfl|o]}
def tZ(F:Fun Ω.K "program_of" "program_of" j7 f fd)(h:%[|7])(B:%[|2])(b:Cal Ω "is_widths" 2 1 c_widths)(a:Cal Ω "is_nests" 9 2 c_nests)(c:Cal Ω "number_of_steps" 4 1 tB):Ok Ω 10 f fd uU Ek:=by refine aC h (N:=uU) F (uT B b a c) %[|8] ?_;rintro n S W ⟨p,rfl,g,i,m,d,j,k,l⟩ o;have e:=Oq g;try?;refine%[rfl,_,rfl|?_];rw[g];try?;refine%[rfl,_,_,rfl,e|?_];rw[i];try?;refine%[rfl,_,rfl,m,d,k|?_];try?;rw[cK %[|0]];try?;exact l
abbrev Stp:=Nat×List Int×Nat
def dSt(s:Stp):D:=.tup [.int s.1,dC s.2.1,.int s.2.2]
def cZ(i:Nat)(n:Ns):List Stp:=(cnt n.lps).flatMap λ a=>(List.range n.dds.length).map λ s=>(i,a,s)
def aQ(nss:List Ns):List Stp:=(nss.mapIdx cZ).flatten
inductive c_steps(ds:List D)(S:Store)(W:WD):Prop
 | mk(p:Pg):ds=[dPg p]->p.nss.length<=1000->(∀n∈p.nss,mX n)->(aQ p.nss).length<=1000000->flat S->hand W ((aQ p.nss).map dSt) S->c_steps ds S W
def jD{nss:List Ns}{n}(h:nss[i]? =some n):aQ (nss.take (i+1))=aQ (nss.take i)++cZ i n:=by unfold aQ;rw[aD h,List.mapIdx_append,List.flatten_append];have a:=(z0.mp h).1;simp only[List.mapIdx_cons,List.mapIdx_nil,iS,List.flatten_nil,gS,ej];rw[pj %[|0],mE]
def sG(xs:List Stp):aa (xs.map dSt)=true:=by
 induction xs with
 | nil=>rfl
 | cons x xs a=>simp only[cn,aa,a,dk];have:=nO [x.2.1];simp only[cn,kT,aa,dk]at this;show aa [D.int _,dC x.2.1,D.int _]=true;simp only[aa,this,dk];rfl
def NZ(h:flat S)(a:aa l=true):flat (S++[l]):=λ x b=>by rcases cm.mp b with q | q;{exact h x q};{rw[cb.mp q];exact a}
def MP{n}(h:nss[i]? =some n):(aQ (nss.take i)).length+(cZ i n).length<=(aQ nss).length:=by
 have e:∃a,aQ nss=aQ (nss.take (i+1))++a:=by
  unfold aQ;conv=>enter [1,a,1,1];rw[<-gt (i+1) nss]
  rw[List.mapIdx_append,List.flatten_append];exact%[_|rfl]
 obtain⟨a,e⟩:=e;rw[e,jD h,x8,x8];omega
def za(F:Fun Ω.K "steps_of" "steps_of" oK f fd)(z:%[|7])(B:%[|2])(l:Cal Ω "counts_of" 3 1 c_counts):Ok Ω 4 f fd Bm c_steps:=by
 refine aC z (N:=DK) F (Bl.frz (Es B l)) %[|8] ?_;rintro J S W ⟨p,rfl,P,u,y,x,I⟩ M;try?;refine cu %[λ i a b=>(∃v w k g,a=[some (dPg p),%[|19],v,w,k,g])/\b=S++[(aQ (p.nss.take i)).map dSt],%[%[_,_,_,_|rfl]|rfl],?_|?_]
 . rintro i e a b o ⟨⟨v,w,k,g,rfl⟩,rfl⟩;obtain⟨K,q,rfl⟩:=Ul o;obtain⟨n,r,rfl⟩:=aV q;obtain⟨G,H,L⟩:=u n (y4 r);have Q:=MP r;try?;refine%[rfl|?_];try?;refine%[rfl,_,rfl,G,H,NZ x (sG _)|.inl ?_];walk_at "n";refine cu %[λ j a b=>(∃k g,a=[some (dPg p),%[|19],some (.int (i:Int)),some (dNs n),k,g])/\b=S++[(aQ (p.nss.take i)++((cnt n.lps).take j).flatMap λ h=>(List.range n.dds.length).map λ s=>(i,h,s)).map dSt],%[%[_,_|rfl]|by simp],?_|?_]
   . rintro j e a b o ⟨⟨k,g,rfl⟩,rfl⟩;obtain⟨h,m,rfl⟩:=aV o;have A:((n.dds.map dDd).length:Int)=(n.dds.length:Int):=by rw[y7]
     have R:((cnt n.lps).take j |>.flatMap λ h=>(List.range n.dds.length).map λ s=>(i,h,s)).length+n.dds.length<=(cZ i n).length:=by
      have:∃c,cZ i n=((cnt n.lps).take (j+1) |>.flatMap λ h=>(List.range n.dds.length).map λ s=>(i,h,s))++c:=by
       unfold cZ;conv=>enter [1,c,1,2];rw[<-gt (j+1) (cnt n.lps)]
       rw[jS];exact%[_|rfl]
      obtain⟨c,C⟩:=this;rw[C,aD m,jS,x8,x8];simp
     try?;rw[A];refine%[%[%[|0]|%[|0]]|cu %[λ t a b=>(∃g,a=[some (dPg p),%[|19],some (.int (i:Int)),some (dNs n),some (dC h),g])/\b=S++[((aQ (p.nss.take i)++((cnt n.lps).take j).flatMap λ h=>(List.range n.dds.length).map λ s=>(i,h,s))++(List.range t).map λ s=>(i,h,s)).map dSt],%[%[_|rfl]|by simp],?_|?_]]
     . rintro t e a b o ⟨⟨g,rfl⟩,rfl⟩;obtain⟨O,rfl⟩:=cU o;have E:(0:Int)+(t:Int)=(t:Int):=%[|0]
       rw[E];try?;refine%[_,aO _ _,by simp only[y7,x8,ic];omega|?_];refine%[%[_|rfl]|?_];rw[cj,mh];simp only[cE,cn,kT,ca];rfl
     {rintro a b ⟨⟨g,rfl⟩,rfl⟩;refine%[%[_,_|rfl]|?_];rw[aF,aD m,jS,List.flatMap_singleton,<-ca,e8]}
   {rintro a b ⟨⟨k,g,rfl⟩,rfl⟩;refine%[%[_,_,_,_|rfl]|?_];rw[y7,cr,jD r];rfl}
 . rintro a b ⟨⟨v,w,k,g,rfl⟩,rfl⟩;have e:((p.nss.map dNs).mapIdx λ i d=>D.tup [D.int (i:Int),d]).length=p.nss.length:=by simp
   rw[e,cr];exact qO I (sG _) x
inductive c_deedof(ds:List D)(S:Store)(W:WD):Prop
 | mk(p:Pg)(s:Stp)(n:Ns)(x:Dd):ds=[dPg p,dSt s]->p.nss[s.1]? =some n->n.dds[s.2.2]? =some x->W (dDd x) S->c_deedof ds S W
abbrev Cell:=Nat×List Int
def bJ(c:Cell):D:=.tup [.int c.1,.tup (c.2.map .int)]
def C64(cs:ab1):Prop:=∀c∈cs,-(2 ^ 64)<c/\c<2 ^ 64
def Kr(pl:List Fm):Prop:=pl.length<=1000/\∀f∈pl,f.2.length<=1000
def spot(t:Nat)(pl:List Fm)(cs:ab1):Cell:=(t,pl.map λ f=>atC f cs)
inductive c_cellat(ds:List D)(S:Store)(W:WD):Prop
 | mk(t:Nat)(pl:List Fm)(cs:ab1):ds=[.int t,dP pl,dC cs]->Kr pl->C64 cs->W (bJ (spot t pl cs)) S->c_cellat ds S W
def Ds(F:Fun Ω.K "deed_of" "deed_of" qL f fd)(a:%[|7]):Ok Ω 1 f fd Gq c_deedof:=by refine aC a (N:=Gq) F (Gk) %[|8] ?_;rintro j S W ⟨p,⟨i,h,t⟩,n,x,rfl,d,g,e⟩ k;have b:atI (p.nss.map dNs) ((i:Nat):Int)=some (dNs n):=cG (by rw[y8,d];rfl);have c:atI (n.dds.map dDd) ((t:Nat):Int)=some (dDd x):=cG (by rw[y8,g];rfl);try?;refine%[_,b|?_];try?;exact%[_,c|e]
def Dj(F:Fun Ω.K "cell_at" "cell_at" qG f fd)(h:%[|7])(B:%[|2])(a:Cal Ω "comes_to" 1 2 c_comes):Ok Ω 2 f fd Fo c_cellat:=by
 refine aC h (N:=Fo) F (FJ B a) %[|8] ?_;rintro l S W ⟨t,g,b,rfl,hpl,c,d⟩ m;try?;refine iJ (λ f=>.int (atC f b)) (by have:=hpl.1;omega) ?_ ?_;{intro i f j Q k;try?;exact%[rfl,f.1,f.2,b,rfl,hpl.2 f (y4 j),c|k]}
 . try?;have e:(spot t g b).2.map D.int=g.map λ f=>D.int (atC f b):=by unfold spot;rw[df];rfl
   unfold bJ at d;rw[e]at d;exact d
def dCs(x:Dd)(cs:ab1):D:=.tup [bJ (spot x.tab x.pl cs),.lst (x.rds.map λ r=>bJ (spot r.tab r.pl cs))]
def Qg(x:Dd):Prop:=Kr x.pl/\x.rds.length<=1000/\∀r∈x.rds,Kr r.pl
inductive c_cellsStep(ds:List D)(S:Store)(W:WD):Prop
 | mk(p:Pg)(s:Stp)(n:Ns)(x:Dd):ds=[dPg p,dSt s]->p.nss[s.1]? =some n->n.dds[s.2.2]? =some x->Qg x->C64 s.2.1->W (dCs x s.2.1) S->c_cellsStep ds S W
def nD(F:Fun Ω.K "cells_of_step" "cells_of_step" gO f fd)(e:%[|7])(b:Cal Ω "deed_of" 1 2 c_deedof)(a:Cal Ω "cell_at" 2 3 c_cellat):Ok Ω 3 f fd Gq c_cellsStep:=by refine aC e (N:=qi) F (qg b a) %[|8] ?_;rintro o S W ⟨p,⟨i,d,t⟩,n,x,rfl,g,m,hok,c,l⟩ q;try?;refine%[rfl,p,(i,d,t),n,x,rfl,g,m|?_];try?;refine iJ (λ r=>bJ (spot r.tab r.pl d)) (by have:=hok.2.1;omega) ?_ ?_;{intro j r k Q h;try?;refine%[rfl|?_];try?;exact%[rfl,r.tab,r.pl,d,rfl,hok.2.2 r (y4 k),c|h]};{try?;refine%[rfl,x.tab,x.pl,d,rfl,hok.1,c|?_];try?;exact l}
def jE(ns:ab1)(c n:Int):List D:=[.int c,.int n,.lst (ns.map .int)]
def aU(S:Store)(k:Nat):Prop:=∃a c n,S[k]? =some (jE a c n)/\0<=n
def aX(S:Store)(k:Nat)(S':Store):Prop:=∃a c n,S'=S.set k (jE a c n)/\0<=n
def aX.trans{d e}(a:aX S k d)(b:aX d k e):aX S k e:=by obtain⟨_,_,_,rfl,_⟩:=a;obtain⟨g,c,n,rfl,f⟩:=b;exact%[g,c,n,by rw[List.set_set]|f]
def aX.refl(p:aU S k):aX S k S:=by obtain⟨b,c,n,h,a⟩:=p;exact%[b,c,n,by obtain⟨d,e⟩:=z0.mp h;rw[<-e,List.set_getElem_self]|a]
def aX.len(u:aX S k S'):S'.length=S.length:=by obtain⟨_,_,_,rfl,_⟩:=u;simp
def aX.pen(p:aU S k)(u:aX S k S'):aU S' k:=by obtain⟨_,_,_,h,_⟩:=p;obtain⟨b,c,n,rfl,a⟩:=u;exact%[b,c,n,set_get h|a]
def aU.lt(p:aU S k):k<S.length:=by obtain⟨_,_,_,h,_⟩:=p;exact(z0.mp h).1
def aU.app(J:Store)(p:aU S k):aU (S++J) k:=by have a:=p.lt;obtain⟨d,c,n,h,b⟩:=p;exact%[d,c,n,by rw[x9 a];exact h|b]
def aX.split(p:aU S k)(u:aX (S++J) k T):∃S',T=S'++J/\aX S k S'/\aU S' k:=by have b:=p.lt;obtain⟨a,c,n,rfl,d⟩:=u;have u:aX S k (S.set k (jE a c n)):=%[a,c,n,rfl|d];exact%[S.set k (jE a c n),by rw[List.set_append_left k _ b],u|u.pen p]
def bH(ns:ab1):aa (ns.map D.int)=true:=by
 induction ns with
 | nil=>rfl
 | cons y b a=>simp only[cn,aa,a,dk];rfl
def qy(ns:ab1)(c n:Int):aa (jE ns c n)=true:=by show(aa (ns.map D.int)&&true)=true;rw[bH];rfl
def aX.flat(u:aX S k S')(h:flat S):RF.flat S':=by obtain⟨b,c,n,rfl,_⟩:=u;intro l a;rcases ml a with a | rfl;{exact h l a};{exact qy ..}
inductive c_cellB(ds:List D)(S:Store)(W:WD):Prop
 | mk(ns k:_):ds=[.lst (List.map .int ns),.int k]->0<=k->(∀v,W (.int v) S)->c_cellB ds S W
inductive c_penB(ds:List D)(S:Store)(W:WD):Prop
 | mk(ns k:_):ds=[.lst (List.map .int ns),.int k]->0<=k->(∀c,W (.loc S.length) (S++[jE ns c k]))->c_penB ds S W
inductive c_takeB(ds:List D)(S:Store)(W:WD):Prop
 | mk(k m:_):ds=[.loc k,.int m]->aU S k->0<m->m<1000000000000000000000000000000000000000000000000000000000000->(∀v S',0<=v->v<m->aX S k S'->aU S' k->W (.int v) S')->c_takeB ds S W
def aR{m}(b:aU S k)(a:0<m)(h1:m<1000000000000000000000000000000000000000000000000000000000000)(w:∀v S',0<=v->v<m->aX S k S'->aU S' k->W (.int v) S'):([D.loc k,.int m].length=2/\c_takeB [.loc k,.int m] S W):=%[rfl,k,m,rfl,b,a,h1|w]
def Ou(F:Fun Ω.K "_law_cell" "_law_cell" zJ f fd)(j:%[|7])(B:%[|2]):Ok Ω 1 f fd Ss c_cellB:=by
 refine aC j (N:=RJ) F (PT B) %[|8] ?_;rintro ds S W ⟨c,k,rfl,m,i⟩ n;have a:∀v:Int,(sI B).wp [some (.lst (c.map .int)),some (.int k),some (.int v)] S {nx:=λ _ g=>W .non g,rt:=W}:=by intro v;have e:=mI ((v % 2147483629+6151*k+1)*48271) (b:=2147483647) %[|1];have l:=pu ((v % 2147483629+6151*k+1)*48271) (b:=2147483647) %[|1];try?;exact i _
 have d:∀v:Int,(tG B).wp [some (.lst (c.map .int)),some (.int k),some (.int v)] S {nx:=λ _ g=>W .non g,rt:=W}:=by intro v;try?;refine%[λ q=>?_|λ q=>%[λ z=>ff z|λ _=>a v]];have q:=cy q;obtain⟨x,h,e⟩:=iD (ds:=c.map D.int) (v:=0) %[|1] %[|0];obtain⟨y,_,rfl⟩:=c8.mp (y4 e);try?;refine%[_,h|?_];try?;refine%[λ _=>?_|λ _=>a v];try?;exact i _
 try?;refine%[λ q=>?_|λ q=>d 7];have q:=cy q;try?;obtain⟨x,h,e⟩:=iD (ds:=c.map D.int) (v:=k % ((c.map D.int).length:Int)) (pu _ %[|0]) (mI _ q);obtain⟨y,_,rfl⟩:=c8.mp (y4 e);exact%[_,h|d y]
def R3(F:Fun Ω.K "_law_pen" "_law_pen" Ip f fd)(b:%[|7])(a:Cal Ω "_law_cell" 1 2 c_cellB):Ok Ω 2 f fd Ss c_penB:=by refine aC b (N:=Ss) F (WK a) %[|8] ?_;rintro h S W ⟨g,k,rfl,d,e⟩ i;try?;refine%[rfl,g,k,rfl,d|λ c=>?_];try?;exact e c
def Oc(F:Fun Ω.K "_law_take" "_law_take" z6 f fd)(i:%[|7])(g:Cal Ω "_law_cell" 1 2 c_cellB):Ok Ω 2 f fd Qw c_takeB:=by
 refine aC i (N:=Ri) F (Qk g) %[|8] ?_;rintro s S W ⟨k,m,rfl,⟨e,c,n,o,p⟩,j,t,q⟩ u;have r:∀l:List D,(S.set k l)[k]? =some l:=λ l=>set_get o;have a:∀d b,0<=b->W (.int (c % m)) (S.set k (jE e d b)):=λ d b h=>
  q _ _ (pu _ %[|0]) (mI _ j) %[e,d,b,rfl|h] %[e,d,b,r _|h];try?;refine%[λ _=>?_|λ _=>a (c/m) n p];try?;refine%[rfl,e,n+1,rfl,%[|0]|λ v=>?_];try?;exact a v (n+1) %[|0]
def cC{a:Bl Ω}{W}{b}(P:Nat->Gam->%[|4])(e:P 0 Γ b)(f:∀I:Nat->Gam->%[|4],(∀i G T,P i G T->I i G T)->∀i d Γ' S',ds[i]? =some d->P i Γ' S'->c.wp d Γ' λ Γ2=>a.wp Γ2 S' {W with nx:=I (i+1),ct:=I (i+1),bk:=W.nx})(g:∀Γ' S',P ds.length Γ' S'->W.nx Γ' S'):iC Γ c a W ds b:=
 cu %[P,e,f P λ _ _ _ h=>h|g]
def Dp{a:Bl Ω}{W}{b}(P:Nat->Gam->%[|4])(d:P 0 Γ b)(g:∀i Γ' S',P i Γ' S'->S'[k]? =some (.non::kvs.map encC))(e:∀I:Nat->Gam->%[|4],(∀i G T,P i G T->I i G T)->∀i kv Γ' S',kvs[i]? =some kv->P i Γ' S'->c.wp (cD kv.1) Γ' λ Γ2=>a.wp Γ2 S' {W with nx:=I (i+1),ct:=I (i+1),bk:=W.nx})(f:∀Γ' S',P kvs.length Γ' S'->W.nx Γ' S'):zU Γ c a W k kvs b:=
 Vj %[P,d,g,e P λ _ _ _ h=>h|f]
def cg(h:n=S.length):(S++[l])[n]? =some l:=by subst h;exact aO _ _
def gq(h:n=S.length):(S++[l]).set n l'=S++[l']:=by subst h;exact cj _ _ _
def bR(h:flat S)(b:aa l=true):flat (S++[l]):=by
 intro x a;rcases cm.mp a with a | a;{exact h x a}
 . have:x=l:=by simpa using a
   subst this;exact b
def fU(f:Fm):az (dF f)=true:=bH (f.1::f.2)
def RX(ns:ab1):Prop:=∀n∈ns,-99<=n/\n<=99
def FmB(d:Nat)(w:Int)(f:Fm):Prop:=f.2.length=d/\RX f.2/\((-w<=f.1/\f.1<=w)\/(w=1/\ -99<=f.1/\f.1<=99))
inductive c_formB(ds:List D)(S:Store)(W:WD):Prop
 | mk(k d:Nat)(w:Int):ds=[.loc k,.int d,.int w]->aU S k->flat S->d<=10->1<=w->w<1000000000000000000000000000000->(∀f S',FmB d w f->aX S k S'->aU S' k->flat S'->W (dF f) S')->c_formB ds S W
theorem rR{P:Int->Prop}:∀{ys:List D},(∀(i:Nat)(y:D),ys[i]? =some y->∃n:Int,y=D.int n/\P n)->∃fs:List Int,ys=fs.map D.int/\∀n∈fs,P n
 | [],_=>%[[],rfl|by simp]
 | y::ys,h=>by obtain⟨n,rfl,d⟩:=h 0 y rfl;obtain⟨fs,rfl,c⟩:=rR (ys:=ys) λ i y b=>h (i+1) y (by simpa using b);exact%[n::fs,rfl|by intro m a;rcases ci.mp a with rfl | a;{exact d};{exact c m a}]
def PN(F:Fun Ω.K "_law_form" "_law_form" Ai f fd)(V:%[|7])(B:%[|2])(l:Cal Ω "_law_take" 2 2 c_takeB):Ok Ω 3 f fd Qi c_formB:=by
 refine aC V (N:=Su) F (Bl.drp (Qx B l)) %[|8] ?_;rintro ds S W ⟨k,d,w,rfl,K,I,hd,aa,ab,P⟩ hl;have E:∀H,aX S k H->aU H k->(tM B l).wp [some (.loc k),some (.int d),some (.int w),none,none] H {nx:=λ _ C=>W .non C,rt:=Drp S.length W}:=by
  intro H u0 p0;try?;refine aR p0 %[|0] %[|0] λ v C v0 v1 m J=>?_;have m:=u0.trans m;have f1:=m.flat I;have n1:=m.len;try?;refine%[%[%[|0]|%[|0]]|cu %[λ i t T=>∃o b M,T=o++[D.int (v-w)::List.map D.int b]/\aX S k o/\aU o k/\b.length=i/\RX b/\t=[some (.loc k),some (.int d),some (.int w),%[|19],M],%[C,[],none,rfl,m,J,rfl,λ n h=>by simp at h|by rw[n1];rfl],?_|?_]]
  . rintro i e t T he ⟨o,b,M,rfl,j,A,g,r,rfl⟩;obtain⟨hi,rfl⟩:=cU he;try?;refine aR (A.app _) %[|1] %[|1] λ x T3 x0 x1 s U=>?_;obtain⟨X,rfl,s,U⟩:=s.split A;have s:=j.trans s;walk_at "n";obtain⟨y,Y,Z⟩:=iD (ds:=[D.int 0,.int 1,.int 1,.int 0,.int (-1),.int 2,.int 0,.int 1]) x0 x1;have Q:=y4 Z;refine%[y,Y|?_];obtain⟨z,rfl,hz⟩:∃z:Int,y=.int z/\ -99<=z/\z<=99:=by simp only[ci,k8,pT]at Q;rcases Q with rfl | rfl | rfl | rfl | rfl | rfl | rfl | rfl<;>exact%[_,rfl,%[|1]|%[|1]]
    refine%[_,cg s.len.symm,by simp;omega|?_];rw[gq s.len.symm];refine%[X,b++[z],_,by rw[cE];rfl,s,U,by simp[g],λ n h=>?_|rfl];rcases cm.mp h with h | h;{exact r n h}
    . have:n=z:=by simpa using h
      omega
  {rintro t T ⟨o,b,M,rfl,j,A,g,r,rfl⟩;rw[aF]at g;try?;refine%[_,cg j.len.symm|.inr %[[_],o,rfl,by rw[j.len];exact y9 _,fU (v-w,b),j.flat I|P (v-w,b) _ %[by simpa using g,r|.inl %[?_|?_]] j A (j.flat I)]];{show-w<=v-w;omega};{show v-w<=w;omega}}
 try?;refine%[λ q=>?_|λ q=>%[λ z=>ff z|λ _=>E S (.refl K) K]];have q:=cy q;try?;refine aR K %[|1] %[|1] λ v C v0 v1 m J=>?_;try?;refine%[λ _=>?_|λ _=>E C m J];try?;refine%[%[%[|0]|%[|0]]|oE (λ _ y=>∃n:Int,y=.int n/\(-99<=n/\n<=99)) (λ G=>aX S k G/\aU G k) (by rw[aF];omega) %[m|J] ?_ ?_];{rintro i d G hd ⟨u,p⟩ R hR;try?;refine aR p %[|1] %[|1] λ w o w0 w1 j A=>?_;try?;exact hR _ _ %[_,rfl,%[|0]|%[|0]] %[u.trans j|A]};rintro ys G c L ⟨u,p⟩;obtain⟨b,rfl,O⟩:=rR L;rw[aF,y7]at c
 cases b with
 | nil=>simp at c
 | cons a b=>try?;exact .inl (P (a,b) _ %[by simp at c;show b.length=d;omega,λ n h=>O n (x4 _ h)|.inr %[%[|0]|O a x6]] u p (u.flat I))
def CK(ls:List Lp)(l:Lp):cnt (ls++[l])=aY l.1 l.2 (cnt ls):=by unfold cnt;rw[jp];rfl
def jc(a:Int)(k:Nat)(cs:ab1):atC (a,List.replicate k 0) cs=a:=by
 unfold atC comesTo;have:∀(k:Nat)(cs:ab1),(List.zipWith (λ a b=>a*b) (List.replicate k (0:Int)) cs).sum=0:=by
  intro k
  induction k with
  | zero=>intro cs;simp
  | succ k d=>
    intro cs
    cases cs with
    | nil=>simp
    | cons c cs=>simp[fR,d]
 rw[this];show a+0=a;omega
def R7(a:Int)(cs:ab1)(c:Int):atC (a,List.replicate cs.length 0++[1]) (cs++[c])=a+c:=by
 unfold atC comesTo;have:∀cs:List Int,(List.zipWith (λ a b=>a*b) (List.replicate cs.length (0:Int)++[1]) (cs++[c])).sum=c:=by
  intro cs
  induction cs with
  | nil=>simp
  | cons d cs e=>simp[fR,e]
 rw[this]
def RZ(a b:Int)(fs cs:ab1):atC (a+b,fs) cs=atC (a,fs) cs+b:=by unfold atC comesTo;dsimp only;omega
def Rj{l}(h:cs∈cnt (ls++[l])):∃cs' c,cs'∈cnt ls/\cs=cs'++[c]/\atC l.1 cs'<=c/\c<atC l.2 cs':=by rw[CK]at h;obtain⟨d,e,h⟩:=ge.mp h;unfold bU at h;obtain⟨c,a,rfl⟩:=c8.mp h;unfold upI at a;obtain⟨k,b,rfl⟩:=c8.mp a;have b:=dV.mp b;exact%[d,_,e,rfl,%[|0]|%[|0]]
def Qv{l}{a:Nat}(h:∀cs∈cnt ls,atC l.2 cs-atC l.1 cs<=(a:Int)):(cnt (ls++[l])).length<=(cnt ls).length*a:=by rw[CK];refine rC λ cs b=>?_;rw[di];have:=h cs b;omega
def Bef(bf:D)(ls:List Lp):Prop:=bf=.non\/∃a b:Int,bf=.tup [.int a,.int b]/\ -3<=a/\a<=3/\1<=b/\b<=4/\1<=ls.length/\∀e∈cnt ls,∃d c,e=d++[c]/\a<=c/\c<a+b
def LpI(ls:List Lp):Prop:=∀(i:Nat)(l:Lp),ls[i]? =some l->BdF l.1 i/\BdF l.2 i
def LpI.snoc{l}(h:LpI ls)(h1:BdF l.1 ls.length)(h2:BdF l.2 ls.length):LpI (ls++[l]):=by
 intro i x a;by_cases b:i<ls.length;{rw[x9 b]at a;exact h i x a}
 . rw[dt %[|0]]at a;have:i=ls.length:=by have:=(z0.mp a).1;simp at this;omega
   subst this;simp at a;subst a;exact%[h1|h2]
def nlO(o:Option D):Prop:=∀d,o=some d->az d=true
def dq:nlO none:=λ d h=>by cases h
def jP(n:Int):nlO (some (.int n)):=λ d h=>by cases h;rfl
def Hi(n:Nat)(o:Option D):Prop:=nlO o\/∃j,o=some (.loc j)/\n<=j
def Jj{J}{o}(h:nlO o):jB n J o=o:=by
 cases o with
 | none=>rfl
 | some d=>
   cases d with
   | loc j=>have:=h _ rfl;simp[az]at this
   | _=>rfl
def Iw{J}(h:j<n):jB n J (some (.loc j))=some (.loc j):=by simp[jB,h]
def wC{J:List (List D)}{o}(c:flat J)(h:Hi n o):nlO (jB n J o):=by
 rcases h with h | ⟨j,rfl,f⟩;{rw[Jj h];exact h}
 . intro d a;have:¬j<n:=%[|0]
   simp only[jB,bP this]at a
   cases e:J[j-n]? with
   | none=>rw[e]at a;cases a
   | some b=>rw[e]at a;cases a;exact c b (y4 e)
def gK(ls:List Lp):aa (ls.map dL)=true:=by
 induction ls with
 | nil=>rfl
 | cons y b a=>simp only[cn,aa,a,dk];show aa [dF y.1,dF y.2]=true;simp only[aa,fU,dk]
inductive c_loopsB(ds:List D)(S:Store)(W:WD):Prop
 | mk(k:Nat)(m:Nat):ds=[.loc k,.int m]->aU S k->flat S->1<=m->m<=1000->(∀ls S',Lps ls->(cnt ls).length<=m->aX S k S'->aU S' k->flat S'->W (.tup (ls.map dL)) S')->c_loopsB ds S W
def zeros(n:Int):(List.replicate n.toNat [D.int 0]).flatten=(List.replicate n.toNat (0:Int)).map D.int:=by
 generalize n.toNat=m
 induction m with
 | zero=>rfl
 | succ m a=>simp[fR,a]
def X5{b:Bl Ω}{W}(h:b.wp Γ S {W with nx:=Di S.length W.nx}):b.fza.wp Γ S W:=h
def zA(h:R (Γ.set j (some d))):(Tg.nm j).wp d Γ R:=h
def aX.split2{a b}(p:aU S k)(u:aX (S++[a]++[b]) k T):∃S',T=S'++[a]++[b]/\aX S k S'/\aU S' k:=by obtain⟨g,rfl,e,h⟩:=u.split (p.app _);obtain⟨c,rfl,f,d⟩:=e.split p;exact%[c,rfl,f|d]
def cN(h:n=S.length):(S++[l]++J)[n]? =some l:=by subst h;rw[x9 (by simp)];exact aO _ _
def gh(h:n=S.length):(S++[l]++J).set n l'=S++[l']++J:=by subst h;rw[List.set_append_left _ _ (by simp),cj]
def JD(ls:List Lp):∀cs∈cnt ls,cs.length=ls.length:=by
 have:∀(ls:List Lp)(a:ad3)(n:Nat),(∀cs∈a,cs.length=n)->∀cs∈ls.foldl (λ a l=>aY l.1 l.2 a) a,cs.length=n+ls.length:=by
  intro ls
  induction ls with
  | nil=>intro a n h cs b;simpa using h cs b
  | cons l ls g=>intro a n h cs b;have:=g (aY l.1 l.2 a) (n+1) (λ i d=>by obtain⟨e,f,d⟩:=ge.mp d;unfold bU at d;obtain⟨c,_,rfl⟩:=c8.mp d;simp[h e f]) cs b;rw[this,dQ];omega
 intro cs b;have:=this ls [[]] 0 (by simp) cs b;omega
inductive LoopI(S:Store)(k m i:Nat)(Γ':Gam)(T:Store):Prop
 | mk(S2 ls room bf o5 o6 o7 o8 o9 o10 o11:_):T=S2++[List.map dL ls]->aX S k S2->aU S2 k->ls.length=i->LpI ls->1<=room->(cnt ls).length*room<=m->Bef bf ls->az bf=true->(nlO o5/\nlO o6/\nlO o7/\nlO o8/\nlO o9/\nlO o10/\nlO o11)->Γ'=[some (.loc k),some (.int m),%[|19],some (.int (room:Nat)),some bf,o5,o6,o7,o8,o9,o10,o11]->LoopI S k m i Γ' T
def BP{o}(h:Hi n o)(e:o=some d):az d=true\/∃j,d=.loc j:=by rcases h with h | ⟨j,rfl,_⟩;{exact .inl (h d e)};{cases e;exact .inr %[j|rfl]}
def Pb{room a}{l}{n v}{C s t}(L:aU S k)(I:flat S)(u:aX S k g)(p:aU g k)(w:flat J)(e:ls.length=i)(A:LpI ls)(E:BdF l.1 i)(F:BdF l.2 i)(s1:1<=a)(s2:a<=room)(M:(cnt ls).length*room<=m)
 (K:∀cs∈cnt ls,atC l.2 cs-atC l.1 cs<=(a:Int))(y:Bef j (ls++[l]))(f:az j=true)(B:Hi (S.length+1) C)(q:Hi (S.length+1) s)(r:Hi (S.length+1) t):
 Di (S.length+1) (LoopI S k m (i+1)) [some (.loc k),some (.int m),%[|19],some (.int ((room:Int)/(a:Int))),some j,some (.int i),some (.int a),some (.int n),some (.int v),C,s,t] (g++[(ls++[l]).map dL]++J):=by
 have z:=u.len;have P:=L.lt;have G:(room:Int)/(a:Int)=((room/a:Nat):Int):=(Int.natCast_ediv room a).symm;have c:(g++[(ls++[l]).map dL]).length=S.length+1:=by simp[z]
 refine .inr %[J,g++[(ls++[l]).map dL],rfl,by rw[c];exact y9 _,w,bR (u.flat I) (gK _),?_|?_]
 . intro x d b;match x,b with
   | 0,b=>cases b;exact .inr %[_|rfl]
   | 1,b=>cases b;exact .inl rfl
   | 2,b=>cases b;exact .inr %[_|rfl]
   | 3,b=>cases b;exact .inl rfl
   | 4,b=>cases b;exact .inl f
   | 5,b=>cases b;exact .inl rfl
   | 6,b=>cases b;exact .inl rfl
   | 7,b=>cases b;exact .inl rfl
   | 8,b=>cases b;exact .inl rfl
   | 9,b=>exact BP B (by simpa using b)
   | 10,b=>exact BP q (by simpa using b)
   | 11,b=>exact BP r (by simpa using b)
   | x+12,b=>simp at b
 . rw [c];refine%[g,ls++[l],room/a,j,some (.int i),some (.int a),some (.int n),some (.int v),_,_,_,rfl,u,p,by simp[e],A.snoc (by rw[e];exact E) (by rw[e];exact F),Nat.div_pos s2 s1,?_,y,f,%[jP _,jP _,jP _,jP _,wC w B,wC w q|wC w r]|?_]
   . have H:=Qv (l:=l) K;have N:=iP (room/a) H;have O:(cnt ls).length*a*(room/a)<=(cnt ls).length*room:=by rw[Nat.mul_assoc];exact Nat.mul_le_mul_left _ (Nat.mul_div_le room a)
     omega
   {show[_,_,_,_,_,_,_,_,_,_,_,_]=[_,_,_,_,_,_,_,_,_,_,_,_];rw[Iw %[|0],Iw %[|0],Jj (o:=some j) (λ d h=>by cases h;exact f),G];rfl}
def J7(F:Fun Ω.K "_law_loops" "_law_loops" xN f fd)(N0:%[|7])(B:%[|2])(o:Cal Ω "_law_take" 2 2 c_takeB):Ok Ω 3 f fd M5 c_loopsB:=by
 refine aC N0 (N:=Nf) F (Bl.drp (Ml B o)) %[|8] ?_;rintro ds S W ⟨k,m,rfl,hp,hS,aH,aT,hw⟩ hl;try?;refine aR (hp.app _) %[|1] %[|1] λ v T v0 v1 u1 p1=>?_;obtain⟨S1,rfl,u1,p1⟩:=u1.split hp;try?;refine%[%[%[|0]|%[|0]]|cu %[LoopI S k m,%[S1,[],m,.non,none,none,none,none,none,none,none,rfl,u1,p1,rfl,λ i l h=>by simp at h,aH,by simp[cnt],.inl rfl,rfl,%[dq,dq,dq,dq,dq,dq|dq]|rfl],?_|?_]]
 . rintro i e aL T he ⟨S2,s,g,bf,o5,o6,o7,o8,o9,w,t,rfl,u2,p2,an,ao,aw,aq,Q,ap,⟨n5,n6,n7,n8,n9,ar,af⟩,rfl⟩;obtain⟨hi,rfl⟩:=cU he;have aQ:i<=2:=%[|0]
   have ez:(0:Int)+(i:Int)=(i:Int):=%[|0]
   rw[ez];have aD:(S2++[s.map dL]).length=S.length+1:=by simp[u2.len]
   suffices body:∀Wf:DL.Fin,(∀G T,Di (S.length+1) (LoopI S k m (i+1)) G T->Wf.nx G T)->(nM B o).wp [some (.loc k),some (.int m),%[|19],some (.int (g:Nat)),some bf,some (.int (i:Int)),o6,o7,o8,o9,w,t] (S2++[s.map dL]) Wf by refine zA (X5 ?_);simp only[mP,mS];refine body _ λ G T h=>?_;rw[aD];exact h
   intro Wf aI;try?;refine aR (p2.app _) (by split<;>omega) (by split<;>omega) λ x T3 x0 x1 u3 p3=>?_;obtain⟨S3,rfl,u3,p3⟩:=u3.split p2;have u3:=u2.trans u3;have hx:1+x<=(g:Int)/\1+x<=4:=by split at x1<;>omega
   clear x1;try?;refine aR (p3.app _) %[|1] %[|1] λ y T3 y0 y1 u4 p4=>?_;obtain⟨S4,rfl,u4,p4⟩:=u4.split p3;have u4:=u3.trans u4;try?;refine aR (p4.app _) %[|1] %[|1] λ E T3 w0 w1 U p5=>?_;obtain⟨M,rfl,U,p5⟩:=U.split p4;have U:=u4.trans U;try?;refine%[_,_,rfl,rfl,%[%[|0]|%[|0]],by simp;omega|?_];rw[zeros,e8];obtain⟨C,aK⟩:∃n:Nat,1+x=(n:Int):=%[(1+x).toNat|%[|0]];rw[aK]at hx ⊢;have ag:1<=C:=%[|0]
   have ax:C<=g:=%[|0]
   have ab:∀(S':Store)(l:Lp)(J:Store)(H:Nat)(ac:D)(o9 w t:Option D),aX S k S'->aU S' k->flat J->BdF l.1 i->BdF l.2 i->1<=H->H<=4->H<=g->(∀P∈cnt s,atC l.2 P-atC l.1 P<=(H:Int))->Bef ac (s++[l])->az ac=true->Hi (S.length+1) o9->Hi (S.length+1) w->Hi (S.length+1) t->
    (cB B o).wp [some (.loc k),some (.int m),%[|19],some (.int g),some ac,some (.int i),some (.int H),some (.int (y-3)),some (.int E),o9,w,t] (S'++[(s++[l]).map dL]++J) Wf:=by intro S' l J H ac o9 w t u p hJ b1 b2 s1 s4 s2 hc Q ap n9 ar af;try?;exact aI _ _ (Pb hp hS u p hJ an ao b1 b2 s1 s2 aq hc Q ap n9 ar af)
   have zl:(List.replicate i (0:Int)).length=i:=by simp
   have z9:Hi (S.length+1) (some (.lst ((List.replicate i (0:Int)).map D.int))):=.inl λ d h=>by cases h;exact bH _
   have zb:∀a:Int,-9<=a->a<=9->BdF (a,List.replicate i 0) i:=λ a Y h2=>%[zl,Y,h2|λ n Z=>by have:=(qa.mp Z).2;omega];have ad:∀r:DL.Fin,(∀G T,(cB B o).wp G T Wf->r.nx G T)->(jf B o).wp [some (.loc k),some (.int m),%[|19],some (.int g),some bf,some (.int i),some (.int C),some (.int (y-3)),some (.int E),some (.lst ((List.replicate i (0:Int)).map D.int)),w,t] (M++[s.map dL]) r:=by
    intro r K;have app:∀h:Int,y-3<=h->h<=y-3+C->∃ds,(M++[s.map dL])[S.length]? =some ds/\ds.length<1000000/\r.nx [some (.loc k),some (.int m),%[|19],some (.int g),some (.tup [.int (y-3),.int C]),some (.int i),some (.int C),some (.int (y-3)),some (.int E),some (.lst ((List.replicate i (0:Int)).map D.int)),w,t] ((M++[s.map dL]).set S.length (ds++[dL ((y-3,List.replicate i 0),(h,List.replicate i 0))])):=by intro h Y h2;refine%[_,cg U.len.symm,by simp;omega|?_];rw[gq U.len.symm];have:=ab M ((y-3,List.replicate i 0),(h,List.replicate i 0)) [] C (.tup [.int (y-3),.int C]) (some (.lst ((List.replicate i (0:Int)).map D.int))) w t U p5 (λ l h=>by cases h) (zb _ %[|0] %[|0]) (zb _ %[|0] %[|0]) ag %[|0] ax (λ P _=>by show atC (h,List.replicate i 0) P-atC (y-3,List.replicate i 0) P<=_;rw[jc,jc];omega) (.inr %[y-3,C,rfl,%[|0],%[|0],%[|0],%[|0],by simp|λ P R=>by obtain⟨I,c,_,e,h3,h4⟩:=Rj R;rw[jc]at h3 h4;exact%[I,c,e,h3|%[|0]]]) rfl z9 (.inl ar) (.inl af);rw[gS,cE]at this;exact K _ _ this
    try?;refine%[_,_,rfl,rfl,by simp;omega|?_];try?;have bb:∀b:Bool,y-3<=y-3+(C:Int)*(if b=true then 1 else 0)/\y-3+(C:Int)*(if b=true then 1 else 0)<=y-3+C:=λ b=>by cases b<;>simp<;>omega
    refine%[λ q=>?_|λ q=>?_];{try?;obtain⟨g1,g2⟩:=bb true;generalize (y-3+(C:Int)*(if true=true then 1 else 0))=h at g1 g2 ⊢;refine%[_,_,rfl,rfl,by simp;omega|?_];try?;obtain⟨ds,Y,h2,h3⟩:=app h g1 g2;refine%[ds,Y,h2|?_];try?;exact h3};{try?;obtain⟨g1,g2⟩:=bb (decide (y-3<3));generalize (y-3+(C:Int)*(if decide (y-3<3)=true then 1 else 0))=h at g1 g2 ⊢;refine%[_,_,rfl,rfl,by simp;omega|?_];try?;obtain⟨ds,Y,h2,h3⟩:=app h g1 g2;refine%[ds,Y,h2|?_];try?;exact h3}
   have as:0<i->∀r:DL.Fin,(∀G T,(cB B o).wp G T Wf->r.nx G T)->(iy B o).wp [some (.loc k),some (.int m),%[|19],some (.int g),some bf,some (.int i),some (.int C),some (.int (y-3)),some (.int E),some (.lst ((List.replicate i (0:Int)).map D.int)),w,t] (M++[s.map dL]) r:=by
    intro aO r K;try?;refine%[_,_,rfl,rfl,%[%[|0]|%[|0]],by simp;omega|?_];rw[zeros,e8];try?;refine aR ((p5.app _).app _) %[|1] %[|1] λ a T6 a0 a1 u6 p6=>?_;obtain⟨S6,rfl,u6,p6⟩:=u6.split2 p5;have u6:=U.trans u6;walk_at "n";obtain⟨z,g1,g2⟩:=iD (ds:=[D.int 1,.int (-1),.int 2,.int (-2)]) a0 a1;have hz:=y4 g2;obtain⟨c,rfl,aE,aG⟩:∃c:Int,z=.int c/\ -2<=c/\c<=2:=by simp only[ci,k8,pT]at hz;rcases hz with rfl | rfl | rfl | rfl<;>exact%[_,rfl,%[|1]|%[|1]]
    refine%[_,g1|?_];try?;refine aR ((p6.app _).app _) %[|0] %[|0] λ j T7 j0 j1 u7 p7=>?_;obtain⟨S7,rfl,u7,p7⟩:=u7.split2 p6;have u7:=u6.trans u7;walk_at "n";obtain⟨jn,rfl⟩:∃jn:Nat,j=(jn:Int):=%[j.toNat|%[|0]];have aS:jn<i:=%[|0]
    have V:(M++[s.map dL]).length=(S7++[s.map dL]).length:=by simp[U.len,u7.len]
    refine%[_,jn,cg V,?_|?_];{unfold ixN;simp;omega};rw[gq V];have e1:((List.replicate i (0:Int)).map D.int).set jn (D.int c)=((List.replicate i (0:Int)).set jn c).map D.int:=by rw[List.map_set]
    rw[e1];have al:∀n∈(List.replicate i (0:Int)).set jn c,-2<=n/\n<=2:=λ n Z=>by rcases ml Z with Z | rfl;{have:=(qa.mp Z).2;omega};{exact%[aE|aG]}
    have am:((List.replicate i (0:Int)).set jn c).length=i:=by simp
    generalize (List.replicate i (0:Int)).set jn c=ah at al am;have l7:(M++[s.map dL]).length=S.length+1:=by simp[U.len]
    rw[l7]at V ⊢;have ga:(S7++[s.map dL]++[ah.map D.int])[S.length+1]? =some (ah.map D.int):=cg V;try?;refine%[_,_,rfl,ga,by simp;omega|?_];try?;refine%[_,_,rfl,ga,by simp;omega|?_];try?;refine%[_,cN u7.len.symm,by simp;omega|?_];rw[gh u7.len.symm];try?;have:=ab S7 ((y-3,ah),(y-3+C,ah)) [ah.map D.int] C .non (some (.lst ((List.replicate i (0:Int)).map D.int))) (some (.loc (S.length+1))) t u7 p7 (λ l h=>by
     have:l=ah.map D.int:=by simpa using h
     subst this;exact bH _) %[am,by show-9<=y-3;omega,by show y-3<=9;omega|al] %[am,by show-9<=y-3+C;omega,by show y-3+(C:Int)<=9;omega|al] ag %[|0] ax (λ P _=>by show atC (y-3+C,ah) P-atC (y-3,ah) P<=_;rw[RZ];omega) (.inl rfl) rfl z9 (.inr %[_,rfl|y9 _]) (.inl af);rw[cE]at this;exact K _ _ this
   have ay:∀O b1:Int,bf=.tup [.int O,.int b1]->E<2->b1<=g->∀r:DL.Fin,(∀G T,(cB B o).wp G T Wf->r.nx G T)->(oh B o).wp [some (.loc k),some (.int m),%[|19],some (.int g),some bf,some (.int i),some (.int C),some (.int (y-3)),some (.int E),some (.lst ((List.replicate i (0:Int)).map D.int)),w,t] (M++[s.map dL]) r:=by
    intro O b1 aA aM aN r K;subst aA;rcases Q with Q | ⟨c0,c1,e,q1,q2,q3,q4,q5,q6⟩;{cases Q};cases e;try?;refine%[_,_,rfl,rfl,%[%[|0]|%[|0]],by simp;omega|?_];have aP:1<=i:=%[|0]
    have eA:(List.replicate ((i:Int)-1).toNat [D.int 0]).flatten++[D.int 1]=(List.replicate (i-1) (0:Int)++[1]).map D.int:=by rw[zeros,show((i:Int)-1).toNat=i-1 by omega,cE];rfl
    have aj:(List.replicate (i-1) (0:Int)++[1]).length=i:=by simp;omega
    have ai:∀n∈List.replicate (i-1) (0:Int)++[1],-2<=n/\n<=2:=λ n Z=>by
     rcases cm.mp Z with Z | Z;{have:=(qa.mp Z).2;omega}
     . have:n=1:=by simpa using Z
       omega
    have ak:∀(a:Int)(I:ab1)(c:Int),I++[c]∈cnt s->atC (a,List.replicate (i-1) (0:Int)++[1]) (I++[c])=a+c:=λ a I c h=>by have Y:=JD s _ h;rw[x8,hH]at Y;rw[show i-1=I.length by omega];exact R7 a I c
    generalize hAA:List.replicate (i-1) (0:Int)++[1]=A at eA aj ai ak;obtain⟨X,rfl⟩:∃X:Nat,b1=(X:Int):=%[b1.toNat|%[|0]];have l5:(M++[s.map dL]).length=S.length+1:=by simp[U.len]
    try?;refine%[_,_,rfl,rfl,by simp;omega|?_];rw[eA];have ga:∀J,(M++[s.map dL]++[A.map D.int]++J)[S.length+1]? =some (A.map D.int):=λ J=>cN l5.symm;have aB:(M++[s.map dL]++[A.map D.int])[S.length+1]? =some (A.map D.int):=cg l5.symm;have l6:(M++[s.map dL]++[A.map D.int]).length=S.length+2:=by simp[U.len]
    walk_at "n";rw[l5];try?;refine%[_,_,rfl,rfl,by simp;omega|?_];try?;refine%[_,_,rfl,aB,by simp;omega|?_];try?;rw[l6];refine%[_,_,rfl,ga _,by simp;omega|?_];try?;refine%[[O,(X:Int)],rfl|?_];try?;refine%[_,_,rfl,rfl,by simp;omega|?_];try?;refine%[_,cg l6.symm,by simp|?_];rw[gq l6.symm];walk_at "n";have aJ:[O,(X:Int)].sum=O+(X:Int):=by simp
    rw[aJ];have av:∀(l:Lp)(St:List D),aa St=true->BdF l.1 i->BdF l.2 i->(∀P∈cnt s,atC l.2 P-atC l.1 P<=(X:Int))->∃ds,(M++[s.map dL]++[A.map D.int]++[St])[S.length]? =some ds/\ds.length<1000000/\r.nx [some (.loc k),some (.int m),%[|19],some (.int g),some .non,some (.int i),some (.int X),some (.int (y-3)),some (.int E),some (.lst ((List.replicate i (0:Int)).map D.int)),some (.loc (S.length+1)),some (.loc (S.length+2))] ((M++[s.map dL]++[A.map D.int]++[St]).set S.length (ds++[dL l])):=by
     intro l St ae c1 c2 c3;have e2:∀L:List D,M++[L]++[A.map D.int]++[St]=M++[L]++[A.map D.int,St]:=λ L=>by simp
     rw[e2];refine%[_,cN U.len.symm,by simp;omega|?_];rw[gh U.len.symm];have:=ab M l [A.map D.int,St] X .non (some (.lst ((List.replicate i (0:Int)).map D.int))) (some (.loc (S.length+1))) (some (.loc (S.length+2))) U p5 (λ x h=>by
      rcases ci.mp h with rfl | h;{exact bH _}
      . have:x=St:=by simpa using h
        subst this;exact ae) c1 c2 %[|0] %[|0] %[|0] c3 (.inl rfl) rfl z9 (.inr %[_,rfl|y9 _]) (.inr %[_,rfl|kB _]);rw[cE]at this;exact K _ _ this
    have ae:aa ([dL ((O,List.replicate i 0),(1,A))]++[dL ((0,A),(O+(X:Int),List.replicate i 0))])=true:=gK [_,_];have:E=0\/E=1:=%[|0]
    rcases this with rfl | rfl;{refine%[_,dL ((O,List.replicate i 0),(1,A)),cg l6.symm,rfl|?_];obtain⟨ds,Y,h2,h3⟩:=av ((O,List.replicate i 0),(1,A)) _ ae (zb O %[|0] %[|0]) %[aj,(%[|1]:(-9:Int)<=1),(%[|1]:(1:Int)<=9)|ai] (λ P R=>by obtain⟨I,c,rfl,g1,g2⟩:=q6 P R;show atC (1,A) _-atC (O,List.replicate i 0) _<=_;rw[ak _ _ _ R,jc];omega);refine%[ds,Y,h2|?_];try?;exact h3};{refine%[_,dL ((0,A),(O+(X:Int),List.replicate i 0)),cg l6.symm,rfl|?_];obtain⟨ds,Y,h2,h3⟩:=av ((0,A),(O+(X:Int),List.replicate i 0)) _ ae %[aj,(%[|1]:(-9:Int)<=0),(%[|1]:(0:Int)<=9)|ai] (zb _ %[|0] %[|0]) (λ P R=>by obtain⟨I,c,rfl,g1,g2⟩:=q6 P R;show atC (O+(X:Int),List.replicate i 0) _-atC (0,A) _<=_;rw[ak _ _ _ R,jc];omega);refine%[ds,Y,h2|?_];try?;exact h3}
   have au:∀r:DL.Fin,(∀G T,(cB B o).wp G T Wf->r.nx G T)->(il (aa2 (abB (abl (aa5 .Lt (eN 8) (sy 4)) (abm (aa5 .Gt (eN 5) (sy 0))))) (iy B o) (jf B o)) u5).wp [some (.loc k),some (.int m),%[|19],some (.int g),some bf,some (.int i),some (.int C),some (.int (y-3)),some (.int E),some (.lst ((List.replicate i (0:Int)).map D.int)),w,t] (M++[s.map dL]) r:=by intro r K;try?;refine%[λ q=>?_|λ q=>%[λ z=>ff z|λ _=>ad _ K]];try?;refine%[λ q2=>as (by have:=cy q2;omega) _ K|λ q2=>ad _ K]
   try?;refine%[λ q=>?_|λ q=>%[λ z=>ff z|λ _=>au _ λ G T h=>h]];have q:=cy q;rcases Q with rfl | ⟨O,b1,rfl,hb⟩;{try?;refine%[λ q=>?_|λ q=>%[λ z=>ff z|λ _=>ad _ λ G T h=>h]];try?;exact%[λ q2=>as (by have:=cy q2;omega) _ λ G T h=>h|λ q2=>ad _ λ G T h=>h]};{try?;exact%[λ q2=>ay O b1 rfl q (cy q2) _ λ G T h=>h|λ q2=>au _ λ G T h=>h]}
 {rintro aL T ⟨S2,s,g,bf,o5,o6,o7,o8,o9,w,t,rfl,u2,p2,an,ao,aw,aq,Q,ap,_,rfl⟩;rw[aF]at an;try?;refine%[_,cg u2.len.symm|.inr %[[_],S2,rfl,by rw[u2.len];exact y9 _,gK s,u2.flat hS|hw s _ %[%[|0],%[|0]|ao] ?_ u2 p2 (u2.flat hS)]];exact cS (np _ aw) aq}
theorem tY{e:Type}{enc}{P:e->Prop}:∀{ys:List D},(∀(i:Nat)(y:D),ys[i]? =some y->∃a,y=enc a/\P a)->∃as,ys=List.map enc as/\∀a∈as,P a
 | [],_=>%[[],rfl|by simp]
 | y::ys,h=>by obtain⟨a,rfl,g⟩:=h 0 y rfl;obtain⟨as,rfl,c⟩:=tY (enc:=enc) (P:=P) (ys:=ys) λ i y f=>h (i+1) y (by simpa using f);exact%[a::as,rfl|by intro b d;rcases ci.mp d with rfl | d;{exact g};{exact c b d}]
def TpB(ws:ab1)(d t:Nat)(pl:List Fm):Prop:=∃w,ws[t]? =some w/\(pl.length:Int)=w/\∀f∈pl,FmB d 1 f
def RdB(ws:ab1)(d:Nat)(r:Rd):Prop:= -1000000000000000000000000000000<r.fac/\r.fac<1000000000000000000000000000000/\TpB ws d r.tab r.pl
def StB(d:Nat)(f:Fm):Prop:=f.2.length=d/\RX f.2/\ -1000000000000000000000000000000<f.1/\f.1<1000000000000000000000000000000
def DdB(ws:ab1)(d:Nat)(x:Dd):Prop:=TpB ws d x.tab x.pl/\StB d x.st/\x.rds.length<=3/\∀r∈x.rds,RdB ws d r
def WsB(ws:ab1):Prop:=1<=ws.length/\ws.length<=3/\∀w∈ws,1<=w/\w<=2
inductive c_deedB(ds:List D)(S:Store)(W:WD):Prop
 | mk(k d:Nat)(ws:ab1):ds=[.loc k,dWs ws,.int d]->aU S k->flat S->d<=10->WsB ws->(∀x S',DdB ws d x->aX S k S'->aU S' k->flat S'->W (dDd x) S')->c_deedB ds S W
def SX{t:Int}(hw:WsB ws)(c:0<=t)(h1:t<(ws.map D.int).length):∃w:Int,atI (ws.map D.int) t=some (.int w)/\ws[t.toNat]? =some w/\1<=w/\w<=2:=by
 obtain⟨x,a,b⟩:=iD c h1;rw[y8]at b
 cases e:ws[t.toNat]? with
 | none=>rw[e]at b;cases b
 | some w=>rw[e]at b;cases b;exact%[w,a,rfl|hw.2.2 w (y4 e)]
def Ae(pl:List Fm):az (dP pl)=true:=by
 show aa (pl.map dF)=true
 induction pl with
 | nil=>rfl
 | cons y b a=>simp only[cn,aa,a,fU,dk]
def sX(rs:List Rd):aa (rs.map dRd)=true:=by
 induction rs with
 | nil=>rfl
 | cons y b a=>simp only[cn,aa,a,dk];show aa [D.int _,D.int _,dP y.pl]=true;simp only[aa,Ae,dk];rfl
def xg(x:Dd):az (dDd x)=true:=by show aa [D.int _,dP x.pl,dF x.st,.tup (x.rds.map dRd)]=true;have:az (.tup (x.rds.map dRd))=true:=sX x.rds;simp only[aa,Ae,fU,this,dk];rfl
def zB:(10:Int) ^ (30:Int).toNat=1000000000000000000000000000000:=%[|1]
inductive DeedI(S:Store)(k d:Nat)(ws:ab1)(t:Int)(pl:List Fm)(st:Fm)(i:Nat)(Γ':Gam)(T:Store):Prop
 | mk(S2 rds o7 o8 o9 o10:_):T=S2++[List.map dRd rds]->aX S k S2->aU S2 k->rds.length=i->(∀r∈rds,RdB ws d r)->Γ'=[some (.loc k),some (dWs ws),some (.int d),some (.int t),some (.tup (pl.map dF)),some (dF st),%[|19],o7,o8,o9,o10]->DeedI S k d ws t pl st i Γ' T
def Nk(F:Fun Ω.K "_law_deed" "_law_deed" Bk f fd)(N0:%[|7])(B:%[|2])(g:Cal Ω "_law_take" 2 2 c_takeB)(C:Cal Ω "_law_form" 3 3 c_formB):Ok Ω 4 f fd PQ c_deedB:=by
 refine aC N0 (N:=Q8) F (Bl.drp (Ry B g C)) %[|8] ?_;rintro ds S W ⟨k,d,X,rfl,hp,Z,hd,L,hw⟩ hl;obtain⟨ao,ap,aq⟩:=id L;try?;have b:((X.map D.int).length:Int)=(X.length:Int):=by rw[y7]
 refine aR hp (by rw[b];omega) (by rw[b];omega) λ t S1 t0 t1 u1 p1=>?_;obtain⟨w,g1,g2,am,an⟩:=SX L t0 t1;walk_at "n";refine%[_,g1|?_];try?;refine%[%[%[|0]|%[|0]]|oE (λ _ y=>∃f,y=dF f/\FmB d 1 f) (λ l=>aX S k l/\aU l k/\flat l) (by rw[aF];omega) %[u1,p1|u1.flat Z] ?_ ?_];{rintro i e l he ⟨u,p,f⟩ R hR;try?;exact%[rfl,k,d,1,rfl,p,f,hd,%[|1],%[|1]|λ f S4 hf A p4 f4=>hR _ _ %[f,rfl|hf] %[u.trans A,p4|f4]]};rintro ys S2 M O ⟨u2,p2,f2⟩;obtain⟨m,rfl,ah⟩:=tY O;rw[aF,y7]at M;try?;rw[zB];refine aR p2 %[|1] %[|1] λ s S3 s0 s1 u3 p3=>?_;walk_at "n";obtain⟨z,h1,h2⟩:=iD (ds:=[D.int 1,.int 9,.int (1000000000000000000000000000000-1)]) s0 s1;have hz:=y4 h2;obtain⟨c,rfl,H,I⟩:∃c:Int,z=.int c/\1<=c/\c<1000000000000000000000000000000:=by simp only[ci,k8,pT]at hz;rcases hz with rfl | rfl | rfl<;>exact%[_,rfl,%[|1]|%[|1]]
 refine%[_,h1|?_];have u3:=u2.trans u3;try?;refine%[rfl,k,d,c,rfl,p3,u3.flat Z,hd,H,I|λ st S4 hst A p4 f4=>?_];have A:=u3.trans A;try?;refine aR (p4.app _) %[|1] %[|1] λ n T n0 n1 U p5=>?_;obtain⟨S5,rfl,U,p5⟩:=U.split p4;have U:=A.trans U;walk_at "n";refine%[%[%[|0]|%[|0]]|cu %[DeedI S k d X t m st,%[S5,[],none,none,none,none,rfl,U,p5,rfl,λ r h=>(by cases h)|by rw[<-A.len];rfl],?_|?_]]
 . rintro i e aj T he ⟨S6,a,o7,o8,o9,ab,rfl,V,p6,K,J,rfl⟩;obtain⟨hi,rfl⟩:=cU he;suffices body:∀Wf:DL.Fin,(∀G T,DeedI S k d X t m st (i+1) G T->Wf.nx G T)->(qz B g C).wp [some (.loc k),some (dWs X),some (.int d),some (.int t),some (.tup (m.map dF)),some (dF st),%[|19],some (.int (0+(i:Int))),o8,o9,ab] (S6++[a.map dRd]) Wf by refine zA ?_;simp only[mP,mS];exact body _ λ G T h=>h
   intro Wf ag;try?;refine aR (p6.app _) (by rw[b];omega) (by rw[b];omega) λ o T7 o0 o1 u7 p7=>?_;obtain⟨S7,rfl,u7,p7⟩:=u7.split p6;have u7:=V.trans u7;obtain⟨w',ae,af,ak,al⟩:=SX L o0 o1;try?;refine aR (p7.app _) %[|1] %[|1] λ ac T8 w0 w1 Y p8=>?_;obtain⟨S8,rfl,Y,p8⟩:=Y.split p7;have Y:=u7.trans Y;have x:∀(c:Int)(E:Store),aX S k E->aU E k-> -1000000000000000000000000000000<c->c<1000000000000000000000000000000->(lN B g C).wp [some (.loc k),some (dWs X),some (.int d),some (.int t),some (.tup (m.map dF)),some (dF st),%[|19],some (.int (0+(i:Int))),some (.int o),some (.int ac),some (.int c)] (E++[a.map dRd]) Wf:=by
    intro c E u9 p9 c1 c2;walk_at "n";refine%[_,ae|?_];try?;refine%[%[%[|0]|%[|0]]|oE (λ _ y=>∃f,y=dF f/\FmB d 1 f) (λ T=>∃l,T=l++[a.map dRd]/\aX S k l/\aU l k) (by rw[aF];omega) %[E,rfl,u9|p9] ?_ ?_];{rintro j e T he ⟨l,rfl,u,p⟩ R hR;try?;refine%[rfl,k,d,1,rfl,p.app _,bR (u.flat Z) (sX _),hd,%[|1],%[|1]|λ f S4 hf A p4 f4=>?_];obtain⟨S5,rfl,U,p5⟩:=A.split p;exact hR _ _ %[f,rfl|hf] %[S5,rfl,u.trans U|p5]};rintro ys T M O ⟨ad,rfl,Q,ai⟩;obtain⟨P,rfl,aa⟩:=tY O;rw[aF,y7]at M;try?;refine%[_,cg Q.len.symm,by simp;omega|?_];rw[gq Q.len.symm];obtain⟨on,rfl⟩:∃on:Nat,o=(on:Int):=%[o.toNat|%[|0]];refine ag _ _ %[ad,a++[%[c,on|P]],some (.int (0+(i:Int))),some (.int on),some (.int ac),some (.int c),by rw[cE];rfl,Q,ai,by simp[K],λ r hr=>?_|rfl];rcases cm.mp hr with hr | hr;{exact J r hr}
    . have:r=%[c,on|P]:=by simpa using hr
      subst this;exact%[c1,c2,w',by simpa using af,by show(P.length:Int)=w';omega|aa]
   walk_at "n";obtain⟨z,h1,h2⟩:=iD (ds:=[D.int 1,.int (-1),.int 2,.int 3,.int 0,.int 1,.int (-5),.int 0]) w0 w1;have hz:=y4 h2;obtain⟨c,rfl,H,I⟩:∃c:Int,z=.int c/\ -1000000000000000000000000000000<c/\c<1000000000000000000000000000000:=by simp only[ci,k8,pT]at hz;rcases hz with rfl | rfl | rfl | rfl | rfl | rfl | rfl | rfl<;>exact%[_,rfl,%[|1]|%[|1]]
   refine%[(%[|1]:(8:Nat)<=1000000)|?_];walk_at "n";refine%[_,h1|?_];try?;refine%[λ q=>?_|λ q=>x c S8 Y p8 H I];try?;rw[zB];refine aR (p8.app _) %[|1] %[|1] λ v T9 v0 v1 u9 p9=>?_;obtain⟨E,rfl,u9,p9⟩:=u9.split p8;try?;rw[zB];exact x _ E (Y.trans u9) p9 %[|0] %[|0]
 {rintro aj T ⟨S6,a,o7,o8,o9,ab,rfl,V,p6,K,J,rfl⟩;rw[aF]at K;obtain⟨tn,rfl⟩:∃tn:Nat,t=(tn:Int):=%[t.toNat|%[|0]];try?;refine%[_,cg V.len.symm|?_];try?;have ok:DdB X d %[tn,m,st|a]:=%[%[w,by simpa using g2,by show(m.length:Int)=w;omega|ah],%[hst.1,hst.2.1,by have:=hst.2.2;show _<st.1;omega|by have:=hst.2.2;show st.1<_;omega],by show a.length<=3;omega|J];exact .inr %[[_],S6,rfl,by rw[V.len];exact y9 _,xg %[tn,m,st|a],V.flat Z|hw %[tn,m,st|a] _ ok V p6 (V.flat Z)]}
def NsB(ws:ab1)(m:Nat)(n:Ns):Prop:=Lps n.lps/\1<=n.dds.length/\n.dds.length<=4/\(cnt n.lps).length<=max 1 (m/n.dds.length)/\∀x∈n.dds,DdB ws n.lps.length x
def PgB(m:Nat)(p:Pg):Prop:=WsB p.ws/\1<=p.nss.length/\p.nss.length<=3/\∀n∈p.nss,NsB p.ws (m/p.nss.length) n
inductive c_progB(ds:List D)(S:Store)(W:WD):Prop
 | mk(k m:Nat):ds=[.loc k,.int m]->aU S k->flat S->12<=m->m<=60->(∀p S',PgB m p->aX S k S'->aU S' k->flat S'->W (dPg p) S')->c_progB ds S W
def Kq(xs:List Dd):aa (xs.map dDd)=true:=by
 induction xs with
 | nil=>rfl
 | cons y b a=>simp only[cn,aa,a,xg,dk]
def Ol(n:Ns):az (dNs n)=true:=by show aa [.tup (n.lps.map dL),.tup (n.dds.map dDd)]=true;have a:az (.tup (n.lps.map dL))=true:=gK _;have b:az (.tup (n.dds.map dDd))=true:=Kq _;simp only[aa,a,b,dk]
def lH(xs:List Ns):aa (xs.map dNs)=true:=by
 induction xs with
 | nil=>rfl
 | cons y b a=>simp only[cn,aa,a,Ol,dk]
def Mu(p:Pg):az (dPg p)=true:=by show aa [dWs p.ws,.tup (p.nss.map dNs)]=true;have a:az (dWs p.ws)=true:=bH _;have b:az (.tup (p.nss.map dNs))=true:=lH _;simp only[aa,a,b,dk]
inductive ProgI(S:Store)(k m:Nat)(ws:ab1)(many:Nat)(i:Nat)(Γ':Gam)(T:Store):Prop
 | mk(S2 nss o5 o6 o7:_):T=S2++[List.map dNs nss]->aX S k S2->aU S2 k->nss.length=i->(∀n∈nss,NsB ws (m/many) n)->Γ'=[some (.loc k),some (.int m),some (dWs ws),some (.int many),%[|19],o5,o6,o7]->ProgI S k m ws many i Γ' T
def Ci(F:Fun Ω.K "_law_program" "_law_program" qu f fd)(N0:%[|7])(B:%[|2])(o:Cal Ω "_law_take" 2 2 c_takeB)(I:Cal Ω "_law_loops" 3 2 c_loopsB)(H:Cal Ω "_law_deed" 4 3 c_deedB):Ok Ω 5 f fd M5 c_progB:=by
 refine aC N0 (N:=G5) F (Bl.drp (Hn B o I H)) %[|8] ?_;rintro ds S W ⟨k,m,rfl,hp,U,ag,ab,hw⟩ hl;try?;refine aR hp %[|1] %[|1] λ v S1 v0 v1 u1 p1=>?_;try?;refine%[%[%[|0]|%[|0]]|oE (λ _ y=>∃n:Int,y=.int n/\(1<=n/\n<=2)) (λ q=>aX S k q/\aU q k) (by rw[aF];omega) %[u1|p1] ?_ ?_];{rintro i d q hd ⟨u,p⟩ R Y;try?;refine aR p %[|1] %[|1] λ w S2 w0 w1 u2 p2=>?_;try?;exact Y _ _ %[_,rfl,%[|0]|%[|0]] %[u.trans u2|p2]};rintro ys S2 D E ⟨u2,p2⟩;obtain⟨g,rfl,ad⟩:=rR E;rw[aF,y7]at D;have hW:WsB g:=%[%[|0],%[|0]|ad];try?;refine aR p2 %[|1] %[|1] λ mv S3 m0 m1 V p3=>?_;have V:=u2.trans V;obtain⟨a,z⟩:∃n:Nat,1+mv=(n:Int):=%[(1+mv).toNat|%[|0]];try?;rw[z];refine%[%[%[|0]|%[|0]]|cu %[ProgI S k m g a,%[S3,[],none,none,none,rfl,V,p3,rfl,λ r h=>(by cases h)|by rw[<-V.len];rfl],?_|?_]]
 . rintro i e ae T he ⟨Q,b,o5,o6,o7,rfl,l,M,A,C,rfl⟩;obtain⟨hi,rfl⟩:=cU he;suffices body:∀X:DL.Fin,(∀G T,ProgI S k m g a (i+1) G T->X.nx G T)->(jK B o I H).wp [some (.loc k),some (.int m),some (dWs g),some (.int a),%[|19],some (.int (0+(i:Int))),o6,o7] (Q++[b.map dNs]) X by refine zA ?_;simp only[mP,mS];exact body _ λ G T h=>h
   intro X ac;try?;refine aR (M.app _) %[|1] %[|1] λ dv T5 d0 d1 s O=>?_;obtain⟨S5,rfl,s,O⟩:=s.split M;have s:=l.trans s;obtain⟨t,aa⟩:∃n:Nat,1+dv=(n:Int):=%[(1+dv).toNat|%[|0]];try?;rw[aa];have em:(if(m:Int)/(a:Int)/(t:Int)>1 then(m:Int)/(a:Int)/(t:Int)else 1)=((max 1 (m/a/t):Nat):Int):=by rw[<-Int.natCast_ediv,<-Int.natCast_ediv];split<;>omega
   have af:m/a/t<=60:=cS (mi _ _) (cS (mi _ _) ab);rw[em];refine%[rfl,k,max 1 (m/a/t),rfl,O.app _,bR (s.flat U) (lH _),%[|0],%[|0]|λ L T6 hls Z P p6 f6=>?_];obtain⟨S6,rfl,P,p6⟩:=P.split O;have P:=s.trans P;try?;have l3:=hls.2.1;refine%[%[%[|0]|%[|0]]|oE (λ _ y=>∃x,y=dDd x/\DdB g L.length x) (λ T=>∃q,T=q++[b.map dNs]/\aX S k q/\aU q k) (by rw[aF];omega) %[S6,rfl,P|p6] ?_ ?_];{rintro j e T he ⟨q,rfl,u,p⟩ R Y;try?;rw[y7];refine%[rfl,k,L.length,g,rfl,p.app _,bR (u.flat U) (lH _),%[|0],hW|λ f Q hf l M f4=>?_];obtain⟨S5,rfl,s,O⟩:=l.split p;exact Y _ _ %[f,rfl|hf] %[S5,rfl,u.trans s|O]};rintro ys T D E ⟨S7,rfl,u7,p7⟩;obtain⟨c,rfl,J⟩:=tY E;rw[aF,y7]at D;try?;refine%[_,cg u7.len.symm,by simp;omega|?_];rw[gq u7.len.symm];refine ac _ _ %[S7,b++[%[L|c]],some (.int (0+(i:Int))),some (.int t),some (.tup (L.map dL)),by rw[cE];rfl,u7,p7,by simp[A],λ r K=>?_|rfl];rcases cm.mp K with K | K;{exact C r K}
   . have:r=%[L|c]:=by simpa using K
     subst this;have e:c.length=t:=%[|0]
     exact%[hls,by show 1<=c.length;omega,by show c.length<=4;omega,by show _<=max 1 (m/a/c.length);rw[e];exact Z|J]
 {rintro ae T ⟨Q,b,o5,o6,o7,rfl,l,M,A,C,rfl⟩;rw[aF]at A;try?;refine%[_,cg l.len.symm|?_];try?;have ok:PgB m %[g|b]:=%[hW,by show 1<=b.length;omega,by show b.length<=3;omega|λ n hn=>by show NsB g (m/b.length) n;rw[show b.length=a by omega];exact C n hn];exact .inr %[[_],Q,rfl,by rw[l.len];exact y9 _,Mu %[g|b],l.flat U|hw %[g|b] _ ok l M (l.flat U)]}
inductive c_atB(ds:List D)(S:Store)(W:WD):Prop
 | mk(f:Fm)(cs:ab1):ds=[dF f,dC cs]->f.2.length=cs.length->cs.length<=10->C64 cs->W (.int (atC f cs)) S->c_atB ds S W
def uc(fs cs:ab1):D->D
 | .int i=>.int (fs.getD i.toNat 0*cs.getD i.toNat 0)
 | d=>d
def Oh(h:fs.length=cs.length):(DL.upTo 0 cs.length).map (uc fs cs)=(List.zipWith (λ a b=>a*b) fs cs).map D.int:=by
 refine ll (by simp[h,aF]) λ i c f=>?_;have e:i<cs.length:=by simpa[aF]using c
 have d:i<fs.length:=%[|0]
 simp[DL.upTo,uc,List.getD,e,d]
def Wr(F:Fun Ω.K "_law_at" "_law_at" K9 f fd)(l:%[|7])(B:%[|2]):Ok Ω 1 f fd Xi c_atB:=by
 refine aC l (N:=Xi) F (WN B) %[|8] ?_;rintro t S W ⟨⟨a,c⟩,b,rfl,g,v,p,s⟩ u;dsimp only at g;try?;refine%[_,cG (j:=0) rfl|?_];try?;have m:((b.map D.int).length:Int).toNat=b.length:=by simp
 refine%[%[%[|0]|by simp;omega]|?_];rw[m];refine d9 (uc c b) (by rw[aF];omega) ?_ ?_
 . intro i e r Q k;obtain⟨h,rfl⟩:=cU r;have d:i<c.length:=%[|0]
   have n:atI (D.int a::c.map D.int) (1+(0+(i:Int)))=some (.int c[i]):=by
    have:(1+(0+(i:Int)))=((i+1:Nat):Int):=%[|0]
    rw[this];exact cG (by simp[d])
   have o:atI (b.map D.int) (0+(i:Int))=some (.int b[i]):=by
    have:(0+(i:Int))=((i:Nat):Int):=%[|0]
    rw[this];exact cG (by simp[h])
   have q:=p b[i] (List.getElem_mem _);try?;refine%[_,n|?_];try?;refine%[_,o|?_];try?;have e:uc c b (.int (0+(i:Int)))=.int (c[i]*b[i]):=by
    have:(0+(i:Int)).toNat=i:=%[|0]
    simp[uc,List.getD,h,d]
   rw[e]at k;exact k
 {rw[Oh g];refine%[_,rfl|?_];try?;exact s}
inductive c_spotB(ds:List D)(S:Store)(W:WD):Prop
 | mk(t:Nat)(pl:List Fm)(cs:ab1):ds=[.int t,dP pl,dC cs]->pl.length<=1000->(∀f∈pl,f.2.length=cs.length)->cs.length<=10->C64 cs->W (bJ (spot t pl cs)) S->c_spotB ds S W
def Ny(F:Fun Ω.K "_law_spot" "_law_spot" BV f fd)(k:%[|7])(B:%[|2])(b:Cal Ω "_law_at" 1 2 c_atB):Ok Ω 2 f fd Rk c_spotB:=by
 refine aC k (N:=Rk) F (Qc B b) %[|8] ?_;rintro o S W ⟨t,j,a,rfl,m,g,c,d,h⟩ p;try?;refine iJ (λ f=>.int (atC f a)) %[|0] ?_ ?_;{intro i f l Q n;try?;exact%[rfl,f,a,rfl,g f (y4 l),c,d|n]}
 . try?;have e:(spot t j a).2.map D.int=j.map λ f=>D.int (atC f a):=by unfold spot;rw[df];rfl
   unfold bJ at h;rw[e]at h;exact h
def Cs.c64(h:Cs i cs):C64 cs:=λ c a=>by have:=h.2 c a;have:=tO i;omega
inductive c_cntB(ds:List D)(S:Store)(W:WD):Prop
 | mk(ls:_):ds=[.tup (List.map dL ls)]->Lps ls->flat S->W (.lst ((cnt ls).map dC)) S->c_cntB ds S W
def Am{o}(h:nlO o):vX k ds o=o:=by
 cases o with
 | none=>rfl
 | some d=>
   cases d with
   | loc j=>have:=h _ rfl;simp[az]at this
   | _=>rfl
def Qf(cs:ab1):az (dC cs)=true:=bH cs
def GJ(F:Fun Ω.K "_law_counts" "_law_counts" tV f fd)(K:%[|7])(B:%[|2])(w:Cal Ω "_law_at" 1 2 c_atB):Ok Ω 2 f fd Ju c_cntB:=by
 refine aC K (N:=Kz) F (Ko B w) %[|8] ?_;rintro ds S W ⟨r,rfl,hL,P,R⟩ hl;try?;refine cC (λ i a p=>(∃H I J n g,a=[some (.tup (r.map dL)),some (.lst ((cnt (r.take i)).map dC)),H,I,J,n,g]/\nlO n/\nlO g)/\p=S) %[%[_,_,_,_,_,rfl,dq|dq]|rfl] ?_ ?_
 . rintro U z i e a p o ⟨⟨H,I,J,n,g,rfl,s,k⟩,rfl⟩;rw[y8]at o
   cases t:r[i]? with
   | none=>rw[t]at o;cases o
   | some l=>
     rw[t]at o;cases o;have hi:=(z0.mp t).1;have h3:=hL.2.1;obtain⟨lo,hi_⟩:=l;obtain⟨b1,b2⟩:=hL.2.2 i _ t;dsimp only at b1 b2;have E:=jY hL i %[|0];have v:=(hL.fits.2 (i+1) %[|0]).1;have q:=km t;rw[q]at v;dsimp only at q v;generalize hG:cnt (r.take i)=G at*;try?;refine%[rfl|?_];try?;refine cC (λ m a T=>(∃n g,a=[some (.tup (r.map dL)),some (.lst (G.map dC)),some (dF lo),some (dF hi_),some (.loc p.length),n,g]/\nlO n/\nlO g)/\T=p++[(aY lo hi_ (G.take m)).map dC]) %[%[_,_,rfl,s|k]|rfl] ?_ ?_
     . rintro V A m e a T o ⟨⟨n,g,rfl,s,k⟩,rfl⟩;obtain⟨b,y,rfl⟩:=aV o;have hc:=E b (y4 y);have hb:=tO (i+1);have Y:=jO %[|0] b1 hc;have Z:=jO %[|0] b2 hc;have lf:=Dm (lo:=lo) (hi:=hi_) y;try?;refine%[rfl,lo,b,rfl,by rw[b1.1,hc.1],by rw[hc.1];omega,hc.c64|?_];try?;refine%[rfl,hi_,b,rfl,by rw[b2.1,hc.1],by rw[hc.1];omega,hc.c64|?_];try?;refine%[%[%[|0],%[|0],%[|0]|%[|0]]|cC (λ j a T=>(∃g,a=[some (.tup (r.map dL)),some (.lst (G.map dC)),some (dF lo),some (dF hi_),some (.loc p.length),some (dC b),g]/\nlO g)/\T=p++[(aY lo hi_ (G.take m)++(bU lo hi_ b).take j).map dC]) %[%[_,rfl|k]|by simp] ?_ ?_]
       . rintro X C j e a T o ⟨⟨g,rfl,k⟩,rfl⟩;obtain⟨Q,rfl⟩:=cU o;have u:j<(bU lo hi_ b).length:=by rw[di];exact Q
         try?;refine%[by rw[y7,hc.1,hH];omega,_,aO _ _,by rw[y7,x8,ej];omega|?_];refine C _ _ _ %[%[_,rfl|jP _]|?_];rw[cj];have L:(bU lo hi_ b)[j]? =some (b++[atC lo b+(j:Int)]):=by unfold bU;rw[y8,HY (by rw[di]at u;exact u)];rfl
         have M:dC (b++[atC lo b+(j:Int)])=D.tup (b.map D.int++[D.int (atC lo b+(j:Int))]):=by unfold dC;rw[cE];rfl
         rw[aD L,<-ca,cE (l₂:=[_]),List.map_singleton,M]
       . rintro a T ⟨⟨g,rfl,k⟩,rfl⟩;refine A _ _ _ %[%[_,_,rfl,λ d h=>by cases h;exact Qf b|k]|?_];have O:(bU lo hi_ b).take (DL.upTo (atC lo b) (atC hi_ b-atC lo b).toNat).length=bU lo hi_ b:=by rw[aF];exact ck (by rw[di];exact y9 _)
         rw[O,jd y]
     . rintro a T ⟨⟨n,g,rfl,s,k⟩,rfl⟩;rw[y7,cr,<-q];try?;refine .inr %[_,_,rfl,y9 _,nO _,P,?_|z _ _ _ %[%[some (dF lo),some (dF hi_),some (.lst ((cnt (r.take (i+1))).map dC)),n,g,?_,s|k]|rfl]]
       . intro x d c;match x,c with
         | 0,c=>cases c;exact .inl (gK _)
         | 1,c=>cases c;exact .inr %[_|rfl]
         | 2,c=>cases c;exact .inl (fU _)
         | 3,c=>cases c;exact .inl (fU _)
         | 4,c=>cases c;exact .inr %[_|rfl]
         | 5,c=>exact .inl (s d (by simpa using c))
         | 6,c=>exact .inl (k d (by simpa using c))
         | x+7,c=>simp at c
       {show[_,_,_,_,_,_,_]=[_,_,_,_,_,_,_];rw[Am s,Am k];simp[vX,dF]}
 {rintro a p ⟨⟨H,I,J,n,g,rfl,s,k⟩,rfl⟩;rw[y7,cr];try?;exact R}
def dPt(cs:ab1)(r:Rd):D:=.tup [.int r.fac,bJ (spot r.tab r.pl cs)]
def dG(cs:ab1)(x:Dd):D:=.tup [bJ (spot x.tab x.pl cs),.int (atC x.st cs),.lst (x.rds.map (dPt cs))]
def qP(n:Ns):List D:=(cnt n.lps).flatMap λ a=>n.dds.map (dG a)
def gm(p:Pg):List D:=p.nss.flatMap qP
inductive c_stepsB(ds:List D)(S:Store)(W:WD):Prop
 | mk(p:Pg)(m:Nat):ds=[dPg p]->PgB m p->m<=60->flat S->hand W (gm p) S->c_stepsB ds S W
theorem ur{c e:Type}{f:c->List e}{b}:∀{l:List c},(∀a∈l,(f a).length<=b)->(l.flatMap f).length<=l.length*b
 | [],_=>by simp
 | a::l,h=>by have g:=ur (l:=l) λ x d=>h x (x4 _ d);have:=h a x6;rw[kS,x8,dQ,oS];omega
def qK(c:Cell):az (bJ c)=true:=by have h:az (.tup (c.2.map D.int))=true:=bH _;show aa [D.int _,.tup (c.2.map D.int)]=true;simp only[aa,h,dk];rfl
theorem kE{b:Type}{f}(h:∀a,az (f a)=true):∀l:List b,aa (l.map f)=true
 | []=>rfl
 | a::l=>by simp only[cn,aa,h,kE h l,dk]
def Le(cs:ab1)(r:Rd):az (dPt cs r)=true:=by show aa [D.int _,bJ _]=true;simp only[aa,qK,dk];rfl
def sJ(cs:ab1)(x:Dd):az (dG cs x)=true:=by have h:az (.lst (x.rds.map (dPt cs)))=true:=kE (Le cs) _;show aa [bJ _,D.int _,.lst (x.rds.map (dPt cs))]=true;simp only[aa,qK,h,dk];rfl
theorem lA:∀{l:List D},(∀d∈l,az d=true)->aa l=true
 | [],_=>rfl
 | d::l,h=>by simp only[aa,h d x6,lA λ x a=>h x (x4 _ a),dk]
def GR(p:Pg):aa (gm p)=true:=lA λ d a=>by obtain⟨n,_,a⟩:=ge.mp a;obtain⟨b,_,a⟩:=ge.mp a;obtain⟨x,_,rfl⟩:=c8.mp a;exact sJ b x
def Ja{b c:Type}{f:b->List c}{l:List b}{a}(h:l[i]? =some a):(l.take (i+1)).flatMap f=(l.take i).flatMap f++f a:=by rw[aD h,jS];simp
def KR(F:Fun Ω.K "_law_steps" "_law_steps" xK f fd)(N0:%[|7])(L:Cal Ω "_law_at" 1 2 c_atB)(M:Cal Ω "_law_counts" 2 1 c_cntB)(D:Cal Ω "_law_spot" 2 3 c_spotB):Ok Ω 3 f fd Mr c_stepsB:=by
 refine aC N0 (N:=Lq) F (Bl.frz (OD L M D)) %[|8] ?_;rintro ds S W ⟨p,m,rfl,hP,hm,hS,Y⟩ hl;obtain⟨hW,aa,ab,J⟩:=hP;have E:∀n∈p.nss,(cnt n.lps).length<=60/\n.dds.length<=4:=λ n v=>by obtain⟨_,_,h4,hc,_⟩:=J n v;have h1:m/p.nss.length/n.dds.length<=60:=cS (mi _ _) (cS (mi _ _) hm);exact%[%[|0]|h4]
 have b1:∀(n:Ns)(j:Nat),n∈p.nss->(((cnt n.lps).take j).flatMap λ c=>n.dds.map (dG c)).length<=240:=λ n j v=>by obtain⟨h1,h2⟩:=E n v;have:=ur (l:=(cnt n.lps).take j) (f:=λ c=>n.dds.map (dG c)) (b:=4) (λ c _=>by rw[y7];exact h2);rw[ej]at this;omega
 have b2:∀i:Nat,((p.nss.take i).flatMap qP).length<=720:=λ i=>by have:=ur (l:=p.nss.take i) (f:=qP) (b:=240) (λ n v=>by have:=b1 n (cnt n.lps).length (iL v);rw[cr]at this;exact this);rw[ej]at this;omega
 try?;refine cC (λ i a g=>(∃o2 o3 C k o q s u,a=[some (dPg p),%[|19],o2,o3,C,k,o,q,s,u])/\g=S++[(p.nss.take i).flatMap qP]) %[%[_,_,_,_,_,_,_,_|rfl]|rfl] ?_ ?_
 . rintro I1 O i e a g I ⟨⟨o2,o3,C,k,o,q,s,u,rfl⟩,rfl⟩;obtain⟨n,v,rfl⟩:=aV I;have B:=y4 v;obtain⟨hL,d1,d4,hc,T⟩:=J n B;obtain⟨g1,g2⟩:=E n B;have gb:=b2 i;try?;refine%[rfl|?_];try?;refine%[rfl,n.lps,rfl,hL,bR hS ?_|?_];{exact lA λ d H=>by obtain⟨n,_,H⟩:=ge.mp H;obtain⟨c,_,H⟩:=ge.mp H;obtain⟨x,_,rfl⟩:=c8.mp H;exact sJ c x};walk_at "n";refine cC (λ j a g=>(∃C k o q s u,a=[some (dPg p),%[|19],some (.tup (n.lps.map dL)),some (.tup (n.dds.map dDd)),C,k,o,q,s,u])/\g=S++[(p.nss.take i).flatMap qP++((cnt n.lps).take j).flatMap λ c=>n.dds.map (dG c)]) %[%[_,_,_,_,_,_|rfl]|by simp] ?_ ?_
   . rintro I2 P j e a g I ⟨⟨C,k,o,q,s,u,rfl⟩,rfl⟩;obtain⟨c,G,rfl⟩:=aV I;have hC:Cs n.lps.length c:=jY hL n.lps.length (y9 _) c (by rw[cr];exact y4 G);have A:c.length<=10:=by have:=hC.1;have:=hL.2.1;omega
     have gj:=b1 n j B;try?;refine cC (λ t a g=>(∃k o q s u,a=[some (dPg p),%[|19],some (.tup (n.lps.map dL)),some (.tup (n.dds.map dDd)),some (dC c),k,o,q,s,u])/\g=S++[((p.nss.take i).flatMap qP++((cnt n.lps).take j).flatMap λ c=>n.dds.map (dG c))++(n.dds.take t).map (dG c)]) %[%[_,_,_,_,_|rfl]|by simp] ?_ ?_
     . rintro I3 R t e a g I ⟨⟨k,o,q,s,u,rfl⟩,rfl⟩;obtain⟨x,hx,rfl⟩:=aV I;obtain⟨⟨w,_,Z,U⟩,hst,ac,V⟩:=T x (y4 hx);have z:∀{t:Nat}{K:List Fm},TpB p.ws n.lps.length t K->K.length<=1000/\∀f∈K,f.2.length=c.length:=λ{t K} h=>by obtain⟨w,Y,hl,hf⟩:=h;have:=hW.2.2 w (y4 Y);exact%[%[|0]|λ f h=>by rw[(hf f h).1,hC.1]]
       try?;refine%[rfl|?_];try?;refine iJ (dPt c) %[|0] ?_ ?_;{intro y r hr Q hq;obtain⟨_,_,X⟩:=V r (y4 hr);obtain⟨q1,q2⟩:=z X;try?;refine%[rfl|?_];try?;refine%[rfl,r.tab,r.pl,c,rfl,q1,q2,A,hC.c64|?_];try?;exact hq};obtain⟨q1,q2⟩:=z %[w,‹_›,Z|U];try?;refine%[rfl,x.tab,x.pl,c,rfl,q1,q2,A,hC.c64|?_];try?;refine%[rfl,x.st,c,rfl,by rw[hst.1,hC.1],A,hC.c64|?_];try?;refine%[_,aO _ _,by simp only[x8,y7,ej];omega|?_];rw[cj];refine R _ _ _ %[%[_,_,_,_,_|rfl]|?_];rw[aD hx,cE (l₂:=[_]),ca];rfl
     {rintro a g ⟨⟨k,o,q,s,u,rfl⟩,rfl⟩;refine P _ _ _ %[%[_,_,_,_,_,_|rfl]|?_];rw[y7,cr,Ja G,<-ca]}
   {rintro a g ⟨⟨C,k,o,q,s,u,rfl⟩,rfl⟩;refine O _ _ _ %[%[_,_,_,_,_,_,_,_|rfl]|?_];rw[y7,cr,Ja v];rfl}
 {rintro a g ⟨⟨o2,o3,C,k,o,q,s,u,rfl⟩,rfl⟩;rw[y7,cr];exact qO Y (GR p) hS}
def all_map{b:Type}{enc}{q:D->Bool}{l:List b}(h:∀a∈l,q (enc a)=true):(l.map enc).all q=true:=by rw[gc];intro x d;obtain⟨a,c,rfl⟩:=c8.mp d;exact h a c
def gA{c:Type}{enc}{l:List c}(h1:a<=(l.length:Int))(h2:(l.length:Int)<=b):bV (.tup (l.map enc)) a b=true:=by show(decide _&&decide _)=true;rw[y7,cc h1,cc h2];rfl
def vp{f}{d:Nat}(h:f.2.length=d):dB (dF f) (d:Int)=true:=by show(decide _&&((f.1::f.2).map D.int).all whole)=true;rw[cc (by simp;omega),all_map (λ _ _=>rfl)];rfl
def Ad{n}(h1:a<=n)(h2:n<=b):lJ a b (.int n)=true:=by show(decide _&&decide _)=true;rw[cc h1,cc h2];rfl
def R0{f}{d}(h:FmB d 1 f):isPlace (d:Int) (dF f)=true:=by obtain⟨c,b,e⟩:=h;show(dB (dF f) (d:Int)&&((f.1::f.2).map D.int).all (lJ (-99) 99))=true;rw[vp c,all_map λ n a=>?_];{rfl};{rcases ci.mp a with rfl | a;{exact Ad %[|0] %[|0]};{exact Ad (b n a).1 (b n a).2}}
def BL{n}(h1: -1000000000000000000000000000000<n)(h2:n<1000000000000000000000000000000):qU n=true:=by unfold qU;rw[zB];exact cc (by split<;>omega)
def QQ{f}{d}(h:StB d f):isStart (dF f) (d:Int)=true:=by obtain⟨b,c,e,g⟩:=h;show(dB (dF f) (d:Int)&&((f.1::f.2).map D.int).all vI)=true;rw[vp b,all_map λ n a=>?_];{rfl};{rcases ci.mp a with rfl | a;{exact BL e g};{have:=c n a;exact BL %[|0] %[|0]}}
def Tv{d}(h:TpB ws d t pl):jG (.int t) (dP pl) ws (d:Int)=true:=by
 obtain⟨w,b,g,c⟩:=h;have i:=(z0.mp b).1;have e:ws.getD ((t:Int)).toNat 0=w:=by simp[List.getD,b]
 show((decide _&&decide _)&&(bV (.tup (pl.map dF)) (ws.getD ((t:Int)).toNat 0) (ws.getD ((t:Int)).toNat 0)&&(pl.map dF).all (isPlace d)))=true;rw[e,cc (p:=(0:Int)<=t) %[|0],cc (p:=(t:Int)<ws.length) %[|0],gA %[|0] %[|0],all_map λ f a=>R0 (c f a)];rfl
def Vs{d}(h:DdB ws d x):fG ws (d:Int) (dDd x)=true:=by obtain⟨e,f,j,g⟩:=h;show(jG (.int x.tab) (dP x.pl) ws d&&(isStart (dF x.st) d&&(bV (.tup (x.rds.map dRd)) 0 3&&(x.rds.map dRd).all (jT ws d))))=true;rw[Tv e,QQ f,gA %[|0] %[|0],all_map λ r i=>?_];{rfl};{obtain⟨a,b,c⟩:=g r i;show(qU r.fac&&jG (.int r.tab) (dP r.pl) ws d)=true;rw[BL a b,Tv c];rfl}
def Ck{f}(h:BdF f i):cL (dF f) (i:Int)=true:=by obtain⟨a,b,c,d⟩:=h;show(dB (dF f) (i:Int)&&(decide _&&(decide _&&(f.2.map D.int).all small)))=true;rw[vp a,cc b,cc c,all_map λ n e=>?_];{rfl};{have:=d n e;show(decide _&&decide _)=true;rw[cc this.1,cc this.2];rfl}
def Ra(h:Lps ls):fZ (.tup (ls.map dL))=true:=by
 obtain⟨g,j,c⟩:=h;show((decide _&&decide _)&&((ls.map dL).mapIdx λ i d=>jb d i).all id)=true;rw[y7,cc %[|0],cc %[|0],gc.mpr λ b f=>?_];{rfl}
 . obtain⟨i,a⟩:=d6 f;rw[kz,y8]at a
   cases e:ls[i]? with
   | none=>rw[e]at a;cases a
   | some l=>rw[e]at a;cases a;show(cL (dF l.1) i&&cL (dF l.2) i)=true;rw[Ck (c i l e).1,Ck (c i l e).2];rfl
def Ww{n}(h:NsB ws m n):iH ws (dNs n)=true:=by obtain⟨a,d,e,f,b⟩:=h;show(fZ (.tup (n.lps.map dL))&&(bV (.tup (n.dds.map dDd)) 1 4&&(n.dds.map dDd).all (fG ws ((n.lps.map dL).length:Int))))=true;rw[Ra a,gA %[|0] %[|0],y7,all_map λ x c=>Vs (b x c)];rfl
def PgB.widths(h:PgB m p):iz (dWs p.ws)=true:=by obtain⟨⟨c,d,a⟩,_⟩:=h;show(bV (.tup (p.ws.map D.int)) 1 3&&(p.ws.map D.int).all (lJ 1 2))=true;rw[gA %[|0] %[|0],all_map λ w b=>Ad (a w b).1 (a w b).2];rfl
def PgB.nests(h:PgB m p):pH (.tup (p.nss.map dNs)) p.ws=true:=by obtain⟨_,c,d,a⟩:=h;show(bV (.tup (p.nss.map dNs)) 1 3&&(p.nss.map dNs).all (iH p.ws))=true;rw[gA %[|0] %[|0],all_map λ n b=>Ww (a n b)];rfl
def PgB.ok(h:PgB m p):∀n∈p.nss,mX n:=λ n a=>by obtain⟨h1,b,c,_⟩:=h.2.2.2 n a;exact%[h1.1,h1.fits|%[|0]]
def Yd{l:ab1}(h:∀x∈l,x<=b):l.sum<=(l.length:Int)*b:=by
 induction l with
 | nil=>simp
 | cons x l c=>have:=c λ y a=>h y (x4 _ a);have:=h x x6;rw[nX,dQ,Int.natCast_add,Int.add_mul];omega
def PgB.many(h:PgB m p)(v:12<=m):many p.nss<=m:=by
 obtain⟨_,o,q,d⟩:=h;have r:4<=m/p.nss.length:=by rw[Nat.le_div_iff_mul_le %[|0]];omega
 have c:∀n∈p.nss,((cnt n.lps).length:Int)*(n.dds.length:Int)<=((m/p.nss.length:Nat):Int):=λ n a=>by
  obtain⟨_,j,k,u,_⟩:=d n a;have s:1<=m/p.nss.length/n.dds.length:=by rw[Nat.le_div_iff_mul_le %[|0]];omega
  have e:(cnt n.lps).length*n.dds.length<=m/p.nss.length:=by
   have f:(cnt n.lps).length<=m/p.nss.length/n.dds.length:=%[|0]
   exact cS (iP _ f) (Nat.div_mul_le_self _ _)
  rw[<-Int.natCast_mul];exact Int.ofNat_le.mpr e
 show(p.nss.map λ n=>((cnt n.lps).length:Int)*(n.dds.length:Int)).sum<=_;have:=Yd (l:=p.nss.map λ n=>((cnt n.lps).length:Int)*(n.dds.length:Int)) (b:=((m/p.nss.length:Nat):Int)) (λ x i=>by obtain⟨n,a,rfl⟩:=c8.mp i;exact c n a);rw[y7]at this;have g:p.nss.length*(m/p.nss.length)<=m:=Nat.mul_div_le _ _;have t:(p.nss.length:Int)*((m/p.nss.length:Nat):Int)<=(m:Int):=by rw[<-Int.natCast_mul];exact Int.ofNat_le.mpr g
 omega
def Rm(h:PgB m p)(a:12<=m)(b:m<=60)(c:flat S)(w:W (dPg p) S):Ek [dWs p.ws,.tup (p.nss.map dNs)] S W:=
 %[p,rfl,h.widths,h.nests,by have:=h.2.2.1;omega,h.ok,by have:=h.many a;omega,c|w]
def xQ(h:s∈aQ nss):∃n,nss[s.1]? =some n/\s.2.1∈cnt n.lps/\s.2.2<n.dds.length:=by unfold aQ at h;obtain⟨l,d,a⟩:=List.mem_flatten.mp h;obtain⟨i,c,rfl⟩:=List.mem_mapIdx.mp d;unfold cZ at a;obtain⟨f,b,a⟩:=ge.mp a;obtain⟨t,e,rfl⟩:=c8.mp a;exact%[nss[i],y3 c,b|dV.mp e]
def gU(p:Pg)(s:Stp):D:=match p.nss[s.1]? with
 | some n=>(match n.dds[s.2.2]? with | some x=>dCs x s.2.1 | none=>.non)
 | none=>.non
inductive c_cellsOf(ds:List D)(S:Store)(W:WD):Prop
 | mk(p:Pg):ds=[dPg p]->p.nss.length<=1000->(∀n∈p.nss,mX n/\∀x∈n.dds,Qg x)->(aQ p.nss).length<=1000000->flat S->W (.lst ((aQ p.nss).map (gU p))) S->c_cellsOf ds S W
def mX.c64{n}(h:mX n)(b:cs∈cnt n.lps):C64 cs:=λ c a=>by have:=((h.2.1.2 n.lps.length (y9 _)).2 cs (by rw[cr];exact b)).2 c a;omega
def yF(F:Fun Ω.K "cells_of" "cells_of" m8 f fd)(j:%[|7])(c:Cal Ω "steps_of" 4 1 c_steps)(b:Cal Ω "cells_of_step" 3 2 c_cellsStep):Ok Ω 5 f fd Bm c_cellsOf:=by
 refine aC j (N:=Bm) F (Ei c b) %[|8] ?_;rintro y S W ⟨p,rfl,v,d,a,q,u⟩ z;try?;refine%[rfl,p,rfl,v,λ n r=>(d n r).1,a,q|.inl ?_];walk_at "n";refine iJ (gU p) a ?_ u;intro i s t Q h;obtain⟨n,g,m,o⟩:=xQ (y4 t);obtain⟨w,k⟩:=d n (y4 g);have e:n.dds[s.2.2]? =some n.dds[s.2.2]:=y3 o;have l:gU p s=dCs n.dds[s.2.2] s.2.1:=by unfold gU;rw[g];show(match n.dds[s.2.2]? with | some x=>dCs x s.2.1 | none=>D.non)=_;rw[e]
 rw[l]at h;try?;exact%[rfl,p,s,n,n.dds[s.2.2],rfl,g,e,k _ (List.getElem_mem _),w.c64 m|h]
def TpB.pl{d}{pl}(hW:WsB ws)(e:d<=3)(h:TpB ws d t pl):Kr pl:=by obtain⟨w,c,g,b⟩:=h;have:=hW.2.2 w (y4 c);exact%[%[|0]|λ f a=>by rw[(b f a).1];omega]
def PgB.deeds(h:PgB m p):∀n∈p.nss,mX n/\∀x∈n.dds,Qg x:=λ n a=>by refine%[h.ok n a|λ x f=>?_];obtain⟨hL,_,_,_,d⟩:=h.2.2.2 n a;obtain⟨b,g,i,c⟩:=d x f;exact%[b.pl h.1 hL.2.1,%[|0]|λ r e=>(c r e).2.2.pl h.1 hL.2.1]
def Ku(i:Nat)(n:Ns):(cZ i n).length=(cnt n.lps).length*n.dds.length:=by
 unfold cZ;generalize cnt n.lps=l
 induction l with
 | nil=>simp
 | cons c l a=>rw[kS,x8,a,dQ,oS];simp[Nat.add_comm]
def lD(nss:List Ns):((aQ nss).length:Int)=many nss:=by
 have:∀i,i<=nss.length->((aQ (nss.take i)).length:Int)=many (nss.take i):=by
  intro i
  induction i with
  | zero=>intro _;rfl
  | succ i b=>intro c;have a:=y3 (l:=nss) (i:=i) %[|0];rw[jD a,x8,Int.natCast_add,b %[|0],Ku,aD a];unfold many;rw[cE,List.sum_append];simp
 have:=this nss.length (y9 _);rw[cr]at this;exact this
def Od(h:PgB m p)(a:12<=m)(b:m<=60)(c:flat S)(w:W (.lst ((aQ p.nss).map (gU p))) S):c_cellsOf [dPg p] S W:=
 %[p,rfl,by have:=h.2.2.1;omega,h.deeds,by have:=h.many a;have:=lD p.nss;omega,c|w]
def Oi(h:PgB m p)(a:12<=m)(b:m<=60)(c:flat S)(w:hand W ((aQ p.nss).map dSt) S):c_steps [dPg p] S W:=
 %[p,rfl,by have:=h.2.2.1;omega,h.ok,by have:=h.many a;have:=lD p.nss;omega,c|w]
def toC(c:Cell):Int×List Int:=((c.1:Int),c.2)
def dCR(a:Cell×List Cell):D:=.tup [bJ a.1,.lst (a.2.map bJ)]
theorem xx:∀(xs ys:ab1),cH (xs.map D.int) (ys.map D.int)=decide (xs=ys)
 | [],[]=>by simp[cH]
 | [],_::_=>by simp[cH]
 | _::_,[]=>by simp[cH]
 | x::xs,y::ys=>by simp only[cn,cH,oY,xx xs ys];rw[gu];simp
theorem jx:∀xs:List Int,cQ (xs.map D.int)=true
 | []=>rfl
 | x::xs=>by simp only[cn,cQ,okD,jx xs,dk]
theorem fj:∀xs:List Int,bC (xs.map D.int)=0
 | []=>rfl
 | x::xs=>by simp only[cn,bC,deep,fj xs];rfl
def aB(p:Pg):List (Dd×List Int):=p.nss.flatMap λ n=>(cnt n.lps).flatMap λ a=>n.dds.map λ x=>(x,a)
def crs(x:Dd×List Int):Cell×List Cell:=(spot x.1.tab x.1.pl x.2,x.1.rds.map λ r=>spot r.tab r.pl x.2)
def Vm(x:Dd×List Int):dCR (crs x)=dCs x.1 x.2:=by unfold dCR crs dCs;rw[df];rfl
theorem jg{b d:Type}{f g:b->List d}:∀{l:List b},(∀a∈l,f a=g a)->l.flatMap f=l.flatMap g
 | [],_=>rfl
 | a::l,h=>by rw[kS,kS,h a x6,jg λ x c=>h x (x4 _ c)]
def rQ(p:Pg):gm p=(aB p).map λ x=>dG x.2 x.1:=by unfold gm aB;rw[ix];refine jg λ n _=>?_;unfold qP;rw[ix];refine jg λ a _=>?_;rw[df];rfl
def CV{n}(h:p.nss[i]? =some n):(cZ i n).map (gU p)=((cnt n.lps).flatMap λ cs=>n.dds.map λ x=>(x,cs)).map λ x=>dCR (crs x):=by
 unfold cZ;rw[ix,ix];refine jg λ cs _=>?_;rw[df,df];apply ll;{simp}
 . intro s c a;have b:s<n.dds.length:=by simpa using a
   rw[gE,gE,List.getElem_range];show gU p (i,cs,s)=dCR (crs (n.dds[s],cs));rw[Vm];unfold gU;show(match p.nss[i]? with | some n=>(match n.dds[s]? with | some x=>dCs x cs | none=>D.non) | none=>D.non)=_;rw[h];show(match n.dds[s]? with | some x=>dCs x cs | none=>D.non)=_;rw[y3 b]
def wM(p:Pg):(aQ p.nss).map (gU p)=(aB p).map λ x=>dCR (crs x):=by
 unfold aQ aB;rw[List.map_flatten,ix,List.flatMap_def];congr 1;apply ll;{simp}
 . intro i c a;have b:i<p.nss.length:=by simpa using a
   rw[gE,List.getElem_mapIdx,gE];exact CV (y3 b)
def Jl{a}[DecidableEq a](kvs:List (a×D))(ns:a)(d:D):(putD kvs ns d).length<=kvs.length+1:=by unfold putD;split<;>simp
def dN(l:ab4):List D:=l.map λ(t:Nat)=>D.int (t:Int)
def JG(h:∀d∈l,az d=true):aa l=true:=by
 induction l with
 | nil=>rfl
 | cons y c b=>simp only[aa,h y x6,b λ d a=>h d (x4 _ a),dk]
def bz(n:Nat)(o:ab4):Prop:=(∀t∈o,t<n)/\o.Nodup
def Gz(p:Pg):(aQ p.nss).length=%[|12]:=by have:=eL List.length (wM p);rw[y7,y7]at this;exact this
def mV(p:Pg):many p.nss=(%[|12]:Int):=by rw[<-lD,Gz]
def fu(c:PgB m p)(a:12<=m)(b:m<=60):%[|12]<=60:=by have d:=c.many a;have e:=mV p;omega
def jU(l:ab4):dN l=(l.map λ(t:Nat)=>(t:Int)).map D.int:=by unfold dN;rw[df];rfl
def bZ(l:ab4):(dN l).length=l.length:=y7 _
def Ax{l}(h:(dN l)[i]? =some d):∃t,l[i]? =some t/\d=.int (t:Int):=by
 unfold dN at h;rw[y8]at h
 cases e:l[i]? with
 | none=>rw[e]at h;cases h
 | some t=>rw[e]at h;cases h;exact%[t,rfl|rfl]
def zG{c:Type}{l:List c}(h:l.Nodup)(a:i<j)(b:j<l.length):l[i]?≠l[j]?:=by rw[y3 %[|0],y3 b];intro z;have z:=cf z;have:=(fx.mp h) i j %[|0] b a;exact this z
def Nj(h:ns.Nodup):unl ns=ns.length:=by
 unfold unl;have d:∀i,i<=ns.length->PyProof.Rows.firstMet (λ i=>ns.getD i 0) i=ns.take i:=by
  intro i
  induction i with
  | zero=>intro _;rfl
  | succ i g=>
    intro k;have b:i<ns.length:=%[|0]
    rw[PyProof.Rows.firstMet_succ,g %[|0],aD (y3 b)];have e:ns.getD i 0=ns[i]:=by simp[List.getD,b]
    unfold PyProof.Rows.step_dedup;rw[e,bP];intro z;rw[iA]at z;obtain⟨x,f,z⟩:=z;have z:=ZU z;subst z;obtain⟨j,a⟩:=d6 f;rw[g7]at a;split at a;{rename_i c;exact zG h c b (by rw[a,y3 b])};{cases a}
 rw[d _ (y9 _),cr]
def Ov(h:o.Nodup):(o.map λ(t:Nat)=>(t:Int)).Nodup:=by
 induction o with
 | nil=>exact fT
 | cons x c b=>rw[fe]at h;rw[cn,fe];refine%[λ z=>?_|b h.2];obtain⟨y,a,e⟩:=c8.mp z;exact h.1 (by rw[show x=y from %[|0]];exact a)
inductive c_isRow(ds:List D)(S:Store)(W:WD):Prop
 | mk(p:Pg)(m:Nat)(o:ab4):ds=[dPg p,.lst (dN o)]->PgB m p->12<=m->m<=60->flat S->o.length<=60->bz %[|12] o->W (.bl true) S->c_isRow ds S W
def Nu(hP:PgB m p)(a:flat S)(w:W (.int (%[|12]:Int)) S):tB [.tup (p.nss.map dNs)] S W:=
 %[p.nss,rfl,by have:=hP.2.2.1;omega,λ n b=>(hP.deeds n b).1,a|by rw[mV];exact w]
def GD(F:Fun Ω.K "is_row" "is_row" tD f fd)(c:%[|7])(B:%[|2])(a:Cal Ω "is_whole" 1 1 c_whole)(b:Cal Ω "number_of_steps" 4 1 tB):Ok Ω 5 f fd J0 c_isRow:=by
 refine aC c (N:=J1) F (J4 B a b) %[|8] ?_;rintro r S W ⟨p,m,o,rfl,h,e,g,j,u,hO,q⟩ s;try?;refine%[rfl|Nu h j ?_];try?;unfold dN;refine Wx (C0:=λ _=>True) (xs:=o) (enc:=λ(t:Nat)=>D.int (t:Int)) (λ _=>.bl true) %[|0] trivial ?_ (.inl ?_);{intro i t n Q l;have k:=hO.1 t (y4 n);try?;refine%[rfl,_,rfl|?_];try?;rw[cc (show(t:Int)<(%[|12]:Int)from %[|0])];exact l};try?;refine%[List.replicate o.length true,by rw[List.map_replicate,<-List.map_const']|?_];have d:(List.replicate o.length true).all id=true:=by simp
 rw[d];try?;refine%[_,by show jy S (.lst (dN o))=_;rw[jU];rfl,by rw[y7];show _<4096;omega|?_];rw[Nj (Ov hO.2),y7];try?;rw[y7,cc rfl];exact q
abbrev Cel:=Int×List Int
abbrev Fz:=List (Cel×Int)
def aj(fa:Fz)(c:Cel):Option Int:=(fa.find? λ kv=>decide (kv.1=c)).map (·.2)
def iQ(fa:Fz)(c:Cel)(v:Int):Fz:=if(fa.any λ kv=>decide (kv.1=c))=true then fa.map λ kv=>if kv.1=c then(kv.1,v)else kv else fa++[(c,v)]
def aA(fa:Fz):Kc:=fa.map λ kv=>(kv.1,D.int kv.2)
def dh(fa:Fz)(c:Cel):bj (aA fa) c=(aj fa c).map D.int:=by unfold bj aj aA;rw[List.find?_map];show Option.map _ (Option.map _ (fa.find? λ kv=>decide (kv.1=c)))=_;cases fa.find? λ kv=>decide (kv.1=c)<;>rfl
def rM(fa:Fz)(c:Cel)(v:Int):putD (aA fa) c (.int v)=aA (iQ fa c v):=by unfold putD iQ aA;rw[List.any_map];show(if(fa.any λ kv=>decide (kv.1=c))=true then _ else _)=_;split;{rw[df,df];refine kF λ kv _=>?_;show(if kv.1=c then(kv.1,D.int v)else(kv.1,D.int kv.2))=_;by_cases e:kv.1=c;{rw[c9 e];show _=((if kv.1=c then(kv.1,v)else kv).1,D.int (if kv.1=c then(kv.1,v)else kv).2);rw[c9 e]};{rw[bP e];show _=((if kv.1=c then(kv.1,v)else kv).1,D.int (if kv.1=c then(kv.1,v)else kv).2);rw[bP e]}};{rw[cE];rfl}
def fzD(fa:Fz):List D:=.non::(aA fa).map encC
def gH(x:Int)(fa:Fz)(kv:Cel×Int):Fz:=iQ fa kv.1 ((aj fa kv.1).getD 0+x*kv.2)
def bL(fa:Fz)(x:Int)(mo:Fz):Fz:=mo.foldl (gH x) fa
def xR{a:Fz}{b}(h:a[i]? =some b):bL fa x (a.take (i+1))=gH x (bL fa x (a.take i)) b:=by unfold bL;rw[aD h,jp];rfl
def zP(fa:Fz)(c:Cel)(v:Int):(iQ fa c v).length<=fa.length+1:=by unfold iQ;split<;>simp
def El(x:Int)(a:Fz):∀fa:Fz,(bL fa x a).length<=fa.length+a.length:=by
 induction a with
 | nil=>intro fa;exact y9 _
 | cons kv a d=>intro fa;have c:=d (gH x fa kv);have f:=zP fa kv.1 ((aj fa kv.1).getD 0+x*kv.2);have e:bL fa x (kv::a)=bL (gH x fa kv) x a:=rfl;have b:gH x fa kv=iQ fa kv.1 ((aj fa kv.1).getD 0+x*kv.2):=rfl;rw[e,dQ];rw[b]at c ⊢;omega
inductive c_addT(ds:List D)(S:Store)(W:WD):Prop
 | mk(f m:Nat)(x:Int)(fa mo:Fz):ds=[.dlo f,.int x,.dlo m]->f≠m->S[f]? =some (fzD fa)->S[m]? =some (fzD mo)->fa.length+mo.length<=1000->Grt x->(∀kv∈mo,Grt kv.2)->W .non (S.set f (fzD (bL fa x mo)))->c_addT ds S W
def vK(F:Fun Ω.K "add_times" "add_times" lO f fd)(u:%[|7]):Ok Ω 1 f fd yt c_addT:=by
 refine aC u (N:=yf) F (zg) %[|8] ?_;rintro B S W ⟨f,m,x,b,a,rfl,l,q,t,s,A,p,z⟩ C;have d:=(z0.mp q).1;have v:S.set f (fzD b)=S:=by refine gL λ i=>?_;by_cases e:f=i;{subst e;rw[fy d,q]};{rw[en e]}
 try?;refine%[aA a,t|HD %[λ i c T=>∃h j,T=S.set f (fzD (bL b x (a.take i)))/\c=[some (.dlo f),some (.int x),some (.dlo m),h,j],%[_,_,by rw[kX];exact v.symm|rfl],?_,?_|?_]];{rintro i c T ⟨h,j,rfl,rfl⟩;rw[en l];exact t}
 . rintro i kv c T o ⟨h,j,rfl,rfl⟩;obtain⟨kv,r,rfl⟩:=aV o;have w:=El x (a.take i) b;have y:(a.take i).length<=a.length:=by rw[ej];omega
   have g:(S.set f (fzD (bL b x (a.take i))))[f]? =some (fzD (bL b x (a.take i))):=fy d;have n:=p kv (y4 r);try?;refine%[rfl|?_];try?;refine%[by rw[List.length_set];exact d|?_];try?;refine%[kv.1,aA (bL b x (a.take i)),rfl,g|?_];have k:(bj (aA (bL b x (a.take i))) kv.1).getD (D.int 0)=D.int ((aj (bL b x (a.take i)) kv.1).getD 0):=by rw[dh];cases aj (bL b x (a.take i)) kv.1<;>rfl
   walk_at "n";refine%[%[A|n]|?_];rw[k];try?;refine%[kv.1,aA (bL b x (a.take i)),rfl,g|?_];refine%[by show(List.map _ _).length<1000000;rw[y7];omega|?_];refine%[_,_,?_|rfl];rw[List.set_set,xR r,rM];rfl
 {rintro c T ⟨h,j,rfl,rfl⟩;have e:(aA a).length=a.length:=y7 ..;rw[e,cr];exact z}
inductive c_theld(ds:List D)(S:Store)(W:WD):Prop
 | mk(c:Cel)(h:Nat)(kvs:Kc):ds=[cD c,.dlo h]->S[h]? =some (.non::kvs.map encC)->W ((bj kvs c).getD (.tup [.int 0,.dlo S.length])) (S++[fzD [(c,1)]])->c_theld ds S W
def ut(F:Fun Ω.K "trace_held" "trace_held" jJ f fd)(e:%[|7]):Ok Ω 1 f fd vG c_theld:=by refine aC e (N:=vG) F (vU) %[|8] ?_;rintro i S W ⟨c,h,b,rfl,d,g⟩ j;have a:=(z0.mp d).1;try?;refine%[a|?_];try?;refine%[c,rfl,aO _ _|?_];rw[cj];try?;refine%[c,b,rfl,by rw[x9 a];exact d|?_];exact g
structure FzOk(U:List Cel)(B:Nat)(fa:Fz):Prop where
 nd:(fa.map (·.1)).Nodup
 sub:∀kv∈fa,kv.1∈U
 bd:∀kv∈fa,kv.2.natAbs<=B
def FzOk.nil(U:List Cel)(B:Nat):FzOk U B []:=%[fT,(λ _ h=>nomatch h)|(λ _ h=>nomatch h)]
def FzOk.mono(h:FzOk U A fa)(a:A<=B):FzOk U B fa:=%[h.nd,h.sub|λ c b=>cS (h.bd c b) a]
def Uh(h:FzOk U B fa)(l:c∈U)(j:v.natAbs<=B):FzOk U B (iQ fa c v):=by
 unfold iQ;split
 . refine%[?_,λ kv d=>?_|λ kv d=>?_]
   . rw[df];have e:fa.map ((λ x:Cel×Int=>x.1) ∘ λ kv=>if kv.1=c then(kv.1,v)else kv)=fa.map (·.1):=kF λ kv _=>by show(if kv.1=c then(kv.1,v)else kv).1=kv.1;split<;>rfl
     rw[e];exact h.nd
   {obtain⟨z,f,rfl⟩:=c8.mp d;split;{exact h.sub z f};{exact h.sub z f}};{obtain⟨z,f,rfl⟩:=c8.mp d;split;{exact j};{exact h.bd z f}}
 {rename_i g;have g:∀kv∈fa,kv.1≠c:=λ kv d e=>g (iA.mpr %[kv,d|cc e]);refine%[?_,λ kv d=>?_|λ kv d=>?_];{rw[cE,iX];refine%[h.nd,by simp|λ a k b i e=>?_];obtain⟨kv,d,rfl⟩:=c8.mp k;rw[cn,kT,cb]at i;exact g kv d (e.trans i)};{rcases cm.mp d with d | d;{exact h.sub kv d};{rw[cb.mp d];exact l}};{rcases cm.mp d with d | d;{exact h.bd kv d};{rw[cb.mp d];exact j}}}
def Qo(h:FzOk U B fa)(c:Cel):((aj fa c).getD 0).natAbs<=B:=by
 unfold aj
 cases q:fa.find? λ kv=>decide (kv.1=c)with
 | none=>exact db _
 | some kv=>exact h.bd kv (h9 q)
def Mm(h:FzOk U A fa)(a:kv.1∈U)(c:x.natAbs<=X)(b:kv.2.natAbs<=B):FzOk U (A+X*B) (gH x fa kv):=by
 refine Uh (h.mono (gz _ _)) a ?_;have d:=Qo h kv.1;have e:(x*kv.2).natAbs<=X*B:=by rw[n4];exact ng c b
 have f:=nB ((aj fa kv.1).getD 0) (x*kv.2);omega
def Vt(f:x.natAbs<=X){a}(hs:∀kv∈a,kv.1∈U)(c:∀kv∈a,kv.2.natAbs<=B):∀{A:Nat}{fa:Fz},FzOk U A fa->FzOk U (A+a.length*(X*B)) (bL fa x a):=by
 induction a with
 | nil=>intro A fa h;exact h.mono %[|0]
 | cons kv a g=>intro A fa h;have d:=Mm h (hs kv x6) f (c kv x6);have e:=g (λ z b=>hs z (x4 _ b)) (λ z b=>c z (x4 _ b)) d;refine e.mono ?_;rw[dQ,oS];omega
def sub_len{b:Type}[DecidableEq b]{l:List b}(nd:l.Nodup):∀{U:List b},(∀x∈l,x∈U)->l.length<=U.length:=by
 induction l with
 | nil=>intro U _;exact db _
 | cons a l f=>intro U h;rw[fe]at nd;have c:=h a x6;have:=f nd.2 (U:=U.erase a) λ x d=>(List.mem_erase_of_ne (λ e:x=a=>nd.1 (e▸d))).mpr (h x (x4 _ d));rw[kC c]at this;have:0<U.length:=List.length_pos_of_mem c;rw[dQ];omega
def FzOk.len(h:FzOk U B fa):fa.length<=U.length:=by
 have:=sub_len h.nd (U:=U) λ x b=>by obtain⟨c,a,rfl⟩:=c8.mp b;exact h.sub c a
 rw[y7]at this;exact this
abbrev Tr:=Int×Fz
def trH(Hf:Cel->Option Tr)(c:Cel):Tr:=(Hf c).getD (0,[(c,1)])
def eE(Hf:Cel->Option Tr)(acc:Tr)(rc:Int×Cel):Tr:=(acc.1+rc.1*(trH Hf rc.2).1,bL acc.2 rc.1 (trH Hf rc.2).2)
def trS(st:Int)(Hf:Cel->Option Tr)(rs:List (Int×Cel)):Tr:=rs.foldl (eE Hf) (st,[])
structure TrOk(U:List Cel)(B:Nat)(t:Tr):Prop where
 n:t.1.natAbs<=B
 z:FzOk U B t.2
def jh(U:List Cel)(B:Nat)(Hf:Cel->Option Tr):Prop:=∀c t,Hf c=some t->TrOk U B t
def t6(h:jh U B Hf)(b:1<=B)(d:c∈U):TrOk U B (trH Hf c):=by
 unfold trH
 cases q:Hf c with
 | some t=>exact h c t q
 | none=>refine%[db _,by simp,λ e a=>?_|λ e a=>?_];{rw[cb.mp a];exact d};{rw[cb.mp a];exact b}
def Pu(h:jh U B Hf)(c:1<=B)(g:U.length<=60)(a:TrOk U A acc)(b:rc.1.natAbs<=X)(d:rc.2∈U):TrOk U (A+60*(X*B)) (eE Hf acc rc):=by
 have t:=t6 h c d;have i:=t.z.len;refine%[?_|?_]
 . show(acc.1+rc.1*(trH Hf rc.2).1).natAbs<=_;have e:(rc.1*(trH Hf rc.2).1).natAbs<=X*B:=by rw[n4];exact ng b t.n
   have f:=nB acc.1 (rc.1*(trH Hf rc.2).1);have:=a.n;omega
 {refine(Vt b t.z.sub t.z.bd a.z).mono ?_;have:(trH Hf rc.2).2.length*(X*B)<=60*(X*B):=iP _ %[|0];omega}
def BR(h:jh U B Hf)(f:1<=B)(g:U.length<=60):∀(rs:List (Int×Cel)),(∀r∈rs,r.1.natAbs<=X/\r.2∈U)->∀{A:Nat}{acc:Tr},TrOk U A acc->TrOk U (A+rs.length*(60*(X*B))) (rs.foldl (eE Hf) acc):=by
 intro rs
 induction rs with
 | nil=>intro _ A acc a;exact%[cS a.n %[|0]|a.z.mono %[|0]]
 | cons r rs j=>
   intro b A acc a;obtain⟨c,d⟩:=b r x6;have:=j (λ z i=>b z (x4 _ i)) (Pu h f g a c d);have e:A+60*(X*B)+rs.length*(60*(X*B))=A+(r::rs).length*(60*(X*B)):=by rw[dQ,Nat.add_mul,Nat.one_mul];omega
   rw[e]at this;exact this
def CW{rs:List (Int×Cel)}(h:rs[i]? =some r):trS st Hf (rs.take (i+1))=eE Hf (trS st Hf (rs.take i)) r:=by unfold trS;rw[aD h,jp];rfl
def lE{a b:Cel}(h:ltC a b=true):ltC b a=false:=NB h
def rZ(l:List Cel):List Cel:=open Classical in if h:∃c:List Cel,c.Perm l/\c.Pairwise (λ a b=>ltC a b=true)then h.choose else[]
def wg{l ks}(h1:ks.Perm l)(h2:ks.Pairwise λ a b=>ltC a b=true):ks=rZ l:=by unfold rZ;have c:∃ks:List Cel,ks.Perm l/\ks.Pairwise (λ a b=>ltC a b=true):=%[ks,h1|h2];rw[dif_pos c];obtain⟨d,e⟩:=c.choose_spec;refine mT (le:=λ a b=>ltC a b=true) (λ a b _ _ x y=>?_) h2 e (h1.trans d.symm);have:=lE x;rw[this]at y;cases y
def tel(fz:Fz)(c:Cel):Option (Cel×Int):=if(aj fz c).getD 0=0 then none else some (c,(aj fz c).getD 0)
def telD(kv:Cel×Int):D:=.tup [cD kv.1,.int kv.2]
def tellZ(fz:Fz):List (Cel×Int):=(rZ (fz.map (·.1))).filterMap (tel fz)
def eG(t:Tr):D:=.tup [.int t.1,.lst ((tellZ t.2).map telD)]
def gC{i}(h:i.natAbs<=2 ^ n)(a:n<100000):Grt i:=kH h (Nat.pow_lt_pow_right %[|1] a)
def aZ(x:Dd)(cs:ab1):List (Int×Cel):=x.rds.map λ r=>(r.fac,toC (spot r.tab r.pl cs))
structure HeldR(h:Nat)(S:Store)(held:Kc)(Hf:Cel->Option Tr):Prop where
 at_:∀kv∈held,∃(n:Int) (j:Nat) (fz:Fz),kv.2=.tup [.int n,.dlo j]/\S[j]? =some (fzD fz)/\Hf kv.1=some (n,fz)/\h≠j
 no:∀c,(∀kv∈held,kv.1≠c)->Hf c=none
 nd:(held.map (·.1)).Nodup
def HeldR.look(h:HeldR k S held Hf)(c:Cel):(bj held c=none/\Hf c=none)\/∃(n:Int) (j:Nat) (fz:Fz),bj held c=some (.tup [.int n,.dlo j])/\S[j]? =some (fzD fz)/\Hf c=some (n,fz):=by
 unfold bj
 cases q:held.find? λ kv=>decide (kv.1=c)with
 | none=>exact .inl %[rfl|h.no c λ kv f e=>by have:=gx.mp q kv f;simp[e]at this]
 | some kv=>
   have e:kv.1=c:=by have:=ko q;simpa using this
   obtain⟨n,j,fz,a,b,d,_⟩:=h.at_ kv (h9 q);exact .inr %[n,j,fz,by show some kv.2=_;rw[a],b|by rw[<-e];exact d]
inductive c_tstep(ds:List D)(S:Store)(W:WD):Prop
 | mk(x:Dd)(cs:ab1)(h:Nat)(held:Kc)(Hf:Cel->Option Tr)(U:List Cel)(B:Nat):ds=[dDd x,dC cs,.lst (x.rds.map λ r=>bJ (spot r.tab r.pl cs)),.dlo h]->x.st.2.length<=1000->C64 cs->S[h]? =some (.non::held.map encC)->HeldR h S held Hf->jh U B Hf->1<=B->B<=2 ^ 50000->U.length<=60->(∀r∈aZ x cs,r.1.natAbs<=2 ^ 100/\r.2∈U)->x.rds.length<=3->(∀J:Store,W (.tup [.int (trS (atC x.st cs) Hf (aZ x cs)).1,.dlo S.length]) (S++[fzD (trS (atC x.st cs) Hf (aZ x cs)).2]++J))->c_tstep ds S W
def nF(F:Fun Ω.K "trace_of_step" "trace_of_step" gP f fd)(N0:%[|7])(B:%[|2])(l:Cal Ω "comes_to" 1 2 c_comes)(m:Cal Ω "trace_held" 1 2 c_theld)(k:Cal Ω "add_times" 1 3 c_addT):Ok Ω 2 f fd qt c_tstep:=by
 refine aC N0 (N:=pP) F (qb B l m k) %[|8] ?_;rintro ds S W ⟨x,a,h,b,Hf,U,B,rfl,C,v,Z,hR,Y,V,s,hU,o,h3,hw⟩ hl;have w:=(z0.mp Z).1;try?;refine%[rfl,x.st.1,x.st.2,a,rfl,C,v|?_];try?;have ez:List.zipWith (λ x y=>D.tup [x,y]) (x.rds.map dRd) (x.rds.map λ r=>bJ (spot r.tab r.pl a))=x.rds.map λ r=>D.tup [dRd r,bJ (spot r.tab r.pl a)]:=by rw[List.zipWith_map,List.zipWith_self]
 rw[ez];have q:comesTo x.st.1 x.st.2 a=atC x.st a:=rfl;rw[q];generalize atC x.st a=st at*;refine cC (λ i g T=>∃J I K L,T=S++[fzD (trS st Hf ((aZ x a).take i)).2]++J/\g=[some (dDd x),some (dC a),some (.lst (x.rds.map λ r=>bJ (spot r.tab r.pl a))),some (.dlo h),some (.int (trS st Hf ((aZ x a).take i)).1),some (.dlo S.length),I,K,L]) %[[],_,_,_,by simp only[gS];rfl|rfl] ?_ ?_
 . rintro I1 t i e g T he ⟨J,I,K,L,rfl,rfl⟩;obtain⟨r,hr,rfl⟩:=aV he;have d:(aZ x a)[i]? =some (r.fac,toC (spot r.tab r.pl a)):=by unfold aZ;rw[y8,hr];rfl
   obtain⟨hf,u⟩:=o _ (y4 d);have M:TrOk U B (trH Hf (toC (spot r.tab r.pl a))):=t6 Y V u;have acc:FzOk U _ (trS st Hf ((aZ x a).take i)).2:=(BR (X:=2 ^ 100) Y V hU ((aZ x a).take i) (λ z E=>o z (iL E)) (A:=st.natAbs) (acc:=(st,[])) %[y9 _|FzOk.nil _ _]).z;have al:=acc.len;have tl:=M.z.len;have P:=CW (st:=st) (Hf:=Hf) d;generalize trS st Hf ((aZ x a).take i)=t0 at*;rw[show D.tup [dRd r,bJ (spot r.tab r.pl a)]=D.tup [dRd r,cD (toC (spot r.tab r.pl a))]from rfl];generalize toC (spot r.tab r.pl a)=c at*;have R:Grt r.fac:=gC hf %[|1];have Q:∀z:Int,z.natAbs<=B->Grt z:=λ z E=>gC (cS E s) %[|1];have lT:(S++[fzD t0.2]++J).length=S.length+1+J.length:=by simp;omega
   try?;refine%[rfl|?_];try?;refine%[rfl,c,h,b,rfl,by rw[ca,x9 w];exact Z|?_];obtain⟨n,j,e1,e2,O,e4⟩:∃(n:Int) (j:Nat),(bj b c).getD (.tup [.int 0,.dlo (S++[fzD t0.2]++J).length])=.tup [.int n,.dlo j]/\(S++[fzD t0.2]++J++[fzD [(c,1)]])[j]? =some (fzD (trH Hf c).2)/\n=(trH Hf c).1/\S.length≠j:=by rcases hR.look c with⟨G,p⟩ | ⟨n,j,fz,G,p,l3⟩;{rw[G];refine%[0,_,rfl,?_,?_|by rw[lT];omega];{rw[aO];unfold trH;rw[p];rfl};{unfold trH;rw[p];rfl}};{have hj:=(z0.mp p).1;rw[G];refine%[n,j,rfl,?_,?_|%[|0]];{rw[ca,ca,x9 hj,p];unfold trH;rw[l3];rfl};{unfold trH;rw[l3];rfl}}
   rw[e1];try?;refine%[%[R|Q n (by rw[O];exact M.n)]|?_];try?;have H:∀A:List D,(S++[A]++J++[fzD [(c,1)]])[S.length]? =some A:=λ A=>by rw[ca];exact cN rfl
   refine%[rfl,S.length,j,r.fac,t0.2,(trH Hf c).2,rfl,e4,H _,e2,%[|0],R,λ kv hk=>Q _ (M.z.bd kv hk)|?_];rw[ca,gh rfl];refine t _ _ _ %[J++[fzD [(c,1)]],some (dRd r),some (cD c),some (.tup [.int n,.dlo j]),?_|?_];{rw[P];rfl};{rw[P,O];rfl}
 . rintro g T ⟨J,I,K,L,rfl,rfl⟩;have e:(x.rds.map λ r=>D.tup [dRd r,bJ (spot r.tab r.pl a)]).length=(aZ x a).length:=by unfold aZ;rw[y7,y7]
   rw[e,cr];try?;exact hw J
def Bw{a}(h:c∈a.map (·.1)):∃v,aj a c=some v:=by
 unfold aj
 cases q:a.find? λ kv=>decide (kv.1=c)with
 | some kv=>exact%[kv.2|rfl]
 | none=>obtain⟨kv,b,rfl⟩:=c8.mp h;have:=gx.mp q kv b;simp at this
def telL(fz:Fz)(ks:List Cel):List D:=(ks.filterMap (tel fz)).map telD
inductive c_ttrace(ds:List D)(S:Store)(W:WD):Prop
 | mk(n:Int)(j:Nat)(fz:Fz):ds=[.tup [.int n,.dlo j]]->S[j]? =some (fzD fz)->fz.length<64->(fz.map (·.1)).Nodup->W (eG (n,fz)) S->c_ttrace ds S W
def um(F:Fun Ω.K "told_trace" "told_trace" jM f fd)(q:%[|7])(B:%[|2]):Ok Ω 1 f fd vm c_ttrace:=by
 refine aC q (N:=wD) F (vB B) %[|8] ?_;rintro A S W ⟨n,j,a,rfl,k,g,l,u⟩ C;have r:a.map (·.1)=(aA a).map (·.1):=by unfold aA;rw[df];rfl
 try?;refine%[a.map (·.1),_,rfl,by rw[y7];exact g,l,.inr %[j,aA a,rfl,k|r]|λ y o w=>?_];have s:=wg o w;have x:=o.length_eq;rw[y7]at x;walk_at "n";refine eU %[by rw[y7];omega,λ i b d=>b=((y.take i).filterMap (tel a)).map telD/\S=d,%[rfl|rfl],?_|?_]
 . rintro i e b d t ⟨rfl,rfl⟩;obtain⟨c,h,rfl⟩:=aV t;obtain⟨v,m⟩:=Bw (o.mem_iff.mp (y4 h));have p:tel a c=if v=0 then none else some (c,v):=by unfold tel;rw[m];rfl
   try?;refine%[c,aA a,rfl,k,.int v,by rw[dh,m];rfl|?_];try?;by_cases z:v=0;{rw[cc z];try?;refine%[?_|rfl];rw[aD h,l0,fN,p,c9 z];simp};{rw[cK z];try?;refine%[c,aA a,rfl,k,.int v,by rw[dh,m];rfl|?_];try?;refine%[?_|rfl];rw[aD h,l0,fN,p,bP z,cE];rfl}
 {rintro b d ⟨rfl,rfl⟩;rw[y7,cr,s];try?;exact u}
def dOf(p:Pg)(s:Stp):Option (Dd×List Int):=(p.nss[s.1]?).bind λ n=>(n.dds[s.2.2]?).map λ x=>(x,s.2.1)
def Qd{n}(h:p.nss[i]? =some n):(cZ i n).map (dOf p)=((cnt n.lps).flatMap λ cs=>n.dds.map λ x=>(x,cs)).map some:=by
 unfold cZ;rw[ix,ix];refine jg λ cs _=>?_;rw[df,df];apply ll;{simp}
 . intro s c a;have b:s<n.dds.length:=by simpa using a
   rw[gE,gE,List.getElem_range];show dOf p (i,cs,s)=some (n.dds[s],cs);unfold dOf;rw[h];show(n.dds[s]?).map _=_;rw[y3 b];rfl
def ZV(p:Pg):(aQ p.nss).map (dOf p)=(aB p).map some:=by
 unfold aQ aB;rw[List.map_flatten,ix,List.flatMap_def];congr 1;apply ll;{simp}
 . intro i c a;have b:i<p.nss.length:=by simpa using a
   rw[gE,List.getElem_mapIdx,gE];exact Qd (y3 b)
def JL(h:(aB p)[t]? =some x):∃(s:Stp) (n:Ns),(aQ p.nss)[t]? =some s/\p.nss[s.1]? =some n/\n.dds[s.2.2]? =some x.1/\s.2.1=x.2:=by
 have e:((aQ p.nss).map (dOf p))[t]? =some (some x):=by rw[ZV,y8,h];rfl
 obtain⟨s,c,a⟩:=aV e;obtain⟨n,b,f,d⟩:=xQ (y4 c);refine%[s,n,c,b|?_];unfold dOf at a;rw[b]at a;have a:some x=(n.dds[s.2.2]?).map λ x=>(x,s.2.1):=a;rw[y3 d]at a ⊢;have a:=cf a;rw[a];exact%[rfl|rfl]
def xNo:Dd×List Int:=(%[0,[],(0,[])|[]],[])
def xAt(p:Pg)(t:Nat):Dd×List Int:=((aB p)[t]?).getD xNo
def jN(h:t<%[|12]):(aB p)[t]? =some (xAt p t):=by unfold xAt;rw[y3 h];rfl
def wrH(x:Dd×List Int):Cel:=toC (spot x.1.tab x.1.pl x.2)
def nxH(Hf:Cel->Option Tr)(x:Dd×List Int):Tr:=trS (atC x.1.st x.2) Hf (aZ x.1 x.2)
def dH(Hf:Cel->Option Tr)(x:Dd×List Int):Cel->Option Tr:=λ c=>if c=wrH x then some (nxH Hf x)else Hf c
def bB(xs:List (Dd×List Int)):Cel->Option Tr:=xs.foldl dH λ _=>none
structure XOk(U:List Cel)(x:Dd×List Int):Prop where
 n2:x.1.st.2.length<=1000
 c64:C64 x.2
 st:(atC x.1.st x.2).natAbs<=2 ^ 100
 rs:∀r∈aZ x.1 x.2,r.1.natAbs<=2 ^ 100/\r.2∈U
 l3:x.1.rds.length<=3
def rn(x:Dd)(cs:ab1):(aZ x cs).length=x.rds.length:=y7 _
def Qa(h:jh U B Hf)(f:1<=B)(i:U.length<=60)(d:XOk U x):jh U (2 ^ 108*B) (dH Hf x):=by
 intro c t a;unfold dH at a;by_cases e:c=wrH x
 . rw[c9 e]at a;cases a;have:=BR (X:=2 ^ 100) h f i (aZ x.1 x.2) d.rs (A:=2 ^ 100) (acc:=(atC x.1.st x.2,[])) %[d.st|FzOk.nil _ _];have l:(aZ x.1 x.2).length*(60*(2 ^ 100*B))<=3*(60*(2 ^ 100*B)):=iP _ (by rw[rn];exact d.l3);have b:2 ^ 100+(aZ x.1 x.2).length*(60*(2 ^ 100*B))<=2 ^ 108*B:=by
    have g:2 ^ 108*B=256*(2 ^ 100*B):=by rw[<-Nat.mul_assoc]
    have j:2 ^ 100<=2 ^ 100*B:=np _ f;rw[g];generalize 2 ^ 100*B=q at*;omega
   exact%[cS this.n b|this.z.mono b]
 {rw[bP e]at a;have:=h c t a;have b:B<=2 ^ 108*B:=nS _ (kf %[|1]);exact%[cS this.n b|this.z.mono b]}
def jr(xs:List (Dd×List Int))(x:Dd×List Int):bB (xs++[x])=dH (bB xs) x:=by unfold bB;rw[jp];rfl
def iu(f:U.length<=60){xs:List (Dd×List Int)}(h:∀x∈xs,XOk U x):∀i,jh U (2 ^ (108*i)) (bB (xs.take i)):=by
 intro i
 induction i with
 | zero=>intro c t a;cases a
 | succ i d=>
   have j:1<=2 ^ (108*i):=kf %[|1];have e:2 ^ (108*(i+1))=2 ^ 108*2 ^ (108*i):=by rw[Nat.mul_succ,Nat.pow_add,mx]
   rw[e]
   cases q:xs[i]? with
   | some x=>rw[aD q,jr];exact Qa d j f (h x (y4 q))
   | none=>have g:=mm.mp q;rw[ck %[|0]];rw[ck g]at d;intro c t a;have:=d c t a;have b:2 ^ (108*i)<=2 ^ 108*2 ^ (108*i):=nS _ (kf %[|1]);exact%[cS this.n b|this.z.mono b]
def rdU(p:Pg):List Cel:=(aB p).flatMap λ x=>(aZ x.1 x.2).map (·.2)
def VL:∀{fs cs:ab1},(∀f∈fs,f.natAbs<=99)->(∀c∈cs,c.natAbs<=117)->(List.zipWith (λ a b=>a*b) fs cs).sum.natAbs<=fs.length*11583:=by
 intro fs
 induction fs with
 | nil=>intro cs _ _;simp
 | cons f fs h=>
   intro cs g e
   cases cs with
   | nil=>simp
   | cons c cs=>
     rw[List.zipWith_cons_cons,nX,dQ];have i:=h (λ z d=>g z (x4 _ d)) (λ z d=>e z (x4 _ d));have j:(f*c).natAbs<=99*117:=by rw[n4];exact ng (g f x6) (e c x6)
     have k:=nB (f*c) (List.zipWith (λ a b=>a*b) fs cs).sum;omega
def QB(h:x∈aB p):∃n∈p.nss,x.2∈cnt n.lps/\x.1∈n.dds:=by unfold aB at h;obtain⟨n,c,h⟩:=ge.mp h;obtain⟨e,a,h⟩:=ge.mp h;obtain⟨d,b,rfl⟩:=c8.mp h;exact%[n,c,a|b]
def Lx(hP:PgB m p)(h:x∈aB p):XOk (rdU p) x:=by
 obtain⟨n,s,g,l⟩:=QB h;obtain⟨hL,_,_,_,i⟩:=hP.2.2.2 n s;obtain⟨_,⟨j,w,C,D⟩,k,u⟩:=i x.1 l;have v:=hL.2.1;have hcs:=jY hL n.lps.length (y9 _) x.2 (by rw[cr];exact g);have B:=tO n.lps.length;refine%[by rw[j];omega,hcs.c64,?_,λ r d=>?_|k]
 . have z:=VL (fs:=x.1.st.2) (cs:=x.2) (λ f o=>by have:=w f o;omega) (λ c g=>by have:=hcs.2 c g;omega);rw[j]at z;have e:atC x.1.st x.2=x.1.st.1+(List.zipWith (λ a b=>a*b) x.1.st.2 x.2).sum:=rfl;rw[e];generalize (List.zipWith (λ a b=>a*b) x.1.st.2 x.2).sum=q at*;have:n.lps.length*11583<=3*11583:=iP _ v;have:(2:Nat) ^ 100=1267650600228229401496703205376:=%[|1]
   omega
 . refine%[?_|ge.mpr %[x,h|c8.mpr %[r,d|rfl]]];unfold aZ at d;obtain⟨q,t,rfl⟩:=c8.mp d;obtain⟨y,A,_⟩:=u q t;show q.fac.natAbs<=_;have:(2:Nat) ^ 100=1267650600228229401496703205376:=%[|1]
   omega
def jZ(b:PgB m p)(a:12<=m)(d:m<=20):(rdU p).length<=60:=by
 have c:=b.many a;rw[mV]at c;have f:(rdU p).length<=%[|12]*3:=ur λ x e=>by rw[y7,rn];exact(Lx b e).l3
 omega
def jQ(a:PgB m p)(hO:bz %[|12] o):∀x∈o.map (xAt p),XOk (rdU p) x:=λ x c=>by obtain⟨t,b,rfl⟩:=c8.mp c;exact Lx a (y4 (jN (hO.1 t b)))
def Vn{kvs:Kc}{c:Cel}{kv:Cel×D}(h:kv∈putD kvs c d):(kv.1=c/\kv.2=d)\/(kv∈kvs/\kv.1≠c):=by unfold putD at h;split at h;{obtain⟨z,b,rfl⟩:=c8.mp h;by_cases e:z.1=c;{rw[c9 e];exact .inl %[e|rfl]};{rw[bP e];exact .inr %[b|e]}};{rename_i a;rcases cm.mp h with h | h;{exact .inr %[h|λ e=>a (iA.mpr %[kv,h|cc e])]};{rw[cb.mp h];exact .inl %[rfl|rfl]}}
def rO{kvs:Kc}{c:Cel}:(putD kvs c d).map (·.1)=if(kvs.any λ kv=>decide (kv.1=c))=true then kvs.map (·.1)else kvs.map (·.1)++[c]:=by unfold putD;split;{rw[df];refine kF λ kv _=>?_;show(if kv.1=c then(kv.1,d)else kv).1=kv.1;split<;>rfl};{rw[cE];rfl}
def Yg{kvs:Kc}{c:Cel}(h:(kvs.map (·.1)).Nodup):((putD kvs c d).map (·.1)).Nodup:=by rw[rO];split;{exact h};{rename_i j;rw[iX];refine%[h,by simp|λ a g b f e=>?_];obtain⟨k,i,rfl⟩:=c8.mp g;rw[cb]at f;exact j (iA.mpr %[k,i|cc (e.trans f)])}
def Uz{kvs:Kc}{c:Cel}:c∈(putD kvs c d).map (·.1):=by rw[rO];split;{rename_i b;obtain⟨f,a,e⟩:=iA.mp b;exact c8.mpr %[f,a|cy e]};{simp}
def Vp{kvs:Kc}{c a:Cel}(h:a∈kvs.map (·.1)):a∈(putD kvs c d).map (·.1):=by rw[rO];split;{exact h};{exact i7 _ h}
def HeldR.put(h:HeldR k S held Hf)(w:k<S.length){t}(u:t=nxH Hf x){X}:HeldR k ((S++[fzD t.2]++J).set k X) (putD held (wrH x) (.tup [.int t.1,.dlo S.length])) (dH Hf x):=by
 refine%[λ f i=>?_,λ c q=>?_|Yg h.nd];{rcases Vn i with⟨g,a⟩ | ⟨b,m⟩;{refine%[t.1,S.length,t.2,a,?_,?_|%[|0]];{rw[en %[|0]];exact cN rfl};{unfold dH;rw[c9 g,u]}};{obtain⟨n,j,s,g,a,r,p⟩:=h.at_ f b;refine%[n,j,s,g,?_,?_|p];{rw[en p,ca,x9 (z0.mp a).1];exact a};{unfold dH;rw[bP m];exact r}}}
 . have v:c≠wrH x:=λ e=>by obtain⟨f,b,a⟩:=c8.mp (Uz (kvs:=held) (c:=wrH x) (d:=.tup [.int t.1,.dlo S.length]));exact q f b (a.trans e.symm)
   unfold dH;rw[bP v];refine h.no c λ f b e=>?_;obtain⟨o,l,a⟩:=c8.mp (Vp (c:=wrH x) (d:=.tup [.int t.1,.dlo S.length]) (c8.mpr %[f,b|rfl]));exact q o l (a.trans e)
inductive c_refRow(ds:List D)(S:Store)(W:WD):Prop
 | mk(p:Pg)(m:Nat)(o:ab4):ds=[dPg p,.lst (dN o)]->PgB m p->12<=m->m<=60->flat S->o.length<=60->bz %[|12] o->W .non S->c_refRow ds S W
def nY(F:Fun Ω.K "refuse_no_row" "refuse_no_row" gQ f fd)(d:%[|7])(a:Cal Ω "is_row" 5 2 c_isRow):Ok Ω 6 f fd pZ c_refRow:=by refine aC d (N:=pZ) F (pU a) %[|8] ?_;rintro k S W ⟨p,m,o,rfl,g,b,c,h,i,e,j⟩ l;try?;refine%[rfl,p,m,o,rfl,g,b,c,h,i,e|?_];try?;exact j
def tvH(Hf:Cel->Option Tr)(c:Cel):D:=eG ((Hf c).getD (0,[]))
def tlH(Hf:Cel->Option Tr)(held:Kc):Kc:=held.map λ kv=>(kv.1,tvH Hf kv.1)
def CQ(Hf:Cel->Option Tr)(held:Kc):(tlH Hf held).map (·.1)=held.map (·.1):=by unfold tlH;rw[df];rfl
def Wn{kvs:Kc}{c:Cel}(h:c∉kvs.map (·.1)):putD kvs c d=kvs++[(c,d)]:=by unfold putD;rw[bP];intro e;obtain⟨b,a,e⟩:=iA.mp e;exact h (c8.mpr %[b,a|cy e])
def Ji{held:Kc}(nd:(held.map (·.1)).Nodup){kv:Cel×D}(h:held[i]? =some kv):putD (tlH Hf (held.take i)) kv.1 (tvH Hf kv.1)=tlH Hf (held.take (i+1)):=by rw[Wn,aD h];{unfold tlH;rw[cE];rfl};{rw[CQ];intro c;obtain⟨z,d,e⟩:=c8.mp c;obtain⟨j,a⟩:=d6 d;have b:=(z0.mp h).1;rw[g7]at a;split at a;{refine zG nd (by assumption) (by rw[y7];exact b) ?_;rw[y8,y8,a,h];show some z.1=some kv.1;rw[e]};{cases a}}
def Qt(a:HeldR k S held Hf)(c:Cel):bj (tlH Hf held) c=(Hf c).map eG:=by
 have e:bj (tlH Hf held) c=(held.find? λ kv=>decide (kv.1=c)).map λ kv=>tvH Hf kv.1:=by unfold bj tlH;rw[List.find?_map,Option.map_map];rfl
 rw[e]
 cases q:held.find? λ kv=>decide (kv.1=c)with
 | none=>rw[a.no c λ kv f e=>by have:=gx.mp q kv f;simp[e]at this];rfl
 | some kv=>
   have d:kv.1=c:=by have:=ko q;simpa using this
   obtain⟨n,j,i,g,h,b,_⟩:=a.at_ kv (h9 q);show some (tvH Hf kv.1)=_;rw[<-d];unfold tvH;rw[b];rfl
def JP(t:Tr):az (eG t)=true:=by have:aa ((tellZ t.2).map telD)=true:=kE (λ kv=>by show aa [cD kv.1,.int kv.2]=true;simp only[aa,dk];show(az (cD kv.1)&&true)=true;rw[dk];show aa [.int kv.1.1,.tup (kv.1.2.map .int)]=true;show(true&&(aa (kv.1.2.map .int)&&true))=true;rw[bH];rfl) _;show(true&&(aa ((tellZ t.2).map telD)&&true))=true;rw[this];rfl
def zM(c:Cel):okD (cD c)=true:=by show(true&&(cQ (c.2.map .int)&&true))=true;rw[jx];rfl
def Wm(t:Tr):okD (eG t)=true/\deep (eG t)<=50:=by
 have h:∀l:List (Cel×Int),cQ (l.map telD)=true/\bC (l.map telD)<=3:=by
  intro l
  induction l with
  | nil=>exact%[rfl|db _]
  | cons kv l ih=>
    constructor;{show((okD (cD kv.1)&&(true&&true))&&cQ (l.map telD))=true;rw[zM,ih.1];rfl}
    . show max (max (deep (cD kv.1)) 0+1) (bC (l.map telD))<=3;have:deep (cD kv.1)=2:=by show max 0 (max (bC (kv.1.2.map .int)+1) 0)+1=2;rw[fj];rfl
      have:=ih.2;omega
 obtain⟨a,b⟩:=h (tellZ t.2);constructor;{show(true&&(cQ ((tellZ t.2).map telD)&&true))=true;rw[a];rfl};{show max 0 (max (bC ((tellZ t.2).map telD)+1) 0)+1<=50;omega}
structure Told(Hf:Cel->Option Tr)(tl:Kc):Prop where
 nd:(tl.map (·.1)).Nodup
 lk:∀c,bj tl c=(Hf c).map eG
 vl:∀kv∈tl,(Hf kv.1).map eG=some kv.2
 ok:aaX tl
 nl:aa (.non::tl.map encC)=true
def Jm(b:HeldR k S held Hf):Told Hf (tlH Hf held):=by
 refine%[by rw[CQ];exact b.nd,Qt b,λ c a=>?_,λ c a=>?_|?_];{unfold tlH at a;obtain⟨z,g,rfl⟩:=c8.mp a;obtain⟨n,j,h,_,_,e,_⟩:=b.at_ z g;show(Hf z.1).map eG=some (tvH Hf z.1);unfold tvH;rw[e];rfl};{unfold tlH at a;obtain⟨z,_,rfl⟩:=c8.mp a;exact Wm _}
 . show(true&&aa ((tlH Hf held).map encC))=true;rw[i6];refine JG λ d f=>?_;obtain⟨c,a,rfl⟩:=c8.mp f;unfold tlH at a;obtain⟨z,_,rfl⟩:=c8.mp a;show(az (cD z.1)&&(az (eG _)&&true))=true;rw[JP];have:az (cD z.1)=true:=by show(true&&(aa (z.1.2.map .int)&&true))=true;rw[bH];rfl
   rw[this];rfl
inductive c_traced(ds:List D)(S:Store)(W:WD):Prop
 | mk(p:Pg)(m:Nat)(o:ab4):ds=[dPg p,.lst (dN o)]->PgB m p->12<=m->m<=20->flat S->bz %[|12] o->(∀tl:Kc,Told (bB (o.map (xAt p))) tl->tl.length<=60->W (.dlo S.length) (S++[.non::tl.map encC]))->c_traced ds S W
def Gr(F:Fun Ω.K "traced" "traced" ul f fd)(N0:%[|7])(C:Cal Ω "steps_of" 4 1 c_steps)(A:Cal Ω "deed_of" 1 2 c_deedof)(y:Cal Ω "cells_of" 5 1 c_cellsOf)(B:Cal Ω "refuse_no_row" 6 2 c_refRow)(G:Cal Ω "trace_of_step" 2 4 c_tstep)(E:Cal Ω "told_trace" 1 1 c_ttrace):Ok Ω 7 f fd pZ c_traced:=by
 refine aC N0 (N:=KQ) F (Bl.owq (Kv C A y B G E)) %[|8] ?_;rintro ds S W ⟨p,m,o,rfl,v,g,aa,K,hO,hw⟩ hl;have l:m<=60:=%[|0]
 have hN:=fu v g l;have ho:o.length<=60:=by have:=sub_len hO.2 (U:=List.range %[|12]) λ t w=>dV.mpr (hO.1 t w);rw[ic]at this;omega
 have hU:=jZ v g aa;have hX:=jQ v hO;try?;refine%[rfl,p,m,o,rfl,v,g,l,K,ho,hO|?_];try?;refine%[rfl|Oi v g l K (.inl ?_)];try?;refine%[rfl|Od v g l K ?_];rw[wM];try?;refine cu %[λ i b T=>∃J a L M,T=%[|13]++J/\HeldR S.length T a (bB ((o.map (xAt p)).take i))/\a.length<=i/\b=[some (dPg p),some (.lst (dN o)),some (.lst ((aQ p.nss).map dSt)),some (.lst ((aB p).map λ x=>dCR (crs x))),some (.dlo S.length),L,M,none,none,none],%[[],[],_,_,by simp,%[(λ _ h=>nomatch h),λ _ _=>rfl|fT],y9 _|rfl],?_|?_]
 . rintro i e b T he ⟨J,a,L,M,rfl,q,u,rfl⟩;obtain⟨t,w,rfl⟩:=Ax he;have af:=hO.1 t (y4 w);have hi:=(z0.mp w).1;have hx:=jN af;have k:=hX (xAt p t) (c8.mpr %[t,y4 w|rfl]);have c:=iu hU hX i;have ab:2 ^ (108*i)<=2 ^ 50000:=lm %[|1] %[|0];have Y:bB ((o.map (xAt p)).take (i+1))=dH (bB ((o.map (xAt p)).take i)) (xAt p t):=by rw[aD (by rw[y8,w];rfl),jr]
   obtain⟨⟨si,sc,sd⟩,n,k1,k2,k3,k4⟩:=JL hx;have k4:sc=(xAt p t).2:=k4;subst k4;have a1:atI ((aQ p.nss).map dSt) ((t:Nat):Int)=some (dSt (si,(xAt p t).2,sd)):=cG (by rw[y8,k1];rfl);have Q:atI ((aB p).map λ x=>dCR (crs x)) ((t:Nat):Int)=some (dCR (crs (xAt p t))):=cG (by rw[y8,hx];rfl);generalize bB ((o.map (xAt p)).take i)=Hf at q c Y;generalize xAt p t=x at hx k Y k1 k2 k3 a1 Q;have d:(%[|13]++J)[S.length]? =some (.non::a.map encC):=cN rfl;try?;refine%[_,a1|?_];try?;refine%[rfl,p,(si,x.2,sd),n,x.1,rfl,k2,k3|?_];try?;refine%[_,Q|?_];try?;refine%[rfl,x.1,x.2,S.length,a,Hf,rdU p,2 ^ (108*i),?_,k.n2,k.c64,d,q,c,kf %[|1],ab,hU,k.rs,k.l3|λ J2=>?_]
   . have e:(crs x).2.map bJ=x.1.rds.map λ r=>bJ (spot r.tab r.pl x.2):=by unfold crs;rw[df];rfl
     rw[e]
   have ac:=q.put (J:=J2) (x:=x) (t:=nxH Hf x) (X:=.non::(putD a (wrH x) (.tup [.int (nxH Hf x).1,.dlo (%[|13]++J).length])).map encC) (z0.mp d).1 rfl;have ah:=Jl a (wrH x) (.tup [.int (nxH Hf x).1,.dlo (%[|13]++J).length]);have V:(%[|13]++J++[fzD (nxH Hf x).2]++J2).set S.length (.non::(putD a (wrH x) (.tup [.int (nxH Hf x).1,.dlo (%[|13]++J).length])).map encC)=S++[.non::(putD a (wrH x) (.tup [.int (nxH Hf x).1,.dlo (%[|13]++J).length])).map encC]++(J++[fzD (nxH Hf x).2]++J2):=by rw[ca,ca %[|13],gh rfl,ca J]
   try?;refine%[_,Q|?_];try?;refine%[wrH x,a,rfl,?_,%[|0],J++[fzD (nxH Hf x).2]++J2,putD a (wrH x) (.tup [.int (nxH Hf x).1,.dlo (%[|13]++J).length]),_,_,V,?_,%[|0]|rfl];{rw[ca,ca %[|13]];exact cN rfl};{rw[Y];exact ac}
 . rintro b T ⟨J,a,L,M,rfl,q,u,rfl⟩;have eo:(o.map (xAt p)).take (dN o).length=o.map (xAt p):=by rw[bZ,ck (by rw[y7];exact y9 _)]
   have c:=iu hU hX o.length;rw[ck (by rw[y7];exact y9 _)]at c;rw[eo]at q;generalize bB (o.map (xAt p))=Hf at q c hw;have hT:=Jm q;have d:(%[|13]++J)[S.length]? =some (.non::a.map encC):=cN rfl;have s:S.length<(%[|13]++J).length:=(z0.mp d).1;have ae:S.length<=(%[|13]++J).length:=f7 s;have ad:∃J2,%[|13]++J=S++J2:=%[_|by rw[ca]];try?;generalize %[|13]++J=T at*;refine%[a,by rw[x9 s];exact d|HD %[λ i b I=>∃O P,I=T++[.non::(tlH Hf (a.take i)).map encC]/\b=[some (dPg p),some (.lst (dN o)),some (.lst ((aQ p.nss).map dSt)),some (.lst ((aB p).map λ x=>dCR (crs x))),some (.dlo S.length),L,M,some (.dlo T.length),O,P],%[_,_,rfl|rfl],?_,?_|?_]];{rintro i b I ⟨O,P,rfl,rfl⟩;rw[x9 s];exact d}
   . rintro i kv b I H ⟨O,P,rfl,rfl⟩;obtain⟨n,j,Z,e1,e2,R,e4⟩:=q.at_ kv (y4 H);have hj:=(z0.mp e2).1;have ag:Z.length<=(rdU p).length:=(c _ _ R).z.len;have ev:tvH Hf kv.1=eG (n,Z):=by unfold tvH;rw[R];rfl
     have hp:=Ji (Hf:=Hf) q.nd H;rw[ev]at hp;have ai:(tlH Hf (a.take i)).length<=60:=by unfold tlH;rw[y7,ej];rw[bZ]at u;omega
     have ek:encC kv=.tup [cD kv.1,.tup [.int n,.dlo j]]:=by show D.tup [cD kv.1,kv.2]=_;rw[e1]
     rw[ek];try?;refine%[rfl|?_];try?;refine%[rfl,n,j,Z,rfl,by rw[x9 hj];exact e2,%[|0],(c _ _ R).z.nd|?_];try?;refine%[kv.1,tlH Hf (a.take i),rfl,aO _ _,%[|0]|?_];rw[cj,hp];exact%[_,_,rfl|rfl]
   {rintro b I ⟨O,P,rfl,rfl⟩;rw[cr];obtain⟨J2,rfl⟩:=ad;try?;exact .inr %[true,J2++[.non::(tlH Hf a).map encC],S,(S++J2).length,.non::(tlH Hf a).map encC,rfl,by rw[ca],y9 _,ae,aO _ _,hT.nl,K|hw _ hT (by unfold tlH;rw[y7];rw[bZ]at u;omega)]}
def nW{b}(nd:(b.map (·.1)).Nodup)(h:kv∈b):aj b kv.1=some kv.2:=by
 unfold aj
 cases q:b.find? λ z=>decide (z.1=kv.1)with
 | none=>have:=gx.mp q kv h;simp at this
 | some z=>
   have e:z.1=kv.1:=by have:=ko q;simpa using this
   obtain⟨i,d⟩:=d6 h;obtain⟨j,a⟩:=d6 (h9 q);have g:=(z0.mp d).1;have k:=(z0.mp a).1;have :i=j:=by by_cases c:i<j;{refine absurd ?_ (zG nd c (by rw[y7];exact k));rw[y8,y8,d,a];show some kv.1=some z.1;rw[e]};{by_cases f:j<i;{refine absurd ?_ (zG nd f (by rw[y7];exact g));rw[y8,y8,d,a];show some z.1=some kv.1;rw[e]};{omega}}
   subst this;rw[d]at a;cases a;rfl
inductive c_ltraces(ds:List D)(S:Store)(W:WD):Prop
 | mk(p:Pg)(m:Nat)(o:ab4):ds=[.lst (gm p),.lst (dN o)]->PgB m p->12<=m->m<=20->flat S->bz %[|12] o->(∀tl:Kc,Told (bB (o.map (xAt p))) tl->tl.length<=60->W (.dlo S.length) (S++[.non::tl.map encC]))->c_ltraces ds S W
inductive TrA(S:Store)(p:Pg)(o:ab4)(i:Nat)(Γ':Gam)(T:Store):Prop
 | mk(J held o3 o4 o5 o6 o7 o8 o9 o10 o11 o12:_):T=S++[.non::held.map encC]++J->HeldR S.length T held (bB ((o.map (xAt p)).take i))->held.length<=i->Γ'=[some (.lst ((aB p).map λ x=>dG x.2 x.1)),some (.lst (dN o)),some (.dlo S.length),o3,o4,o5,o6,o7,o8,o9,o10,o11,o12,none]->TrA S p o i Γ' T
inductive TrB(S T:Store)(p:Pg)(o:ab4)(t:Nat)(x:Dd×List Int)(st:Int)(Hf:Cel->Option Tr)(k:Nat)(Γ':Gam)(T2:Store):Prop
 | mk(J2 o8 o9 o10 o11 o12:_):T2=T++[fzD (trS st Hf ((aZ x.1 x.2).take k)).2]++J2->Γ'=[some (.lst ((aB p).map λ x=>dG x.2 x.1)),some (.lst (dN o)),some (.dlo S.length),some (.int (t:Int)),some (bJ (spot x.1.tab x.1.pl x.2)),some (.int (trS st Hf ((aZ x.1 x.2).take k)).1),some (.lst (x.1.rds.map (dPt x.2))),some (.dlo T.length),o8,o9,o10,o11,o12,none]->TrB S T p o t x st Hf k Γ' T2
inductive TrC(S T J2:Store)(p:Pg)(o:ab4)(t:Nat)(x:Dd×List Int)(t0:Tr)(r:Rd)(mo:Fz)(c:Cel)(n:Int)(j:Nat)(q:Nat)(Γ':Gam)(T3:Store):Prop
 | mk(o12:_):T3=T++[fzD (bL t0.2 r.fac (mo.take q))]++(J2++[fzD [(c,1)]])->Γ'=[some (.lst ((aB p).map λ x=>dG x.2 x.1)),some (.lst (dN o)),some (.dlo S.length),some (.int (t:Int)),some (bJ (spot x.1.tab x.1.pl x.2)),some (.int (t0.1+r.fac*n)),some (.lst (x.1.rds.map (dPt x.2))),some (.dlo T.length),some (.int r.fac),some (cD c),some (.int n),some (.dlo j),o12,none]->TrC S T J2 p o t x t0 r mo c n j q Γ' T3
inductive TrD(S T:Store)(p:Pg)(o:ab4)(Hf:Cel->Option Tr)(held:Kc)(o3 o6 o8 o9 o10 o11 o12:Option D)(i:Nat)(Γ':Gam)(T':Store):Prop
 | mk(o4 o5 o7:_):T'=T++[.non::(tlH Hf (held.take i)).map encC]->Γ'=[some (.lst ((aB p).map λ x=>dG x.2 x.1)),some (.lst (dN o)),some (.dlo S.length),o3,o4,o5,o6,o7,o8,o9,o10,o11,o12,some (.dlo T.length)]->TrD S T p o Hf held o3 o6 o8 o9 o10 o11 o12 i Γ' T'
def Gv(F:Fun Ω.K "_law_traces" "_law_traces" sU f fd)(N0:%[|7])(B:%[|2]):Ok Ω 1 f fd JC c_ltraces:=by
 refine aC N0 (N:=JS) F (Bl.owq (Ka B)) %[|8] ?_;rintro ds S W ⟨p,m,o,rfl,hP,ab,am,hS,hO,hw⟩ hl;have an:m<=60:=%[|0]
 have hN:=fu hP ab an;have ho:o.length<=60:=by have:=sub_len hO.2 (U:=List.range %[|12]) λ t Z=>dV.mpr (hO.1 t Z);rw[ic]at this;omega
 have hU:=jZ hP ab am;have hX:=jQ hP hO;rw[rQ];try?;refine cC (TrA S p o) %[[],[],_,_,_,_,_,_,_,_,_,_,by simp,%[(λ _ h=>nomatch h),λ _ _=>rfl|fT],y9 _|rfl] ?_ ?_
 . rintro I1 ao i e b T he ⟨J,a,o3,o4,o5,o6,o7,o8,o9,H,I,u,rfl,y,P,rfl⟩;obtain⟨t,Z,rfl⟩:=Ax he;have aF:=hO.1 t (y4 Z);have hi:=(z0.mp Z).1;have hx:=jN aF;have af:=hX (xAt p t) (c8.mpr %[t,y4 Z|rfl]);have d:=iu hU hX i;have ac:2 ^ (108*i)<=2 ^ 50000:=lm %[|1] %[|0];have hB:1<=2 ^ (108*i):=kf %[|1];have V:bB ((o.map (xAt p)).take (i+1))=dH (bB ((o.map (xAt p)).take i)) (xAt p t):=by rw[aD (by rw[y8,Z];rfl),jr]
   have a1:atI ((aB p).map λ x=>dG x.2 x.1) ((t:Nat):Int)=some (dG (xAt p t).2 (xAt p t).1):=cG (by rw[y8,hx];rfl);generalize bB ((o.map (xAt p)).take i)=Hf at y d V;generalize xAt p t=x at hx af V a1;generalize 2 ^ (108*i)=B at d ac hB;have s:(%[|13]++J)[S.length]? =some (.non::a.map encC):=cN rfl;have g:=(z0.mp s).1;have as:=λ J2=>y.put (J:=J2) (x:=x) (t:=nxH Hf x) (X:=.non::(putD a (wrH x) (.tup [.int (nxH Hf x).1,.dlo (%[|13]++J).length])).map encC) g rfl;try?;refine%[_,a1|?_];try?;refine%[rfl|?_];try?;have az:∀(J2 X:List D)(L:Store),(S++[J2]++J++[X]++L).set S.length X=(S++[J2]++J++[X]++L).set S.length X:=λ _ _ _=>rfl;have aa:∀(A X Y:List D)(L:Store),(S++[A]++J++[X]++L).set S.length Y=S++[Y]++(J++[X]++L):=λ A X Y L=>by rw[ca,ca (S++[A]),gh rfl,ca J]
   have aL:=Jl a (wrH x) (.tup [.int (nxH Hf x).1,.dlo (%[|13]++J).length]);have ak:nxH Hf x=trS (atC x.1.st x.2) Hf (aZ x.1 x.2):=rfl;have ae:=af.rs;have O:=aa (.non::a.map encC);clear aa az;generalize hT:%[|13]++J=T at*;generalize atC x.1.st x.2=st at*;refine cC (TrB S T p o t x st Hf) %[[],_,_,_,_,_,by simp only[gS];rfl|rfl] ?_ ?_
   . rintro I2 ap k e b T2 aw ⟨J2,o8,o9,H,I,u,rfl,rfl⟩;obtain⟨r,hr,rfl⟩:=aV aw;have K:(aZ x.1 x.2)[k]? =some (r.fac,toC (spot r.tab r.pl x.2)):=by unfold aZ;rw[y8,hr];rfl
     obtain⟨hf,av⟩:=ae _ (y4 K);have tr:TrOk (rdU p) B (trH Hf (toC (spot r.tab r.pl x.2))):=t6 d hB av;have acc:FzOk (rdU p) _ (trS st Hf ((aZ x.1 x.2).take k)).2:=(BR (X:=2 ^ 100) d hB hU ((aZ x.1 x.2).take k) (λ z G=>ae z (iL G)) (A:=st.natAbs) (acc:=(st,[])) %[y9 _|FzOk.nil _ _]).z;have al:=acc.len;have tl:=tr.z.len;have ek:=CW (st:=st) (Hf:=Hf) K;generalize trS st Hf ((aZ x.1 x.2).take k)=t0 at*;rw[show dPt x.2 r=D.tup [.int r.fac,cD (toC (spot r.tab r.pl x.2))]from rfl];generalize toC (spot r.tab r.pl x.2)=c at*;have gf:Grt r.fac:=gC hf %[|1];have gB:∀z:Int,z.natAbs<=B->Grt z:=λ z G=>gC (cS G ac) %[|1];have lT:(T++[fzD t0.2]++J2).length=T.length+1+J2.length:=by simp;omega
     try?;refine%[rfl|?_];try?;refine%[by rw[lT];omega|?_];try?;refine%[c,rfl,aO _ _|?_];rw[cj];try?;refine%[c,a,rfl,by rw[ca,ca,x9 g];exact s|?_];obtain⟨n,j,e1,e2,e3,e4⟩:∃(n:Int) (j:Nat),(bj a c).getD (.tup [.int 0,.dlo (T++[fzD t0.2]++J2).length])=.tup [.int n,.dlo j]/\(T++[fzD t0.2]++J2++[fzD [(c,1)]])[j]? =some (fzD (trH Hf c).2)/\n=(trH Hf c).1/\T.length≠j:=by rcases y.look c with⟨l1,R⟩ | ⟨n,j,w,l1,R,l3⟩;{rw[l1];refine%[0,_,rfl,?_,?_|by rw[lT];omega];{rw[aO];unfold trH;rw[R];rfl};{unfold trH;rw[R];rfl}};{have hj:=(z0.mp R).1;rw[l1];refine%[n,j,rfl,?_,?_|%[|0]];{rw[ca,ca,x9 hj,R];unfold trH;rw[l3];rfl};{unfold trH;rw[l3];rfl}}
     rw[e1];try?;refine%[rfl|?_];try?;refine%[%[gf|gB n (by rw[e3];exact tr.n)]|?_];try?;have Q:∀A:List D,(T++[A]++(J2++[fzD [(c,1)]]))[j]? =some (fzD (trH Hf c).2):=λ A=>by rw[<-gh (l:=fzD t0.2) (l':=A) rfl,en e4,<-ca];exact e2
     have ay:∀kv∈(trH Hf c).2,aj (trH Hf c).2 kv.1=some kv.2/\Grt kv.2:=λ kv hk=>%[nW tr.z.nd hk|gB _ (tr.z.bd kv hk)];have ag:(eE Hf t0 (r.fac,c)).1=t0.1+r.fac*n:=by rw[e3];rfl
     have ah:(eE Hf t0 (r.fac,c)).2=bL t0.2 r.fac (trH Hf c).2:=rfl;generalize (trH Hf c).2=mo at*;rw[ca (T++[fzD t0.2])];refine%[aA mo,Q _|Dp (TrC S T J2 p o t x t0 r mo c n j) %[_,rfl|rfl] ?_ ?_ ?_];{rintro q b T3 ⟨u,rfl,rfl⟩;exact Q _}
     . rintro I3 aq q kv b T3 E ⟨u,rfl,rfl⟩;obtain⟨z,G,rfl⟩:=aV E;obtain⟨aG,aH⟩:=ay z (y4 G);have aJ:=El r.fac (mo.take q) t0.2;have aK:(mo.take q).length<=mo.length:=by rw[ej];omega
       have M:(T++[fzD (bL t0.2 r.fac (mo.take q))]++(J2++[fzD [(c,1)]]))[T.length]? =some (fzD (bL t0.2 r.fac (mo.take q))):=cN rfl;have ai:(bj (aA (bL t0.2 r.fac (mo.take q))) z.1).getD (D.int 0)=D.int ((aj (bL t0.2 r.fac (mo.take q)) z.1).getD 0):=by rw[dh];cases aj (bL t0.2 r.fac (mo.take q)) z.1<;>rfl
       have eT:=xR (fa:=t0.2) (x:=r.fac) G;try?;refine%[(z0.mp M).1|?_];try?;refine%[z.1,aA (bL t0.2 r.fac (mo.take q)),rfl,M|?_];try?;refine%[z.1,aA mo,rfl,Q _,.int z.2,by rw[dh,aG];rfl|?_];walk_at "n";refine%[%[gf|aH]|?_];rw[ai];try?;refine%[z.1,aA (bL t0.2 r.fac (mo.take q)),rfl,M|?_];refine%[by show(List.map _ _).length<1000000;rw[y7];omega|?_];refine aq _ _ _ %[_,?_|rfl];rw[gh rfl,eT,rM];rfl
     {rintro b T3 ⟨u,rfl,rfl⟩;have e:(aA mo).length=mo.length:=y7 ..;rw[e,cr];refine ap _ _ _ %[J2++[fzD [(c,1)]],some (.int r.fac),some (cD c),some (.int n),some (.dlo j),u,?_|?_];{rw[ek,ah]};{rw[ek,ag]}}
   . rintro b T2 ⟨J2,o8,o9,H,I,u,rfl,rfl⟩;have e:(x.1.rds.map (dPt x.2)).length=(aZ x.1 x.2).length:=by unfold aZ;rw[y7,y7]
     rw[e,cr,<-ak];try?;have ad:=as J2;rw[O]at ad;refine%[wrH x,a,rfl,by rw[ca,x9 g];exact s,%[|0]|ao _ _ _ %[J++[fzD (nxH Hf x).2]++J2,putD a (wrH x) (.tup [.int (nxH Hf x).1,.dlo T.length]),_,_,_,_,_,_,_,_,_,_,O _ _ _,?_,%[|0]|rfl]];rw[V,O];exact ad
 . rintro b T ⟨J,a,o3,o4,o5,o6,o7,o8,o9,H,I,u,rfl,y,P,rfl⟩;have eo:(o.map (xAt p)).take (dN o).length=o.map (xAt p):=by rw[bZ,ck (by rw[y7];exact y9 _)]
   have d:=iu hU hX o.length;rw[ck (by rw[y7];exact y9 _)]at d;rw[eo]at y;generalize bB (o.map (xAt p))=Hf at y d hw;have hT:=Jm y;have s:(%[|13]++J)[S.length]? =some (.non::a.map encC):=cN rfl;have g:S.length<(%[|13]++J).length:=(z0.mp s).1;have aE:S.length<=(%[|13]++J).length:=f7 g;have au:∃J2,%[|13]++J=S++J2:=%[_|by rw[ca]];try?;generalize %[|13]++J=T at*;refine%[a,by rw[x9 g];exact s|Dp (TrD S T p o Hf a o3 o6 o8 o9 H I u) %[_,_,_,rfl|rfl] ?_ ?_ ?_];{rintro i b T' ⟨o4,o5,o7,rfl,rfl⟩;rw[x9 g];exact s}
   . rintro I4 ar i kv b T' E ⟨o4,o5,o7,rfl,rfl⟩;obtain⟨n,j,w,ax,e2,e3⟩:∃(n:Int) (j:Nat) (w:Fz),bj a kv.1=some (.tup [.int n,.dlo j])/\T[j]? =some (fzD w)/\Hf kv.1=some (n,w):=by rcases y.look kv.1 with⟨l1,R⟩ | h;{obtain⟨_,_,_,_,_,e,_⟩:=y.at_ kv (y4 E);rw[R]at e;cases e};{exact h}
     have hj:=(z0.mp e2).1;have G:=(d _ _ e3).z;have aI:w.length<=(rdU p).length:=G.len;have ev:tvH Hf kv.1=eG (n,w):=by unfold tvH;rw[e3];rfl
     have hp:=Ji (Hf:=Hf) y.nd E;rw[ev]at hp;have aM:(tlH Hf (a.take i)).length<=60:=by unfold tlH;rw[y7,ej];rw[bZ]at P;omega
     have C:(T++[.non::(tlH Hf (a.take i)).map encC])[j]? =some (fzD w):=by rw[x9 hj];exact e2
     have ek:(aA w).map (·.1)=w.map (·.1):=by unfold aA;rw[df];rfl
     try?;refine%[kv.1,a,rfl,by rw[x9 g];exact s,_,ax|?_];try?;refine%[rfl|?_];try?;refine%[j,aA w,rfl,C|?_];try?;refine%[w.map (·.1),_,rfl,by rw[y7];omega,G.nd,.inl (by rw[ek])|λ ks k1 k2=>?_];have es:=wg k1 k2;have kl:=k1.length_eq;rw[y7]at kl;walk_at "n";generalize hT1:T++[.non::(tlH Hf (a.take i)).map encC]=T1 at C ⊢;refine eU %[by rw[y7];omega,λ q acc S'=>acc=telL w (ks.take q)/\T1=S',%[rfl|rfl],?_|?_]
     . rintro q e acc S' he ⟨rfl,rfl⟩;obtain⟨c,hc,rfl⟩:=aV he;obtain⟨v,hv⟩:=Bw (k1.mem_iff.mp (y4 hc));have V:tel w c=if v=0 then none else some (c,v):=by unfold tel;rw[hv];rfl
       try?;refine%[c,aA w,rfl,C,.int v,by rw[dh,hv];rfl|?_];try?;by_cases z:v=0;{rw[cc z];try?;refine%[?_|rfl];unfold telL;rw[aD hc,l0,fN,V,c9 z];simp};{rw[cK z];try?;refine%[c,aA w,rfl,C,.int v,by rw[dh,hv];rfl|?_];try?;refine%[?_|rfl];unfold telL;rw[aD hc,l0,fN,V,bP z,cE];rfl}
     {rintro acc S' ⟨rfl,rfl⟩;rw[y7,cr,es];try?;refine%[kv.1,tlH Hf (a.take i),rfl,by rw[<-hT1];exact aO _ _,%[|0]|ar _ _ _ %[_,_,_,?_|rfl]];rw[<-hT1,cj];exact eL (λ z:Kc=>T++[D.non::z.map encC]) hp}
   {rintro b T' ⟨o4,o5,o7,rfl,rfl⟩;rw[cr];obtain⟨J2,rfl⟩:=au;try?;exact .inr %[true,J2++[.non::(tlH Hf a).map encC],S,(S++J2).length,.non::(tlH Hf a).map encC,rfl,by rw[ca],y9 _,aE,aO _ _,hT.nl,hS|hw _ hT (by unfold tlH;rw[y7];rw[bZ]at P;omega)]}
def vR(h:o.Perm (List.range n)):bz n o:=%[λ t a=>dV.mp (h.mem_iff.mp a)|h.nodup_iff.mpr oi]
def Dn(h:o.Perm (List.range n)):o.length=n:=h.length_eq.trans ic
def xn{m}(a:aU S k)(b:0<m)(h1:m<1000000000000000000000000000000000000000000000000000000000000)(w:∀v S',0<=v->v<m->aX S k S'->aU S' k->W (.int v) (S'++R)):([D.loc k,.int m].length=2/\c_takeB [.loc k,.int m] (S++R) W):=by refine aR (a.app R) b h1 λ v T e f u p=>?_;obtain⟨S',rfl,d,c⟩:=u.split a;exact w v S' e f d c
def j6(h:S.length=S'.length):(S'++[l])[S.length]? =some l:=by rw[h];simp
def Tc(h:S.length=S'.length):(S'++[l]).set S.length z=S'++[z]:=by rw[h,List.set_append_right _ _ (y9 _),pb];rfl
def Rp(h:o.Perm (List.range i)):(o.take v++i::o.drop v).Perm (List.range (i+1)):=by refine List.perm_middle.trans ?_;rw[gt,mh];exact(List.Perm.cons _ h).trans (List.perm_append_singleton _ _).symm
def Ti(n:Nat):DL.upTo 0 n=dN (List.range n):=by unfold DL.upTo dN;refine kF λ k _=>?_;rw[Int.zero_add]
def Im(n:Nat)(S:Store)(o:ab4):Rsvs n S (dN o) (dN o):=by
 unfold dN
 induction o with
 | nil=>exact .nil
 | cons t o a=>exact .cons (.ok rfl) a
def Ql(h:bz n o)(v:Nat):bz n (o.take v):=%[λ t a=>h.1 t (iL a)|h.2.sublist (kN _ _)]
inductive c_row(ds:List D)(S:Store)(W:WD):Prop
 | mk(k n:Nat):ds=[.loc k,.int (n:Int)]->aU S k->n<=60->flat S->(∀(o:ab4) S',bz n o->aX S k S'->aU S' k->W (.lst (dN o)) S')->c_row ds S W
def Qz(F:Fun Ω.K "_law_row" "_law_row" Ih f fd)(J:%[|7])(B:%[|2])(m:Cal Ω "_law_take" 2 2 c_takeB):Ok Ω 3 f fd Qw c_row:=by
 refine aC J (N:=U6) F (Bl.frg (Wh B m)) %[|8] ?_;rintro V S W ⟨k,n,rfl,Q,Y,I,A⟩ X;try?;refine aR Q %[|1] %[|1] λ h r Z y1 q u=>?_;obtain⟨c,z,q,u⟩:∃c,r=c/\aX S k c/\aU c k:=%[r,rfl,q|u];subst z;try?;by_cases G:h=0;{rw[cc G];try?;refine%[%[%[|0]|%[|0]]|?_];refine .inl (.inl ?_);rw[e8,Ti];exact A _ r (vR (.refl _)) q u}
 . rw [cK G];try?;refine%[%[%[|0]|%[|0]]|cu %[λ i j T=>∃(x:Store) (o:ab4) (C:Option D),j=[some (.loc k),some (.int (n:Int)),some (.int h),%[|19],C]/\T=x++[dN o]/\o.Perm (List.range i)/\aX S k x/\aU x k,%[r,[],none,by rw[q.len];rfl,rfl,.refl _,q|u],?_|?_]]
   . rintro i e j T O ⟨y,o,C,rfl,rfl,l,d,w⟩;obtain⟨P,rfl⟩:=cU O;have g:=Dn l;have P:i<60:=%[|0]
     have K:(0+(i:Int))=((i:Nat):Int):=%[|0]
     rw[K];refine zA ?_;simp only[mP,mS];try?;refine%[_,j6 d.len.symm|?_];try?;rw[bZ,g];refine xn w %[|0] %[|0] λ v s R U b E=>?_;have b:=d.trans b;obtain⟨a,rfl⟩:∃a:Nat,v=(a:Int):=%[v.toNat|%[|0]];try?;refine%[a,dN o,rfl,j6 b.len.symm,by rw[bZ];omega,by rw[bZ];omega|?_];rw[Tc b.len.symm];try?;refine%[s,o.take a++i::o.drop a,_,rfl,?_,Rp l,b|E];unfold dN;rw[cE,cn,ln,List.map_drop]
   . rintro j T ⟨y,o,C,rfl,rfl,l,d,w⟩;rw[aF,e8]at l;have p:=vR l;try?;by_cases H:h=1
     . rw[cc H];try?;refine xn w %[|0] %[|0] λ v s R U b E=>?_;have b:=d.trans b;obtain⟨a,rfl⟩:∃a:Nat,v=(a:Int):=%[v.toNat|%[|0]];try?;refine%[_,j6 b.len.symm|?_];have M:cutD (dN o) none (some (a:Int))=dN (o.take a):=by
        have g:=Dn l;unfold cutD dN;have z:HT.sIx (o.map λ(t:Nat)=>D.int (t:Int)).length 0 none=0:=rfl;have L:HT.sIx (o.map λ(t:Nat)=>D.int (t:Int)).length (o.map λ(t:Nat)=>D.int (t:Int)).length (some (a:Int))=a:=by rw[HT.sIx_nat,y7,g];omega
        rw[z,L,List.drop_zero,<-ln,Nat.sub_zero]
       try?;rw[M];exact .inr %[_,[dN o],s,rfl,by rw[b.len];exact y9 _,b.flat I,.lst (Im _ _ _)|A _ s (Ql p a) b E]
     {rw[cK H];try?;exact .inr %[_,[dN o],y,rfl,by rw[d.len];exact y9 _,d.flat I,.loc (by rw[d.len];exact y9 _) (j6 d.len.symm) (Im _ _ _)|A o y p d w]}
def Q5(a b:Cel):(!ltC b a|| !ltC a b)=true:=by
 cases h:ltC a b with
 | false=>simp
 | true=>rw[lE h];rfl
def Wq(a b c:Cel)(h1:(!ltC b a)=true)(h2:(!ltC c b)=true):(!ltC c a)=true:=by
 cases h:ltC c a with
 | false=>rfl
 | true=>
   exfalso;have f:ltC b a=false:=by cases q:ltC b a with | false=>rfl | true=>rw[q]at h1;cases h1
   have d:ltC c b=false:=by cases q:ltC c b with | false=>rfl | true=>rw[q]at h2;cases h2
   by_cases e:b=a;{subst e;rw[h]at d;cases d};{have:=vZ e f;have:=Pa h this;rw[d]at this;cases this}
def Em{l}(nd:l.Nodup):∃ks:List Cel,ks.Perm l/\ks.Pairwise (λ a b=>ltC a b=true):=by
 refine%[l.mergeSort λ a b=>!ltC b a,List.mergeSort_perm _ _|?_];have c:=List.pairwise_mergeSort (le:=λ a b=>!ltC b a) Wq Q5 l;have d:(l.mergeSort λ a b=>!ltC b a).Nodup:=(List.mergeSort_perm l _).nodup_iff.mpr nd;refine(List.pairwise_and_iff.mpr %[c|d]).imp λ{a b} h=>?_;have e:ltC b a=false:=by cases q:ltC b a with | false=>rfl | true=>have:=h.1;rw[q]at this;cases this
 exact vZ (hE h.2) e
def lB{l:List Cel}(h:l.Pairwise λ a b=>ltC a b=true):l.Nodup:=h.imp λ{a b} q e=>by subst e;rw[Dw]at q;cases q
def Jq{l}(nd:l.Nodup):(rZ l).Perm l/\(rZ l).Pairwise λ a b=>ltC a b=true:=by obtain⟨e,c,d⟩:=Em nd;rw[<-wg c d];exact%[c|d]
def Fg(P:Cel->Prop):List Cel:=open Classical in if h:∃d:List Cel,d.Pairwise (λ a b=>ltC a b=true)/\∀c,c∈d↔P c then h.choose else[]
def pM(h1:ks.Pairwise λ a b=>ltC a b=true)(h2:∀c,c∈ks↔P c):ks=Fg P:=by unfold Fg;have d:∃ks:List Cel,ks.Pairwise (λ a b=>ltC a b=true)/\∀c,c∈ks↔P c:=%[ks,h1|h2];rw[dif_pos d];obtain⟨e,f⟩:=d.choose_spec;refine mT (le:=λ a b=>ltC a b=true) (λ a b _ _ x y=>?_) h1 e ((lI (lB h1) (lB e)).mpr λ c=>(h2 c).trans (f c).symm);have:=lE x;rw[this]at y;cases y
abbrev Tt:=Int×List (Cel×Int)
def dT(t:Tt):D:=.tup [.int t.1,.lst (t.2.map telD)]
def toT(Hf:Cel->Option Tr)(c:Cel):Tt:=match Hf c with | some t=>(t.1,tellZ t.2) | none=>(0,[(c,1)])
def v5{a}(h:Told Hf a)(c:Cel):(bj a c).getD (.tup [.int 0,.lst [.tup [cD c,.int 1]]])=dT (toT Hf c):=by rw[h.lk];unfold toT;cases Hf c<;>rfl
def tel_enc(l:List (Cel×Int)):l.map telD=(aA l).map encC:=by unfold aA;rw[df];rfl
structure TlOk(U:List Cel)(B:Nat)(l:List (Cel×Int)):Prop where
 lt:(l.map (·.1)).Pairwise λ a b=>ltC a b=true
 nz:∀kv∈l,kv.2≠0
 sub:∀kv∈l,kv.1∈U
 bd:∀kv∈l,kv.2.natAbs<=B
def TlOk.nd{l}(h:TlOk U B l):(l.map (·.1)).Nodup:=lB h.lt
def TlOk.len{l}(h:TlOk U B l):l.length<=U.length:=by
 have:=sub_len h.nd (U:=U) λ x b=>by obtain⟨c,a,rfl⟩:=c8.mp b;exact h.sub c a
 rw[y7]at this;exact this
def dW{a}(h:aj a c=some v):(c,v)∈a:=by
 unfold aj at h
 cases q:a.find? λ kv=>decide (kv.1=c)with
 | none=>rw[q]at h;cases h
 | some kv=>
   rw[q]at h;have e:kv.1=c:=by have:=ko q;simpa using this
   have b:kv.2=v:=cf h;have:=h9 q;rw[<-e,<-b];exact this
def Jf{l}(h:TlOk U B l)(c:Cel)(v:Int):(c,v)∈l↔(aj l c).getD 0=v/\v≠0:=by
 constructor;{intro a;exact%[by rw[nW h.nd a];rfl|h.nz _ a]}
 . rintro⟨e,b⟩
   cases q:aj l c with
   | none=>rw[q]at e;exact absurd e.symm b
   | some w=>rw[q]at e;have e:w=v:=e;subst e;exact dW q
def xH{b e:Type}{f:b->e}:∀{l:List b},(l.map f).Nodup->l.Nodup:=by
 intro l
 induction l with
 | nil=>intro _;exact fT
 | cons a l d=>intro h;rw[cn,fe]at h;rw[fe];exact%[λ c=>h.1 (c8.mpr %[a,c|rfl])|d h.2]
def Xm{l m}(h1:TlOk U B l)(h2:TlOk e B' m)(h:∀c,(aj l c).getD 0=(aj m c).getD 0):l=m:=by refine mT (le:=λ a b=>ltC a.1 b.1=true) (λ a b _ _ x y=>?_) (ky.mp h1.lt) (ky.mp h2.lt) ((lI (xH h1.nd) (xH h2.nd)).mpr λ kv=>?_);{have:=lE x;rw[this]at y;cases y};{have d:=Jf h1 kv.1 kv.2;have f:=Jf h2 kv.1 kv.2;rw[h kv.1]at d;exact d.trans f.symm}
def ukK(l m:List (Cel×Int)):List Cel:=Fg λ c=>(aj l c).getD 0≠(aj m c).getD 0
def gk{l:List (Cel×Int)}(h:(aj l c).getD 0≠0):c∈l.map (·.1):=by
 cases q:aj l c with
 | none=>rw[q]at h;exact absurd rfl h
 | some v=>exact c8.mpr %[_,dW q|rfl]
def YZ{l m}(h1:TlOk U B l)(h2:TlOk U B' m):(∀c,c∈ukK l m↔(aj l c).getD 0≠(aj m c).getD 0):=by
 have k:((l.map (·.1))++(m.map (·.1)).filter λ c=>decide (c∉l.map (·.1))).Nodup:=by rw[iX];refine%[h1.nd,h2.nd.sublist List.filter_sublist|λ a g b i e=>?_];subst e;have:=(gN.mp i).2;exact cy this g
 obtain⟨ks,f,j⟩:=Em k;have e:=pM (P:=λ c=>(aj l c).getD 0≠(aj m c).getD 0) (ks:=ks.filter λ c=>decide ((aj l c).getD 0≠(aj m c).getD 0)) (j.filter _) λ c=>by rw[gN,ib,f.mem_iff];refine%[λ h=>h.2|λ h=>%[?_|h]];rw[cm];by_cases z:c∈l.map (·.1);{exact .inl z};{refine .inr (gN.mpr %[?_|cc z]);by_cases d:(aj m c).getD 0=0;{rw[d]at h;exact absurd (gk h) z};{exact gk d}}
 intro c;unfold ukK;rw[<-e,gN,ib,f.mem_iff];refine%[λ h=>h.2|λ h=>%[?_|h]];rw[cm];by_cases z:c∈l.map (·.1);{exact .inl z};{refine .inr (gN.mpr %[?_|cc z]);by_cases d:(aj m c).getD 0=0;{rw[d]at h;exact absurd (gk h) z};{exact gk d}}
def shQ(a b:Tt):Option Cel:=if a.1≠b.1 then none else(ukK a.2 b.2).head?
def qF(q:Option Cel):Fz:=match q with | none=>[] | some c=>[(c,1)]
def vlQ(q:Option Cel)(t:Tt):Int:=t.1+match q with | none=>0 | some c=>(aj t.2 c).getD 0
def TX{a b:Tt}(h1:TlOk U B a.2)(h2:TlOk U B' b.2)(ne:a≠b)(e:a.1=b.1):∃c,(ukK a.2 b.2)[0]? =some c/\(ukK a.2 b.2).head? =some c/\(aj a.2 c).getD 0≠(aj b.2 c).getD 0:=by
 have d:=YZ h1 h2
 cases q:ukK a.2 b.2 with
 | nil=>exfalso;refine ne (ms e (Xm h1 h2 λ c=>?_));have:=d c;rw[q]at this;exact Classical.not_not.mp λ z=>nomatch this.mpr z
 | cons c f=>exact%[c,rfl,rfl|(d c).mp (by rw[q];exact x6)]
def ZQ{a b}(h1:TlOk U B a.2)(h2:TlOk U B' b.2)(ne:a≠b):vlQ (shQ a b) a≠vlQ (shQ a b) b:=by unfold shQ;by_cases e:a.1=b.1;{obtain⟨c,_,d,f⟩:=TX h1 h2 ne e;rw[bP (by simp[e]),d];show a.1+(aj a.2 c).getD 0≠b.1+(aj b.2 c).getD 0;omega};{rw[c9 e];show a.1+0≠b.1+0;omega}
def ZP(q:Option Cel){l:List (Cel×Int)}(nd:(l.map (·.1)).Nodup):(l.map λ kv=>kv.2*(aj (qF q) kv.1).getD 0).sum=match q with | none=>0 | some c=>(aj l c).getD 0:=by
 cases q with
 | none=>
   induction l with
   | nil=>rfl
   | cons kv l a=>rw[cn,fe]at nd;rw[cn,nX,a nd.2];show kv.2*0+0=0;omega
 | some c=>
   induction l with
   | nil=>rfl
   | cons kv l a=>
     rw[cn,fe]at nd;rw[cn,nX,a nd.2];have b:aj (qF (some c)) kv.1=if c=kv.1 then some 1 else none:=by unfold aj qF;rw[g9];by_cases e:c=kv.1;{rw[c9 e,cc e];rfl};{rw[bP e,cK e];rfl}
     have d:aj (kv::l) c=if kv.1=c then some kv.2 else aj l c:=by unfold aj;rw[g9];by_cases e:kv.1=c;{rw[c9 e,cc e];rfl};{rw[bP e,cK e]}
     show kv.2*(aj (qF (some c)) kv.1).getD 0+(aj l c).getD 0=(aj (kv::l) c).getD 0;rw[b,d];by_cases e:c=kv.1
     . rw[c9 e,c9 e.symm];have:aj l c=none:=by
        cases q:aj l c with
        | none=>rfl
        | some v=>exact absurd (c8.mpr %[_,dW q|e]) nd.1
       rw[this];show kv.2*1+0=kv.2;omega
     {rw[bP e,bP (hE e)];show kv.2*0+_=_;omega}
def tel_key{a}(h:tel a c=some x):x.1=c:=by unfold tel at h;split at h;{cases h};{cases h;rfl}
def tell_ok{a}(h:FzOk U B a):TlOk U B (tellZ a):=by
 obtain⟨p,s⟩:=Jq h.nd;have b:∀kv∈tellZ a,(aj a kv.1).getD 0=kv.2/\kv.2≠0/\kv.1∈a.map (·.1):=λ kv d=>by unfold tellZ at d;obtain⟨c,j,e⟩:=hV.mp d;have m:=tel_key e;unfold tel at e;split at e;{cases e};{rename_i f;cases e;exact%[rfl,f|p.mem_iff.mp j]}
 have l:((tellZ a).map (·.1)).Sublist (rZ (a.map (·.1))):=by
  unfold tellZ;generalize rZ (a.map (·.1))=i;clear b p s
  induction i with
  | nil=>exact List.Sublist.refl _
  | cons c i g=>
    rw[fN]
    cases q:tel a c with
    | none=>exact g.cons c
    | some x=>rw[cn,tel_key q];exact g.cons_cons c
 refine%[s.sublist l,λ kv d=>(b kv d).2.1,λ kv d=>?_|λ kv d=>?_];{obtain⟨z,k,e⟩:=c8.mp (b kv d).2.2;rw[<-e];exact h.sub z k}
 . obtain⟨e,f,_⟩:=b kv d
   cases q:aj a kv.1 with
   | none=>rw[q]at e;exact absurd e.symm f
   | some v=>rw[q]at e;have e:v=kv.2:=e;rw[<-e];exact h.bd _ (dW q)
def tell_look{a}(h:FzOk U B a)(c:Cel):(aj (tellZ a) c).getD 0=(aj a c).getD 0:=by
 obtain⟨p,s⟩:=Jq h.nd;have t:=tell_ok h;by_cases z:(aj a c).getD 0=0
 . rw[z]
   cases q:aj (tellZ a) c with
   | none=>rfl
   | some v=>have b:=dW q;unfold tellZ at b;obtain⟨f,g,e⟩:=hV.mp b;have d:=tel_key e;have d:c=f:=d;subst d;unfold tel at e;rw[c9 z]at e;cases e
 . have b:(c,(aj a c).getD 0)∈tellZ a:=by unfold tellZ;refine hV.mpr %[c,p.mem_iff.mpr (gk z)|?_];unfold tel;rw[bP z]
   rw[nW t.nd b];rfl
def Il(h:jh U B Hf)(q:Option Cel)(c:Cel):vlQ q (toT Hf c)=vlQ q (trH Hf c):=by
 unfold toT trH
 cases e:Hf c with
 | none=>rfl
 | some t=>
   cases q with
   | none=>rfl
   | some z=>show t.1+(aj (tellZ t.2) z).getD 0=t.1+(aj t.2 z).getD 0;rw[tell_look (h c t e).z]
def sY(h:jh U B Hf)(f:1<=B)(c:Cel):TlOk (c::U) B (toT Hf c).2/\(toT Hf c).1.natAbs<=B:=by
 unfold toT
 cases e:Hf c with
 | none=>refine%[%[by show[c].Pairwise _;exact List.pairwise_singleton _ _,λ b a=>?_,λ b a=>?_|λ b a=>?_]|db _];{rw[cb.mp a];show(1:Int)≠0;decide};{rw[cb.mp a];exact x6};{rw[cb.mp a];exact f}
 | some t=>have:=h c t e;have d:=tell_ok this.z;exact%[%[d.lt,d.nz,λ b a=>x4 _ (d.sub b a)|d.bd]|this.n]
def fB(V:Cel->Int)(rs:List (Int×Cel))(a:Int):Int:=rs.foldl (λ a r=>a+r.1*V r.2) a
def stepV(V:Cel->Int)(x:Dd×List Int):Cel->Int:=λ c=>if c=wrH x then fB V (aZ x.1 x.2) (atC x.1.st x.2)else V c
def fc(q:Option Cel)(xs:List (Dd×List Int)):Cel->Int:=xs.foldl stepV λ c=>(aj (qF q) c).getD 0
def m7(q:Option Cel)(xs:List (Dd×List Int))(x:Dd×List Int):fc q (xs++[x])=stepV (fc q xs) x:=by unfold fc;rw[jp];rfl
def xr(fa:Fz)(c d:Cel)(v:Int):aj (iQ fa c v) d=if d=c then some v else aj fa d:=by
 unfold iQ;split
 . rename_i a;unfold aj;rw[List.find?_map];have e:((λ kv:Cel×Int=>decide (kv.1=d)) ∘ λ kv=>if kv.1=c then(kv.1,v)else kv)=λ kv=>decide (kv.1=d):=by funext kv;show decide ((if kv.1=c then(kv.1,v)else kv).1=d)=_;split<;>rfl
   rw[e]
   cases q:fa.find? λ kv=>decide (kv.1=d)with
   | none=>by_cases z:d=c;{exfalso;obtain⟨kv,b,e⟩:=iA.mp a;have:=gx.mp q kv b;rw[z]at this;exact this e};{rw[bP z];rfl}
   | some kv=>
     have f:kv.1=d:=by have:=ko q;simpa using this
     show some (if kv.1=c then(kv.1,v)else kv).2=_;by_cases z:d=c;{rw[c9 z,c9 (f.trans z)]};{rw[bP z,bP (λ h=>z (f.symm.trans h))];rfl}
 . rename_i a;unfold aj;rw[List.find?_append];by_cases z:d=c;{subst z;rw[c9 rfl];have:(fa.find? λ kv=>decide (kv.1=d))=none:=gx.mpr λ kv b e=>a (iA.mpr %[kv,b|e]);rw[this];rw[Option.none_or,g9,cc rfl];rfl}
   . rw[bP z]
     cases q:fa.find? λ kv=>decide (kv.1=d)with
     | some kv=>rfl
     | none=>rw[Option.none_or,g9,cK (hE z)];rfl
def Li(x:Int){a}(nd:(a.map (·.1)).Nodup)(c:Cel):∀fa:Fz,(aj (bL fa x a) c).getD 0=(aj fa c).getD 0+x*(aj a c).getD 0:=by
 induction a with
 | nil=>intro fa;show _=(aj fa c).getD 0+x*0;rw[Int.mul_zero,l4];rfl
 | cons kv a d=>
   intro fa;rw[cn,fe]at nd;have e:bL fa x (kv::a)=bL (gH x fa kv) x a:=rfl;rw[e,d nd.2];unfold gH;rw[xr];have b:aj (kv::a) c=if kv.1=c then some kv.2 else aj a c:=by unfold aj;rw[g9];by_cases e:kv.1=c;{rw[c9 e,cc e];rfl};{rw[bP e,cK e]}
   rw[b];by_cases z:c=kv.1
   . subst z;rw[c9 rfl,c9 rfl];have:aj a kv.1=none:=by
      cases q:aj a kv.1 with
      | none=>rfl
      | some v=>exact absurd (c8.mpr %[_,dW q|rfl]) nd.1
     rw[this];show(aj fa kv.1).getD 0+x*kv.2+x*0=(aj fa kv.1).getD 0+x*kv.2;rw[Int.mul_zero,l4]
   {rw[bP z,bP (hE z)]}
def aau(h:jh U B Hf)(b:1<=B)(q:Option Cel){V}(d:∀c,V c=vlQ q (trH Hf c)):∀(rs:List (Int×Cel)),(∀r∈rs,r.2∈U)->∀acc:Tr,vlQ q (rs.foldl (eE Hf) acc)=fB V rs (vlQ q acc):=by
 intro rs
 induction rs with
 | nil=>intro _ acc;rfl
 | cons r rs g=>
   intro a acc;have e:(r::rs).foldl (eE Hf) acc=rs.foldl (eE Hf) (eE Hf acc r):=rfl;rw[e,g λ z f=>a z (x4 _ f)];show fB V rs _=fB V rs (vlQ q acc+r.1*V r.2);have i:=(t6 h b (a r x6)).z.nd;congr 1;rw[d]
   cases q with
   | none=>show acc.1+r.1*(trH Hf r.2).1+0=acc.1+0+r.1*((trH Hf r.2).1+0);rw[l4,l4,l4]
   | some c=>show acc.1+r.1*(trH Hf r.2).1+(aj (bL acc.2 r.1 (trH Hf r.2).2) c).getD 0=acc.1+(aj acc.2 c).getD 0+r.1*((trH Hf r.2).1+(aj (trH Hf r.2).2 c).getD 0);rw[Li r.1 i,Int.mul_add];omega
def Mp(b:U.length<=60){xs:List (Dd×List Int)}(h:∀x∈xs,XOk U x)(q:Option Cel):∀(i:Nat)(c:Cel),fc q (xs.take i) c=vlQ q (trH (bB (xs.take i)) c):=by
 intro i
 induction i with
 | zero=>
   intro c;rw[kX];show(aj (qF q) c).getD 0=vlQ q (0,[(c,1)])
   cases q with
   | none=>rfl
   | some z=>show(aj [(z,1)] c).getD 0=0+(aj [(c,1)] z).getD 0;unfold aj;rw[g9,g9];by_cases e:z=c;{rw[cc e,cc e.symm];rfl};{rw[cK e,cK (hE e)];rfl}
 | succ i a=>
   intro c
   cases g:xs[i]? with
   | none=>have d:=mm.mp g;have:=a c;rw[ck d]at this;rw[ck %[|0]];exact this
   | some x=>
     have j:=h x (y4 g);rw[aD g,jr,m7];unfold stepV trH dH;by_cases e:c=wrH x
     . rw[c9 e,c9 e];show fB _ _ _=vlQ q (nxH (bB (xs.take i)) x);unfold nxH trS;rw[aau (iu b h i) (kf %[|1]) q a (aZ x.1 x.2) λ r f=>(j.rs r f).2];congr 1
       cases q with
       | none=>exact(l4 _).symm
       | some z=>exact(l4 _).symm
     {rw[bP e,bP e];exact a c}
def V6{V}(d:∀c,(V c).natAbs<=B):∀(rs:List (Int×Cel)),(∀r∈rs,r.1.natAbs<=2 ^ 100)->∀a:Int,(fB V rs a).natAbs<=a.natAbs+rs.length*(2 ^ 100*B):=by
 intro rs
 induction rs with
 | nil=>intro _ a;show a.natAbs<=a.natAbs+0*_;omega
 | cons r rs g=>
   intro b a;have h:=g (λ z f=>b z (x4 _ f)) (a+r.1*V r.2);have i:(r.1*V r.2).natAbs<=2 ^ 100*B:=by rw[n4];exact ng (b r x6) (d r.2)
   have j:=nB a (r.1*V r.2);have e:fB V (r::rs) a=fB V rs (a+r.1*V r.2):=rfl;rw[e,dQ,Nat.add_mul,Nat.one_mul];generalize 2 ^ 100*B=Z at*;omega
def VB{xs:List (Dd×List Int)}(h:∀x∈xs,XOk U x)(q:Option Cel):∀(i:Nat)(c:Cel),(fc q (xs.take i) c).natAbs<=2 ^ (108*i):=by
 intro i
 induction i with
 | zero=>
   intro c;show((aj (qF q) c).getD 0).natAbs<=1
   cases q with
   | none=>exact db _
   | some z=>show((aj [(z,1)] c).getD 0).natAbs<=1;unfold aj;rw[g9];by_cases e:z=c;{rw[cc e];exact y9 _};{rw[cK e];exact db _}
 | succ i d=>
   intro c;have m:1<=2 ^ (108*i):=kf %[|1];have e:2 ^ (108*(i+1))=2 ^ 108*2 ^ (108*i):=by rw[Nat.mul_succ,Nat.pow_add,mx]
   rw[e];have b:2 ^ (108*i)<=2 ^ 108*2 ^ (108*i):=nS _ (kf %[|1])
   cases g:xs[i]? with
   | none=>have k:=mm.mp g;have:=d c;rw[ck k]at this;rw[ck %[|0]];exact cS this b
   | some x=>
     have a:=h x (y4 g);rw[aD g,m7];unfold stepV;by_cases f:c=wrH x
     . rw[c9 f];have p:=V6 d (aZ x.1 x.2) (λ r n=>(a.rs r n).1) (atC x.1.st x.2);have s:=a.st;have l:(aZ x.1 x.2).length*(2 ^ 100*2 ^ (108*i))<=3*(2 ^ 100*2 ^ (108*i)):=iP _ (by rw[rn];exact a.l3);have j:2 ^ 108*2 ^ (108*i)=256*(2 ^ 100*2 ^ (108*i)):=by rw[<-Nat.mul_assoc]
       have o:2 ^ 100<=2 ^ 100*2 ^ (108*i):=np _ m;rw[j];generalize 2 ^ 100*2 ^ (108*i)=Z at*;generalize (2:Nat) ^ 100=Y at*;omega
     {rw[bP f];exact cS (d c) b}
def Ur(a b:Cel):eqD (cD a) (cD b)=decide (a=b):=by unfold cD;rw[vh];show(eqD (.int a.1) (.int b.1)&&(eqD (.tup (a.2.map .int)) (.tup (b.2.map .int))&&true))=_;rw[oY,vh,xx,dk,gu];simp[Prod.ext_iff]
def Qe:∀l m:List (Cel×Int),cH (l.map telD) (m.map telD)=decide (l=m):=by
 intro l
 induction l with
 | nil=>intro m;cases m<;>simp[cH]
 | cons x l a=>
   intro m
   cases m with
   | nil=>simp[cH]
   | cons y m=>
     show(eqD (telD x) (telD y)&&cH (l.map telD) (m.map telD))=_;rw[a];have:eqD (telD x) (telD y)=decide (x=y):=by show(eqD (cD x.1) (cD y.1)&&(eqD (.int x.2) (.int y.2)&&true))=_;rw[Ur,oY,dk,gu];simp[Prod.ext_iff]
     rw[this,gu];simp
def Xa(a b:Tt):eqD (dT a) (dT b)=decide (a=b):=by show(eqD (.int a.1) (.int b.1)&&(eqD (.lst (a.2.map telD)) (.lst (b.2.map telD))&&true))=_;rw[oY,Ig,Qe,dk,gu];simp[Prod.ext_iff]
def Ub(a:Tt):okD (dT a)=true/\deep (dT a)<=50:=by
 have h:∀l:List (Cel×Int),cQ (l.map telD)=true/\bC (l.map telD)<=3:=by
  intro l
  induction l with
  | nil=>exact%[rfl|db _]
  | cons kv l ih=>
    constructor;{show((okD (cD kv.1)&&(true&&true))&&cQ (l.map telD))=true;rw[zM,ih.1];rfl}
    . show max (max (deep (cD kv.1)) 0+1) (bC (l.map telD))<=3;have:deep (cD kv.1)=2:=by show max 0 (max (bC (kv.1.2.map .int)+1) 0)+1=2;rw[fj];rfl
      have:=ih.2;omega
 obtain⟨b,c⟩:=h a.2;constructor;{show(true&&(cQ (a.2.map telD)&&true))=true;rw[b];rfl};{show max 0 (max (bC (a.2.map telD)+1) 0)+1<=50;omega}
def Th{a b}{W}(w:W (!decide (a=b)) S):bI .NotEq (dT a) (dT b) S W:=by have oa:=Ub a;have ob:=Ub b;have e:=Xa a b;unfold bI;refine .inl %[%[oa.1,ob.1|oa.2]|?_];show W (!eqD (dT a) (dT b)) S;rw[e];exact w
inductive c_tby(ds:List D)(S:Store)(W:WD):Prop
 | mk(k:Nat)(tl:Kc)(Hf:Cel->Option Tr)(c:Cel):ds=[.dlo k,cD c]->S[k]? =some (.non::tl.map encC)->Told Hf tl->W (dT (toT Hf c)) S->c_tby ds S W
def zu(F:Fun Ω.K "trace_by" "trace_by" mZ f fd)(e:%[|7]):Ok Ω 1 f fd zO c_tby:=by refine aC e (N:=zO) F (Ao) %[|8] ?_;rintro j S W ⟨k,d,i,c,rfl,b,g,h⟩ l;have a:=(z0.mp b).1;try?;refine%[a|?_];try?;refine%[c,d,rfl,b|?_];show W ((bj d c).getD (.tup [.int 0,.lst [.tup [cD c,.int 1]]])) S;rw[v5 g];exact h
def su(l:List (Cel×Int))(c:Cel):(bj (aA l) c).getD (.int 0)=.int ((aj l c).getD 0):=by rw[dh];cases aj l c<;>rfl
def GK:∀ks:List Cel,aa (ks.map cD)=true:=λ ks=>by
 induction ks with
 | nil=>rfl
 | cons c ks a=>show(az (cD c)&&aa (ks.map cD))=true;rw[a];show((true&&(aa (c.2.map .int)&&true))&&true)=true;rw[bH];rfl
inductive c_ukp(ds:List D)(S:Store)(W:WD):Prop
 | mk(U:List Cel)(A B:Nat)(l m:List (Cel×Int)):ds=[.lst (l.map telD),.lst (m.map telD)]->TlOk U A l->TlOk U B m->U.length<=63->flat S->W (.lst ((ukK l m).map cD)) S->c_ukp ds S W
def qp(F:Fun Ω.K "unlike_parts" "unlike_parts" iV f fd)(v:%[|7])(B:%[|2]):Ok Ω 1 f fd qW c_ukp:=by
 refine aC v (N:=qX) F (Bl.drp (rE B)) %[|8] ?_;rintro K S W ⟨U,A,B,l,m,rfl,p,q,E,D,H⟩ L;have O:=p.len;have P:=q.len;rw[tel_enc,tel_enc];have n:(aA l).map (·.1)=l.map (·.1):=by unfold aA;rw[df];rfl
 have o:(aA m).map (·.1)=m.map (·.1):=by unfold aA;rw[df];rfl
 have Q:(aA l).length=l.length:=by unfold aA;rw[y7]
 have R:(aA m).length=m.length:=by unfold aA;rw[y7]
 try?;refine%[aA l,rfl,by rw[n];exact p.nd,%[|0]|?_];try?;refine%[aA m,rfl,by rw[o];exact q.nd,%[|0]|?_];have d:(S++[.non::(aA l).map encC]++[.non::(aA m).map encC])[S.length]? =some (.non::(aA l).map encC):=cN rfl;have g:(S++[.non::(aA l).map encC]++[.non::(aA m).map encC])[(S++[.non::(aA l).map encC]).length]? =some (.non::(aA m).map encC):=aO _ _;have y:S++[.non::(aA l).map encC]++[.non::(aA m).map encC]=S++([.non::(aA l).map encC]++[.non::(aA m).map encC]):=ca ..;have w:=(z0.mp d).1;have x:=(z0.mp g).1;try?;generalize (S++[.non::(aA l).map encC]).length=j2 at*;generalize hT:S++[.non::(aA l).map encC]++[.non::(aA m).map encC]=T at*;refine%[S.length,j2,aA l,aA m,U,rfl,rfl,d,g,%[|0],%[|0],E,λ c a=>?_,λ c a=>?_|λ s t u=>?_];{rw[n]at a;obtain⟨k,j,rfl⟩:=c8.mp a;exact p.sub k j};{rw[o]at a;obtain⟨k,j,rfl⟩:=c8.mp a;exact q.sub k j};have C:(s.filter λ c=>decide ((aj l c).getD 0≠(aj m c).getD 0))=ukK l m:=pM (t.filter _) λ c=>by rw[gN,ib,u,n,o];refine%[λ h=>h.2|λ h=>%[?_|h]];by_cases z:(aj m c).getD 0=0;{rw[z]at h;exact .inl (gk h)};{exact .inr (gk z)}
 have M:s.length<=63:=by
  have:=sub_len (lB t) (U:=U) λ c a=>by rcases(u c).mp a with h | h;{rw[n]at h;obtain⟨k,j,rfl⟩:=c8.mp h;exact p.sub k j};{rw[o]at h;obtain⟨k,j,rfl⟩:=c8.mp h;exact q.sub k j}
  omega
 try?;refine eU %[by rw[y7];omega,λ i b r=>b=((s.take i).filter λ c=>decide ((aj l c).getD 0≠(aj m c).getD 0)).map cD/\T=r,%[rfl|rfl],?_|?_];{rintro i e b r G ⟨rfl,rfl⟩;obtain⟨c,a,rfl⟩:=aV G;try?;refine%[w|?_];try?;refine%[c,aA l,rfl,d|?_];have I:=su l c;have J:=su m c;try?;refine%[x|?_];try?;refine%[c,aA m,rfl,g|?_];dsimp only;rw[I,J];try?;by_cases z:(aj l c).getD 0=(aj m c).getD 0;{rw[cc z];try?;refine%[?_|rfl];rw[aD a,List.filter_append,oe,bP (by simp[z])];simp};{rw[cK z];try?;refine%[?_|rfl];rw[aD a,List.filter_append,oe,c9 (by simp[z]),cE];rfl}};{rintro b r ⟨rfl,rfl⟩;rw[y7,cr,C];try?;refine .inr %[_,S,y,y9 _,GK _,D|H]}
inductive c_shf(ds:List D)(S:Store)(W:WD):Prop
 | mk(U:List Cel)(A B:Nat)(a b:Tt):ds=[dT a,dT b]->TlOk U A a.2->TlOk U B b.2->U.length<=63->a≠b->flat S->W (.dlo S.length) (S++[fzD (qF (shQ a b))])->c_shf ds S W
def lF(F:Fun Ω.K "showing_filling" "showing_filling" fP f fd)(l:%[|7])(d:Cal Ω "unlike_parts" 1 2 c_ukp):Ok Ω 2 f fd mR c_shf:=by
 refine aC l (N:=mR) F (mL d) %[|8] ?_;rintro r S W ⟨U,A,B,a,b,rfl,i,k,p,q,o,g⟩ s;unfold dT;try?;by_cases e:a.1=b.1
 . rw[cc e];obtain⟨c,m,n,_⟩:=TX i k q e;have h:shQ a b=some c:=by unfold shQ;rw[bP (by simp[e]),n]
   rw[h]at g;try?;refine%[rfl,U,A,B,a.2,b.2,rfl,i,k,p,bR o rfl|?_];try?;refine%[_,cG (j:=0) (v:=cD c) (by rw[y8,m];rfl)|?_];try?;refine%[c,rfl,aO _ _|?_];rw[cj];exact g
 . rw[cK e];have h:shQ a b=none:=by unfold shQ;rw[c9 e]
   rw[h]at g;try?;exact g
inductive c_hfrom(ds:List D)(S:Store)(W:WD):Prop
 | mk(U:List Cel)(B f:Nat)(q:Option Cel)(t:Tt):ds=[.dlo f,dT t]->S[f]? =some (fzD (qF q))->TlOk U B t.2->U.length<=63->B<=2 ^ 50000->W (.int (vlQ q t)) S->c_hfrom ds S W
def ZD(q:Option Cel)(c:Cel):Grt ((aj (qF q) c).getD 0):=by
 refine gC (n:=0) ?_ %[|1]
 cases q with
 | none=>exact db _
 | some z=>show((aj [(z,1)] c).getD 0).natAbs<=1;unfold aj;rw[g9];by_cases e:z=c;{rw[cc e];exact y9 _};{rw[cK e];exact db _}
def vD(F:Fun Ω.K "held_from" "held_from" lL f fd)(e:%[|7])(B:%[|2]):Ok Ω 1 f fd zp c_hfrom:=by refine aC e (N:=zp) F (yp B) %[|8] ?_;rintro o S W ⟨U,B,f,q,t,rfl,d,a,p,j,m⟩ r;have s:=a.len;have b:=(z0.mp d).1;unfold dT;try?;refine iJ (xs:=t.2) (enc:=telD) (λ kv=>.int (kv.2*(aj (qF q) kv.1).getD 0)) %[|0] ?_ ?_;{intro i kv c Q l;have k:=y4 c;have g:Grt kv.2:=gC (cS (a.bd kv k) j) %[|1];have h:=ZD q kv.1;have n:=su (qF q) kv.1;try?;refine%[rfl|?_];try?;refine%[b|?_];try?;refine%[kv.1,aA (qF q),rfl,d|?_];dsimp only;rw[n];exact%[%[g|h]|l]};{try?;refine%[t.2.map λ kv=>kv.2*(aj (qF q) kv.1).getD 0,by rw[df];rfl|?_];rw[ZP q a.nd];try?;exact m}
def iM(H1 H2:Cel->Option Tr):Option Cel:=(Fg λ c=>H1 c≠none\/H2 c≠none).find? λ c=>decide (toT H1 c≠toT H2 c)
def cR{b}(h:Told Hf b)(c:Cel):c∈b.map (·.1)↔Hf c≠none:=by
 constructor;{intro f e;obtain⟨kv,d,rfl⟩:=c8.mp f;have:=h.vl kv d;rw[e]at this;cases this}
 . intro g
   cases q:Hf c with
   | none=>exact absurd q g
   | some t=>
     have:=h.lk c;rw[q]at this;unfold bj at this
     cases a:b.find? λ kv=>decide (kv.1=c)with
     | none=>rw[a]at this;cases this
     | some kv=>
       have e:kv.1=c:=by have:=ko a;simpa using this
       exact c8.mpr %[kv,h9 a|e]
def QC:∀(xs:List (Dd×List Int))(Hf:Cel->Option Tr)(c:Cel),xs.foldl dH Hf c≠none->Hf c≠none\/∃x∈xs,c=wrH x:=by
 intro xs
 induction xs with
 | nil=>intro Hf c h;exact .inl h
 | cons x xs b=>intro Hf c h;rcases b (dH Hf x) c h with h | ⟨y,a,e⟩;{unfold dH at h;by_cases e:c=wrH x;{exact .inr %[x,x6|e]};{rw[bP e]at h;exact .inl h}};{exact .inr %[y,x4 _ a|e]}
def Mh(hO:bz %[|12] o)(h:bB (o.map (xAt p)) c≠none):c∈(aB p).map wrH:=by rcases QC _ _ c h with h | ⟨x,b,e⟩;{exact absurd rfl h};{obtain⟨t,a,rfl⟩:=c8.mp b;rw[e];exact c8.mpr %[_,y4 (jN (hO.1 t a))|rfl]}
inductive c_cmp(ds:List D)(S:Store)(W:WD):Prop
 | mk(p:Pg)(m:Nat)(o1 o2:ab4):ds=[dPg p,.lst (dN o1),.lst (dN o2)]->PgB m p->12<=m->m<=20->flat S->bz %[|12] o1->bz %[|12] o2->(iM (bB (o1.map (xAt p))) (bB (o2.map (xAt p)))=none->∀J,flat J->W (.tup [.str "alike"]) (S++J))->
   (∀(c:Cel)(q:Option Cel)(n1 n2:Int),iM (bB (o1.map (xAt p))) (bB (o2.map (xAt p)))=some c->q=shQ (toT (bB (o1.map (xAt p))) c) (toT (bB (o2.map (xAt p))) c)->n1=vlQ q (toT (bB (o1.map (xAt p))) c)->n2=vlQ q (toT (bB (o2.map (xAt p))) c)->∀(J:Store)(j:Nat),(S++J)[j]? =some (fzD (qF q))->S.length<=j->flat J->W (.tup [.str "unlike",.dlo j,cD c,.int n1,.int n2]) (S++J))->c_cmp ds S W
inductive CmA(T:Store)(p:Pg)(o1 o2:ab4)(k1 k2:Nat)(H1 H2:Cel->Option Tr)(ks:List Cel)(i:Nat)(Γ':Gam)(T':Store):Prop
 | mk(o5 o6 o7:Option D):T'=T->(∀c∈ks.take i,toT H1 c=toT H2 c)->Γ'=[some (dPg p),some (.lst (dN o1)),some (.lst (dN o2)),some (.dlo k1),some (.dlo k2),o5,o6,o7,none]->CmA T p o1 o2 k1 k2 H1 H2 ks i Γ' T'
def oH(c:PgB m p)(a:12<=m)(b:m<=60)(hO:bz %[|12] o):o.length<=60:=by have e:=fu c a b;have:=sub_len hO.2 (U:=List.range %[|12]) λ t d=>dV.mpr (hO.1 t d);rw[ic]at this;omega
def gY(f:PgB m p)(a:12<=m)(d:m<=20)(g:bz %[|12] o):jh (rdU p) (2 ^ 50000) (bB (o.map (xAt p))):=by have i:=oH f a %[|0] g;have h:=iu (jZ f a d) (jQ f g) o.length;rw[ck (by rw[y7];exact y9 _)]at h;intro c t e;have b:2 ^ (108*o.length)<=2 ^ 50000:=lm %[|1] %[|0];exact%[cS (h c t e).n b|(h c t e).z.mono b]
def yD(F:Fun Ω.K "compared" "compared" oN f fd)(N0:%[|7])(B:%[|2])(C:Cal Ω "traced" 7 2 c_traced)(A:Cal Ω "trace_by" 1 2 c_tby)(y:Cal Ω "showing_filling" 2 2 c_shf)(x:Cal Ω "held_from" 1 2 c_hfrom):Ok Ω 8 f fd De c_cmp:=by
 refine aC N0 (N:=Eu) F (Ey B C A y x) %[|8] ?_;rintro ds S W ⟨p,m,o1,o2,rfl,v,g,k,hS,t,u,X,Y⟩ hl;have O:m<=60:=%[|0]
 have hN:=fu v g O;have hU:=jZ v g k;have I:=gY v g k t;have K:=gY v g k u;have ab:=λ c=>Mh (c:=c) t;have ac:=λ c=>Mh (c:=c) u;have Q:1<=2 ^ 50000:=kf %[|1];try?;refine%[rfl,p,m,o1,rfl,v,g,k,hS,t|λ a n l1=>?_];have H:=bR hS n.nl;try?;refine%[rfl,p,m,o2,rfl,v,g,k,H,u|λ b o l2=>?_];have s:(%[|13]++[.non::b.map encC])[S.length]? =some (.non::a.map encC):=cN rfl;have D:(%[|13]++[.non::b.map encC])[%[|13].length]? =some (.non::b.map encC):=aO _ _;have M:%[|13]++[.non::b.map encC]=S++([.non::a.map encC]++[.non::b.map encC]):=ca ..;have fJ:flat ([.non::a.map encC]++[.non::b.map encC]):=λ l hl=>by rcases cm.mp hl with h | h;{rw[cb.mp h];exact n.nl};{rw[cb.mp h];exact o.nl}
 try?;generalize %[|13].length=k2 at*;generalize hTT:%[|13]++[.non::b.map encC]=T at*;generalize hJ:[.non::a.map encC]++[.non::b.map encC]=J at*;generalize bB (o1.map (xAt p))=H1 at*;generalize bB (o2.map (xAt p))=H2 at*;have⟨B,hBB⟩:∃B,B=(2:Nat) ^ 50000:=%[_|rfl];rw[<-hBB]at I K Q;refine%[S.length,k2,a,b,(aB p).map wrH,rfl,rfl,s,D,%[|0],%[|0],by rw[y7];omega,λ c q=>ab c ((cR n c).mp q),λ c q=>ac c ((cR o c).mp q)|λ Z k1 k3=>?_];have ek:=pM (P:=λ c=>H1 c≠none\/H2 c≠none) k1 λ c=>by rw[k3,cR n,cR o]
 have Tl:S.length<T.length:=(z0.mp s).1;refine cC (CmA T p o1 o2 S.length k2 H1 H2 Z) %[none,none,none,rfl,(λ c h=>by rw[kX]at h;cases h)|rfl] ?_ ?_
 . rintro I1 R i e ad L he ⟨o5,o6,o7,rfl,G,rfl⟩;obtain⟨c,q,rfl⟩:=aV he;have p1:=sY I Q c;have p2:=sY K Q c;have lU:(c::rdU p).length<=63:=by rw[dQ];omega
   try?;refine%[rfl,S.length,a,H1,c,rfl,s,n|?_];try?;refine%[rfl,k2,b,H2,c,rfl,D,o|?_];generalize hc1:toT H1 c=t1 at*;generalize hc2:toT H2 c=t2 at*;try?;refine Th ?_;by_cases z:t1=t2;{rw[cc z];try?;refine R _ _ _ %[_,_,_,rfl,λ d w=>?_|rfl];rw[aD q]at w;rcases cm.mp w with w | w;{exact G d w};{rw[cb.mp w,hc1,hc2];exact z}}
   . rw [cK z];have V:iM H1 H2=some c:=by unfold iM;rw[<-ek];have U:=(z0.mp q).1;have e1:=(z0.mp q).2;refine List.find?_eq_some_iff_getElem.mpr %[by rw[hc1,hc2];exact cc z,i,U,e1|λ j hj=>?_];have:Z[j]∈Z.take i:=List.mem_take_iff_getElem.mpr %[j,%[|0]|rfl];rw[G _ this];simp
     try?;refine%[rfl,c::rdU p,B,B,t1,t2,rfl,p1.1,p2.1,lU,z,?_|?_];{rw[<-hTT];exact bR H o.nl};try?;have r:B<=2 ^ 50000:=mw hBB;refine%[rfl,c::rdU p,B,L.length,shQ t1 t2,t1,rfl,aO _ _,p1.1,lU,r|?_];try?;refine%[rfl,c::rdU p,B,L.length,shQ t1 t2,t2,rfl,aO _ _,p2.1,lU,r|?_];try?;have fz:aa (fzD (qF (shQ t1 t2)))=true:=by
      cases shQ t1 t2 with
      | none=>rfl
      | some d=>show(true&&((az (cD d)&&(true&&true))&&true))=true;rw[show az (cD d)=(true&&(aa (d.2.map .int)&&true))from rfl,bH];rfl
     have E:(S++(J++[fzD (qF (shQ t1 t2))]))[L.length]? =some (fzD (qF (shQ t1 t2))):=by rw[<-ca,<-M];exact aO _ _
     rw[M]at E ⊢;rw[ca];refine Y c (shQ t1 t2) _ _ V (by rw[hc1,hc2]) (by rw[hc1]) (by rw[hc2]) (J++[fzD (qF (shQ t1 t2))]) _ E ?_ (bR fJ fz);rw[x8];omega
 . rintro ad L ⟨o5,o6,o7,rfl,G,rfl⟩;rw[y7,cr]at G;have V:iM H1 H2=none:=by unfold iM;rw[<-ek,gx];intro c q;rw[G c q];simp
   try?;rw[M];exact X V J fJ
def Mi{V}{rs:List (Int×Cel)}(h:rs[k]? =some r):fB V (rs.take (k+1)) a=fB V (rs.take k) a+r.1*V r.2:=by unfold fB;rw[aD h,jp];rfl
inductive c_lheld(ds:List D)(S:Store)(W:WD):Prop
 | mk(p:Pg)(m:Nat)(o:ab4)(f:Nat)(q:Option Cel)(c:Cel):ds=[.lst (gm p),.lst (dN o),.dlo f,cD c]->PgB m p->12<=m->m<=20->flat S->bz %[|12] o->S[f]? =some (fzD (qF q))->W (.int (fc q (o.map (xAt p)) c)) S->c_lheld ds S W
inductive LhA(S:Store)(p:Pg)(o:ab4)(f:Nat)(q:Option Cel)(c:Cel)(i:Nat)(Γ':Gam)(T:Store):Prop
 | mk(hz:Fz)(o5 o6 o7 o8 o9 o10:Option D):T=S++[fzD hz]->(∀z,(aj hz z).getD 0=fc q ((o.map (xAt p)).take i) z)->hz.length<=i+1->Γ'=[some (.lst ((aB p).map λ x=>dG x.2 x.1)),some (.lst (dN o)),some (.dlo f),some (cD c),some (.dlo S.length),o5,o6,o7,o8,o9,o10]->LhA S p o f q c i Γ' T
inductive LhB(S T:Store)(p:Pg)(o:ab4)(f:Nat)(c:Cel)(t:Nat)(x:Dd×List Int)(V:Cel->Int)(k:Nat)(Γ':Gam)(T2:Store):Prop
 | mk(o9 o10:Option D):T2=T->Γ'=[some (.lst ((aB p).map λ x=>dG x.2 x.1)),some (.lst (dN o)),some (.dlo f),some (cD c),some (.dlo S.length),some (.int (t:Int)),some (bJ (spot x.1.tab x.1.pl x.2)),some (.int (fB V ((aZ x.1 x.2).take k) (atC x.1.st x.2))),some (.lst (x.1.rds.map (dPt x.2))),o9,o10]->LhB S T p o f c t x V k Γ' T2
def Lr(F:Fun Ω.K "_law_held" "_law_held" Ef f fd)(Z:%[|7])(B:%[|2]):Ok Ω 1 f fd QR c_lheld:=by
 refine aC Z (N:=QM) F (Bl.drp (RM B)) %[|8] ?_;rintro ds S W ⟨p,m,o,f,q,c,rfl,R,y,aa,hS,hO,X,hw⟩ hl;have A:m<=60:=%[|0]
 have ho:=oH R y A hO;have U:=jQ R hO;have ab:=(z0.mp X).1;rw[rQ];try?;refine⟨f,aA (qF q),rfl,X,by cases q<;>first | exact db _ | exact y9 _,?_⟩;try?;refine cC (LhA S p o f q c) ⟨qF q,_,_,_,_,_,_,rfl,λ z=>rfl,by cases q<;>first | exact db _ | exact y9 _,rfl⟩ ?_ ?_
 . rintro I1 E i e l T he ⟨b,o5,o6,o7,o8,O,j,rfl,n,M,rfl⟩;obtain⟨t,w,rfl⟩:=Ax he;have L:=hO.1 t (y4 w);have hi:=(z0.mp w).1;have Y:=jN L;have s:=U (xAt p t) (c8.mpr %[t,y4 w|rfl]);have I:=VB U q i;have C:2 ^ (108*i)<=2 ^ 50000:=lm %[|1] %[|0];have Q:fc q ((o.map (xAt p)).take (i+1))=stepV (fc q ((o.map (xAt p)).take i)) (xAt p t):=by rw[aD (by rw[y8,w];rfl),m7]
   have P:atI ((aB p).map λ x=>dG x.2 x.1) ((t:Nat):Int)=some (dG (xAt p t).2 (xAt p t).1):=cG (by rw[y8,Y];rfl);generalize fc q ((o.map (xAt p)).take i)=V at*;generalize xAt p t=x at Y s Q P;have gV:∀z,Grt (V z):=λ z=>gC (cS (I z) C) %[|1];have g:(S++[fzD b])[S.length]? =some (fzD b):=aO _ _;have H:=(z0.mp g).1;try?;refine%[_,P|?_];try?;refine%[rfl|?_];try?;refine cC (LhB S (S++[fzD b]) p o f c t x V) %[_,_,rfl|rfl] ?_ ?_
   . rintro I2 G k e l T2 J ⟨O,j,rfl,rfl⟩;obtain⟨r,hr,rfl⟩:=aV J;have h:(aZ x.1 x.2)[k]? =some (r.fac,toC (spot r.tab r.pl x.2)):=by unfold aZ;rw[y8,hr];rfl
     obtain⟨K,_⟩:=s.rs _ (y4 h);have gf:Grt r.fac:=gC K %[|1];have ek:=Mi (V:=V) (a:=atC x.1.st x.2) h;rw[show dPt x.2 r=D.tup [.int r.fac,cD (toC (spot r.tab r.pl x.2))]from rfl];generalize toC (spot r.tab r.pl x.2)=d at*;have u:=su b d;rw[n d]at u;try?;refine%[rfl|?_];try?;refine%[H|?_];try?;refine%[d,aA b,rfl,g|?_];dsimp only;rw[u];refine%[%[gf|gV d]|?_];try?;exact G _ _ _ %[_,_,rfl|by rw[ek];rfl]
   . rintro l T2 ⟨O,j,rfl,rfl⟩;have e:(x.1.rds.map (dPt x.2)).length=(aZ x.1 x.2).length:=by unfold aZ;rw[y7,y7]
     rw[e,cr];try?;have el:(aA b).length=b.length:=by unfold aA;rw[y7]
     refine%[wrH x,aA b,rfl,g,%[|0]|?_];rw[cj,rM];refine E _ _ _ %[iQ b (wrH x) (fB V (aZ x.1 x.2) (atC x.1.st x.2)),_,_,_,_,_,_,rfl,λ z=>?_,by have:=zP b (wrH x) (fB V (aZ x.1 x.2) (atC x.1.st x.2));omega|rfl];rw[Q,xr];unfold stepV;by_cases v:z=wrH x;{rw[c9 v,c9 v];rfl};{rw[bP v,bP v];exact n z}
 . rintro l T ⟨b,o5,o6,o7,o8,O,j,rfl,n,M,rfl⟩;have eo:(o.map (xAt p)).take (dN o).length=o.map (xAt p):=by rw[bZ,ck (by rw[y7];exact y9 _)]
   rw[eo]at n;have u:=su b c;rw[n c]at u;have g:(S++[fzD b])[S.length]? =some (fzD b):=aO _ _;try?;refine%[(z0.mp g).1|?_];try?;refine%[c,aA b,rfl,g|?_];dsimp only;rw[u];exact .inr %[_,S,rfl,y9 _,rfl,hS|hw]
def aas(l:List Cel):∃l':List Cel,l'.Nodup/\∀c,c∈l'↔c∈l:=by
 induction l with
 | nil=>exact%[[],fT|λ c=>Iff.rfl]
 | cons a l f=>obtain⟨l',d,b⟩:=f;by_cases e:a∈l';{refine%[l',d|λ c=>?_];rw[ci,b];exact%[.inr|λ h=>h.elim (λ h=>h▸(b a).mp e) id]};{refine%[a::l',fe.mpr %[e|d]|λ c=>?_];rw[ci,ci,b]}
def Rw{l:List Cel}(h:∀c,c∈l↔P c)(c:Cel):c∈Fg P↔P c:=by obtain⟨g,d,a⟩:=aas l;obtain⟨f,b,e⟩:=Em d;have:=pM (P:=P) e λ c=>(b.mem_iff.trans (a c)).trans (h c);rw[<-this];exact(b.mem_iff.trans (a c)).trans (h c)
def Nt{e f}(a:Told H1 e)(b:Told H2 f):iM H1 H2=none↔∀c∈e.map (·.1)++f.map (·.1),toT H1 c=toT H2 c:=by
 have g:=Rw (P:=λ c=>H1 c≠none\/H2 c≠none) (l:=e.map (·.1)++f.map (·.1)) λ c=>by rw[cm,cR a,cR b]
 unfold iM;rw[gx];constructor;{intro h c d;have:=h c ((g c).mpr (by rw[cm,cR a,cR b]at d;exact d));simpa using this};{intro h c d;have:=h c (by rw[cm,cR a,cR b];exact(g c).mp d);simp[this]}
inductive c_same(ds:List D)(S:Store)(W:WD):Prop
 | mk(p:Pg)(m:Nat)(o1 o2:ab4):ds=[.lst (gm p),.lst (dN o1),.lst (dN o2)]->PgB m p->12<=m->m<=20->flat S->bz %[|12] o1->bz %[|12] o2->W (.bl (iM (bB (o1.map (xAt p))) (bB (o2.map (xAt p)))).isNone) S->c_same ds S W
inductive LsA(T:Store)(p:Pg)(o1 o2:ab4)(k1 k2:Nat)(H1 H2:Cel->Option Tr)(ks:List Cel)(i:Nat)(Γ':Gam)(T':Store):Prop
 | mk(o5 o6:Option D):T'=T->(∀c∈ks.take i,toT H1 c=toT H2 c)->Γ'=[some (.lst (gm p)),some (.lst (dN o1)),some (.lst (dN o2)),some (.dlo k1),some (.dlo k2),o5,o6]->LsA T p o1 o2 k1 k2 H1 H2 ks i Γ' T'
def Oa(F:Fun Ω.K "_law_same" "_law_same" Eg f fd)(L:%[|7])(B:%[|2])(n:Cal Ω "_law_traces" 1 2 c_ltraces):Ok Ω 2 f fd R5 c_same:=by
 refine aC L (N:=Qp) F (Bl.drp (Rx B n)) %[|8] ?_;rintro Z S W ⟨p,m,D,E,rfl,I,o,r,v,y,A,w⟩ hl;try?;refine%[rfl,p,m,D,rfl,I,o,r,v,y|λ a k l1=>?_];have C:=bR v k.nl;try?;refine%[rfl,p,m,E,rfl,I,o,r,C,A|λ b s l2=>?_];have g:(%[|13]++[.non::b.map encC])[S.length]? =some (.non::a.map encC):=cN rfl;have j:(%[|13]++[.non::b.map encC])[%[|13].length]? =some (.non::b.map encC):=aO _ _;have H:%[|13]++[.non::b.map encC]=S++([.non::a.map encC]++[.non::b.map encC]):=ca ..;have K:=Nt k s;have O:=(z0.mp g).1;have P:=(z0.mp j).1;try?;refine%[S.length,a,rfl,g|?_];try?;refine%[_,b,rfl,j|?_];generalize %[|13].length=k2 at*;generalize hTT:%[|13]++[.non::b.map encC]=T at*;generalize bB (D.map (xAt p))=H1 at*;generalize bB (E.map (xAt p))=H2 at*;generalize hks:a.map (·.1)++b.map (·.1)=ks at*;try?;have t:(a.map (·.1)).map cD++(b.map (·.1)).map cD=ks.map cD:=by rw[<-hks,cE]
 rw[t];refine cC (LsA T p D E S.length k2 H1 H2 ks) %[none,none,rfl,(λ c h=>by rw[kX]at h;cases h)|rfl] ?_ ?_
 . rintro Y x i e G M Q ⟨R,U,rfl,u,rfl⟩;obtain⟨c,J,rfl⟩:=aV Q;try?;refine%[O|?_];try?;refine%[c,a,rfl,g|?_];have V:=v5 k c;have X:=v5 s c;try?;refine%[P|?_];try?;refine%[c,b,rfl,j|?_];dsimp only;rw[V,X];refine Th ?_;by_cases z:toT H1 c=toT H2 c;{rw[cc z];try?;refine x _ _ _ %[_,_,rfl,λ d l=>?_|rfl];rw[aD J]at l;rcases cm.mp l with l | l;{exact u d l};{rw[cb.mp l];exact z}}
   . rw[cK z];have:(iM H1 H2).isNone=false:=by
      cases q:iM H1 H2 with
      | some _=>rfl
      | none=>exact absurd (K.mp q c (y4 J)) z
     rw[this]at w;try?;exact .inr %[_,S,H,y9 _,rfl,v|w]
 {rintro G M ⟨R,U,rfl,u,rfl⟩;rw[y7,cr]at u;rw[K.mpr u]at w;try?;exact .inr %[_,S,H,y9 _,rfl,v|w]}
inductive c_shown(ds:List D)(S:Store)(W:WD):Prop
 | mk(p:Pg)(m:Nat)(o1 o2:ab4)(j:Nat)(q:Option Cel)(c:Cel)(n1 n2:Int):ds=[.lst (gm p),.lst (dN o1),.lst (dN o2),.tup [.str "unlike",.dlo j,cD c,.int n1,.int n2]]->PgB m p->12<=m->m<=20->flat S->bz %[|12] o1->bz %[|12] o2->S[j]? =some (fzD (qF q))->n1≠n2->n1=fc q (o1.map (xAt p)) c->n2=fc q (o2.map (xAt p)) c->W (.bl true) S->c_shown ds S W
def JW(F:Fun Ω.K "_law_shown" "_law_shown" xm f fd)(x:%[|7])(B:%[|2])(k:Cal Ω "_law_held" 1 4 c_lheld):Ok Ω 2 f fd Ma c_shown:=by
 refine aC x (N:=Mq) F (Py B k) %[|8] ?_;rintro I S W ⟨p,m,v,w,j,q,c,b,d,rfl,t,g,h,u,l,o,r,G,y,z,E⟩ J;try?;refine%[rfl|?_];try?;refine%[j,aA (qF q),rfl,r|?_];try?;have H:(aA (qF q)).map (λ kv=>kv.2)=((qF q).map (·.2)).map D.int:=by unfold aA;rw[df,df];rfl
 have K:(qF q).length<=1:=by cases q<;>first | exact db _ | exact y9 _
 rw[H];refine%[[.int b,.int d],((qF q).map (·.2)).map D.int,rfl,rfl,by rw[y7,y7];show 2+_<=1000000;omega|?_];have A:[D.int b,.int d]++((qF q).map (·.2)).map D.int=(b::d::(qF q).map (·.2)).map D.int:=rfl;rw[A];generalize b::d::(qF q).map (·.2)=ns;try?;refine cu %[λ i a T=>∃s,T=S/\a=[some (.lst (gm p)),some (.lst (dN v)),some (.lst (dN w)),some (.tup [.str "unlike",.dlo j,cD c,.int b,.int d]),some (.str "unlike"),some (.dlo j),some (cD c),some (.int b),some (.int d),s],%[none,rfl|rfl],?_|?_];{rintro i e a T C ⟨s,rfl,rfl⟩;obtain⟨n,_,rfl⟩:=aV C;try?;exact%[_,rfl|rfl]};{rintro a T ⟨s,rfl,rfl⟩;try?;rw[cK G];try?;refine%[rfl,p,m,v,j,q,c,rfl,t,g,h,u,l,r|?_];try?;rw[cc y];try?;refine%[rfl,p,m,w,j,q,c,rfl,t,g,h,u,o,r|?_];try?;rw[cc z];exact E}
def dz(o:ab4):aa (dN o)=true:=by rw[jU];exact bH _
def zH(o:ab4):bC (dN o)=0:=by rw[jU];exact fj _
def RK{W}(w:W true S):bI .Eq (.tup [.str "alike"]) (.tup [.str "alike"]) S W:=by unfold bI;exact%[%[rfl,rfl|show deep (.tup [.str "alike"])<=50 from %[|1]]|w]
def U5{W}(w:W false S):bI .NotEq (.str "unlike") (.str "unlike") S W:=HN rfl rfl %[|1] w
def Iu{a b}{W}(w:W false S):bI .NotEq (.tup [.lst (dN a),.lst (dN b)]) (.tup [.lst (dN a),.lst (dN b)]) S W:=by refine HN ?_ ?_ ?_ w;{show(aa (dN a)&&(aa (dN b)&&true))=true;rw[dz,dz];rfl};{show(cQ (dN a)&&(cQ (dN b)&&true))=true;rw[jU,jU,jx,jx];rfl};{show max (bC (dN a)+1) (max (bC (dN b)+1) 0)+1<=50;rw[zH,zH];decide}
def QW(h:flat S)(j:Nat):flat (S.set j []):=λ l a=>(ml a).elim (h l) λ e=>by rw[e];rfl
def gZ(h:flat S)(g:flat J):flat (S++J):=λ l a=>(cm.mp a).elim (h l) (g l)
def aaj(q:Option Cel):aa (fzD (qF q))=true:=by
 cases q with
 | none=>rfl
 | some d=>show(true&&((az (cD d)&&(true&&true))&&true))=true;rw[show az (cD d)=(true&&(aa (d.2.map .int)&&true))from rfl,bH];rfl
inductive c_right(ds:List D)(S:Store)(W:WD):Prop
 | mk(p:Pg)(m:Nat)(o1 o2:ab4):ds=[dPg p,.lst (gm p),.lst (dN o1),.lst (dN o2)]->PgB m p->12<=m->m<=20->flat S->bz %[|12] o1->bz %[|12] o2->W (.bl true) S->c_right ds S W
def JR(F:Fun Ω.K "_law_right" "_law_right" xJ f fd)(N0:%[|7])(B:%[|2])(w:Cal Ω "compared" 8 3 c_cmp)(u:Cal Ω "_law_same" 2 3 c_same)(v:Cal Ω "_law_shown" 2 4 c_shown):Ok Ω 9 f fd Og c_right:=by
 refine aC N0 (N:=Lh) F (Bl.drp (Nb B w u v)) %[|8] ?_;rintro ds S W ⟨p,m,i,k,rfl,h,a,b,l,e,g,hw⟩ hl;have ab:m<=60:=%[|0]
 have X:=jZ h a b;have o:=gY h a b e;have r:=gY h a b g;have M:1<=2 ^ 50000:=kf %[|1];have v1:=λ q=>Mp X (jQ h e) q i.length;have v2:=λ q=>Mp X (jQ h g) q k.length;rw[ck (by rw[y7];exact y9 _)]at v1 v2;have⟨B,hBB⟩:∃B,B=(2:Nat) ^ 50000:=%[_|rfl];rw[<-hBB]at o r M;try?;refine%[rfl,p,m,i,k,rfl,h,a,b,l,e,g,λ G J y=>?_|λ c q s t C Z I K J j E T y=>?_];{try?;refine Iu ?_;try?;refine%[rfl,p,m,i,k,rfl,h,a,b,gZ l y,e,g|?_];rw[G];try?;refine RK ?_;exact .inr %[J,S,rfl,y9 _,rfl,l|hw]}
 . have U:toT (bB (i.map (xAt p))) c≠toT (bB (k.map (xAt p))) c:=by have:=ko C;exact cy this
   have nn:s≠t:=by rw[I,K,Z];exact ZQ (sY o M c).1 (sY r M c).1 U
   have r1:s=fc q (i.map (xAt p)) c:=by rw[I,Il o,v1]
   have r2:t=fc q (k.map (xAt p)) c:=by rw[K,Il r,v2]
   have ql:(aA (qF q)).length<=1:=by cases q<;>first | exact db _ | exact y9 _
   have jl:=(z0.mp E).1;try?;refine Iu ?_;try?;refine%[rfl,p,m,i,k,rfl,h,a,b,gZ l y,e,g|?_];rw[C];try?;refine U5 ?_;try?;refine%[rfl,p,m,i,k,j,q,c,s,t,rfl,h,a,b,gZ l y,e,g,E,nn,r1,r2|?_];try?;refine%[j,aA (qF q),rfl,E,ql|?_];try?;have ec:cutD [D.str (Str.ofString "unlike"),.dlo j,cD c,.int s,.int t] (some 2) none=[cD c,.int s,.int t]:=rfl;rw[ec];refine%[by show 2+3<=1000000;decide|?_];have k2:(S++J).length≠j:=fk jl;have P:(S++J++[fzD (qF q)])[j]? =some (fzD (qF q)):=by rw[x9 jl];exact E
   have x:((S++J++[fzD (qF q)]).set j [])[(S++J).length]? =some (fzD (qF q)):=by rw[en (hE k2)];exact aO _ _
   have fl:flat ((S++J++[fzD (qF q)]).set j []):=QW (bR (gZ l y) (aaj q)) j;obtain⟨H,eJ⟩:∃H,(S++J++[fzD (qF q)]).set j []=S++H:=%[_|by rw[ca,List.set_append_right _ _ T]];have b2:=(z0.mp x).1;try?;refine%[aA (qF q),P|?_];try?;refine%[rfl,p,m,i,k,rfl,h,a,b,fl,e,g,λ G V O=>?_|λ c' q' m1 m2 A R f1 f2 V j3 Q aa O=>?_];{rw[C]at G;cases G};{rw [C]at A;cases A;have L:q'=q:=R.trans Z.symm;subst L;have g1:m1=s:=f1.trans I.symm;have g2:m2=t:=f2.trans K.symm;subst g1 g2;try?;refine%[j3,(S++J).length,aA (qF q'),.str "unlike",cD c,.int m1,.int m2,rfl,rfl,Q,?_,ql,λ kv Y=>?_,λ d n=>?_|?_];{exact(x9 b2).trans x};{unfold aA at Y;obtain⟨z,_,rfl⟩:=c8.mp Y;exact%[rfl|db _]};{rcases ci.mp n with rfl | n;{exact%[rfl|db _]};rcases ci.mp n with rfl | n;{refine%[zM c|?_];show max 0 (max (bC (c.2.map .int)+1) 0)+1<=40;rw[fj];decide};rcases ci.mp n with rfl | n;{exact%[rfl|db _]};rw[cb.mp n];exact%[rfl|db _]};{refine .inr %[H++V,S,?_,y9 _,rfl,l|hw];rw[<-ca,<-eJ];rfl}}
def N8(o:ab4)(v:Nat):cutD (dN o) none (some (v:Int))=dN (o.take v):=by
 unfold cutD dN;have a:HT.sIx (o.map λ(t:Nat)=>D.int (t:Int)).length 0 none=0:=rfl;have b:HT.sIx (o.map λ(t:Nat)=>D.int (t:Int)).length (o.map λ(t:Nat)=>D.int (t:Int)).length (some (v:Int))=min v o.length:=by rw[HT.sIx_nat,y7]
 rw[a,b,List.drop_zero,<-ln,Nat.sub_zero];by_cases h:v<=o.length;{rw[pj h]};{rw[Nat.min_eq_right %[|0],ck (y9 _),ck %[|0]]}
def CZ(o:ab4)(v:Nat):cutD (dN o) (some (v:Int)) none=dN (o.drop v):=by
 unfold cutD dN;have a:HT.sIx (o.map λ(t:Nat)=>D.int (t:Int)).length 0 (some (v:Int))=min v o.length:=by rw[HT.sIx_nat,y7]
 have b:HT.sIx (o.map λ(t:Nat)=>D.int (t:Int)).length (o.map λ(t:Nat)=>D.int (t:Int)).length none=o.length:=by show(o.map λ(t:Nat)=>D.int (t:Int)).length=_;rw[y7]
 rw[a,b,<-List.map_drop];by_cases h:v<=o.length;{rw[pj h,ck (by rw[y7,k6];exact y9 _)]};{rw[Nat.min_eq_right %[|0],pb,kX,nK %[|0]];rfl}
def Bv(a b:ab4):dN a++dN b=dN (a++b):=(cE ..).symm
def XX(a:ab4):(dN a).reverse=dN a.reverse:=(List.map_reverse ..).symm
def RB{a}(h:bz n o)(p:a.Perm o):bz n a:=%[λ t b=>h.1 t (p.mem_iff.mp b)|p.nodup_iff.mpr h.2]
def Wi{a}(h:bz n o)(p:a.Sublist o):bz n a:=%[λ t b=>h.1 t (p.subset b)|h.2.sublist p]
def dLs(o:ab4):D:=.lst (dN o)
def Y8(F:Fun Ω.K "law" "law" pF f fd)(U:%[|7])(B:%[|2])(t:Cal Ω "program_of" 10 2 Ek)(C:Cal Ω "_law_pen" 2 2 c_penB)(s:Cal Ω "_law_take" 2 2 c_takeB)(D:Cal Ω "_law_program" 5 2 c_progB)(r:Cal Ω "_law_steps" 3 1 c_stepsB)(q:Cal Ω "_law_row" 3 2 c_row)(E:Cal Ω "_law_right" 9 4 c_right):Ok Ω 11 f fd ZR tW:=by
 refine aC U (N:=Zt) F (aar B t C s D r q E) %[|8] ?_;rintro ds S W ⟨n,rfl,hn,hw,J⟩ Q;subst J;try?;refine%[rfl,n,1,rfl,%[|1]|λ c=>?_];have p0:aU ([]++[jE n c 1]) 0:=%[n,c,1,by simp|%[|1]];have f0:flat ([]++[jE n c 1]):=bR (λ l Q=>by cases Q) (qy ..);generalize ([]++[jE n c 1]:Store)=S0 at*;try?;refine%[rfl,0,20,rfl,p0,f0,%[|1],%[|1]|λ p S2 m u2 p2 x=>?_];try?;refine%[rfl,p,20,rfl,m,%[|1],x|.inl ?_];try?;refine%[rfl|Rm m %[|1] %[|1] x ?_];have P:=fu m %[|1] %[|1];have g:(gm p).length=%[|12]:=by rw[rQ,y7]
 try?;rw[g];refine%[rfl,0,%[|12],rfl,p2,P,x|λ o S3 k u3 p3=>?_];have f3:=u3.flat x;have ho:=oH m %[|1] %[|1] k;try?;rw[bZ];refine aR p3 %[|0] %[|0] λ v M v0 v1 u4 R=>?_;have O:=u4.flat f3;obtain⟨a,rfl⟩:∃a:Nat,v=(a:Int):=%[v.toNat|%[|0]];have V:=N8 o a;have X:=CZ o a;try?;rw[V,X];have Y:cutD (dN (o.drop a)) none (some 2)=dN ((o.drop a).take 2):=N8 (o.drop a) 2;have Z:cutD (dN (o.drop a)) (some 2) none=dN ((o.drop a).drop 2):=CZ (o.drop a) 2;have c5:cutD (dN (o.drop a)) (some 1) none=dN ((o.drop a).drop 1):=CZ (o.drop a) 1;have l1:(o.take a).length<=60:=by rw[ej];omega
 have l2:(o.drop a).length<=60:=by rw[k6];omega
 have ob:bz %[|12] (o.take a++((o.drop a).take 2).reverse++(o.drop a).drop 2):=by
  refine RB k ?_;have e:o=o.take a++((o.drop a).take 2++(o.drop a).drop 2):=by rw[gt,gt]
  rw[ca];conv=>rhs;rw[e]
  exact((List.reverse_perm _).append_right _).append_left _
 have os:bz %[|12] (o.take a++(o.drop a).drop 1):=by
  refine Wi k ?_;have e:o=o.take a++o.drop a:=(gt ..).symm;conv=>rhs;rw[e]
  exact(List.drop_sublist _ _).append_left _
 have L:bz %[|12] (List.range %[|12]):=vR (.refl _);generalize hlo:o.take a=lo at*;generalize hup:o.drop a=up at*;rw[Y,XX];refine%[by rw[bZ,bZ,List.length_reverse,ej];omega|?_];try?;rw[Z,Bv,Bv];refine%[by rw[bZ,bZ,x8,List.length_reverse,ej,k6];omega|?_];try?;rw[g];refine%[%[%[|0]|%[|0]]|.inl ?_];rw[e8,Ti];try?;rw[c5];refine%[by rw[bZ,bZ,k6];omega|?_];rw[Bv];have hA:=ob;generalize lo++(up.take 2).reverse++up.drop 2=oA at*;generalize lo++up.drop 1=oB at*;try?;have nL:aa [dLs (List.range %[|12]),dLs oA,dLs oB]=true:=by show(aa (dN _)&&(aa (dN _)&&(aa (dN _)&&true)))=true;rw[dz,dz,dz];rfl
 rw[g];refine%[rfl,0,%[|12],rfl,R.app _,P,bR O nL|λ d S6 hC u6 p6=>?_];obtain⟨G,rfl,A,p5⟩:=u6.split R;have f5:=A.flat O;refine%[_,j6 A.len.symm,by show 3<1000000;decide|?_];rw[Tc A.len.symm];have I:(G++[[dLs (List.range %[|12]),dLs oA,dLs oB]++[dLs d]])[M.length]? =some ([dLs (List.range %[|12]),dLs oA,dLs oB]++[dLs d]):=j6 A.len.symm;have K:aa ([dLs (List.range %[|12]),dLs oA,dLs oB]++[dLs d])=true:=by show(aa (dN _)&&(aa (dN _)&&(aa (dN _)&&(aa (dN _)&&true))))=true;rw[dz,dz,dz,dz];rfl
 have y:=bR f5 K;try?;refine%[[dLs (List.range %[|12]),dLs oA,dLs oB]++[dLs d],[dLs o],I,rfl,by show 4+1<=1000000;decide|?_];have el:([dLs (List.range %[|12]),dLs oA,dLs oB]++[dLs d])++[dLs o]=[List.range %[|12],oA,oB,d,o].map dLs:=rfl;rw[el];have u:∀z∈[List.range %[|12],oA,oB,d,o],bz %[|12] z:=by intro z b;rcases ci.mp b with rfl | b;{exact L};rcases ci.mp b with rfl | b;{exact hA};rcases ci.mp b with rfl | b;{exact os};rcases ci.mp b with rfl | b;{exact hC};rw[cb.mp b];exact k
 generalize [List.range %[|12],oA,oB,d,o]=zs at*;have y:flat (G++[[.lst (dN (List.range %[|12])),.lst (dN oA),.lst (dN oB)]++[.lst (dN d)]]):=y;generalize G++[[.lst (dN (List.range %[|12])),.lst (dN oA),.lst (dN oB)]++[.lst (dN d)]]=T at*;try?;refine cu %[λ i j H=>∃h,H=T/\j=[some (.lst (n.map .int)),some (.loc 0),some (dPg p),some (.lst (gm p)),some (dPg p),some (.lst (dN o)),some (.int (a:Int)),some (.lst (dN lo)),some (.lst (dN up)),some (.lst (dN oA)),some (.loc M.length),h],%[none,rfl|rfl],?_|?_];{rintro i e j H he ⟨h,rfl,rfl⟩;obtain⟨z,b,rfl⟩:=aV he;have w:=u z (y4 b);unfold dLs;try?;refine%[rfl,p,20,o,z,rfl,m,%[|1],%[|1],y,k,w|?_];try?;refine%[rfl,p,20,z,o,rfl,m,%[|1],%[|1],y,w,k|?_];try?;exact%[_,rfl|rfl]};{rintro j H ⟨h,rfl,rfl⟩;try?;exact hw _}
end K38
namespace K38
open PySem PySem.Spec L2 DL RF
open PyProof.Rows
variable{Ω:Wd}{f:Addr}{fd:FuncData}
def by1{G:List Value->Prop}(h:∀a0:Value,G [a0])(a:ab6)(e:a.length=1):G a:=by obtain⟨a0,a,rfl⟩:=dr e;replace e:=im e;obtain rfl:=f8 e;exact h a0
def by2{G:List Value->Prop}(h:∀a0 a1:Value,G [a0,a1])(a:ab6)(e:a.length=2):G a:=by obtain⟨a0,a,rfl⟩:=dr e;replace e:=im e;obtain⟨a1,a,rfl⟩:=dr e;replace e:=im e;obtain rfl:=f8 e;exact h a0 a1
def by3{G:List Value->Prop}(h:∀a0 a1 a2:Value,G [a0,a1,a2])(a:ab6)(e:a.length=3):G a:=by obtain⟨a0,a,rfl⟩:=dr e;replace e:=im e;obtain⟨a1,a,rfl⟩:=dr e;replace e:=im e;obtain⟨a2,a,rfl⟩:=dr e;replace e:=im e;obtain rfl:=f8 e;exact h a0 a1 a2
def by4{G:List Value->Prop}(h:∀a0 a1 a2 a3:Value,G [a0,a1,a2,a3])(a:ab6)(e:a.length=4):G a:=by obtain⟨a0,a,rfl⟩:=dr e;replace e:=im e;obtain⟨a1,a,rfl⟩:=dr e;replace e:=im e;obtain⟨a2,a,rfl⟩:=dr e;replace e:=im e;obtain⟨a3,a,rfl⟩:=dr e;replace e:=im e;obtain rfl:=f8 e;exact h a0 a1 a2 a3
inductive FI(K:ab2)(x:Str)(t:Stmt):Prop
 | mk{f:Addr}{oc:Value}{od:ac7}{kV dc pm:Value}{an:ac7}{cd ct:Value}{sl:ac3}(a:PySem.W.nsIn K mainGlobals x=some (some (.ref f)))(l:K.lookup f=some %[oc,od,.func (PySem.W.fnOf x x (f9 t) (cY t) (aW t) .none kV dc pm an cd ct)|sl])(c:PySem.W.codeIn K cd x=true)(k:PySem.W.keepIn K (.ref f)=true):FI K x t
def use(X:Ω.K.In h)(G:h.Ns mainGlobals Ω.mg)(q:FI Ω.K x t)(o:∀{f:Addr}{j:FuncData},Fun Ω.K x x t f j->FnOk Ω.P Ω.w Ω.K Ω.mg Ω.base CX0 k f j ps (spC Ω.K n F))(b:∀(p g s:Value)(m:ac7)(e ct:Value)(i:ab6),i.length=ps.length->bindArgs (PySem.W.fnOf x x (f9 t) (cY t) (aW t) .none p g s m e ct) %[i|[]]=pure (ps.zip i)):Cal Ω x k n F:=by obtain⟨a,l,c,r⟩:=q;have d:=MF (st:=t) l c r;exact callee d (o d) (PySem.W.mg_of X G a) (d.binds b)
def all_mk{l:PySem.W.OpenLaw}{K}(X:K.In h)(G:h.Ns mainGlobals mg)(aO:mg "law"=some (.ref fa))(q:FI K "law" pF)
(q0:FI K "is_whole" mW)
(q1:FI K "is_tuple_of" jw)
(q2:FI K "is_widths" lW)
(q3:FI K "is_form" qJ)
(q4:FI K "is_bound" nA)
(q5:FI K "is_loop" qH)
(q6:FI K "is_loops" oF)
(q7:FI K "has_few_figures" fL)
(q8:FI K "is_start" nH)
(q9:FI K "is_place_form" gR)
(aP:FI K "is_table_with_place" dZ)
(aQ:FI K "is_read" qI)
(aR:FI K "is_reads" m6)
(aS:FI K "is_deed" qM)
(aT:FI K "is_nest" qN)
(aU:FI K "is_nests" nT)
(aV:FI K "comes_to" oO)
(aX:FI K "with_next_count" fO)
(aY:FI K "counts_of" lQ)
(aZ:FI K "number_of_steps" fK)
(a0:FI K "program_of" j7)
(a1:FI K "_law_cell" zJ)
(a2:FI K "_law_pen" Ip)
(a3:FI K "_law_take" z6)
(a4:FI K "_law_loops" xN)
(a5:FI K "_law_form" Ai)
(a6:FI K "_law_deed" Bk)
(a7:FI K "_law_program" qu)
(a8:FI K "_law_at" K9)
(a9:FI K "_law_counts" tV)
(ba:FI K "_law_spot" BV)
(bb:FI K "_law_steps" xK)
(bc:FI K "_law_row" Ih)
(bd:FI K "steps_of" oK)
(be:FI K "deed_of" qL)
(bf:FI K "cell_at" qG)
(bg:FI K "cells_of_step" gO)
(bh:FI K "cells_of" m8)
(bi:FI K "is_row" tD)
(bj:FI K "refuse_no_row" gQ)
(bk:FI K "trace_held" jJ)
(bl:FI K "add_times" lO)
(bm:FI K "trace_of_step" gP)
(bn:FI K "told_trace" jM)
(bo:FI K "traced" ul)
(bp:FI K "trace_by" mZ)
(bq:FI K "unlike_parts" iV)
(br:FI K "showing_filling" fP)
(bs:FI K "held_from" lL)
(bt:FI K "compared" oN)
(bu:FI K "_law_traces" sU)
(bv:FI K "_law_same" Eg)
(bw:FI K "_law_held" Ef)
(bx:FI K "_law_shown" xm)
(bz:FI K "_law_right" xJ)
 (i:PySem.W.nsIn K mainGlobals "MOST_STEPS"=some (some (.int 60 g)))
 (L:PySem.W.nsIn K mainGlobals "abs"=some none)
 (M:PySem.W.nsIn K mainGlobals "all"=some none)
 (y:PySem.W.nsIn K mainGlobals "bool"=some none)
 (z:PySem.W.nsIn K mainGlobals "dict"=some none)
 (n:PySem.W.nsIn K mainGlobals "enumerate"=some none)
 (N:PySem.W.nsIn K mainGlobals "int"=some none)
 (j:PySem.W.nsIn K mainGlobals "isinstance"=some none)
 (O:PySem.W.nsIn K mainGlobals "len"=some none)
 (A:PySem.W.nsIn K mainGlobals "list"=some none)
 (P:PySem.W.nsIn K mainGlobals "max"=some none)
 (Q:PySem.W.nsIn K mainGlobals "min"=some none)
 (u:PySem.W.nsIn K mainGlobals "range"=some none)
 (R:PySem.W.nsIn K mainGlobals "set"=some none)
 (p:PySem.W.nsIn K mainGlobals "sorted"=some none)
 (S:PySem.W.nsIn K mainGlobals "sum"=some none)
 (x:PySem.W.nsIn K mainGlobals "tuple"=some none)
 (T:PySem.W.nsIn K mainGlobals "zip"=some none)
 :∃fd:FuncData,(∀(s:ab5)(v:Value),BindsTo s fd %[[v]|[]] [("_law_script",v)])/\∀base:Heap,K.In base->base.Ns mainGlobals mg->FnOk l.prog w K mg base CX0 11 fa fd ["_law_script"] (spC K 1 tW):=by obtain @⟨f,oc,od,kV,dc,pm,an,cd,ct,sl,a,l',c,k⟩:=q;have e:=aO.symm.trans (PySem.W.mg_of X G a);cases e;refine%[PySem.W.fnOf "law" "law" (f9 pF) (cY pF) (aW pF) .none kV dc pm an cd ct,λ s v=>.of_eq rfl|λ base _ _=>?_];have B:Bi mg:=%[%[_|PySem.W.mg_of X G i],eg X G L,eg X G M,eg X G y,eg X G z,eg X G n,eg X G N,eg X G j,eg X G O,eg X G A,eg X G P,eg X G Q,eg X G u,eg X G R,eg X G p,eg X G S,eg X G x|eg X G T];let Ω:Wd:=%[l.prog,w,K,mg,base|none];have o:=use (Ω:=Ω) X G q0 (λ b=>yq b rfl B) λ _ _ _ _ _ _=>by1 λ _=>rfl;have d:=use (Ω:=Ω) X G q1 (λ b=>rG b rfl B) λ _ _ _ _ _ _=>by3 λ _ _ _=>rfl;have av:=use (Ω:=Ω) X G q2 (λ b=>vV b rfl B o d) λ _ _ _ _ _ _=>by1 λ _=>rfl;have t:=use (Ω:=Ω) X G q3 (λ b=>DX b rfl B o d) %[|18];have ai:=use (Ω:=Ω) X G q4 (λ b=>yu b rfl B t) %[|18];have ak:=use (Ω:=Ω) X G q5 (λ b=>Dh b rfl d ai) %[|18];have al:=use (Ω:=Ω) X G q6 (λ b=>yz b rfl B d ak) λ _ _ _ _ _ _=>by1 λ _=>rfl;have E:=use (Ω:=Ω) X G q7 (λ b=>kZ b rfl B) λ _ _ _ _ _ _=>by1 λ _=>rfl;have au:=use (Ω:=Ω) X G q8 (λ b=>yM b rfl B t E) %[|18];have ap:=use (Ω:=Ω) X G q9 (λ b=>nQ b rfl B t) %[|18];have F:=use (Ω:=Ω) X G aP (λ b=>iW b rfl B o d ap) λ _ _ _ _ _ _=>by4 λ _ _ _ _=>rfl;have aq:=use (Ω:=Ω) X G aQ (λ b=>BW b rfl o d E F) λ _ _ _ _ _ _=>by3 λ _ _ _=>rfl;have ar:=use (Ω:=Ω) X G aR (λ b=>zj b rfl B d aq) λ _ _ _ _ _ _=>by3 λ _ _ _=>rfl;have aj:=use (Ω:=Ω) X G aS (λ b=>zV b rfl d au F ar) λ _ _ _ _ _ _=>by3 λ _ _ _=>rfl;have am:=use (Ω:=Ω) X G aT (λ b=>zZ b rfl B d al aj) %[|18];have ao:=use (Ω:=Ω) X G aU (λ b=>zc b rfl B d am) %[|18];have r:=use (Ω:=Ω) X G aV (λ b=>yc b rfl B) %[|18];have aF:=use (Ω:=Ω) X G aX (λ b=>lG b rfl B r) λ _ _ _ _ _ _=>by3 λ _ _ _=>rfl;have C:=use (Ω:=Ω) X G aY (λ b=>vY b rfl aF) λ _ _ _ _ _ _=>by1 λ _=>rfl;have H:=use (Ω:=Ω) X G aZ (λ b=>kj b rfl B C) λ _ _ _ _ _ _=>by1 λ _=>rfl;have aw:=use (Ω:=Ω) X G a0 (λ b=>tZ b rfl B av ao H) %[|18];have U:=use (Ω:=Ω) X G a1 (λ b=>Ou b rfl B) %[|18];have aL:=use (Ω:=Ω) X G a2 (λ b=>R3 b rfl U) %[|18];have m:=use (Ω:=Ω) X G a3 (λ b=>Oc b rfl U) %[|18];have aK:=use (Ω:=Ω) X G a4 (λ b=>J7 b rfl B m) %[|18];have aI:=use (Ω:=Ω) X G a5 (λ b=>PN b rfl B m) λ _ _ _ _ _ _=>by3 λ _ _ _=>rfl;have aH:=use (Ω:=Ω) X G a6 (λ b=>Nk b rfl B m aI) λ _ _ _ _ _ _=>by3 λ _ _ _=>rfl;have aM:=use (Ω:=Ω) X G a7 (λ b=>Ci b rfl B m aK aH) %[|18];have J:=use (Ω:=Ω) X G a8 (λ b=>Wr b rfl B) %[|18];have aG:=use (Ω:=Ω) X G a9 (λ b=>GJ b rfl B J) λ _ _ _ _ _ _=>by1 λ _=>rfl;have Z:=use (Ω:=Ω) X G ba (λ b=>Ny b rfl B J) λ _ _ _ _ _ _=>by3 λ _ _ _=>rfl;have aa:=use (Ω:=Ω) X G bb (λ b=>KR b rfl J aG Z) λ _ _ _ _ _ _=>by1 λ _=>rfl;have V:=use (Ω:=Ω) X G bc (λ b=>Qz b rfl B m) %[|18];have I:=use (Ω:=Ω) X G bd (λ b=>za b rfl B C) λ _ _ _ _ _ _=>by1 λ _=>rfl;have D:=use (Ω:=Ω) X G be (λ b=>Ds b rfl) %[|18];have ad:=use (Ω:=Ω) X G bf (λ b=>Dj b rfl B r) λ _ _ _ _ _ _=>by3 λ _ _ _=>rfl;have af:=use (Ω:=Ω) X G bg (λ b=>nD b rfl D ad) %[|18];have ae:=use (Ω:=Ω) X G bh (λ b=>yF b rfl I af) λ _ _ _ _ _ _=>by1 λ _=>rfl;have as:=use (Ω:=Ω) X G bi (λ b=>GD b rfl B o H) %[|18];have ax:=use (Ω:=Ω) X G bj (λ b=>nY b rfl as) %[|18];have aB:=use (Ω:=Ω) X G bk (λ b=>ut b rfl) %[|18];have ac:=use (Ω:=Ω) X G bl (λ b=>vK b rfl) λ _ _ _ _ _ _=>by3 λ _ _ _=>rfl;have aC:=use (Ω:=Ω) X G bm (λ b=>nF b rfl B r aB ac) λ _ _ _ _ _ _=>by4 λ _ _ _ _=>rfl;have az:=use (Ω:=Ω) X G bn (λ b=>um b rfl B) λ _ _ _ _ _ _=>by1 λ _=>rfl;have aD:=use (Ω:=Ω) X G bo (λ b=>Gr b rfl I D ae ax aC az) %[|18];have aA:=use (Ω:=Ω) X G bp (λ b=>zu b rfl) %[|18];have aE:=use (Ω:=Ω) X G bq (λ b=>qp b rfl B) %[|18];have ay:=use (Ω:=Ω) X G br (λ b=>lF b rfl aE) %[|18];have ah:=use (Ω:=Ω) X G bs (λ b=>vD b rfl B) %[|18];have ag:=use (Ω:=Ω) X G bt (λ b=>yD b rfl B aD aA ay ah) λ _ _ _ _ _ _=>by3 λ _ _ _=>rfl;have ab:=use (Ω:=Ω) X G bu (λ b=>Gv b rfl B) %[|18];have W:=use (Ω:=Ω) X G bv (λ b=>Oa b rfl B ab) λ _ _ _ _ _ _=>by3 λ _ _ _=>rfl;have aJ:=use (Ω:=Ω) X G bw (λ b=>Lr b rfl B) λ _ _ _ _ _ _=>by4 λ _ _ _ _=>rfl;have Y:=use (Ω:=Ω) X G bx (λ b=>JW b rfl B aJ) λ _ _ _ _ _ _=>by4 λ _ _ _ _=>rfl;have aN:=use (Ω:=Ω) X G bz (λ b=>JR b rfl B ag W Y) λ _ _ _ _ _ _=>by4 λ _ _ _ _=>rfl;exact Y8 (Ω:=Ω) (MF (st:=pF) l' c k) rfl B aw aL m aM aa V aN
end K38
local macro_rules|`(universe $[$x]*)=>do return Lean.mkNullNode (←x.mapM fun i=>do
 let n:=Lean.mkIdent (.mkSimple s!"tw{i.getId.toString.toList.tail.foldl (fun a c=>a*62+c.toNat-if c.isDigit then 48 else if c.isUpper then 55 else 61) 0}")
 `(def $n:ident:=()))
namespace PySem.W.Fast
universe uIi77ndSs0fz u6vY10m2voPh uL8PhTqRNkyf u1X3Ss43bSnR uF8sKZ4meRTp uH7YndYjfhTD u8fhCTaGD0Wb u5TeHIXZpKI6 u1AwY0glR9Ec uLWLRVdbRjQh uCQxV5SnCZAh u6kohs0ZfZUT u9U8iPRdh0xp uCKbBIKAl7nl u4g4fpB0277v u6HCmYl6nMGd uSRrLggGIGR u2lsVqAZvO9w u5aQCbbAFw24 uBL2GLmCWzEg u8l40J2uTBvf uB54m22AdtPr uGf49M1FgWeF uAutn6OmEan0 u8xmWfv99ntH u5ma6F6TXnvo u42j5vPtcED u8Ufh9KNNXr9 uFsiSGkMidve uAAaPAbpCQ9J uJXndBBtOMgS uRKqDjwylBw u8szvdRMSbIL uARINW2ss834 uGaNJjWhb87F uEAjhMDbm17G u9IkivJapy7R uJBIClNGBKPd uE8OZ9nxlV1Z uJH27lq8Y1XH uDRnTMxp6gs3 uB6O8Tez1uUq u5VumiCbSuy7 uHWyHmIDUnZW u2HmD1Kg8nyf uFRsuvXigD4t u3r1xOhGFIRH u17YElY1Bc6z u4aSICIUfgK1 u3YwDyGpT0aw uA32UB5HtMcK u3kv2b76Qzz9 uJv6X0RWGHgK u1TAL9HYBWXY u11laXGStQP7 uCfNkgwtlr4X u9GLfDZJT142 uC3Tshpug4cz u7cryPcnBBsQ uI8nAenxoIyf uJIXkaM37kaP uIHFFL1A1Squ u6t7QsezkR2A uANYLEfNyes0 u8wzQRVuJcIc u20Bb6ary6oE uDpps36VKQjx uCngvkyKMiMm u5slLgUnUXKq u2PUQJBKhdSh uGVDMQWdvQ8Q u99gNS3tF2T3 u6NzKjHPd9Pu uI4pF0TUrsV3 uA1gthihNjv4 u4TrnBt8IndS u4UyUidHNhVs u24viYdEVPuR uC4oLrZ0CzH6 uHIWBtioP4tj uA2UNyDs6h7Y uEfDr2rPODNZ uDmHf4ny2UL8 u3n3PrxT1kB3 uCI7C4qAQV8E uBk8B1tWrjCi uGATlezmDtWL uK04syFEWsIE uGrewSp5BeNd uEHRew0LxJVb u784AshCuKho uEb5bkd8OaOu uBgR6MKiIRC1 uFWTNP1Gmp8I uJYqp9u7TEsr u91icdlBaW45 u6HL6LAuhafX uIctuefVivT0 u1Y39bdFLSzu u3FRjj09lfBe u2Qwsw8l0SPV uDqgzAAboYmw u229aNTb3zXE uFLan6Loa3if uHHidQlgZ9eL uDcwLSnwm7is uK8N6joO3BXT u8CeXYrxLcKi u59z0qqMo6tu uAa0NnPA3Uzr u9hM4Nu90RjE u41bcF8ipxQ4 uGiE6UrWdbAf u1KjMsA2QwfA uBlKjwzm23Vi uHaQl4AxpwQ4 uHFhb6GQ2GCf u3WdQODFOaft uIazaoXVBprH u9AxZzFSgkQA u3AAbKiyCRyy uKHa4elKkjrb uxTKPDlOhVO uKeqSmhsZiKL uIWIGL12ZU2Y uF5TbeKQRIs0 u4CEUPHWcVd9 uHANZ3M3BX2j u84jmgx4Ske9 u5UToWuT1Izq u4D3ze6bl1hp uCLBTQ2nts2D u8RYdPFljryO uA3sTEGkJ8Xq uGRKlAuH5n2c u3HkgHDJuBea uBAVRBOy30FP uCW8LIVZq2mn uA8d44YIaqCc u5C8D2H5UFuU uJZkHRoN3Nx8 uA5J9i7Og6SH uEZryFdDFdXg uAeVCU98c5Eh uD5inxqUscYW u6uhg4gL3kVb u7f6YNCd85KT uBZN05RH3od uEte9LnkJWja uR0PSlsyoRt u5SvyVWrYVAg uBtuemYEgB5l u3BgHJpqFWxN u4VfHlSuKc0m uGpSqymqFkAr u6GjVxEO4dy1 uFzedc0Bq1XN uEajjVfENhEZ u4aYdhKp41Um uFZsaylxLGJr uDqDehktEWns uEQvTu7SD7Ek uHyrThApTPPd uL1w6CPQ9dd1 u8SRSLmDiCvh uACJJ4nbkjrq u9dYY21aVi7a u8P3dVGnjlmn u8P5l4ILPaED u2fPXxBgsm3c uHkW9QZ21far uC2GPlR7Tn26 u4OqcR6NGfRj uJkJyB2xVvdb uLP8zZNGo3KZ uEA8MzUknhKM uJ4KAbXWMlKD uFKuDbHLJCHM u7dg2tlfaHkG u21OeY4tFWqU uFiTvjsfJCQl u33F9akEpzv1 uGmyacu41Q84 u4t5LMs1wVMC uFXEE89Slv0s uGlED6UJwDki uKrHH5laj9hC u5RXKCTyh6ZJ uHAt4AwmOccp uBO3urxbl19R u20jc4NyQToa u1Ipnxoww4PV ucfmXIQXW1V uEfPlFGSGF2i uLk3PgruC33h uCPCYXtmobRO uCElB212TOLq u4ju0UTyLH4B uJ7ckVVxmWCy uEKPhcfx83ld uKcPNp33zuwA u7sB1COTX4Q4 uJ5RpzTyOe4q uJXfuEcD4KNh uCkhT1inctzh u9c0d5UTN9qD uCZeieLKkQ1n u7G3wBP6p9lc u5nEJzpAQBLx u3TZyJGBops2 uBjDt40WgvaF uBsQiPUf1I01 uE0VGzrwGmbh uDTeJNfIxnI3 uMoqmpmeWRs umq2SHTQPt uDktki7sE5ZW uHt4yzc4yG2k u8PCC4FLyjqT u3eJ8gcmKTB0 uHErZ99UzqFR u9lIuiAn5e2K uKnsU7rv0Jh uDCgpbr2kAQ6 uC3DxholpiQB uInsloTGJdLs uLR70VLAjtMN uDLsM3iXaRyQ uHDnIyC8TdLw uLnGZyJ8KkVO u6b40rgxUWxq uA60CFeycGYx u5mgvrCbnWEf uIcmRQ9X3nfK uAVR9IBzLbMv u96lu6bf2wJj u7xCUnWM6Pux uEYexwOQTrTO uAYhELUuSQpc uGwSvITm3SCJ uKHpm6JMIkIp uJrLkyQWlpgo uDS5BVyru02R uJ0SDiOFPKhi u1c2AXF6TRFu uAAVA38yVwdb uDsIHXHjsTJn uGcHiriKoMMi uEhJ8DFXK5AT uEwbyZTCX5Ad u9wcaPIrHNU3 uCQXR5ElfNag u5YArBaSdkZl uDD2nWLakWbw uJItWOi4yJ5h u4HyN92oZ3Fd uBGGZJd760hR uJvTvqhnfWdU uIeHPJ13S7zi u6hAPZJYQCBm uDucPd5cwVkO u7QV04VVjjSo uLHOPbeU0JNc u7vRY4ed17RB uIC1M4dkviFp uKqQJnAcDbhQ uDF3GlH8MuBz uLP0okA1ERCa u5z7i2ZVo5J7 u36XBNaqbuaO uFsggARLASO6 uHVYeIPIOj2y uFu8kvNQtMnq u1HuRkMDweT4 u40QViSBOSd0 uFmyDtzOLsD8 u2rrOjAj2Cvh uBOM17BAtqrS uByoCXRuJZRK uKaibxCLZApg u4RDqCfzhHPX u4d91eAcCtih u4MUUYLD1xei uHsx72WRLh1Y u4RCfHPBXcbV u8FcVOJS4IxM uFa8sRnKJqbJ uK3KtR7AvIUo u1sBV2o6m4JF u2sFr1xPy8kG uEvIGhDcWln3 uIyxIXgMETuA uE50CZx2QxNr u9XhYXt3zyNL u7Cu2MEl9GTu uJOgen4Mjk9v uLoJOZg4w69d uJUkzRVecTN6 uBSy1KUAe0A2 uF2DxNZjzRcc uDm4qJmFkrg9 uJfCGAYJWk0u u60ZULlLjJzf uIUkTi1wT4CW u3u3KdANpFJG u4meymIGDaKh uEymyXapIMne uF8sYw06K6md uIeHL5KjcniS u8jo7cTPFDsf uCX5unePMDiA uH9Fo43p7qaX u48x2qtLWyFv uL0bmgPn7Jbg uIqk2cVQuwch u3nt88mlot8f u5ncspoNvlfS uIbLL8Zuvd7B u3qvcPbsC3jk u1FHwI1WiFv u5s6noJSAxoh uBkKgoQlkYDZ u7mjbK8kmUbK uIfsa3Dhb2S6 uCRV0bmj2SSj uEdqTwgAt3C9 u4KYkmUSmWfb uKfzALIM2rwv uHM960TtKsFh uA5jvOIQxBST u1C1UBWX8oTQ uCGyk5ZVcMph uJKkSdIbi7Xv uJhQnYWndjem uC1D5uof58NC u9z66dls9v9U uH6YSAKWLyJ0 uD9gyeKhkxrm u4zBNxlEq1eb uE4whs0QcNiV u8Ep8wHFwFPv u2O9FEZVtCvp uFVbRx6Cy79Y uARY9XhV4BLk u2zAa75X531U uHvNne6KD37D uBl6eB0rfWG6 uIuB7Pwp1bqK uHNrRnuRzzqy uEDvZVjFzh1E uBbB4uY8CsD5 u8xhy2BUwpQO uGYJmBAtd1E3 u4mTod2P7F4P uCZlFEr27YoN uF4d7UhwOF2L uElRT4TK0pY8 uCpp9v8wo9wE uAF2BjOgtx3Q u2coVgidtHVD ujEv6jaZUaF u6VEo2xFsjQ uH9nZTQW4OyV u3612vDquzNn uDCkIRcXlh84 u49F48Qr20cz
end PySem.W.Fast
open PySem PySem.W PyProof.Rows
set_option maxRecDepth 100000 in
set_option maxHeartbeats 0 in
theorem PySem.Challenge.cw_nestturn_k38_two_rows_compared_holds : PySem.Challenge.rw_nestturn_k38_two_rows_compared.Holds := by
 w_on; o_law; k_head; (case hw => w_witness2)
 k_fill
 refine RF.walk (l := PySem.Challenge.rw_nestturn_k38_two_rows_compared) (lev := 11) (x := "_law_script") rfl rfl %[rfl, %[|1]| %[|1]] (λ w h Y => by first | exact PySem.W.kIn_of Y | exact PySem.W.km_in_of Y) ?F
 case F =>
  intro w mg fa h KX G hmg
  refine' K38.all_mk KX G hmg ?_ ?_ ?_ ?_ ?_ ?_ ?_ ?_ ?_ ?_ ?_ ?_ ?_ ?_ ?_ ?_ ?_ ?_ ?_ ?_ ?_ ?_ ?_ ?_ ?_ ?_ ?_ ?_ ?_ ?_ ?_ ?_ ?_ ?_ ?_ ?_ ?_ ?_ ?_ ?_ ?_ ?_ ?_ ?_ ?_ ?_ ?_ ?_ ?_ ?_ ?_ ?_ ?_ ?_ ?_ ?_ ?_ ?_ ?_ ?_ ?_ ?_ ?_ ?_ ?_ ?_ ?_ ?_ ?_ ?_ ?_ ?_ ?_ ?_
  all_goals try first | (refine' K38.FI.mk ?a ?l ?c ?k; (case a => k_is); (case l => k_is); (case c => k_is); (case k => k_is)) | (show _ = _; k_is)
