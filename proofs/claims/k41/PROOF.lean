import PyProof.Rows.All
import Wide.All
import OpenK.AllK
import Wide.FinOn
import Lean
import PyProof.EqAt
import PyProof.EqKinds
import PyProof.TupleCall
import KE.KEqDict
import PyProof.ZipIter
import PyProof.ListMulAny
import KE.KTryMore
import PyProof.NsDelKeeps
import KE.KUnpack
import KE.KRevIter
import PyProof.DictUpdate
import PyProof.ListRange
import PyProof.Rows.CallKwBuiltin
import PyProof.WalkInts
import KE.KSortTup
import KE.KLam
import KE.KNestM
import PyProof.CollectIter
import OpenK.KMake
import KE.KDictList
import PyProof.Rows.SortRuns
import PyProof.SetScanFacts
import KE.KDictOf
import PyProof.AttrMissHeap
import PySem.Challenge.RW_nestturn_k41_whole_one_pair_the_other_wa
set_option bootstrap.genMatcherCode false
set_option compiler.extract_closed false
set_option genSizeOfSpec false
set_option genSizeOf false
def ZU:=@eq_of_beq
def fE{a:Prop}(h:false=true):a:=(Bool.false_ne_true h).elim
noncomputable section
set_option autoImplicit true
set_option relaxedAutoImplicit true
set_option Elab.async false
local macro_rules|`(%[$a,*|$k])=>`(⟨$a,*,$k⟩)
set_option linter.all false
set_option hygiene false
local macro_rules
| `(%[|0]) => `(by omega)
| `(%[|1]) => `(by decide)
| `(%[|2]) => `(Bi Ω.mg)
| `(%[|3]) => `(Inv X pins σ H s)
| `(%[|4]) => `(model prog w)
| `(%[|5]) => `(model X.prog X.w)
| `(%[|6]) => `(by kernel_rfl!)
| `(%[|7]) => `(Store->Prop)
local macro_rules
| `(%[|8]) => `(.ref s.heap.objs.size)
| `(%[|9]) => `(.type "tuple")
| `(%[|10]) => `((au p).length)
| `(%[|11]) => `(by decide+kernel)
| `(%[|12]) => `(some .cell)
| `(%[|13]) => `(.dlo S.length)
| `(%[|14]) => `(Int×List Int)
| `(%[|15]) => `(StOk X.K O H S)
local macro_rules
| `(%[|16]) => `(by simp;omega)
| `(%[|17]) => `(λ _ _ _ _ _ _=>by2 λ _ _=>rfl)
| `(%[|18]) => `(S++[%[|61]])
| `(%[|19]) => `({s with heap:=h'})
| `(%[|20]) => `(aq m ps f led mv pl)
| `(%[|21]) => `(some (.loc S.length))
| `(%[|22]) => `(o.map (xAt p))
| `(%[|23]) => `(.type "list")
local macro_rules
| `(%[|24]) => `(Dd×List Int)
| `(%[|25]) => `(ds[i]? =some d)
| `(%[|26]) => `(Value -> Shared -> Prop)
| `(%[|27]) => `(λ a b=>ltC a b=true)
| `(%[|28]) => `(s.heap.objs.size+1)
| `(%[|29]) => `(At Ω X r top N nm)
| `(%[|30]) => `((ao K xs).length)
| `(%[|31]) => `(List.range n)
local macro_rules
| `(%[|32]) => `(X.calm=true)
| `(%[|33]) => `(Rep K O H v d)
| `(%[|34]) => `(Tab m (aN K xs) ps)
| `(%[|35]) => `(aW I q (by simp))
| `(%[|36]) => `(Cel->Option Tr)
| `(%[|37]) => `(StOk K O H S)
| `(%[|38]) => `(%[|39]->h'.get? b=some o)
| `(%[|39]) => `(s.heap.get? b=some o)
local macro_rules
| `(%[|40]) => `(%[%[|0]|%[|0]])
| `(%[|41]) => `(λ _ h=>nomatch h)
| `(%[|42]) => `(eO dl (eO ld gk))
| `(%[|43]) => `(h.get? b=some o)
| `(%[|44]) => `(s.heap.push %[|89])
| `(%[|45]) => `(X.env.cells.lookup x=some c)
| `(%[|46]) => `(%[|98].1)
| `(%[|47]) => `(xs.map (·.1))
local macro_rules
| `(%[|48]) => `(λ kv=>decide (kv.1=c))
| `(%[|49]) => `(b<s.heap.objs.size)
| `(%[|50]) => `(A.handled=none)
| `(%[|51]) => `(s2.heap.objs.size::l.B)
| `(%[|52]) => `(max a.lev b.lev)
| `(%[|53]) => `(Nat->Gam->%[|7])
| `(%[|54]) => `({s with heap:=h',toks:=tk})
| `(%[|55]) => `(fM (sy (Ex.bl false)) lO)
local macro_rules
| `(%[|56]) => `(X.A.units+60<cLine)
| `(%[|57]) => `(List.replicate i 0)
| `(%[|58]) => `(Reps K O H xs ds)
| `(%[|59]) => `(λ z=>nomatch z)
| `(%[|60]) => `(s.heap.push %[|100])
| `(%[|61]) => `(.non::a.map encC)
| `(%[|62]) => `(w.params.followText "set-order")
| `(%[|63]) => `(λ _ _ _ _ _ _=>by3 λ _ _ _=>rfl)
local macro_rules
| `(%[|64]) => `(λ _ _ _ _ _ _=>by1 λ _=>rfl)
| `(%[|65]) => `(.non::b.map encC)
| `(%[|66]) => `(s.heap.push %[|99])
| `(%[|67]) => `((x==("__debug__":Str))=false)
| `(%[|68]) => `(sIx items.size 0 lo)
| `(%[|69]) => `(adN m n (stP m h))
| `(%[|70]) => `(sc.names.lookup x)
| `(%[|71]) => `((cnt n.lps).length)
local macro_rules
| `(%[|72]) => `(absurd (show false=true from c) y6)
| `(%[|73]) => `(%[_,cb _ rfl,rfl|rfl])
| `(%[|74]) => `((a==sysModules)=false)
| `(%[|75]) => `(s2.heap.objs.size+1)
| `(%[|76]) => `(by rw[A.g];exact hm)
| `(%[|77]) => `(some (bG (aq m ps f (aO w) mv true) (ao K xs) ep))
| `(%[|78]) => `(some (.non::kvs.map encC))
| `(%[|79]) => `(f.A.take c.length++[(a,q)])
local macro_rules
| `(%[|80]) => `((s.heap.objs.size,true))
| `(%[|81]) => `(some (.lst ((List.replicate i (0:Int)).map D.int)))
| `(%[|82]) => `(SetTable.below ps.toArray (aG m (K.h c) n))
| `(%[|83]) => `(show s.heap.IsTuple _ c.toArray from g)
| `(%[|84]) => `(h'.get? s.heap.objs.size)
| `(%[|85]) => `(Str.ofString "__next__")
| `(%[|86]) => `({cls:=.type a,data:=.fields #[.ref c,.int 0 0]})
| `(%[|87]) => `((au p).map λ x=>dJ x.2 x.1)
local macro_rules
| `(%[|88]) => `(X.fn x=true\/X.env.scope.names.lookup x=some .local)
| `(%[|89]) => `({cls:=.type "dict",data:=.dict #[]})
| `(%[|90]) => `(starEach (e::es) X.env=(false,eval e X.env)::starEach es X.env)
| `(%[|91]) => `({j:=i,more:=runEnd m i-i,i:=i,perturb:=d,dummy:=none})
| `(%[|92]) => `(.tup [.int (nxH Hf x).1,.dlo (%[|18]++J).length])
| `(%[|93]) => `({W with nx:=Pv (i+1),ct:=Pv (i+1),bk:=W.nx})
| `(%[|94]) => `(s2.heap.push {cls:=%[|23],dict:=none,data:=.seq ([]:List Value).toArray})
| `(%[|95]) => `((h.push %[|86]).push %[|101])
local macro_rules
| `(%[|96]) => `({cls:=.type "tuple_iterator",data:=.fields #[.ref a,.int 0 0]})
| `(%[|97]) => `({cls:=.type "range",data:=.fields #[.int lo t,.int hi u,.int 1 v]})
| `(%[|98]) => `(leap m p.i p.perturb)
| `(%[|99]) => `({cls:=.type "set",dict:=none,data:=.set #[] 0 (.fresh 0 0 led)})
| `(%[|100]) => `({cls:=%[|23],data:=.seq ([]:List Value).toArray})
| `(%[|101]) => `({cls:=.type d,data:=.fields #[.ref f,.int 0 0]})
set_option hygiene true
def z0:=@List.getElem?_eq_some_iff
def y3:=@List.getElem?_eq_getElem
def y4:=@List.mem_of_getElem?
def y6:=@Bool.false_ne_true
def y7:=@List.length_map
def y8:=@List.getElem?_map
def y9:=@Nat.le_refl
def x4:=@List.mem_cons_of_mem
def x5:=@List.size_toArray
def x6:=@List.mem_cons_self
def x8:=@List.length_append
def x9:=@List.getElem?_append_left
def v3:=@Nat.lt_of_lt_of_le
def b0:=@PySem.wpAny_bind
def b9:=@PySem.wpAny_pure
def bX:=@PySem.Heap.get?_push_of_some
def c8:=@if_neg
def c9:=@List.mem_map
def ca:=@PySem.Heap.lt_size
def cb:=@PySem.Heap.get?_push_size
def cc:=@decide_eq_true
def cf:=@List.mem_singleton
def ci:=@if_pos
def ck:=@List.append_assoc
def cm:=@decide_eq_false
def cn:=@List.mem_append
def cq:=@Option.some.inj
def cr:=@Nat.ne_of_lt
def cw:=@List.map_cons
def cy:=@List.take_length
def cE:=@of_decide_eq_true
def cK:=@List.mem_cons
def cS:=@List.take_of_length_le
def d6:=@Nat.le_trans
def da:=@List.map_append
def db:=@List.getElem?_of_mem
def de:=@Bool.false_eq_true
def df:=@Bool.and_true
def dk:=@Nat.zero_le
def dr:=@List.map_map
def dt:=@List.getElem?_append_right
def dA:=@List.mem_range
def dE:=@List.exists_cons_of_length_eq_add_one
def dQ:=@PySem.wpAny_call_entry
def dS:=@List.length_cons
def dV:=@PySem.wpAny_newObj_type
def e7:=@Array.length_toList
def e8:=@PySem.AutoSeq1.wpAny_loadPart'
def ef:=@PySem.W.mg_none_of
def ej:=@List.length_take
def en:=@if_false
def eu:=@PyProof.Rows.callWith_type1
def eC:=@congrArg
def eD:=@PySem.wpAny_holding
def eI:=@PySem.Heap.SameBut.update
def eJ:=@List.getElem?_set_ne
def eL:=@List.mem_flatMap
def eM:=@List.find?_cons
def eR:=@Nat.le_of_lt
def eW:=@List.getD_eq_getElem?_getD
def f7:=@Int.toNat_natCast
def f8:=@PySem.Calls.spliced_cons
def fb:=@List.eq_nil_of_length_eq_zero
def fe:=@List.mem_append_right
def fg:=@Array.getElem?_toList
def fh:=@List.nodup_cons
def fk:=@Bool.and_eq_true
def fm:=@Bool.not_true
def fo:=@PySem.wpAny_dictEntries
def fq:=@List.length_range
def ft:=@Nat.ne_of_gt
def fw:=@Array.getD_eq_getD_getElem?
def fx:=@PySem.Heap.get?_update_self
def fy:=@PySem.wpAny_seqItems
def fA:=@PySem.wpAny_field
def fF:=@PySem.Calls.spliced_nil
def fI:=@List.pairwise_iff_getElem
def fN:=@List.getElem?_zip_eq_some
def fR:=@List.getElem?_set_self
def fS:=@PySem.wpAny_setField_rec
def fT:=@List.getElem?_take
def g7:=@Array.getElem?_eq_none
def g9:=@List.nodup_nil
def gc:=@PySem.Heap.size_push
def gd:=@Bool.eq_iff_iff
def ge:=@beq_self_eq_true
def gg:=@Nat.le_add_right
def gi:=@PySem.F.called_set
def gl:=@List.replicate_succ
def gp:=@PyProof.Rows.slot_tuple_getitem
def gt:=@List.append_nil
def gu:=@PySem.wpAny_Call_Name_kw
def gv:=@PySem.wpAny_specialOf
def gx:=@PySem.Around.under_plainId
def gy:=@List.find?_eq_none
def gz:=@PySem.wpAny_isInstance
def gE:=@List.mem_of_find?_eq_some
def gI:=@PySem.F.slot_dict_itemiterator_next
def gL:=@List.filterMap_cons
def gN:=@PySem.codeAny_builtin
def gS:=@PySem.wpAny_mono
def gT:=@List.all_eq_true
def gX:=@PySem.wpAny_forIn_list
def h8:=@List.getElem_map
def h9:=@if_true
def hE:=@PySem.wpAny_truthy_bool
def hH:=@Nat.lt_succ_of_lt
def hV:=@decide_eq_true_eq
def hY:=@List.flatMap_append
def hZ:=@List.mem_filter
def i0:=@PyProof.Rows.callWith_builtin1
def i4:=@Array.getElem?_eq_getElem
def i5:=@Ne.symm
def i6:=@List.length_singleton
def i7:=@List.mem_filterMap
def i8:=@PySem.wpAny_pyIter_tuple
def i9:=@Array.forIn_toList
def ia:=@PySem.wpAny_askSetting
def ib:=@List.any_eq_true
def ic:=@Nat.lt_irrefl
def ii:=@Bool.true_and
def ij:=@List.mem_append_left
def im:=@List.mem_of_mem_take
def io:=@PySem.F.slot_dict_keyiterator_next
def ip:=@PySem.mem_of_lookup
def iq:=@PySem.wpAny_typeOf
def ix:=@Option.map_eq_some_iff
def iA:=@Nat.succ.inj
def iE:=@List.cons.inj
def iF:=@List.all_cons
def iL:=@Nat.lt_succ_self
def iN:=@List.not_mem_nil
def iO:=@List.map_flatMap
def iP:=@of_decide_eq_false
def iS:=@List.getElem?_eq_none
def iX:=@List.take_append_drop
def ja:=@PySem.sizeLine_eq
def jp:=@Nat.le_succ
def jv:=@List.getElem?_mapIdx
def jI:=@PySem.wpAny_typeNameOfWhole_itemiter
def jS:=@PySem.wpAny_dictEpoch
def k6:=@List.Nodup.length_le_of_subset
def k7:=@Nat.mul_le_mul_right
def k8:=@List.find?_some
def k9:=@List.flatten_cons
def ke:=@List.nodup_append
def kf:=@PySem.wpAny_pyIter_list
def kg:=@List.ext_getElem?
def kn:=@List.foldl_append
def ko:=@PySem.wpAny_typeNameOfWhole_keyiter
def kq:=@List.lookup_cons
def kr:=@PySem.wpAny_setField
def kt:=@PySem.wpAny_rule
def kw:=@Nat.pow_pos
def ky:=@Bool.or_eq_true
def kz:=@PySem.wpAny_notOrdered_dict
def kA:=@PySem.F.slot_tuple_iterator_next
def kB:=@PySem.wpAny_attempt
def kC:=@List.perm_ext_iff_of_nodup
def kD:=@PySem.F.slot_tuple_hash
def kF:=@List.pairwise_map
def kG:=@List.filter_cons
def kH:=@List.length_erase_of_mem
def kK:=@List.Perm.eq_of_pairwise
def kL:=@List.map_congr_left
def kM:=@PySem.plainId_quiet
def kN:=@PySem.call_meets
def kP:=@Nat.lt_of_le_of_lt
def kQ:=@List.range_succ
def kR:=@PySem.Heap.get?_update_other
def kS:=@List.take_sublist
def kT:=@PySem.W.kitx_dict
def kU:=@PySem.wpAny_pyIter_slot
def kX:=@Nat.le_of_lt_succ
def l0:=@PySem.Heap.get?_push_ne
def l4:=@List.flatMap_cons
def l8:=@PySem.codeAny_mono
def l9:=@List.map_nil
def lh:=@List.forIn_nil
def ll:=@PySem.wpAny_fieldsOf
def lm:=@List.take_zero
def ln:=@Nat.mul_le_mul
def lp:=@List.filterMap_append
def lv:=@Int.add_zero
def lI:=@Prod.ext
def lP:=@PySem.F.slot_tuple_mul
def lS:=@PySem.F.slot_NoneType_hash
def ma:=@List.nodup_range
def md:=@PySem.Heap.size_update
def me:=@List.ext_getElem
def mf:=@Nat.pow_le_pow_right
def mh:=@beq_eq_false_iff_ne
def mi:=@PySem.wpAny_passesOwn
def ml:=@PySem.PassesOwn.never
def mm:=@List.forIn_cons
def mn:=@PySem.SeqAt.EqAt.same
def mr:=@Nat.div_le_self
def ms:=@List.getElem?_eq_none_iff
def mw:=@PySem.F.args_tuple_add_2
def mx:=@Nat.succ_mul
def mA:=@Nat.le_of_eq
def mB:=@PySem.Obj.data_mapFields
def mE:=@Nat.mul_comm
def mI:=@List.filter_append
def mM:=@Nat.zero_add
def mN:=@Int.emod_lt_of_pos
def mP:=@Array.size_setIfInBounds
def mS:=@PySem.F.slot_list_getattribute
def mT:=@Int.natAbs_mul
def n3:=@PySem.F.entry_tuple_add
def n4:=@Nat.le_mul_of_pos_right
def ng:=@List.pairwise_singleton
def nh:=@PySem.F.plain_list_iadd
def np:=@List.find?_append
def nr:=@Int.natAbs_add_le
def nv:=@PySem.F.slot_tuple_add
def nw:=@PySem.wpAny_isOneOf_itemiter
def ny:=@Nat.le_mul_of_pos_left
def nB:=@List.any_cons
def nE:=@List.sum_cons
def nI:=@PySem.wpAny_eqBool_int
def nK:=@List.length_drop
def nL:=@or_false
def nN:=@Array.toList_inj
def nS:=@List.length_replicate
def nV:=@List.getElem?_zipWith
def nX:=@PySem.isSubtype_tuple_tuple
def oe:=@PySem.builtinLookup_eq_fast
def og:=@List.getElem?_toArray
def oi:=@PySem.wpAny_binaryOp_repeat_ref
def oj:=@PySem.wpAny_Name
def om:=@PySem.wpAny_loadName_local
def oq:=@PySem.concat_meets
def ot:=@Nat.lt_trans
def ox:=@Nat.sub_self
def oy:=@PySem.wpAny_updateSeq_pair
def oz:=@PySem.F.slot_zip_next
def oB:=@PySem.F.slot_int_rmul
def oC:=@Prod.ext_iff
def oI:=@PySem.Obj.data_mapDictKeys
def oP:=@Nat.mod_lt
def oQ:=@Int.emod_nonneg
def oS:=@Int.toNat_of_nonneg
def oT:=@List.zip_cons_cons
def pb:=@List.getElem?_drop
def pd:=@List.set_cons_succ
def pf:=@List.set_cons_zero
def pi:=@List.mem_replicate
def pj:=@List.map_take
def po:=@List.drop_sublist
def pu:=@bne_self_eq_false
abbrev af0:=PySem.W.Frag
abbrev af1:=List Int
abbrev af2:=PySem.Value->PySem.Shared->Prop
abbrev af3:=PySem.Shared
abbrev af4:=List Nat
abbrev af5:=List PySem.Value
abbrev af6:=List (PySem.Addr×PySem.Obj)
abbrev af7:=List PySem.Str
abbrev af8:=PySem.Str->Option PySem.Value
abbrev af9:=List (Option Nat)
abbrev ag0:=List PySem.Expr
abbrev ag1:=Array PySem.Value
abbrev ag2:=List %[|14]
abbrev ag3:=Option Int
abbrev ag4:=PySem.Program
abbrev ag5:=Array (Option PySem.Value)
abbrev ag6:=List (PySem.Str×PySem.NameKind)
abbrev ag7:=%[|14]
abbrev ag8:=Option PySem.Addr
abbrev ag9:=List (PySem.Str×PySem.Addr)
abbrev ah0:=PySem.Around
abbrev ah1:=Bool->PySem.Shared->Prop
abbrev ah2:=List PySem.Addr
abbrev ah3:=List (List Int)
abbrev ah4:=Array (Option Nat)
abbrev ah5:=Nat->Nat->Bool
set_option bootstrap.genMatcherCode false
set_option maxRecDepth 100000
theorem hideG {G : Prop} (h : ∀ G2 : Prop, (G → G2) → G2) : G := h G id
local macro_rules | `(tactic| obtain ⟨$a:rcasesPatLo,$b:rcasesPatLo,$c:rcasesPatLo,$d:rcasesPatLo,$es:rcasesPatLo,*⟩ := $v) => `(tactic| (refine hideG fun G_ k_ => ?_; rcases $v:term with ⟨$a,$b,$c,$d,$es,*⟩ <;> (refine k_ ?_; clear k_ G_)))
local macro_rules | `(tactic| rintro $p:rintroPat $q:rintroPat $ps*) => `(tactic| (rintro $p; rintro $q $ps*))
local macro_rules | `(tactic| rintro ⟨$a:rcasesPatLo,$b:rcasesPatLo,$c:rcasesPatLo,$d:rcasesPatLo,$es:rcasesPatLo,*⟩) => `(tactic| (intro z_; obtain ⟨$a,$b,$c,$d,$es,*⟩ := z_))
local macro_rules | `(tactic| omega) => `(tactic| first | with_reducible assumption | with_reducible exact Int.natCast_nonneg _ | with_reducible exact Nat.le_trans (by assumption) (by decide) | with_reducible exact Int.le_trans (by decide) (Int.natCast_nonneg _) | with_reducible exact Int.lt_of_le_of_lt (Int.ofNat_le.mpr (by assumption)) (by decide) | (fail_if_success fail_if_success omega +splitNatSub); first | lia -zetaDelta | lia)
local macro_rules|`(def $i:declId $s:optDeclSig $v:declVal)=>`(noncomputable def $i:declId $s:optDeclSig $v:declVal)
local macro_rules|`(abbrev $i:declId $s:optDeclSig $v:declVal)=>`(noncomputable abbrev $i:declId $s:optDeclSig $v:declVal)
namespace L2
open PySem PySem.Spec PyProof.Rows
abbrev Key:=Sum Int Str
def ud:Key->Value->Bool
 | .inl k,v=>Value.isInt k v
 | .inr x,v=>Value.isStrOf x v
def ad6(w:World):Key->Int
 | .inl k=>hashInt k
 | .inr x=>hashStr w x
theorem cR:∀{k:Key}{v:Value},ud k v=true->(∃i t,k=Sum.inl i/\v=Value.int i t)\/(∃x t,k=Sum.inr x/\v=Value.str x t)
 | .inl i,v,h=>by obtain⟨t,e⟩:=Value.isInt_shape (k:=i) (v:=v) h;exact .inl %[i,t,rfl|e]
 | .inr x,v,h=>by obtain⟨t,e⟩:=Value.isStrOf_shape (x:=x) (v:=v) h;exact .inr %[x,t,rfl|e]
def Ti(i:Int)(t:Tok):ud (.inl i) (.int i t)=true:=by simp[ud,Value.isInt]
def Rx(x:Str)(t:Tok):ud (.inr x) (.str x t)=true:=by simp[ud,Value.isStrOf]
def aaR(a b:Int):decide ((Sum.inl a:Key)=Sum.inl b)=(a==b):=by by_cases e:a=b;{subst e;simp};{have h:¬(Sum.inl a:Key)=Sum.inl b:=λ q=>e (Sum.inl.inj q);rw[cm h];exact(mh.mpr e).symm}
def ack(a b:Str):decide ((Sum.inr a:Key)=Sum.inr b)=decide (a=b):=by by_cases e:a=b;{subst e;simp};{have h:¬(Sum.inr a:Key)=Sum.inr b:=λ q=>e (Sum.inr.inj q);rw[cm h,cm e]}
def abF(a:Int)(b:Str):decide ((Sum.inl a:Key)=Sum.inr b)=false:=cm (λ q=>nomatch q)
def aa2(a:Str)(b:Int):decide ((Sum.inr a:Key)=Sum.inl b)=false:=cm (λ q=>nomatch q)
def eX(prog:ag4)(w:World):PySem.KeyKind prog w Key where
 is:=ud
 hash:=ad6 w
 inj:=λ v a b f d=>by rcases cR f with⟨i,t,rfl,rfl⟩ | ⟨x,t,rfl,rfl⟩;{rcases cR d with⟨j,u,rfl,e⟩ | ⟨y,u,rfl,e⟩;{injection e with e1 _;rw[e1]};{exact nomatch e}};{rcases cR d with⟨j,u,rfl,e⟩ | ⟨y,u,rfl,e⟩;{exact nomatch e};{injection e with e1 _;rw[e1]}}
 byValue:=λ k v h=>by rcases cR h with⟨i,t,rfl,rfl⟩ | ⟨x,t,rfl,rfl⟩<;>rfl
 pyHash:=λ c h=>by rcases cR c with⟨i,t,rfl,rfl⟩ | ⟨x,t,rfl,rfl⟩;{exact wpAny_pyHash_int h};{exact wpAny_pyHash_str h}
 eqBool:=λ g c h=>by rcases cR g with⟨i,t,rfl,rfl⟩ | ⟨x,t,rfl,rfl⟩;{rcases cR c with⟨j,u,rfl,rfl⟩ | ⟨y,u,rfl,rfl⟩;{rw[aaR]at h;exact nI h};{rw[abF]at h;exact SeqAt.EqAt.int_str i t y u _ _ _ _ h}};{rcases cR c with⟨j,u,rfl,rfl⟩ | ⟨y,u,rfl,rfl⟩;{rw[aa2]at h;exact SeqAt.EqAt.str_int x t j u _ _ _ _ h};{rw[ack]at h;exact wpAny_eqBool_str h}}
 «strs»:=λ k x t v h=>by rcases cR h with⟨i,u,rfl,e⟩ | ⟨y,u,rfl,e⟩;{exact nomatch e};{injection e with e1 _;subst e1;cases v<;>rfl}
def MJ(prog:ag4)(w:World)(i:Int)(t:Tok):(eX prog w).is (.inl i) (.int i t)=true:=Ti i t
def K8(prog:ag4)(w:World)(x:Str)(t:Tok):(eX prog w).is (.inr x) (.str x t)=true:=Rx x t
variable{b:Addr}
inductive V where
 | non | bl(b:Bool) | int(i:Int) | str(x:Str) | byt(b:Array UInt8) | flt(b:UInt64) | ref(a:Addr) | ty(n:String)
 deriving DecidableEq
def RelV:V->Value->Prop
 | .non,u=>u=Value.none
 | .bl b,u=>u=Value.bool b
 | .int i,u=>∃t,u=Value.int i t
 | .str x,u=>∃t,u=Value.str x t
 | .byt b,u=>∃t,u=Value.bytes b t
 | .flt b,u=>∃t,u=Value.float b t
 | .ref a,u=>u=Value.ref a
 | .ty n,u=>u=Value.type n
abbrev Vals:List V->List Value->Prop:=Paired RelV
def Vals.length(r:Vals xs a):xs.length=a.length:=Paired.length r
theorem Vals.get:∀{xs:List V}{a:af5}{i:Nat}{x:V},Vals xs a->xs[i]? =some x->∃u,a[i]? =some u/\RelV x u
 | _,_,_,_,.nil,e=>by simp at e
 | _,_,0,_,.cons r _,e=>by simp at e;subst e;exact%[_,rfl|r]
 | _,_,i+1,x,.cons _ t,e=>by obtain⟨u,b,c⟩:=Vals.get (i:=i) (x:=x) t (by simpa using e);exact%[u,by simpa using b|c]
theorem Vals.set(r:RelV x u):∀{xs:List V}{a:af5}(i:Nat),Vals xs a->Vals (xs.set i x) (a.set i u)
 | _,_,_,.nil=>.nil
 | _,_,0,.cons _ t=>.cons r t
 | _,_,i+1,.cons q t=>.cons q (Vals.set r i t)
theorem Vals.append:∀{xs ys:List V}{a ws:af5},Vals xs a->Vals ys ws->Vals (xs++ys) (a++ws)
 | _,_,_,_,.nil,s=>s
 | _,_,_,_,.cons r t,s=>.cons r (Vals.append t s)
theorem Vals.take:∀{xs:List V}{a:af5}(n:Nat),Vals xs a->Vals (xs.take n) (a.take n)
 | _,_,0,_=>.nil
 | _,_,_+1,.nil=>.nil
 | _,_,n+1,.cons r t=>.cons r (Vals.take n t)
theorem Vals.drop:∀{xs:List V}{a:af5}(n:Nat),Vals xs a->Vals (xs.drop n) (a.drop n)
 | _,_,0,r=>r
 | _,_,_+1,.nil=>.nil
 | _,_,n+1,.cons _ t=>Vals.drop n t
def acB:Option V->Option Value->Prop
 | some v,some u=>RelV v u
 | none,none=>True
 | _,_=>False
def KV{κ:Type}:List (κ×V)->List (κ×Value)->Prop:=Paired λ(p:κ×V) (q:κ×Value)=>p.1=q.1/\RelV p.2 q.2
def kV:Key->V
 | .inl i=>.int i
 | .inr x=>.str x
inductive HO where
 /-- a list -/
 | lst(xs:List V)
 /-- a tuple (never changes) -/
 | tup(xs:List V)
 /-- a dict whose keys are ints and texts; one whose keys are tuples of ints and texts (the empty one is both) -/
 | dK(kvs:List (Key×V)) | dT(kvs:List (List Key×V))
 /-- a set of ints: its members, its size -/
 | set(S:Int->Bool)(n:Nat)
 /-- an instance of the class at C, its dict at dx, its attributes -/
 | ins(C dx:Addr)(fs:List (Str×V))
 /-- the dict of the instance at x -/
 | own(x:Addr)
 /-- the dict of an exception -/
 | xd(fs:List (Str×V))
 /-- a bound method, f of x -/
 | met(f x:Addr)
 /-- a range object lo, lo + 1, .. below hi -/
 | rng(lo hi:Int)
 /-- a thing that is known to the object (the script; a dict while a loop walks it): read, never written while it is so -/
 | frz(o:Obj)(u:HO)
 /-- a code object's table -/
 | tbl(ps:ag1)
 /-- any other thing, by what is true of its one object (a def of one's own: SetO a S n := HO.ext λ h => ..) -/
 | ext(φ:Heap->Prop)
abbrev Hp:=Addr->Option HO
def upd(H:Hp)(a:Addr)(o:HO):Hp:=λ b=>if b=a then some o else H b
def aR:upd H a o a=some o:=by unfold upd;rw[ci rfl]
def aA(h:b≠a):upd H a o b=H b:=by unfold upd;rw[c8 h]
def aP{H:Hp}(h:H a=some o)(h':H b=none):a≠b:=by intro e;subst e;rw[h]at h';cases h'
section
variable(P:Program)(w:World)
def aU(H:Hp)(h:Heap)(a:Addr):HO->Prop
 | .lst c=>c.length<=sizeLine/\∃(b:af5) (n:Nat),Vals c b/\h.get? a=some {cls:=%[|23],data:=.seq b.toArray n}
 | .tup c=>c.length<=sizeLine/\∃b:List Value,Vals c b/\IsTup h a b.toArray
 | .dK kvs=>kvs.length<=sizeLine/\%[|74]/\∃j,KV kvs j/\h.DictOf (eX P w) a j
 | .dT kvs=>kvs.length<=sizeLine/\%[|74]/\∃c:List (List Key×Addr×Value),
  Paired (λ(p:List Key×V) (q:List Key×Addr×Value)=>p.1=q.1/\H q.2.1=some (.tup (p.1.map kV))/\RelV p.2 q.2.2) kvs c/\
  ∃o e k,h.get? a=some o/\o.ExactDict/\o.data=.dict e k/\e.toList=c.map (entryOfKey (tupleKind (eX P w)))/\(c.map (·.1)).Nodup
 | .set S n=>h.SetOf (intKind P w) a S n
 | .ins C dx fs=>H dx=some (.own a)/\fs.length<=1000/\dx≠a/\h.get? a=some (PySem.W.instObj C dx)/\
  ∃d,h.Ns1 dx d/\(∀f,acB (fs.lookup f) (d f))/\PySem.Within d (fs.map (·.1))
 | .own _=>∃o,h.get? a=some o
 | .xd fs=>∃d,h.Ns1 a d/\∀f,acB (fs.lookup f) (d f)
 | .rng lo hi=>∃t u v,h.get? a=some %[|97]
 | .frz o u=>h.get? a=some o/\aU H h a u
 | .tbl ps=>h.get? a=some {cls:=.none,data:=.fields ps}
 | .met f x=>h.get? a=some (PySem.W.methodObj (.ref f) (.ref x))
 | .ext φ=>φ h/\(∃o,h.get? a=some o)/\∀g i:Heap,φ g->(∀o,g.get? a=some o->i.get? a=some o)->φ i
def HOk(H:Hp)(h:Heap):Prop:=∀a o,H a=some o->aU P w H h a o
end
section
variable{P:Program}{w:World}{H H':Hp}{h h':Heap}{a:Addr}{o:HO}
def aU.lt(x:aU P w H h a o):a<h.objs.size:=by
 cases o with
 | lst d=>obtain⟨_,_,_,_,e⟩:=x;exact ca e
 | tup d=>obtain⟨_,_,_,p⟩:=x;exact p.lt
 | dK b=>obtain⟨_,_,_,_,o,_,_,e,_⟩:=x;exact ca e
 | dT b=>obtain⟨_,_,_,_,o,_,_,e,_⟩:=x;exact ca e
 | set S n=>obtain⟨o,_,_,_,e,_⟩:=x;exact ca e
 | ins C g c=>obtain⟨_,_,_,e,_⟩:=x;exact ca e
 | own y=>obtain⟨_,e⟩:=x;exact ca e
 | xd c=>obtain⟨_,⟨_,_,_,e,_⟩,_⟩:=x;exact ca e
 | rng j i=>obtain⟨_,_,_,e⟩:=x;exact ca e
 | frz k u=>obtain⟨e,_⟩:=x;exact ca e
 | tbl l=>exact ca (show h.get? a=some _ from x)
 | met f y=>exact ca (show h.get? a=some _ from x)
 | ext m=>obtain⟨_,⟨_,e⟩,_⟩:=x;exact ca e
def aeW:∀{c:List d}{l₂:List e},Paired F c l₂->(∀a b,F a b->G a b)->Paired G c l₂:=by
 intro _ _ h f
 induction h with
 | nil=>exact .nil
 | cons r t g=>exact .cons (f _ _ r) g
def aU.stay(x:aU P w H h a o)(k:∀b u,(b=a\/H b=some (.own a))->h.get? b=some u->h'.get? b=some u)
 (G:∀b,H b=some (.own a)->H' b=some (.own a))(I:∀b xs,H b=some (.tup xs)->H' b=some (.tup xs)):aU P w H' h' a o:=by
 induction o with
 | lst xs=>obtain⟨z,l,n,r,e⟩:=x;exact%[z,l,n,r|k _ _ (.inl rfl) e]
 | tup xs=>obtain⟨z,l,r,g,e,c⟩:=x;exact%[z,l,r,g,k _ _ (.inl rfl) e|c]
 | dK m=>obtain⟨z,y,L,r,g,j,i,e,c⟩:=x;exact%[z,y,L,r,g,j,i,k _ _ (.inl rfl) e|c]
 | dT m=>obtain⟨z,y,xs,r,g,j,i,e,c⟩:=x;exact%[z,y,xs,aeW r λ p q z=>%[z.1,I _ _ z.2.1|z.2.2],g,j,i,k _ _ (.inl rfl) e|c]
 | set S n=>obtain⟨g,j,i,t,e,c⟩:=x;exact%[g,j,i,t,k _ _ (.inl rfl) e|c]
 | ins C M F=>obtain⟨d,z,K,e,s,⟨A,j,i,E,c⟩,r⟩:=x;exact%[G _ d,z,K,k _ _ (.inl rfl) e,s,%[A,j,i,k _ _ (.inr d) E|c]|r]
 | own y=>obtain⟨g,e⟩:=x;exact%[g|k _ _ (.inl rfl) e]
 | xd F=>obtain⟨s,⟨A,j,i,e,c⟩,r⟩:=x;exact%[s,%[A,j,i,k _ _ (.inl rfl) e|c]|r]
 | rng O N=>obtain⟨t,u,v,e⟩:=x;exact%[t,u,v|k _ _ (.inl rfl) e]
 | frz g u J=>obtain⟨e,q⟩:=x;exact%[k _ _ (.inl rfl) e|J q]
 | tbl B=>have e:h.get? a=some {cls:=.none,data:=.fields B}:=x;show h'.get? a=some {cls:=.none,data:=.fields B};exact k a _ (.inl rfl) e
 | met f y=>have e:h.get? a=some (PySem.W.methodObj (.ref f) (.ref y)):=x;show h'.get? a=some (PySem.W.methodObj (.ref f) (.ref y));exact k a _ (.inl rfl) e
 | ext Q=>obtain⟨p,⟨o,e⟩,D⟩:=x;exact%[D _ _ p λ o q=>k _ _ (.inl rfl) q,%[o|k _ _ (.inl rfl) e]|D]
def HOk.lt(x:HOk P w H h)(e:H a=some o):a<h.objs.size:=(x a o e).lt
def HOk.fresh(x:HOk P w H h)(e:h.objs.size<=a):H a=none:=by
 cases q:H a with
 | none=>rfl
 | some u=>exact absurd (v3 (x.lt q) e) (ic _)
def HOk.kept(x:HOk P w H h)(k:∀b u,h.get? b=some u->h'.get? b=some u):HOk P w H h':=λ a o e=>
 (x a o e).stay (λ b u _ q=>k b u q) (λ _ q=>q) λ _ _ q=>q
def HOk.laid(x:HOk P w H h)(k:∀b u,h.get? b=some u->h'.get? b=some u)(i:h.objs.size<=a)(d:aU P w (upd H a o) h' a o):HOk P w (upd H a o) h':=λ b u e=>by have g:=x.fresh i;by_cases f:b=a;{subst f;rw[aR]at e;cases e;exact d};{rw[aA f]at e;exact(x b u e).stay (λ c v _ q=>k c v q) (λ c q=>by rw[aA (aP q g)];exact q) λ c j q=>by rw[aA (aP q g)];exact q}
end
def Rd(H:Hp)(a:Addr)(u:HO):Prop:=H a=some u\/∃o,H a=some (.frz o u)
def Rd.ok(r:Rd H a u)(x:HOk P w H h):aU P w H h a u:=by rcases r with r | ⟨o,r⟩;{exact x a u r};{obtain⟨_,q⟩:=x a _ r;exact q}
def Mut:Option HO->Prop
 | some (.lst _)=>True
 | some (.dK _)=>True
 | some (.dT _)=>True
 | some (.set _ _)=>True
 | some (.ins _ _ _)=>True
 | some (.ext _)=>True
 | _=>False
section
variable{P:Program}{w:World}{H:Hp}{h h':Heap}{x e:Addr}{o':HO}
def HOk.write(ok:HOk P w H h)(j:Mut (H x))(o:e=x\/H e=some (.own x))(k:∀b u,b≠e->h.get? b=some u->h'.get? b=some u)(m:∃u,h'.get? e=some u)
 (n:aU P w (upd H x o') h' x o'):HOk P w (upd H x o') h':=λ b u q=>by
 have d:∀c y,H c=some (.own y)->c≠x:=λ c y r z=>by subst z;rw[r]at j;exact j
 have f:∀c l,H c=some (.tup l)->c≠x:=λ c l r z=>by subst z;rw[r]at j;exact j
 by_cases g:b=x;{subst g;rw[aR]at q;cases q;exact n}
 . rw [aA g]at q;by_cases a:b=e
   . have p:H b=some (.own x):=by rcases o with z | z;{exact absurd (a.trans z) g};{rw[a];exact z}
     rw[q]at p;cases p;obtain⟨v,s⟩:=m;exact%[v|by rw[a];exact s]
   . refine(ok b u q).stay (λ c v i r=>k c v ?_ r) (λ c r=>by rw[aA (d c b r)];exact r) λ c l r=>by rw[aA (f c l r)];exact r
     rcases i with rfl | i;{exact a};{rintro rfl;rcases o with z | z;{exact d c b i z};{rw[i]at z;cases z;exact g rfl}}
end
structure Un(fs ex:ah2)(H H':Hp)(h h':Heap):Prop where
 keep:∀b o,%[|43]->H b=none->b∉fs->b∉ex->h'.get? b=some o
 slot:∀b o,%[|43]->H b=none->b∈fs->b∉ex->∃sl,h'.get? b=some {o with slots:=sl}
 free:∀b o,%[|43]->H b=none->b∉ex->H' b=none
 there:∀b o,%[|43]->b∉ex->∃o',h'.get? b=some o'
 tups:∀b xs,H b=some (.tup xs)->H' b=some (.tup xs)
 frzs:∀b o u,H b=some (.frz o u)->H' b=some (.frz o u)
 tbls:∀b ps,H b=some (.tbl ps)->∃more,H' b=some (.tbl (ps++more))
section
variable{fs fs' ex ex':List Addr}{H H1 H2:Hp}{h h1 h2 h':Heap}{a x e:Addr}{o:HO}
def Un.any(u:Un fs ex H H1 h h1){a}(q:h.get? b=some a)(n:H b=none)(d:b∉ex):∃sl,h1.get? b=some {a with slots:=sl}:=by by_cases c:b∈fs;{exact u.slot b a q n c d};{exact%[a.slots|u.keep b a q n c d]}
def Un.kept(k:∀b u,h.get? b=some u->h'.get? b=some u):Un fs ex H H h h':=
 %[λ b a q _ _ _=>k b a q,λ b a q _ _ _=>%[a.slots|k b a q],λ _ _ _ n _=>n,λ b a q _=>%[a|k b a q],λ _ _ q=>q,λ _ _ _ q=>q|λ _ c q=>%[#[]|by rw[q];simp]]
def Un.refl:Un fs ex H H h h:=Un.kept λ _ _ q=>q
theorem Un.laid(k:∀b u,h.get? b=some u->h'.get? b=some u)(d:h.objs.size<=a)(c:H a=none):Un fs ex H (upd H a o) h h' where
 keep:=λ b u q _ _ _=>k b u q
 slot:=λ b u q _ _ _=>%[u.slots|k b u q]
 free:=λ b u q n _=>by rw[aA (cr (v3 (ca q) d))];exact n
 there:=λ b u q _=>%[u|k b u q]
 tups:=λ b e q=>by rw[aA (aP q c)];exact q
 frzs:=λ b u e q=>by rw[aA (aP q c)];exact q
 tbls:=λ b f q=>%[#[]|by rw[aA (aP q c),q];simp]
def Un.write(c:Mut (H x))(j:e=x\/H e=some (.own x))(k:∀b u,b≠e->h.get? b=some u->h'.get? b=some u)(d:∃u,h'.get? e=some u):Un fs ex H (upd H x o) h h':=by
 have i:∀b,H b=none->b≠x:=λ b n z=>by subst z;rw[n]at c;exact c
 have g:∀b,H b=none->b≠e:=λ b n z=>by subst z;rcases j with r | r;{exact i b n r};{rw[n]at r;cases r}
 have f:∀b u,H b=some u->¬Mut (some u)->b≠x:=λ b u q l z=>by subst z;rw[q]at c;exact l c
 refine%[λ b u q n _ _=>k b u (g b n) q,λ b u q n _ _=>%[u.slots|k b u (g b n) q],λ b u q n _=>by rw[aA (i b n)];exact n,λ b u q _=>?_,
  λ b m q=>by rw[aA (f b _ q λ z=>z)];exact q,λ b u m q=>by rw[aA (f b _ q λ z=>z)];exact q|λ b p q=>%[#[]|by rw[aA (f b _ q λ z=>z),q];simp]];by_cases a:b=e;{subst a;exact d};{exact%[u|k b u a q]}
end
def trk(h:Heap)(H:Hp):List Addr:=(List.range h.objs.size).filter λ a=>(H a).isSome
def pJ(h:Heap)(H:Hp):Heap:=PySem.W.hideAll h (trk h H)
def Ue(h:Heap)(H:Hp):(pJ h H).objs.size=h.objs.size:=PySem.W.hideAll_size _ _
def Xu(e:%[|43])(n:H b=none):(pJ h H).get? b=some o:=
 PySem.W.hideAll_get _ e λ a=>by have q:(H b).isSome=true:=(hZ.mp a).2;rw[n]at q;simp at q
def ZZ(e:(pJ h H).get? b=some o):%[|43]/\H b=none:=by
 have a:%[|43]:=PySem.W.of_hideAll (trk h H) e;refine%[a|?_]
 cases q:H b with
 | none=>rfl
 | some x=>have c:b∈trk h H:=hZ.mpr %[dA.mpr (ca a)|by simp[q]];have z:(pJ h H).get? b=none:=PySem.W.hideAll_none (trk h H) c;rw[z]at e;cases e
end L2
namespace L2
open PySem PySem.Spec PyProof.Rows
variable{t':Nat}
structure Mod(K:af0)(mg:af8)(base:Heap):Prop where
 kin:K.In base
 glob:base.Ns mainGlobals mg
 blt:∃mb,base.Ns builtinsNs mb/\∀x:Str,x≠"__name__"->mb x=bootBuiltins x
 nolimit:base.NoLimit
set_option genInjectivity false in
structure Cx where
 prog:Program
 w:World
 K:PySem.W.Frag
 mg:Str->Option Value
 base:Heap
 A:Around
 N:List Str
 s₀:Shared
 H₀:Hp
 env:Env
 outer:List Env
 stack:List Env
 ex:List Addr
 fn:Str->Bool
 calm:Bool
 pn:List (Addr×Obj)
 xe:Value->Shared->Prop
def frs(l:List Env):List Addr:=l.filterMap (·.frame)
abbrev Cx.fs(X:Cx):List Addr:=frs X.outer
def Vis(sc:Scope)(x:Str):Prop:=%[|70]=some .local\/%[|70]=%[|12]\/%[|70]=some .free
def Loc(sc:Scope)(x:Str):Prop:=%[|70]=some .local\/%[|70]=%[|12]
def Look(env:Env)(h:Heap)(m:af8)(x:Str)(u:Value):Prop:=
 (env.kindOf x=some .local/\m x=some u)\/((env.kindOf x=%[|12]\/env.kindOf x=some .free)/\∃c,env.cells.lookup x=some c/\h.IsCell c (some u))
structure Cx.Ok(X:Cx):Prop where
 mod:Mod X.K X.mg X.base
 kind:X.env.scope.kind=.function
 glob:X.env.globals=mainGlobals
 blt:X.env.builtins=builtinsNs
 above:X.s₀.heap.objs.size<=X.env.locals
 inj:∀x y c,%[|45]->X.env.cells.lookup y=some c->x=y
 has:∀x,(X.env.kindOf x=%[|12]\/X.env.kindOf x=some .free)->∃c,%[|45]
 cab:∀x c,X.fn x=true->%[|45]->X.s₀.heap.objs.size<=c
 hd:%[|32]->X.A.handled=none
 frames:X.A.frames=some X.stack
 stk:X.stack=X.outer\/(X.stack=X.env::X.outer/\X.env.frame=some X.env.locals)
 exf:∀b∈X.ex,b≠X.env.locals/\∀x c,%[|45]->c≠b
 bs:∀b o,X.base.get? b=some o->X.s₀.heap.get? b=some o/\X.H₀ b=none
 bsz:X.base.objs.size<=X.s₀.heap.objs.size
 noex:∀b o,X.base.get? b=some o->b∉X.ex
 exfs:∀b∈X.ex,b∉X.fs
 funs:X.s₀.heap.FunFrames X.base X.outer
 frf:∀b∈X.fs,X.H₀ b=none
structure Inv(X:Cx)(pins:af6)(σ:List (Option V))(H:Hp)(s:af3):Prop where
 ok:X.Ok
 os:s.os=X.s₀.os
 bare:AllBare s.gens
 base:Un X.fs X.ex X.H₀ H X.s₀.heap s.heap
 loc:∃m,s.heap.Ns X.env.locals m/\∀(i:Nat)(x:Str)(v:V),X.N[i]? =some x->σ[i]? =some (some v)->Vis X.env.scope x->∃u,RelV v u/\Look X.env s.heap m x u
 cell:∀x c,%[|45]->∃v,s.heap.IsCell c v
 free:H X.env.locals=none
 freeC:∀x c,%[|45]->H c=none
 pin:∀p∈X.pn++pins,s.heap.get? p.1=some p.2/\H p.1=none/\p.1≠X.env.locals/\p.1∉X.fs/\∀v,p.2.data≠.cell v
 hok:HOk X.prog X.w H s.heap
 len:σ.length=X.N.length
section
variable{X:Cx}{pins:List (Addr × Obj)}{σ:List (Option V)}{H H':Hp}{s:Shared}{h':Heap}
def Cx.Ok.nofr(ok:X.Ok)(e:X.base.get? b=some o):b∉X.fs:=λ a=>by have:=(ok.funs.mem a).1;rw[e]at this;cases this
def Inv.bs(I:%[|3]):∀b o,X.base.get? b=some o->%[|39]/\H b=none:=λ b o e=>
 %[I.base.keep b o (I.ok.bs b o e).1 (I.ok.bs b o e).2 (I.ok.nofr e) (I.ok.noex b o e)|I.base.free b o (I.ok.bs b o e).1 (I.ok.bs b o e).2 (I.ok.noex b o e)]
def Inv.bk(I:%[|3]):∀b o,X.base.get? b=some o->%[|39]:=λ b o e=>(I.bs b o e).1
def Inv.mod(I:%[|3]):Mod X.K X.mg X.base:=I.ok.mod
def Inv.kIn(I:%[|3]):X.K.In s.heap:=I.ok.mod.kin.keeps I.bk
def Inv.lt(I:%[|3]):X.env.locals<s.heap.objs.size:=let ⟨_,hn,_⟩:=I.loc;hn.lt
def Inv.sz(I:%[|3]):X.s₀.heap.objs.size<=s.heap.objs.size:=d6 I.ok.above (eR I.lt)
def Inv.nofs(I:%[|3]){a:Addr}(h:s.heap.objs.size<=a):a∉X.fs:=λ b=>by obtain⟨_,o,c,_⟩:=I.ok.funs.mem b;exact absurd (v3 (ca c) (d6 I.sz h)) (ic _)
def Inv.cne(I:%[|3]):∀x c,%[|45]->c≠X.env.locals:=λ x c e z=>by obtain⟨v,o,f,d⟩:=I.cell x c e;obtain⟨m,⟨i,h,g,b,a,_⟩,_⟩:=I.loc;rw[z,b]at f;cases f;rw[a]at d;cases d
def Inv.funs(I:%[|3]):s.heap.FunFrames X.base X.outer:=by
 have a:∀(l:List Env),(∀b∈frs l,b∈X.fs)->X.s₀.heap.FunFrames X.base l->s.heap.FunFrames X.base l:=by
  intro l
  induction l with
  | nil=>intro _ _;trivial
  | cons h r q=>intro g k;obtain⟨j,⟨L,o,f,m,n,i⟩,p⟩:=k;have c:L∈X.fs:=g L (by unfold frs;rw[gL,f];exact x6);obtain⟨t,e⟩:=I.base.slot L o n (I.ok.frf L c) c λ z=>I.ok.exfs L z c;exact%[j,%[L,_,f,m,e|i]|q (λ b d=>g b (by unfold frs;rw[gL,f];exact x4 _ d)) p]
 exact a X.outer (λ _ d=>d) I.ok.funs
def Inv.stack(I:%[|3]):s.heap.FunFrames X.base X.stack:=by rcases I.ok.stk with e | ⟨e,a⟩;{rw[e];exact I.funs};{rw[e];obtain⟨m,b,_⟩:=I.loc;refine .cons (by rw[I.ok.kind];decide) a b ?_ I.funs;exact Heap.get?_none_of_le (d6 I.ok.bsz I.ok.above)}
def Inv.stkSub(I:%[|3]):∀b∈frs X.stack,b∈X.env.locals::X.fs:=λ b a=>by rcases I.ok.stk with e | ⟨e,c⟩;{rw[e]at a;exact x4 _ a};{rw[e]at a;unfold frs at a;rw[gL,c]at a;exact a}
def Inv.stkFree(I:%[|3]):∀b∈frs X.stack,H b=none:=λ b a=>by rcases cK.mp (I.stkSub b a)with e | a;{rw[e];exact I.free};{obtain⟨_,o,c,_⟩:=I.ok.funs.mem a;exact I.base.free b o c (I.ok.frf b a) λ z=>I.ok.exfs b z a}
def Inv.step{ch:ah2}(I:%[|3])
 (g:∀b∈ch,(b∈X.ex\/X.s₀.heap.objs.size<=b)/\b≠X.env.locals/\(∀x c,%[|45]->c≠b)/\∀p∈X.pn++pins,p.1≠b)
 (keep:∀b o,b≠X.env.locals->b∉X.fs->b∉ch->%[|39]->H b=none->h'.get? b=some o)
 (slot:∀b o,b≠X.env.locals->b∈X.fs->b∉ch->%[|39]->H b=none->∃sl,h'.get? b=some {o with slots:=sl})(free:∀b o,b∉ch->%[|39]->H b=none->H' b=none)
 (there:∀b o,b∉ch->%[|39]->∃o',h'.get? b=some o')
 (tups:∀b xs,H b=some (.tup xs)->H' b=some (.tup xs))(frzs:∀b o u,H b=some (.frz o u)->H' b=some (.frz o u))(tbls:∀b ps,H b=some (.tbl ps)->∃more,H' b=some (.tbl (ps++more)))
 (ns:∀m,s.heap.Ns X.env.locals m->h'.Ns X.env.locals m)(D:HOk X.prog X.w H' h')(M:AllBare g'):
 Inv X pins σ H' {s with heap:=h',gens:=g',drawn:=d',toks:=t'}:=by
 have B:∀b o,X.s₀.heap.get? b=some o->b≠X.env.locals:=λ b o e=>cr (v3 (ca e) I.ok.above);have t:∀b o,X.s₀.heap.get? b=some o->b∉X.ex->b∉ch:=λ b o e a w=>by rcases(g b w).1 with z | z;{exact a z};{exact absurd (v3 (ca e) z) (ic _)}
 have f:∀x c,%[|45]->∀v,s.heap.IsCell c v->h'.IsCell c v:=λ x c e v ⟨o,y,C⟩=>by have h:c∉ch:=λ z=>(g c z).2.2.1 x c e rfl;by_cases F:c∈X.fs;{obtain⟨sl,q⟩:=slot c o (I.cne x c e) F h y (I.freeC x c e);exact%[_,q|C]};{exact%[o,keep c o (I.cne x c e) F h y (I.freeC x c e)|C]}
 refine%[I.ok,I.os,M,%[λ b o e n w a=>?_,λ b o e n w a=>?_,λ b o e n a=>?_,λ b o e a=>?_,λ b xs e=>tups b xs (I.base.tups b xs e),λ b o xs e=>frzs b o xs (I.base.frzs b o xs e)|λ b ps e=>?_],?_,λ x c e=>?_,?_,λ x c e=>?_,λ p G=>?_,D|I.len];{exact keep b o (B b o e) w (t b o e a) (I.base.keep b o e n w a) (I.base.free b o e n a)};{obtain⟨sl,j⟩:=I.base.slot b o e n w a;obtain⟨E,A⟩:=slot b _ (B b o e) w (t b o e a) j (I.base.free b o e n a);exact%[E|A]};{obtain⟨o',j⟩:=I.base.there b o e a;exact free b o' (t b o e a) j (I.base.free b o e n a)};{obtain⟨o',j⟩:=I.base.there b o e a;exact there b o' (t b o e a) j};{obtain⟨P,j⟩:=I.base.tbls b ps e;obtain⟨Q,A⟩:=tbls b _ j;exact%[P++Q|by rw[A,Array.append_assoc]]};{obtain⟨m,O,N⟩:=I.loc;refine%[m,ns m O|λ i x v j A L=>?_];obtain⟨u,r,l⟩:=N i x v j A L;refine%[u,r|?_];rcases l with l | ⟨k,c,e,z⟩;{exact .inl l};{exact .inr %[k,c,e|f x c e _ z]}};{obtain⟨v,z⟩:=I.cell x c e;exact%[v|f x c e v z]};{obtain⟨m,⟨o,_,_,y,_⟩,_⟩:=I.loc;exact free _ o (λ z=>(g _ z).2.1 rfl) y I.free};{obtain⟨v,o,y,C⟩:=I.cell x c e;exact free c o (λ z=>(g c z).2.2.1 x c e rfl) y (I.freeC x c e)};{obtain⟨e,n,J,K,d⟩:=I.pin p G;have h:p.1∉ch:=λ z=>(g p.1 z).2.2.2 p G rfl;exact%[keep p.1 p.2 J K h e n,free p.1 p.2 h e n,J,K|d]}
def Inv.un(I:%[|3])(u:Un X.fs [] H H' s.heap h')(g:HOk X.prog X.w H' h'):Inv X pins σ H' {s with heap:=h',toks:=t'}:=by obtain⟨m,⟨o,p,l,h,r⟩,_⟩:=id I.loc;obtain⟨v,i⟩:=u.any h I.free (by simp);exact I.step (g':=s.gens) (d':=s.drawn) (ch:=[]) (λ _ z=>nomatch z) (λ b o _ f _ e n=>u.keep b o e n f (by simp)) (λ b o _ f _ e n=>u.slot b o e n f (by simp)) (λ b o _ e n=>u.free b o e n (by simp)) (λ b o _ e=>u.there b o e (by simp)) u.tups u.frzs u.tbls (λ q j=>by obtain⟨t,d,c,a,k⟩:=j;rw[h]at a;cases a;exact%[_,d,c,i|k]) g I.bare
def Inv.call(I:%[|3])(u:Un (frs X.stack) ch H H' s.heap h')(j:HOk X.prog X.w H' h')(q:AllBare g')
 (d:∀b∈ch,(b∈X.ex\/X.s₀.heap.objs.size<=b)/\b≠X.env.locals/\(∀x c,%[|45]->c≠b)/\∀p∈X.pn++pins,p.1≠b):
 Inv X pins σ H' {s with heap:=h',gens:=g',drawn:=d',toks:=t'}:=by obtain⟨m,⟨o,y,w,k,r⟩,_⟩:=id I.loc;obtain⟨C,i⟩:=u.any k I.free λ z=>(d _ z).2.1 rfl;exact I.step (ch:=ch) d (λ b o i l a e n=>u.keep b o e n (λ z=>(cK.mp (I.stkSub b z)).elim i l) a) (λ b o _ _ a e n=>u.any e n a) (λ b o a e n=>u.free b o e n a) (λ b o a e=>u.there b o e a) u.tups u.frzs u.tbls (λ A t=>by obtain⟨B,h,g,f,v⟩:=t;rw[k]at f;cases f;exact%[_,h,g,i|v]) j q
def Inv.turned(I:%[|3])(k:∀b o,b≠a->%[|38])(w:H a=none)(g:a≠X.env.locals)
 (h1:a∈X.ex\/X.s₀.heap.objs.size<=a)(h2:∀x c,%[|45]->c≠a)(j:∀p∈X.pn++pins,p.1≠a):Inv X pins σ H {s with heap:=h',toks:=t'}:=by
 have f:∀b u,H b=some u->b≠a:=λ b u e z=>by rw[z,w]at e;cases e
 refine I.step (g':=s.gens) (d':=s.drawn) (ch:=[a]) (λ b l=>?_) (λ b o _ _ d e _=>k b o (λ z=>d (by simp[z])) e) (λ b o _ _ d e _=>%[o.slots|k b o (λ z=>d (by simp[z])) e]) (λ _ _ _ _ n=>n)
  (λ b o d e=>%[o|k b o (λ z=>d (by simp[z])) e]) (λ _ _ e=>e) (λ _ _ _ e=>e) (λ b A e=>%[#[]|by rw[e];simp]) (λ m t=>?_) (λ b u e=>?_) I.bare
 . have e:b=a:=by simpa using l
   subst e;exact%[h1,g,h2|j]
 {obtain⟨o,i,h,y,r⟩:=t;exact%[o,i,h,k _ o (i5 g) y|r]};{refine(I.hok b u e).stay (λ c v d q=>k c v ?_ q) (λ _ q=>q) λ _ _ q=>q;rcases d with z | z;{rw[z];exact f b u e};{exact f c _ z}}
def Inv.tok(I:%[|3])(t:Nat):Inv X pins σ H {s with toks:=t}:=I.un (h':=s.heap) (t':=t) Un.refl I.hok
def Inv.kept(I:%[|3])(k:∀b u,s.heap.get? b=some u->h'.get? b=some u):Inv X pins σ H {s with heap:=h',toks:=t'}:=I.un (Un.kept k) (I.hok.kept k)
def Inv.laid{a:Addr}(I:%[|3])(k:∀b u,s.heap.get? b=some u->h'.get? b=some u)(c:s.heap.objs.size<=a)(d:aU X.prog X.w (upd H a o) h' a o):
 Inv X pins σ (upd H a o) {s with heap:=h',toks:=t'}:=I.un (Un.laid k c (I.hok.fresh c)) (I.hok.laid k c d)
def Inv.write(I:%[|3])(f:Mut (H x))(d:e=x\/H e=some (.own x))(k:∀b u,b≠e->s.heap.get? b=some u->h'.get? b=some u)(a:∃u,h'.get? e=some u)
 (c:aU X.prog X.w (upd H x o) h' x o):Inv X pins σ (upd H x o) {s with heap:=h',toks:=t'}:=I.un (Un.write f d k a) (I.hok.write f d k a c)
def Inv.pins_of(I:%[|3])(h:∀p∈a,s.heap.get? p.1=some p.2/\H p.1=none/\p.1≠X.env.locals/\p.1∉X.fs/\∀v,p.2.data≠.cell v):Inv X a σ H s:=
 %[I.ok,I.os,I.bare,I.base,I.loc,I.cell,I.free,I.freeC,λ p b=>(cn.mp b).elim (λ z=>I.pin p (ij _ z)) (h p),I.hok|I.len]
def Ja{N:af7}(e:N.Nodup){i j:Nat}(a:N[i]? =some x)(b:N[j]? =some x):i=j:=by obtain⟨f,c⟩:=z0.mp a;obtain⟨g,d⟩:=z0.mp b;exact(List.getElem_inj e).mp (c.trans d.symm)
def Dq(I:%[|3])(hN:X.N.Nodup)(hi:X.N[i]? =some x)(t:Loc X.env.scope x)(r:RelV v u)
 (h:∀s',Inv X pins (σ.set i (some v)) H s'->(∃a,Heap.SameBut a s.heap s'.heap/\(a=X.env.locals\/X.env.cells.lookup x=some a))->Q () s')(hf:%[|88]:=by first | exact .inl rfl | exact .inr rfl | assumption):wpAny M A (storeName X.env x u) Q E s:=by
 obtain⟨m,Z,hl⟩:=id I.loc;have P:(X.env.scope.kind==.class||(X.env.scope.kind==.module&&X.env.locals !=X.env.globals))=false:=by rw[I.ok.kind];rfl
 have C:i<σ.length:=by rw[I.len];exact(z0.mp hi).1
 have F:=I.cne;have g:∀{a:Addr}{L:Heap},(∃o,s.heap.get? a=some o/\H a=none)->Heap.SameBut a s.heap L->HOk X.prog X.w H L:=λ{a L} ha hs b ob e=>by obtain⟨_,_,w⟩:=ha;refine(I.hok b ob e).stay (λ c W l q=>(hs.2 c ?_).trans q) (λ _ q=>q) λ _ _ q=>q;rintro rfl;rcases l with rfl | l;{rw[w]at e;cases e};{rw[w]at l;cases l}
 rcases t with D | D;{refine wpAny_storeName_local D Z (λ L aa hs=>?_) P;obtain⟨oL,_,_,ab,_⟩:=id Z;refine h _ %[I.ok,I.os,I.bare,%[λ b o e n G t=>?_,λ b o e n G t=>?_,I.base.free,λ b o e t=>?_,I.base.tups,I.base.frzs|I.base.tbls],%[_,aa|λ j y v' f B Y=>?_],λ y c e=>?_,I.free,I.freeC,λ p hp=>?_,g %[oL,ab|I.free] hs|by simpa using I.len] %[_,hs|.inl rfl];{exact(hs.2 b (cr (v3 (ca e) I.ok.above))).trans (I.base.keep b o e n G t)};{obtain⟨sl,f⟩:=I.base.slot b o e n G t;exact%[sl|(hs.2 b (cr (v3 (ca e) I.ok.above))).trans f]};{obtain⟨o',f⟩:=I.base.there b o e t;exact%[o'|(hs.2 b (cr (v3 (ca e) I.ok.above))).trans f]};{by_cases K:j=i;{subst K;rw[hi]at f;cases f;rw[fR C]at B;cases B;exact%[u,r|.inl %[D|by simp]]};{rw[eJ (i5 K)]at B;obtain⟨u',r',q⟩:=hl j y v' f B Y;refine%[u',r'|?_];rcases q with⟨k,e⟩ | ⟨k,c,e,z⟩;{refine .inl %[k|?_];have:y≠x:=λ e=>K (Ja hN f (e▸hi));simp[this,e]};{exact .inr %[k,c,e|z.sameBut hs (F y c e)]}}};{obtain⟨W,z⟩:=I.cell y c e;exact%[W|z.sameBut hs (F y c e)]};{obtain⟨e,n,U,nf,d⟩:=I.pin p hp;exact%[(hs.2 p.1 U).trans e,n,U,nf|d]}}
 . have J:X.fn x=true:=by rcases hf with z | z;{exact z};{rw[z]at D;cases D}
   obtain⟨c,l⟩:=I.ok.has x (.inl D);obtain⟨W,z⟩:=I.cell x c l;refine wpAny_storeName_cell I.ok.kind D l z (λ L N hs=>?_);obtain⟨oc,R,S⟩:=id z;refine h {s with heap:=L} %[I.ok,I.os,I.bare,%[λ b o e n G t=>?_,λ b o e n G t=>?_,I.base.free,λ b o e t=>?_,I.base.tups,I.base.frzs|I.base.tbls],%[m,Z.sameBut hs (i5 (F x c l))|λ j y v' f B Y=>?_],λ y T e=>?_,I.free,I.freeC,λ p hp=>?_,g %[oc,R|I.freeC x c l] hs|by simpa using I.len] %[c,hs|.inr l];{exact(hs.2 b (cr (v3 (ca e) (I.ok.cab x c J l)))).trans (I.base.keep b o e n G t)};{obtain⟨sl,f⟩:=I.base.slot b o e n G t;exact%[sl|(hs.2 b (cr (v3 (ca e) (I.ok.cab x c J l)))).trans f]};{obtain⟨o',f⟩:=I.base.there b o e t;exact%[o'|(hs.2 b (cr (v3 (ca e) (I.ok.cab x c J l)))).trans f]};{by_cases K:j=i;{subst K;rw[hi]at f;cases f;rw[fR C]at B;cases B;exact%[u,r|.inr %[.inl D,c,l|N]]};{rw[eJ (i5 K)]at B;obtain⟨u',r',q⟩:=hl j y v' f B Y;refine%[u',r'|?_];rcases q with q | ⟨k,T,e,z'⟩;{exact .inl q};{refine .inr %[k,T,e|z'.sameBut hs ?_];rintro rfl;exact K (Ja hN f (I.ok.inj _ _ _ e l▸hi))}}};{by_cases O:T=c;{subst O;exact%[_|N]};{obtain⟨w2,z2⟩:=I.cell y T e;exact%[w2|z2.sameBut hs O]}};{obtain⟨e,n,U,nf,d⟩:=I.pin p hp;refine%[(hs.2 p.1 ?_).trans e,n,U,nf|d];intro q;rw[q,R]at e;have q':oc=p.2:=cq e;exact d W (by rw[<-q'];exact S)}
def wJ(I:%[|3])(b:X.N.Nodup)(hi:X.N[i]? =some x)(d:Loc X.env.scope x)(r:RelV v u)
 (h:∀s',Inv X pins (σ.set i (some v)) H s'->Q () s')(c:%[|88]:=by first | exact .inl rfl | exact .inr rfl | assumption):wpAny M A (storeName X.env x u) Q E s:=
 Dq I b hi d r (λ s' a _=>h s' a) c
def Inv.call'(I:%[|3])(g:s'.os=s.os)(u:Un (frs X.stack) ch H H' s.heap s'.heap)(d:HOk X.prog X.w H' s'.heap)(f:AllBare s'.gens)
 (a:∀b∈ch,(b∈X.ex\/X.s₀.heap.objs.size<=b)/\b≠X.env.locals/\(∀x c,%[|45]->c≠b)/\∀p∈X.pn++pins,p.1≠b):Inv X pins σ H' s':=by obtain⟨i,g',d',t',h⟩:=s';have e:h=s.os:=g;subst e;exact I.call (g':=g') (t':=t') (d':=d') u d f a
end
abbrev XK:=Value->Option Addr->Hp->Prop
abbrev St:=List (Option V)
abbrev VK:=V->Hp->Prop
abbrev TE:=St->Hp->VK->Prop
abbrev TT:=St->Hp->(Bool->Hp->Prop)->Prop
abbrev TA:=St->Hp->(List V->Hp->Prop)->Prop
structure Ends where
 nx:St->Hp->Prop
 rt:VK
 bk:St->Hp->Prop:=λ _ _=>False
 ct:St->Hp->Prop:=λ _ _=>False
abbrev TS:=Ends->St->Hp->Prop
inductive EP(X:Cx)(pins:af6)(σ:St)(Q:VK)(u:Value)(s':af3):Prop
 | mk(v:V)(H':Hp)(i:Inv X pins σ H' s')(r:RelV v u)(q:Q v H'):EP X pins σ Q u s'
inductive TP(X:Cx)(pins:af6)(σ:St)(Q:Bool->Hp->Prop)(b:Bool)(s':af3):Prop
 | mk(H':Hp)(i:Inv X pins σ H' s')(q:Q b H'):TP X pins σ Q b s'
inductive AP(X:Cx)(pins:af6)(σ:St)(Q:List V->Hp->Prop)(us:af5)(s':af3):Prop
 | mk(vs:List V)(H':Hp)(i:Inv X pins σ H' s')(r:Vals vs us)(q:Q vs H'):AP X pins σ Q us s'
inductive NP(X:Cx)(pins:af6)(Q:St->Hp->Prop)(s':af3):Prop
 | mk(σ':St)(H':Hp)(i:Inv X pins σ' H' s')(q:Q σ' H'):NP X pins Q s'
inductive RP(X:Cx)(pins:af6)(Q:VK)(u:Value)(s':af3):Prop
 | mk(v:V)(σ':St)(H':Hp)(i:Inv X pins σ' H' s')(r:RelV v u)(q:Q v H'):RP X pins Q u s'
def SP(X:Cx)(pins:af6)(D:Ends)(f:Flow)(s':af3):Prop:=
 match f with
 | .next=>NP X pins D.nx s'
 | .brk=>NP X pins D.bk s'
 | .cont=>NP X pins D.ct s'
 | .ret u=>RP X pins D.rt u s'
def PE(X:Cx)(e:Expr)(t:TE):Prop:=
 ∀(a:af6)(s:af3)(b:St)(H:Hp)(Q:VK),Inv X a b H s->t b H Q->wpAny %[|5] X.A (eval e X.env) (EP X a b Q) X.xe s
def PA(X:Cx)(es:ag0)(t:TA):Prop:=
 ∀(b:Pos)(a:af6)(s:af3)(c:St)(H:Hp)(Q:List V->Hp->Prop),Inv X a c H s->t c H Q->wpAny %[|5] X.A (spliced (backTo b (starEach es X.env))) (AP X a c Q) X.xe s
def PS(X:Cx)(st:Stmt)(t:TS):Prop:=
 ∀(a:af6)(s:af3)(b:St)(H:Hp)(D:Ends),Inv X a b H s->t D b H->wpAny %[|5] X.A (exec st X.env) (SP X a D) X.xe s
def PSs(X:Cx)(st:List Stmt)(t:TS):Prop:=
 ∀(a:af6)(s:af3)(b:St)(H:Hp)(D:Ends),Inv X a b H s->t D b H->wpAny %[|5] X.A (execs st X.env) (SP X a D) X.xe s
def thn{Q b:c->Shared->Prop}(h:wpAny M A t Q E s)(d:∀a s,Q a s->b a s):wpAny M A t b E s:=gS h d λ _ _ x=>x
end L2
namespace L2
open PySem PySem.Spec PyProof.Rows
variable{x:Str}{u:Value}
section
variable{X:Cx}
def aec(i:Nat):TE:=λ a H Q=>∃v,a[i]? =some (some v)/\Q v H
def tC(v:V):TE:=λ _ H Q=>Q v H
def ab9{k}(o:X.N[i]? =some x)(w:Vis X.env.scope x)(j:%[|67]:=by decide)(g:(x==("__classdict__":Str))=false:=by decide):PE X (.Name x k) (aec i):=by intro f s y H Q I h;obtain⟨v,e,h⟩:=h;obtain⟨m,t,p⟩:=I.loc;obtain⟨u,r,l⟩:=p i x v o e w;have b:EP X f y Q u s:=%[v,H,I,r|h];rcases l with⟨d,q⟩ | ⟨d,c,n,a⟩;{exact oj (om I.ok.kind d t q b) j};{rcases d with d | d;{exact oj (wpAny_loadName_cell I.ok.kind d n a b) j};{exact oj (wpAny_loadName_free I.ok.kind d n a b g) j}}
def aa4{i j a}:PE X (.Constant (.int i) j a) (tC (.int i)):=λ _ _ _ H _ I h=>wpAny_Constant_int %[.int i,H,I.tok _,%[_|rfl]|h]
def adI{b j a}:PE X (.Constant (.bool b) j a) (tC (.bl b)):=λ _ _ _ H _ I h=>Constant_bool %[.bl b,H,I,rfl|h]
def ab8{j a}:PE X (.Constant .none j a) (tC .non):=λ _ _ _ H _ I h=>Constant_none %[.non,H,I,rfl|h]
def acx{x j a}:PE X (.Constant (.str x) j a) (tC (.str x)):=λ _ _ _ H _ I h=>Calls.Constant_str %[.str x,H,I.tok _,%[_|rfl]|h]
def Gl(X:Cx)(x:Str):Prop:=X.env.kindOf x=some .globalImplicit
def Ox{σ:St}(I:%[|3])(c:Gl X x)(d:X.mg x=some u)(h:Q u s)
 (b:%[|67]:=by decide):wpAny %[|5] X.A (eval (.Name x a) X.env) Q E s:=
 Calls.Name_function_global I.ok.kind c (Calls.loadGlobal_global (by rw[I.ok.glob];exact I.mod.glob.keeps I.bk) d h) b
def cV{E}{σ:St}{a}(I:%[|3])(e:Gl X x)(f:X.mg x=none)(i:bootBuiltins x=some u)(h:Q u s)
 (g:x≠"__name__":=by decide)(d:%[|67]:=by decide):wpAny %[|5] X.A (eval (.Name x a) X.env) Q E s:=by obtain⟨j,b,c⟩:=I.mod.blt;exact Calls.Name_function_global I.ok.kind e (Calls.loadGlobal_builtin (by rw[I.ok.glob];exact I.mod.glob.keeps I.bk) f (by rw[I.ok.blt];exact b.keeps I.bk) ((c x g).trans i) h) d
def aak(c:Gl X x)(d:X.mg x=some u)(r:RelV v u)(b:%[|67]:=by decide):PE X (.Name x a) (tC v):=
 λ _ _ _ H _ I h=>Ox I c d %[v,H,I,r|h] b
def Y8{a}(c:Gl X x)(d:X.mg x=none)(f:bootBuiltins x=some u)(r:RelV v u)(e:x≠"__name__":=by decide)(b:%[|67]:=by decide):PE X (.Name x a) (tC v):=
 λ _ _ _ H _ I h=>cV I c d f %[v,H,I,r|h] e b
variable{a b:Expr}{ta tb:TE}{pos:Pos}
variable{tA tB':TT}{rest:List Expr}
end
end L2
namespace L2
open PySem PySem.Spec PyProof.Rows
variable{K:PySem.W.Frag}{tg:Expr}
def SqL(K:af0)(H:Hp)(a:Addr)(xs:List V):Prop:=
 Rd H a (.lst xs)\/
  ∃(o:Obj) (b:ag1) (n:Nat),K.lookup a=some o/\o.cls=%[|23]/\o.dict=none/\o.data=.seq b n/\b.size<=sizeLine/\Vals xs b.toList
def SqT(K:af0)(H:Hp)(a:Addr)(xs:List V):Prop:=
 Rd H a (.tup xs)\/
  ∃(o:Obj) (b:ag1) (n:Nat),K.lookup a=some o/\o.cls=%[|9]/\o.data=.seq b n/\b.size<=sizeLine/\Vals xs b.toList
def aea:Value->Option V
 | .none=>some .non
 | .bool b=>some (.bl b)
 | .int i _=>some (.int i)
 | .str x _=>some (.str x)
 | .bytes b _=>some (.byt b)
 | .float b _=>some (.flt b)
 | .ref a=>some (.ref a)
 | .type n=>some (.ty n)
 | _=>none
def RelV.abs(r:RelV x u):aea u=some x:=by
 cases x with
 | non=>cases r;rfl
 | bl _=>cases r;rfl
 | int _=>obtain⟨t,rfl⟩:=r;rfl
 | str _=>obtain⟨t,rfl⟩:=r;rfl
 | byt _=>obtain⟨t,rfl⟩:=r;rfl
 | flt _=>obtain⟨t,rfl⟩:=r;rfl
 | ref _=>cases r;rfl
 | ty _=>cases r;rfl
def RelV.inj(r:RelV x u)(q:RelV y u):x=y:=cq (r.abs.symm.trans q.abs)
def Vals.inj:∀{xs ys:List V}{a:af5},Vals xs a->Vals ys a->xs=ys:=by
 intro xs ys a h
 induction h generalizing ys with
 | nil=>intro q;cases q;rfl
 | cons r t b=>intro q;cases q with| cons c d=>rw[r.inj c,b d]
section
variable{X:Cx}{pins:List (Addr × Obj)}{σ:St}{H:Hp}{s:Shared}{a:Addr}{xs ys:List V}
def SqL.of(h:H a=some (.lst xs)):SqL K H a xs:=.inl (.inl h)
def Inv.list(I:%[|3])(h:SqL X.K H a xs):∃its:List Value,Vals xs its/\PlainL s.heap a its.toArray/\xs.length<=sizeLine:=by rcases h with h | ⟨o,its,n,d,b,c,f,g,r⟩;{obtain⟨z,its,n,r,e⟩:=h.ok I.hok;exact%[its,r,%[_,n,e,rfl,rfl|rfl]|z]};{refine%[its.toList,r,%[o,n,I.kIn a o d,b,c|by simpa using f]|?_];have e:=r.length;simp only[e7]at e;omega}
def Inv.tuple(I:%[|3])(h:SqT X.K H a xs):∃its:List Value,Vals xs its/\IsTup s.heap a its.toArray/\xs.length<=sizeLine:=by rcases h with h | ⟨o,its,n,c,b,d,f,r⟩;{obtain⟨z,its,r,p⟩:=h.ok I.hok;exact%[its,r,p|z]};{refine%[its.toList,r,%[o,I.kIn a o c,b,n|by simpa using d]|?_];have e:=r.length;simp only[e7]at e;omega}
def Inv.list_inj(I:%[|3])(h:SqL X.K H a xs)(h':SqL X.K H a ys):xs=ys:=by
 obtain⟨c,r,⟨o,n,e,_,_,d⟩,_⟩:=I.list h;obtain⟨b,i,⟨k,j,g,_,_,f⟩,_⟩:=I.list h';rw[e]at g;cases g;rw[d]at f;injection f with d1 _;have:c=b:=by simpa using congrArg Array.toList d1
 subst this;exact r.inj i
def Inv.tuple_inj(I:%[|3])(h:SqT X.K H a xs)(h':SqT X.K H a ys):xs=ys:=by
 obtain⟨c,r,⟨o,e,_,n,d⟩,_⟩:=I.tuple h;obtain⟨b,i,⟨k,g,_,j,f⟩,_⟩:=I.tuple h';rw[e]at g;cases g;rw[d]at f;injection f with d1 _;have:c=b:=by simpa using congrArg Array.toList d1
 subst this;exact r.inj i
end
abbrev Cx.wish(X:Cx)(E:af2):Cx:={X with xe:=E}
abbrev Cx.nox(X:Cx):Cx:=X.wish λ _ _=>False
def Cx.Ok.wish{X:Cx}(ok:X.Ok)(E:af2):(X.wish E).Ok:=
 %[ok.mod,ok.kind,ok.glob,ok.blt,ok.above,ok.inj,ok.has,ok.cab,ok.hd,ok.frames,ok.stk,ok.exf,ok.bs,ok.bsz,ok.noex,ok.exfs,ok.funs|ok.frf]
def Cx.Ok.unwish{X:Cx}(ok:(X.wish E).Ok):X.Ok:=
 %[ok.mod,ok.kind,ok.glob,ok.blt,ok.above,ok.inj,ok.has,ok.cab,ok.hd,ok.frames,ok.stk,ok.exf,ok.bs,ok.bsz,ok.noex,ok.exfs,ok.funs|ok.frf]
section
variable{X:Cx}{pins:List (Addr × Obj)}{σ:St}{H:Hp}{s:Shared}{E:%[|26]}
def Inv.wish(I:%[|3])(E:af2):Inv (X.wish E) pins σ H s:=%[I.ok.wish E,I.os,I.bare,I.base,I.loc,I.cell,I.free,I.freeC,I.pin,I.hok|I.len]
def Inv.unwish(I:Inv (X.wish E) pins σ H s):%[|3]:=%[I.ok.unwish,I.os,I.bare,I.base,I.loc,I.cell,I.free,I.freeC,I.pin,I.hok|I.len]
def SP.unwish(h:SP (X.wish E) pins D f s'):SP X pins D f s':=by
 cases f with
 | next=>obtain⟨a,b,I,q⟩:=h;exact%[a,b,I.unwish|q]
 | brk=>obtain⟨a,b,I,q⟩:=h;exact%[a,b,I.unwish|q]
 | cont=>obtain⟨a,b,I,q⟩:=h;exact%[a,b,I.unwish|q]
 | ret u=>obtain⟨v,a,b,I,r,q⟩:=h;exact%[v,a,b,I.unwish,r|q]
def PSs.nox{st}(h:PSs X.nox st t):PSs X st t:=λ a s c H D I b=>
 gS (h a s c H D (I.wish _) b) (λ _ _ q=>q.unwish) λ _ _ z=>False.elim z
end
section
variable{X:Cx}{st:Stmt}{rest:List Stmt}{t u:TS}{e:Expr}{te:TE}{pos:Pos}
def Inv.quiet{σ:St}(I:%[|3]):interactive X.env=false:=by simp[interactive,I.ok.kind]
end
abbrev TG:=V->St->Hp->(St->Hp->Prop)->Prop
def PG(X:Cx)(target:Expr)(t:TG):Prop:=
 ∀ (a:af6)(s:af3)(b:St)(H:Hp)(v:V)(u:Value)(Q:St->Hp->Prop),Inv X a b H s->RelV v u->t v b H Q->
   wpAny %[|5] X.A (assign target X.env u) (λ _ c=>NP X a Q c) X.xe s
abbrev adR:=V->V->V->Hp->(Hp->Prop)->Prop
def aed(X:Cx)(t:adR):Prop:=
 ∀ (a:af6)(s:af3)(e:St)(H:Hp)(o i v:V)(d c u:Value)(Q:Hp->Prop),Inv X a e H s->RelV o d->RelV i c->RelV v u->t o i v H Q->
   wpAny %[|5] X.A (setItem d c u) (λ _ f=>∃b,Inv X a e b f/\Q b) X.xe s
abbrev TIp:=V->V->Hp->VK->Prop
def PIp(X:Cx)(op:Operator)(t:TIp):Prop:=
 ∀ (a:af6)(s:af3)(b:St)(H:Hp)(x y:V)(v u:Value)(Q:VK),Inv X a b H s->RelV x v->RelV y u->t x y H Q->
   wpAny %[|5] X.A (inplaceOp op v u) (EP X a b Q) X.xe s
section
variable{X:Cx}{pos:Pos}
def ad2(i:Nat)(te:TE)(ti:TIp):TS:=λ D a H=>∃x,a[i]? =some (some x)/\te a H λ y b=>ti x y b λ z c=>D.nx (a.set i (some z)) c
def J0(E:X.N.Nodup)(hi:X.N[i]? =some x)(n:Loc X.env.scope x)(G:PE X e q)(N:PIp X op t)(J:%[|88]:=by first | exact .inl rfl | exact .inr rfl | assumption):
 PS X (.AugAssign (.Name x f) op e pos) (ad2 i q t):=by
 intro a s A H D I h;obtain⟨v,C,h⟩:=h;obtain⟨m,M,K⟩:=I.loc;have o:Vis X.env.scope x:=by rcases n with k | k;exact .inl k;exact .inr (.inl k)
 obtain⟨u,r,l⟩:=K i x v hi C o;refine wpAny_AugAssign_Name ?_;have p:wpAny %[|5] X.A (eval e X.env) (λ w g=>wpAny %[|5] X.A (inplaceOp op u w) (λ r j=>wpAny %[|5] X.A (storeName X.env x r) (λ _=>SP X a D .next) X.xe j) X.xe g) X.xe s:=by refine thn (G a s A H _ I h) λ w O ⟨y,H1,I1,r1,q1⟩=>?_;refine thn (N a O A H1 v y u w _ I1 r r1 q1) λ z P ⟨zv,H2,I2,r2,q2⟩=>?_;exact wJ I2 E hi n r2 (λ Q B=>%[_,H2,B|q2]) J
 rcases l with⟨b,L⟩ | ⟨b,c,F,d⟩;{exact om I.ok.kind b M L p};{rcases b with b | b;{exact wpAny_loadName_cell I.ok.kind b F d p};{rcases n with k | k;{have:X.env.scope.names.lookup x=some .free:=b;rw[k]at this;cases this};{have:X.env.scope.names.lookup x=some .free:=b;rw[k]at this;cases this}}}
end
structure It where
 go:Nat->Hp->Prop
 yld:Nat->Hp->V->Hp->Prop
 stop:Nat->Hp->Prop
def iT(X:Cx)(pins:af6)(H:Hp)(b:Addr):Prop:=
 H b=none/\b≠X.env.locals/\b∉X.fs/\(b∈X.ex\/X.s₀.heap.objs.size<=b)/\(∀x c,%[|45]->c≠b)/\∀p∈X.pn++pins,p.1≠b
def Inv.fpOk{σ:St}{b:Addr}(I:%[|3])(a:s.heap.objs.size<=b)(f:d b=none):iT X pins d b:=by refine%[f,ft (v3 I.lt a),I.nofs a,.inr (d6 I.sz a),λ x c e z=>?_|λ p g z=>?_];{obtain⟨v,q⟩:=I.cell x c e;exact absurd (v3 q.lt (by rw[z];exact a)) (ic _)};{exact absurd (v3 (ca (I.pin p g).1) (by rw[z];exact a)) (ic _)}
structure Turn(P:ag4)(w:World)(K:af0)(tg:Expr)(J:It)(fp:ah2)(it:Addr)(tn:Nat->Heap->Prop):Prop where
 mem:it∈fp
 obj:∀i h,tn i h->∀b∈fp,∃o,%[|43]/\∀v,o.data≠.cell v
 keep:∀i h h',tn i h->(∀b∈fp,∀o,%[|43]->h'.get? b=some o)->tn i h'
 item:∀(X:Cx),X.prog=P->X.w=w->X.K=K->%[|32]->∀(i:Nat)(pins:af6)(s:af3)(σ:St)(H:Hp)(E:af2),%[|3]->(∀b∈fp,iT X pins H b)->tn i s.heap->J.go i H->
  wpAny (model P w) X.A (pyNext (.ref it)) (λ r s1=>∃u,r=some u/\
   wpAny (model P w) X.A (letOwnedTupleGo tg (.ref it) u) (λ _ s2=>∃x H',Inv X pins σ H' s2/\RelV x u/\J.yld i H x H'/\tn (i+1) s2.heap/\∀b∈fp,H' b=none) E s1) E s
 done:∀(X:Cx),X.prog=P->X.w=w->X.K=K->%[|32]->∀(i:Nat)(pins:af6)(s:af3)(σ:St)(H:Hp)(E:af2),%[|3]->(∀b∈fp,iT X pins H b)->tn i s.heap->J.stop i H->
  wpAny (model P w) X.A (pyNext (.ref it)) (λ r s1=>r=none/\Inv X pins σ H s1) E s
 self:∀(A:ah0)(i:Nat)(s:af3)(Q:af2)(E:af2),tn i s.heap->Q (.ref it) s->wpAny (model P w) A (pyIter (.ref it)) Q E s
abbrev TI:=St->Hp->(It->Hp->Prop)->Prop
def PIE(X:Cx)(pins:af6)(σ:St)(tg:Expr)(R:It->Hp->Prop)(itv:Value)(s2:af3):Prop:=
 ∃(d:Addr) (c:ah2) (e:Nat->Heap->Prop) (J:It) (a:Hp),itv=.ref d/\Inv X pins σ a s2/\Turn X.prog X.w X.K tg J c d e/\e 0 s2.heap/\(∀b∈c,iT X pins a b)/\R J a
def PI(X:Cx)(tg iter:Expr)(wi:TI):Prop:=
 ∀ (a:af6)(s:af3)(b:St)(H:Hp)(R:It->Hp->Prop),Inv X a b H s->wi b H R->
   wpAny %[|5] X.A (eval iter X.env) (λ v c=>wpAny %[|5] X.A (pyIter v) (PIE X a b tg R) X.xe c) X.xe s
def FW(g:%[|39])(d:o.cls=.type n)(e:o.data=.fields c)
 (f:["enumerate","zip","dict_itemiterator","dict_reverseitemiterator","odict_iterator","itertools.zip_longest","itertools.pairwise"].contains n=false)(a:Q () s):wpAny M A (letOwnedTupleGo tg (.ref b) u) Q E s:=by
 unfold letOwnedTupleGo;cases tg<;>first
  | exact b9 a
  | (cases u<;>first
   | exact b9 a
   | (refine b0 (wpAny_load g ?_);rw[d,e];show wpAny M A (if(["enumerate","zip","dict_itemiterator","dict_reverseitemiterator","odict_iterator","itertools.zip_longest","itertools.pairwise"].contains n&&c[0]? ==some (rawInt _))=true then _ else _) Q E s;rw[c8 (by intro h;rw[f,Bool.false_and]at h;cases h)];exact b9 a))
def Itl(K:af0)(a:Addr):It:=
 %[λ i H=>∃b x,SqL K H a b/\b[i]? =some x,λ i H x c=>c=H/\∀b,SqL K H a b->b[i]? =some x|λ i H=>∃b,SqL K H a b/\b.length<=i]
def Itt(K:af0)(a:Addr):It:=
 %[λ i H=>∃b x,SqT K H a b/\b[i]? =some x,λ i H x c=>c=H/\∀b,SqT K H a b->b[i]? =some x|λ i H=>∃b,SqT K H a b/\b.length<=i]
def Itr(lo:Int)(n:Nat):It:=%[λ i _=>i<n,λ i H x a=>a=H/\x=.int (lo+i)|λ i _=>n<=i]
theorem qT(a l:Addr):Turn P w K tg (Itl K a) [l] l (λ i h=>h.IsListIter l a i) where
 mem:=by simp
 obj:=λ i h f b j=>by
  have e:b=l:=by simpa using j
  subst e;obtain⟨o,e,c,d⟩:=f;exact%[o,e|λ v z=>by rw[d]at z;cases z]
 keep:=λ i h n f k=>f.at λ o e=>k l (by simp) o e
 item:=by intro X F J D O i g s Q H E I q f G;subst F J D;obtain⟨Z,x,r,L⟩:=G;obtain⟨M,N,p,W⟩:=I.list r;obtain⟨u,U,Y⟩:=N.get L;obtain⟨t,y,T,A,B,C⟩:=q l (by simp);refine wpAny_pyNext_list_item f p.isList (x:=u) (by simpa using U) λ n m sb=>?_;have R:Inv X g Q H {s with heap:=n}:=I.turned (t':=s.toks) (λ b o j e=>(sb.2 b j).trans e) t y A B C;obtain⟨o,e,c,d⟩:=id m;exact%[u,rfl|FW (s:={s with heap:=n}) e c d %[|1] %[x,H,R,Y,%[rfl|λ ys V=>by rw[I.list_inj V r];exact L],m|λ b j=>(q b j).1]]
 done:=by intro X F J D O i g s Q H E I q f G;subst F J D;obtain⟨Z,r,L⟩:=G;obtain⟨M,N,p,W⟩:=I.list r;obtain⟨t,y,T,A,B,C⟩:=q l (by simp);have hl:=N.length;exact wpAny_pyNext_list_end (I.ok.hd O) f p.isList %[|16] λ n S=>%[rfl|I.turned (t':=s.toks) (λ b o j e=>S b o j e) t y A B C]
 self:=λ _ _ _ _ _ f h=>wpAny_pyIter_listiter f h
theorem yg(a l:Addr):Turn P w K tg (Itt K a) [l] l (λ i h=>h.IsTupleIter l a i) where
 mem:=by simp
 obj:=λ i h f b j=>by
  have e:b=l:=by simpa using j
  subst e;obtain⟨o,e,c,d⟩:=f;exact%[o,e|λ v z=>by rw[d]at z;cases z]
 keep:=λ i h q f k=>f.at λ o e=>k l (by simp) o e
 item:=by intro X G L F O i g s Q H E I r f J;subst G L F;obtain⟨Z,x,t,M⟩:=J;obtain⟨m,N,p,W⟩:=I.tuple t;obtain⟨u,U,Y⟩:=N.get M;obtain⟨y,A,T,B,C,D⟩:=r l (by simp);refine wpAny_pyNext_tuple_item f (show s.heap.IsTuple a m.toArray from p) (x:=u) (by simpa using U) λ q n sb=>?_;have R:Inv X g Q H {s with heap:=q}:=I.turned (t':=s.toks) (λ b o j e=>(sb.2 b j).trans e) y A B C D;obtain⟨o,e,c,d⟩:=id n;exact%[u,rfl|FW (s:={s with heap:=q}) e c d %[|1] %[x,H,R,Y,%[rfl|λ ys V=>by rw[I.tuple_inj V t];exact M],n|λ b j=>(r b j).1]]
 done:=by intro X G L F O i g s Q H E I r f J;subst G L F;obtain⟨Z,t,M⟩:=J;obtain⟨m,N,p,W⟩:=I.tuple t;obtain⟨y,A,T,B,C,D⟩:=r l (by simp);have hl:=N.length;exact wpAny_pyNext_tuple_end (I.ok.hd O) f (show s.heap.IsTuple a m.toArray from p) %[|16] λ q S=>%[rfl|I.turned (t':=s.toks) (λ b o j e=>S b o j e) y A B C D]
 self:=λ _ _ _ _ _ f h=>wpAny_pyIter_tupleiter f h
theorem Qj(c:Addr)(lo:Int)(n:Nat):Turn P w K tg (Itr lo n) [c] c (λ i h=>IsRangeIter h c (lo+(i:Nat)*1) ((n:Int)-(i:Nat)) 1) where
 mem:=by simp
 obj:=λ i h a b f=>by
  have e:b=c:=by simpa using f
  subst e;exact%[_,a|λ v z=>by have O:Data.fields _=Data.cell v:=z;cases O]
 keep:=λ i h j a k=>k c (by simp) _ a
 item:=by intro X y C x A i d s F H E I l a B;subst y C x;obtain⟨m,p,L,q,r,u⟩:=l c (by simp);have W:=Walks.range (prog:=X.prog) (w:=X.w) (I.ok.hd A) c lo 1 n;refine W.item i s _ _ B a λ v j D M g N=>?_;obtain⟨t,rfl⟩:=M;have G:Inv X d F H {s with heap:=j,toks:=D}:=I.turned (λ b o f e=>N b o (by simpa using f) e) m p q r u;refine%[_,rfl|FW (s:={s with heap:=j,toks:=D}) (n:="range_iterator") g rfl rfl %[|1] %[.int (lo+i),H,G,%[t|?_],%[rfl|rfl],g|λ b f=>(l b f).1]];rw[Int.mul_one]
 done:=by intro X y C x A i d s F H E I l a B;subst y C x;obtain⟨m,p,L,q,r,u⟩:=l c (by simp);exact wpAny_pyNext_range_end (I.ok.hd A) a (by have:n<=i:=B;omega) λ j J=>%[rfl|I.turned (t':=s.toks) (λ b o f e=>J b o f e) m p q r u]
 self:=λ _ _ _ _ _ a h=>wpAny_pyIter_rangeiter a h
end L2
namespace L2
open PySem PySem.Spec PyProof.Rows
section
variable{X:Cx}{tg:Expr}
def Gg{σ:St}{lo hi}(I:%[|3])(h1: -(2 ^ 62)<=lo)(h2:lo<2 ^ 62)(f: -(2 ^ 62)<=hi)(g:hi<2 ^ 62)
 (q:R (Itr lo (hi-lo).toNat) H):wpAny %[|5] X.A (pyIter %[|8]) (PIE X pins σ tg R) E {s with heap:=s.heap.push %[|97],toks:=tk}:=by
 refine wpAny_pyIter_range (IsRange.new ..) (small_one h1 h2 f g) ?_;have a:Inv X pins σ H {s with heap:=s.heap.push %[|97],toks:=tk}:=I.kept λ b o e=>bX _ e;refine%[(s.heap.push %[|97]).objs.size,[(s.heap.push %[|97]).objs.size],_,_,H,rfl,
  a.kept (t':=tk) λ b o e=>bX _ e,Qj _ lo (hi-lo).toNat,?_,λ b h=>?_|q]
 . have c:lo+((0:Nat):Int)*1=lo:=by simp
   have d:(((hi-lo).toNat:Nat):Int)-((0:Nat):Int)=Builtin.Range.rangeSize lo hi 1:=by rw[rangeSize_one];split<;>omega
   show IsRangeIter _ _ (lo+((0:Nat):Int)*1) ((((hi-lo).toNat:Nat):Int)-((0:Nat):Int)) 1;rw[c,d];exact cb _ rfl
 . have e:b=(s.heap.push %[|97]).objs.size:=by simpa using h
   subst e;exact a.fpOk (y9 _) (a.hok.fresh (y9 _))
def ac5(ta:TA):TI:=λ c H R=>ta c H λ b a=>∃j:Int,b=[.int j]/\ -(2 ^ 62)<=j/\j<2 ^ 62/\R (Itr 0 j.toNat) a
def adx(ta:TA):TI:=λ c H R=>ta c H λ b a=>∃i j:Int,b=[.int i,.int j]/\(-(2 ^ 62)<=i/\i<2 ^ 62/\ -(2 ^ 62)<=j/\j<2 ^ 62)/\R (Itr i (j-i).toNat) a
def Ut(i:Gl X "range")(k:X.mg "range"=none)(g:PA X [a] f)(hs:starEach [a] X.env=[(false,eval a X.env)]:=by rfl):PI X tg (.Call (.Name "range" p) [a] [] c) (ac5 f):=by intro b s n H R I h;refine Call_ (cV I i k boot_range (eu (thn (g c b s n H _ I h) λ u o ⟨vs,H1,I1,r1,d⟩=>?_) hs rfl));obtain⟨j,e,d,l,q⟩:=d;subst e;cases r1 with| cons r m=>cases m;obtain⟨t,rfl⟩:=r;exact call_range_1 (Gg I1 %[|0] %[|0] d l (by simpa using q))
def Vh{p f}(n:Gl X "range")(o:X.mg "range"=none)(m:PA X [a,b] l)(hs:starEach [a,b] X.env=[(false,eval a X.env),(false,eval b X.env)]:=by rfl)(c:starEach [b] X.env=[(false,eval b X.env)]:=by rfl):
 PI X tg (.Call (.Name "range" p) [a,b] [] f) (adx l):=by intro d s y H R I h;refine Call_ (cV I n o boot_range (eu (thn (m f d s y H _ I h) λ B z ⟨vs,H1,I1,r1,g⟩=>?_) (by rw[hs,c]) (by rw[c];rfl)));obtain⟨i,j,e,⟨g,u,v,w⟩,q⟩:=g;subst e;cases r1 with| cons r k=>cases k with| cons x k=>cases k;obtain⟨t,rfl⟩:=r;obtain⟨A,rfl⟩:=x;exact call_range_2 (Gg I1 g u v w q)
def ad1(wi:TI)(g:TG)(tb:TS):TS:=λ D a H=>wi a H λ J f=>∃W:Nat->Nat->St->Hp->Prop,(∃m,W 0 m a f)/\∀i m a H,W i m a H->
 (J.stop i H/\D.nx a H)\/(J.go i H/\∃N:St->Hp->Prop,(∀c b,N c b->∃e,e<m/\W (i+1) e c b)/\∀x b,J.yld i H x b->g x a b λ d h=>tb {D with nx:=N,ct:=N,bk:=D.nx} d h)
def qX(fp:ah2)(h:Heap):List (Addr×Obj):=fp.filterMap λ b=>(h.get? b).map λ o=>(b,o)
def jK(c:b∈a)(e:%[|43]):(b,o)∈qX a h:=i7.mpr %[b,c|by rw[e];rfl]
def RG(f:p∈qX a h):p.1∈a/\h.get? p.1=some p.2:=by
 obtain⟨b,d,e⟩:=i7.mp f
 cases q:h.get? b with
 | none=>rw[q]at e;cases e
 | some o=>rw[q]at e;have c:(b,o)=p:=cq e;subst c;exact%[d|q]
def Inv.pinned{σ:St}(I:%[|3])(j:∀b∈a,iT X pins H b)(k:∀b∈a,∃o,%[|39]/\∀v,o.data≠.cell v):Inv X (pins++qX a s.heap) σ H s:=
 I.pins_of λ p l=>(cn.mp l).elim (λ z=>I.pin p (fe _ z)) λ z=>by obtain⟨f,e⟩:=RG z;obtain⟨g,h,i,_⟩:=j p.1 f;obtain⟨o,c,d⟩:=k p.1 f;rw[e]at c;cases c;exact%[e,g,h,i|d]
def Inv.unpinned{σ:St}(I:Inv X (pins++pl) σ H s):%[|3]:=I.pins_of λ p a=>I.pin p (fe _ (ij _ a))
def Tq(E:PassesOwn %[|5] X.A X.env X.xe)(Y:%[|32])(hi:PI X tg iter wi)(hg:PG X tg g)(p:PSs X z tb)
 (hs:∀x,foldedSetIterable iter X.env x=pure x:=by intro _;rfl):PS X (.For tg iter z [] Q) (ad1 wi g tb):=by
 intro a s σ H D I h;refine wpAny_For (thn (hi a s σ H _ I h) λ v s1 h1=>thn h1 λ aa s2 h2=>?_) hs;obtain⟨it,B,tn,J,H2,e,I2,T,S,V,W,⟨m0,w0⟩,M⟩:=h2;subst e;have q:∀{y:Hp},(∀b∈B,y b=none)->∀b∈B,iT X a y b:=λ hn b p=>%[hn b p|(V b p).2];refine codeAny_forLoop_any (λ n Z=>∃i t y,Inv X a t y Z/\tn i Z.heap/\(∀b∈B,y b=none)/\W i n t y) ?_ m0 %[0,σ,H2,I2,S,λ b p=>(V b p).1|w0];rintro n s3 ⟨i,w,O,U,G,C,w3⟩;rcases M i n w O w3 with⟨L,qn⟩ | ⟨go,N,hN,K⟩;{refine mi E (thn (T.done X rfl rfl rfl Y i a s3 w O X.xe U (q C) G L) λ r s4 ⟨hr,I4⟩=>?_);subst hr;exact wpAny_execs_nil %[w,O,I4|qn]}
 . refine mi E (thn (T.item X rfl rfl rfl Y i a s3 w O X.xe U (q C) G go) λ r s4 ⟨u,hr,h4⟩=>?_);subst hr;refine mi E (thn h4 λ _ s5 ⟨x,H5,I5,r5,y5,st5,fr5⟩=>?_);have P:=I5.pinned (q fr5) (T.obj _ _ st5);refine mi E (thn (hg _ s5 w H5 x u _ P r5 (K x H5 y5)) λ _ s6 ⟨σ6,H6,I6,q6⟩=>?_);refine mi E (thn (p _ s6 σ6 H6 _ I6 q6) λ f R A=>?_);have l:∀{c:St}{j:Hp},Inv X (a++qX B s5.heap) c j R->N c j->∃m,m<n/\∃i t y,Inv X a t y R/\tn i R.heap/\(∀b∈B,y b=none)/\W i m t y:=λ{c j} k F=>by obtain⟨m',hm,w7⟩:=hN c j F;refine%[m',hm,i+1,c,j,k.unpinned,T.keep _ _ _ st5 λ b p o e=>(k.pin (b,o) (fe _ (fe _ (jK p e)))).1,λ b p=>?_|w7];obtain⟨o,e,d⟩:=T.obj _ _ st5 b p;exact(k.pin (b,o) (fe _ (fe _ (jK p e)))).2.1
   cases f with
   | next=>obtain⟨c,j,k,F⟩:=A;exact l k F
   | cont=>obtain⟨c,j,k,F⟩:=A;exact l k F
   | brk=>obtain⟨c,j,k,A⟩:=A;exact%[c,j,k.unpinned|A]
   | ret v=>obtain⟨x7,c,j,k,r7,A⟩:=A;exact%[x7,c,j,k.unpinned,r7|A]
end
abbrev R2:=V->V->Hp->VK->Prop
def OpR(X:Cx)(f:Value->Value->Sem Value)(r:R2):Prop:=
 ∀ (a:af6)(s:af3)(b:St)(H:Hp)(x y:V)(v u:Value)(Q:VK),Inv X a b H s->RelV x v->RelV y u->r x y H Q->
   wpAny %[|5] X.A (f v u) (EP X a b Q) X.xe s
def UnR(X:Cx)(f:Value->Sem Value)(r:V->Hp->VK->Prop):Prop:=
 ∀ (a:af6)(s:af3)(b:St)(H:Hp)(x:V)(v:Value)(Q:VK),Inv X a b H s->RelV x v->r x H Q->
   wpAny %[|5] X.A (f v) (EP X a b Q) X.xe s
def jG(X:Cx)(f:Value)(r:List V->Hp->VK->Prop):Prop:=
 ∀ (a:af6)(s:af3)(d:St)(H:Hp)(c:List V)(b:af5)(Q:VK),Inv X a d H s->Vals c b->r c H Q->
   wpAny %[|5] X.A (call f b) (EP X a d Q) X.xe s
def rI(C:Int->Int->Prop)(g:Int->Int->V):R2:=λ x y H Q=>∃i j,x=.int i/\y=.int j/\C i j/\Q (g i j) H
def rI0(g:Int->Int->V):R2:=λ x y H Q=>∃i j,x=.int i/\y=.int j/\Q (g i j) H
def rU(g:Int->V):V->Hp->VK->Prop:=λ x H Q=>∃i,x=.int i/\Q (g i) H
section
variable{X:Cx}{a b c:Expr}{ta tb tc:TE}{pos:Pos}
def opI{g:Int->Int->Int}
 (a:∀(i j:Int)(t u:Tok)(s:af3)(Q:af2)(E:af2),C i j->Q (.int (g i j) s.toks) {s with toks:=s.toks+1}->wpAny %[|5] X.A (f (.int i t) (.int j u)) Q E s):
 OpR X f (rI C λ i j=>.int (g i j)):=by intro b s l H x y v u Q I d e h;obtain⟨i,j,rfl,rfl,c,q⟩:=h;obtain⟨t,rfl⟩:=d;obtain⟨k,rfl⟩:=e;exact a i j t k s _ _ c %[.int (g i j),H,I.tok _,%[_|rfl]|q]
def Rg{g:Int->Int->Int}
 (a:∀(i j:Int)(t u:Tok)(s:af3)(Q:af2)(E:af2),Q (.int (g i j) s.toks) {s with toks:=s.toks+1}->wpAny %[|5] X.A (f (.int i t) (.int j u)) Q E s):
 OpR X f (rI0 λ i j=>.int (g i j)):=by intro b s k H x y v u Q I c d h;obtain⟨i,j,rfl,rfl,q⟩:=h;obtain⟨t,rfl⟩:=c;obtain⟨e,rfl⟩:=d;exact a i j t e s _ _ %[.int (g i j),H,I.tok _,%[_|rfl]|q]
def Qq{g:Int->Int->Bool}
 (a:∀(i j:Int)(t u:Tok)(s:af3)(Q:af2)(E:af2),Q (.bool (g i j)) s->wpAny %[|5] X.A (f (.int i t) (.int j u)) Q E s):
 OpR X f (rI0 λ i j=>.bl (g i j)):=by intro b s k H x y v u Q I c d h;obtain⟨i,j,rfl,rfl,q⟩:=h;obtain⟨t,rfl⟩:=c;obtain⟨e,rfl⟩:=d;exact a i j t e s _ _ %[.bl (g i j),H,I,rfl|q]
def adV(i j:Int):Prop:=0<j/\j<1073741824
def CPow(i j:Int):Prop:=0<=j/\j<=1000000/\i.natAbs<2 ^ 64
def CMul(i j:Int):Prop:=(-(2 ^ 64)<i/\i<2 ^ 64)\/(-(2 ^ 64)<j/\j<2 ^ 64)
def CMul.ok(h:CMul i j):IntMulOk i j:=by rcases h with⟨a,b⟩ | ⟨a,b⟩;{exact .of_left (intBits_le_64 a b)};{exact .of_right (intBits_le_64 a b)}
def aaP:OpR X (binaryOp .Add) (rI0 λ i j=>.int (i+j)):=Rg λ _ _ _ _ _ _ _ q=>add_int q
def abK:OpR X (binaryOp .Sub) (rI0 λ i j=>.int (i-j)):=Rg λ _ _ _ _ _ _ _ q=>sub_int q
def abP:OpR X (binaryOp .Mult) (rI CMul λ i j=>.int (i*j)):=opI λ _ _ _ _ _ _ _ a q=>mul_int q a.ok
def Yt:OpR X (binaryOp .FloorDiv) (rI adV λ i j=>.int (i/j)):=opI λ i j _ _ _ _ _ hc q=>by have a:(0:Int)<j:=hc.1;have b:j<1073741824:=hc.2;exact floordiv_int %[|0] (by rw[Int.fdiv_eq_ediv_of_nonneg i %[|0]];exact q) (.inl (PyProof.noPylong_small %[|0]))
def abD:OpR X (binaryOp .Mod) (rI (λ _ j=>0<j) λ i j=>.int (i % j)):=opI λ i j _ _ _ _ _ a q=>by have b:(0:Int)<j:=a;exact mod_int' %[|0] (by rw[Int.fmod_eq_emod_of_nonneg i %[|0]];exact q)
def abE:OpR X (binaryOp .Pow) (rI CPow λ i j=>.int (i ^ j.toNat)):=opI λ _ _ _ _ _ _ _ hc q=>pow_int_small hc.1 hc.2.1 hc.2.2 q
def Zx:OpR X (inplaceOp .Add) (rI0 λ i j=>.int (i+j)):=Rg λ _ _ _ _ _ _ _ q=>iadd_int q
def Z4:OpR X (inplaceOp .Sub) (rI0 λ i j=>.int (i-j)):=Rg λ _ _ _ _ _ _ _ q=>isub_int q
def Z7:OpR X (inplaceOp .Mult) (rI CMul λ i j=>.int (i*j)):=opI λ _ _ _ _ _ _ _ a q=>imul_int q a.ok
def unI{g:Int->Int}
 (a:∀(i:Int)(t:Tok)(s:af3)(Q:af2)(E:af2),Q (.int (g i) s.toks) {s with toks:=s.toks+1}->wpAny %[|5] X.A (f (.int i t)) Q E s):
 UnR X f (rU λ i=>.int (g i)):=by intro b s d H x v Q I c h;obtain⟨i,rfl,q⟩:=h;obtain⟨t,rfl⟩:=c;exact a i t s _ _ %[.int (g i),H,I.tok _,%[_|rfl]|q]
def abO:UnR X (unaryOp .USub) (rU λ i=>.int (-i)):=unI λ _ _ _ _ _ q=>neg_int q
end
def aba:V->V->Bool
 | .non,.non=>true | .non,.int _=>true | .int _,.non=>true | .non,.bl _=>true | .bl _,.non=>true | .non,.str _=>true | .str _,.non=>true
 | .int _,.int _=>true | .bl _,.bl _=>true | .str _,.str _=>true | .byt _,.byt _=>true
 | .int _,.str _=>true | .str _,.int _=>true | .bl _,.str _=>true | .str _,.bl _=>true
 | _,_=>false
def rEq:R2:=λ x y H Q=>aba x y=true/\Q (.bl (decide (x=y))) H
def rNe:R2:=λ x y H Q=>aba x y=true/\Q (.bl (!decide (x=y))) H
def uC:decide (V.int i=V.int j)=(i==j):=by rw[gd];simp
def xr:decide (V.bl i=V.bl j)=(i==j):=by rw[gd];simp
def Ov:decide (V.str i=V.str j)=(i==j):=by rw[gd];simp
def Pj:decide (V.byt i=V.byt j)=(i.toList==j.toList):=by rw[gd];cases i;cases j;simp
section
variable{X:Cx}{a b c:Expr}{ta tb tc:TE}{pos:Pos}
def aW{σ:St}{k a}(I:%[|3])(q:Q (.bl k) H)(e:k=a):EP X pins σ Q (.bool a) s:=by subst e;exact%[.bl k,H,I,rfl|q]
def X8:OpR X (compareOp .Eq) rEq:=by
 intro e s f H x y v u Q I d a h;obtain⟨c,q⟩:=h
 cases x with
 | non=>
   cases d
   cases y with
   | non=>cases a;exact PySem.EqNone.eq_none_none %[|35]
   | bl j=>cases a;exact PySem.EqNone.eq_none_bool %[|35]
   | int j=>obtain⟨b,rfl⟩:=a;exact PySem.EqNone.eq_none_int %[|35]
   | str j=>obtain⟨b,rfl⟩:=a;exact PySem.EqNone.eq_none_str %[|35]
   | _=>exact %[|72]
 | bl i=>
   cases d
   cases y with
   | non=>cases a;exact PySem.EqNone.eq_bool_none %[|35]
   | bl j=>cases a;exact eq_bool (aW I q xr)
   | str j=>obtain⟨b,rfl⟩:=a;exact PySem.EqMixed.eq_bool_str %[|35]
   | _=>exact %[|72]
 | int i=>
   obtain⟨t,rfl⟩:=d
   cases y with
   | non=>cases a;exact PySem.EqNone.eq_int_none %[|35]
   | int j=>obtain⟨b,rfl⟩:=a;exact eq_int (aW I q uC)
   | str j=>obtain⟨b,rfl⟩:=a;exact PySem.EqMixed.eq_int_str %[|35]
   | _=>exact %[|72]
 | str i=>
   obtain⟨t,rfl⟩:=d
   cases y with
   | non=>cases a;exact PySem.EqNone.eq_str_none %[|35]
   | bl j=>cases a;exact PySem.EqMixed.eq_str_bool %[|35]
   | int j=>obtain⟨b,rfl⟩:=a;exact PySem.EqMixed.eq_str_int %[|35]
   | str j=>obtain⟨b,rfl⟩:=a;exact eq_str (aW I q Ov)
   | _=>exact %[|72]
 | byt i=>
   obtain⟨t,rfl⟩:=d
   cases y with
   | byt j=>obtain⟨b,rfl⟩:=a;exact PySem.W.eq_bytes (aW I q Pj)
   | _=>exact %[|72]
 | _=>cases y<;>exact %[|72]
def Yo:OpR X (compareOp .NotEq) rNe:=by
 intro e s f H x y v u Q I d a h;obtain⟨c,q⟩:=h
 cases x with
 | non=>
   cases d
   cases y with
   | non=>cases a;exact PySem.EqNone.ne_none_none %[|35]
   | bl j=>cases a;exact PySem.EqNone.ne_none_bool %[|35]
   | int j=>obtain⟨b,rfl⟩:=a;exact PySem.EqNone.ne_none_int %[|35]
   | str j=>obtain⟨b,rfl⟩:=a;exact PySem.EqNone.ne_none_str %[|35]
   | _=>exact %[|72]
 | bl i=>
   cases d
   cases y with
   | non=>cases a;exact PySem.EqNone.ne_bool_none %[|35]
   | bl j=>cases a;exact ne_bool (aW I q (eC not xr))
   | str j=>obtain⟨b,rfl⟩:=a;exact PySem.EqMixed.ne_bool_str %[|35]
   | _=>exact %[|72]
 | int i=>
   obtain⟨t,rfl⟩:=d
   cases y with
   | non=>cases a;exact PySem.EqNone.ne_int_none %[|35]
   | int j=>obtain⟨b,rfl⟩:=a;exact ne_int (aW I q (eC not uC))
   | str j=>obtain⟨b,rfl⟩:=a;exact PySem.EqMixed.ne_int_str %[|35]
   | _=>exact %[|72]
 | str i=>
   obtain⟨t,rfl⟩:=d
   cases y with
   | non=>cases a;exact PySem.EqNone.ne_str_none %[|35]
   | bl j=>cases a;exact PySem.EqMixed.ne_str_bool %[|35]
   | int j=>obtain⟨b,rfl⟩:=a;exact PySem.EqMixed.ne_str_int %[|35]
   | str j=>obtain⟨b,rfl⟩:=a;exact ne_str (aW I q (eC not Ov))
   | _=>exact %[|72]
 | byt i=>
   obtain⟨t,rfl⟩:=d
   cases y with
   | byt j=>obtain⟨b,rfl⟩:=a;exact PySem.W.ne_bytes (aW I q (eC not Pj))
   | _=>exact %[|72]
 | _=>cases y<;>exact %[|72]
def acU:OpR X (compareOp .Lt) (rI0 λ i j=>.bl (decide (i<j))):=Qq λ _ _ _ _ _ _ _ q=>lt_int q
def acK:OpR X (compareOp .LtE) (rI0 λ i j=>.bl (decide (i<=j))):=Qq λ _ _ _ _ _ _ _ q=>le_int q
def acN:OpR X (compareOp .Gt) (rI0 λ i j=>.bl (decide (j<i))):=Qq λ _ _ _ _ _ _ _ q=>gt_int q
def adw:OpR X (compareOp .GtE) (rI0 λ i j=>.bl (decide (j<=i))):=Qq λ _ _ _ _ _ _ _ q=>ge_int q
def abH:OpR X (compareOp .Is) (λ x y H Q=>y=.non/\Q (.bl (decide (x=.non))) H):=by
 intro a s d H x y v u Q I b c h;obtain⟨rfl,q⟩:=h;cases c;refine is_none_gen (aW I q ?_);cases x<;>first
  | (cases b;rfl)
  | (obtain⟨t,rfl⟩:=b;rfl)
def aaa:OpR X (compareOp .IsNot) (λ x y H Q=>y=.non/\Q (.bl (!decide (x=.non))) H):=by
 intro a s d H x y v u Q I b c h;obtain⟨rfl,q⟩:=h;cases c;refine isnot_none_gen (aW I q ?_);cases x<;>first
  | (cases b;rfl)
  | (obtain⟨t,rfl⟩:=b;rfl)
def xm:(sizeLine:Nat)<2 ^ 63:=by rw[ja];decide
def vals1{a}(r:Vals [x] a):∃u,a=[u]/\RelV x u:=by cases r with| cons b c=>cases c;exact%[_,rfl|b]
def vals2{a}(r:Vals [x,y] a):∃u w',a=[u,w']/\RelV x u/\RelV y w':=by cases r with| cons b c=>cases c with| cons d e=>cases e;exact%[_,_,rfl,b|d]
def Xm:jG X (.builtin "abs") (λ xs H Q=>∃i,xs=[.int i]/\Q (.int (if i<0 then-i else i)) H):=by intro a s d H xs c Q I r h;obtain⟨i,rfl,q⟩:=h;obtain⟨u,rfl,t,rfl⟩:=vals1 r;exact call_abs_int λ u b=>%[.int (if i<0 then-i else i),H,I.tok _,%[_|rfl]|q]
def U3(c:%[|32]):jG X (.builtin "max") (λ xs H Q=>∃i j,xs=[.int i,.int j]/\Q (.int (if j>i then j else i)) H):=by intro b s m H xs g Q I r h;obtain⟨i,j,rfl,q⟩:=h;obtain⟨u,l,rfl,⟨t,rfl⟩,⟨e,rfl⟩⟩:=vals2 r;refine max_two_ints (I.ok.hd c) λ d f k=>%[_,H,I.kept k,?_|q];by_cases a:j>i;{rw[ci a,ci a];exact%[_|rfl]};{rw[c8 a,c8 a];exact%[_|rfl]}
def Ux(c:%[|32]):jG X (.builtin "min") (λ xs H Q=>∃i j,xs=[.int i,.int j]/\Q (.int (if j<i then j else i)) H):=by intro b s m H xs g Q I r h;obtain⟨i,j,rfl,q⟩:=h;obtain⟨u,l,rfl,⟨t,rfl⟩,⟨e,rfl⟩⟩:=vals2 r;refine min_two_ints (I.ok.hd c) λ d f k=>%[_,H,I.kept k,?_|q];by_cases a:j<i;{rw[ci a,ci a];exact%[_|rfl]};{rw[c8 a,c8 a];exact%[_|rfl]}
def Ck:jG X (.type "int") (λ xs H Q=>(∃i,xs=[.int i]/\Q (.int i) H)\/∃k,xs=[.bl k]/\Q (.int (if k then 1 else 0)) H):=by intro a s d H xs c Q I r h;rcases h with⟨i,rfl,q⟩ | ⟨k,rfl,q⟩;{obtain⟨u,rfl,t,rfl⟩:=vals1 r;exact call_int_int %[.int i,H,I,%[_|rfl]|q]};{obtain⟨u,rfl,b⟩:=vals1 r;cases b;exact call_int_bool %[.int (if k then 1 else 0),H,I.tok _,%[_|rfl]|q]}
end
structure Room(k:Nat)(A:ah0):Prop where
 hd:%[|50]
 dp:A.depth+3*k+5<recursionLimit
 un:A.units+16*k+200<cLine
def Room.mono(r:Room k A)(h:j<=k):Room j A:=%[r.hd,by have:=r.dp;omega|by have:=r.un;omega]
def Room.deeper(r:Room (k+1) A)(env:Env):Room k (A.deeper env):=
 %[r.hd,by have:=r.dp;show A.depth+1+3*k+5<_;omega|by have:=r.un;show A.units+3+16*k+200<_;omega]
def Room.depth(r:Room k A):A.depth<recursionLimit:=by have:=r.dp;omega
def adW:TA:=λ _ H Q=>Q [] H
def acO(ta:TE)(tr:TA):TA:=λ a H Q=>ta a H λ x b=>tr a b λ d c=>Q (x::d) c
section
variable{X:Cx}{e:Expr}{es:List Expr}{te:TE}{t:TA}{pos:Pos}
def Ih:PA X [] adW:=λ _ _ _ _ H Q I h=>fF %[[],H,I,.nil|h]
def uI(d:PE X e te)(f:PA X es t)(hs:%[|90]:=by rfl):PA X (e::es) (acO te t):=by intro b a s c H Q I h;rw[hs];show wpAny _ _ (spliced ((false,eval e X.env)::backTo b (starEach es X.env))) _ _ s;refine f8 (thn (d a s c H _ I h) λ u g ⟨x,H1,I1,r1,q1⟩=>?_);exact thn (f b a g c H1 _ I1 q1) λ j i ⟨xs,H2,I2,r2,q2⟩=>%[x::xs,H2,I2,.cons r1 r2|q2]
end
abbrev Sp:=List V->Hp->VK->XK->Prop
abbrev CXT:=List Env->Hp->Shared->XK->Value->Shared->Prop
structure Env0(P:ag4)(w:World)(K:af0)(mg:af8)(base:Heap)(A:ah0)(outer:List Env)(s:af3)(H:Hp):Prop where
 frames:A.frames=some outer
 mod:Mod K mg base
 bs:∀b o,base.get? b=some o->%[|39]/\H b=none
 bsz:base.objs.size<=s.heap.objs.size
 funs:s.heap.FunFrames base outer
 frf:∀b∈frs outer,H b=none
 hok:HOk P w H s.heap
 bare:AllBare s.gens
def CE(outer:List Env)(P:ag4)(w:World)(H:Hp)(s:af3)(Q:VK)(u:Value)(s':af3):Prop:=
 ∃v a,s'.os=s.os/\AllBare s'.gens/\Un (frs outer) [] H a s.heap s'.heap/\HOk P w a s'.heap/\RelV v u/\Q v a
def CR(CX:CXT)(outer:List Env)(P:ag4)(w:World)(H:Hp)(s:af3)(Q:VK)(E:XK)(r:Result)(s':af3):Prop:=
 match r with
 | .ok (.ret u)=>CE outer P w H s Q u s'
 | .ok _=>False
 | .error e=>CX outer H s E e s'
structure FnOk(P:ag4)(w:World)(K:af0)(mg:af8)(base:Heap)(CX:CXT)(k:Nat)(f:Addr)(fd:FuncData)(ps:af7)(sp:Sp):Prop where
 len:∀vs H Q E,sp vs H Q E->vs.length=ps.length
 run:∀(A:ah0)(outer:List Env)(s:af3)(H:Hp)(args:Args)(us:af5)(vs:List V)(Q:VK)(E:XK),Room k A->Env0 P w K mg base A outer s H->BindsTo s fd args (ps.zip us)->Vals vs us->sp vs H Q E->
  codeAny (model P w) A (.call (.ref f) args) (CR CX outer P w H s Q E) s
section
variable{X:Cx}{pins:List (Addr × Obj)}{σ:St}{H:Hp}{s s':Shared}
def Inv.env0(I:%[|3]):Env0 X.prog X.w X.K X.mg X.base X.A X.stack s H:=
 %[I.ok.frames,I.ok.mod,I.bs,d6 I.ok.bsz I.sz,I.stack,I.stkFree,I.hok|I.bare]
def Inv.after(I:%[|3])(h:CE X.stack X.prog X.w H s Q u s'):EP X pins σ Q u s':=by obtain⟨v,f,i,a,j,c,r,q⟩:=h;obtain⟨hh,g,d,t,e⟩:=s';obtain rfl:e=s.os:=i;exact%[v,f,I.call (h':=hh) (g':=g) (d':=d) (t':=t) (ch:=[]) j c a (λ b z=>absurd z (by simp)),r|q]
end
def Binds(K:af0)(fd:FuncData)(ps:af7)(ds:af5):Prop:=
 ∀(s:af3)(a:af5),K.In s.heap->(a++ds).length=ps.length->BindsTo s fd %[a|[]] (ps.zip (a++ds))
def Binds.all{K}(h:∀us:List Value,us.length=ps.length->bindArgs a %[us|[]]=pure (ps.zip us)):Binds K a ps []:=λ s us _ b=>by rw[gt]at b ⊢;exact .of_eq (h us b)
def R6(CX:CXT)(X:Cx)(E:XK):Prop:=∀(a:af6)(c:St)(H:Hp)(s:af3)(e:Value)(b:af3),Inv X a c H s->CX X.stack H s E e b->X.xe e b
section
variable{X:Cx}{CX:CXT}{k:Nat}{f C:Addr}{fd:FuncData}{ps:List Str}{sp:Sp}{dvs:List V}{ds:List Value}{E:XK}{x m:Str}{p pos apos:Pos}{e o:Expr}{es:List Expr}{ta:TE}{t:TA}
def abo{σ:St}(F:FnOk X.prog X.w X.K X.mg X.base CX k f fd ps sp)(m:Room k X.A)(i:Binds X.K fd ps ds)(j:Vals dvs ds)(n:R6 CX X E)
 (I:%[|3])(r:Vals c a)(h:sp (c++dvs) H Q E):wpAny %[|5] X.A (call (.ref f) a) (EP X pins σ Q) X.xe s:=by
 have d:Vals (c++dvs) (a++ds):=r.append j;have l:(a++ds).length=ps.length:=by rw[<-d.length];exact F.len _ _ _ _ h
 refine wpAny_call (l8 (F.run X.A X.stack s H %[a|[]] (a++ds) (c++dvs) Q E m I.env0 (i s a I.kIn l) d h) λ r o b=>?_)
 cases r with
 | error e=>exact n pins σ H s e o I b
 | ok g=>
   cases g with
   | ret u=>exact I.after b
   | next=>exact False.elim b
   | brk=>exact False.elim b
   | cont=>exact False.elim b
end
structure FnScope(N P:af7)(sc:Scope):Prop where
 kind:sc.kind=.function
 co:sc.isCoroutine=false
 gen:sc.isGenerator=false
 nd:N.Nodup
 pre:N.take P.length=P
 par:∀x∈P,%[|70]=some .local\/%[|70]=%[|12]
 nofree:∀y∈sc.names,y.2≠.free
theorem CV:∀{a:List (Str×Value)}{m:af8},(∀v,(x,v)∉a)->bindL b a m x=m x
 | [],_,_=>rfl
 | (n,v)::r,m,h=>by
   unfold bindL;rw[CV λ w c=>h w (x4 _ c)];split
   . have:x≠n:=by rintro rfl;exact h v x6
     simp[this]
   {rfl}
theorem Du:∀{a:List (Str×Value)}{m:af8},(∀v,(x,v)∉a)->bindC b a m x=m x
 | [],_,_=>rfl
 | (n,v)::r,m,h=>by
   unfold bindC;rw[Du λ w c=>h w (x4 _ c)];split;{rfl}
   . have:x≠n:=by rintro rfl;exact h v x6
     simp[this]
theorem Dm:∀{P:af7}{b:af5}{i:Nat}{m:af8},P.Nodup->P[i]? =some x->b[i]? =some v->a x=some .local->
 bindL a (P.zip b) m x=some v
 | [],_,_,_,_,h,_,_=>by simp at h
 | _::_,[],_,_,_,_,h,_=>by simp at h
 | p::P,w::b,0,m,nd,h1,h2,hk=>by simp at h1 h2;subst h1;subst h2;show bindL a ((p,w)::P.zip b) m p=_;unfold bindL;rw[CV λ v c=>(fh.mp nd).1 (List.of_mem_zip c).1,ci hk];simp
 | p::P,w::b,i+1,m,nd,h1,h2,hk=>by show bindL a ((p,w)::P.zip b) m x=_;unfold bindL;exact Dm (i:=i) (fh.mp nd).2 (by simpa using h1) (by simpa using h2) hk
theorem Dv:∀{P:af7}{b:af5}{i:Nat}{m:af8},P.Nodup->P[i]? =some x->b[i]? =some v->a x≠some .local->
 bindC a (P.zip b) m x=some v
 | [],_,_,_,_,h,_,_=>by simp at h
 | _::_,[],_,_,_,_,h,_=>by simp at h
 | p::P,w::b,0,m,nd,h1,h2,hk=>by simp at h1 h2;subst h1;subst h2;show bindC a ((p,w)::P.zip b) m p=_;unfold bindC;rw[Du λ v c=>(fh.mp nd).1 (List.of_mem_zip c).1,c8 hk];simp
 | p::P,w::b,i+1,m,nd,h1,h2,hk=>by show bindC a ((p,w)::P.zip b) m x=_;unfold bindC;exact Dv (i:=i) (fh.mp nd).2 (by simpa using h1) (by simpa using h2) hk
def start(N:af7)(vs:List V):St:=vs.map some++List.replicate (N.length-vs.length) none
def qU(CX:CXT)(P:ag4)(w:World)(K:af0)(mg:af8)(base:Heap)(N:af7)(qual:Str)(scope:Scope)(f:Addr)(cd:Value)(A:ah0)(outer:List Env)(s:af3)(H:Hp)(E:XK):Cx where
 prog:=P
 w:=w
 K:=K
 mg:=mg
 base:=base
 A:=A.deeper (envOfC qual scope s.heap.objs.size f cd)
 N:=N
 s₀:=s
 H₀:=H
 env:=envOfC qual scope s.heap.objs.size f cd
 outer:=outer
 stack:=envOfC qual scope s.heap.objs.size f cd::outer
 ex:=[]
 calm:=true
 fn:=λ _=>true
 pn:=[]
 xe:=λ e c=>wpAny (model P w) (A.deeper (envOfC qual scope s.heap.objs.size f cd)) (leaving (envOfC qual scope s.heap.objs.size f cd) e) (λ _ a=>CX outer H s E e a) (λ b a=>CX outer H s E b a) c
def IW{a:Scope}(h:a.names.lookup x=%[|12]):∃c,(cellsFrom n a.names []).lookup x=some c:=by have q:=PySem.W.cellsFrom_some a.names n [] (.inl h);exact Option.isSome_iff_exists.mp q
def Uj{K}
 (S:FnScope N ps scope)(L:%[|50])(j:Env0 P w K mg base A outer s H)(R:o.length=ps.length)(r:Vals o F)
 (x:InCallC s s.heap.objs.size (bindL (envOfC d scope s.heap.objs.size f cd).kindOf (ps.zip F) λ _=>none) (cellsFrom %[|28] scope.names []) (bindC (envOfC d scope s.heap.objs.size f cd).kindOf (ps.zip F) λ _=>none) s1):
 Inv (qU CX P w K mg base N d scope f cd A outer s H E) [] (start N o) H s1:=by
 have M:ps.length<=N.length:=by have:=eC List.length S.pre;rw[ej]at this;omega
 obtain⟨C,T,rfl,G⟩:=x.done;have m:∀b:Addr,b∉(qU CX P w K mg base N d scope f cd A outer s H E).ex:=λ b z=>absurd (show b∈([]:List Addr)from z) (by simp);refine%[%[j.mod,S.kind,rfl,rfl,y9 _,λ y z c C g=>?_,λ y l=>?_,λ y c _ h=>?_,λ _=>L,Around.frames_deeper j.frames,.inr %[rfl|rfl],λ b z=>absurd z (m b),j.bs,j.bsz,λ b _ _=>m b,λ b z=>absurd z (m b),j.funs|j.frf],
  rfl,j.bare,Un.kept G,%[_,x.toInCall.ns|λ i y v C g Q=>?_],λ y c h=>%[_|x.cell y c h],j.hok.fresh (y9 _),λ y c h=>?_,λ p t=>absurd (show p∈([]:List (Addr×Obj))from t) (by simp),j.hok.kept G|?_];{exact name_of_addr x.apart (ip C) (ip g)};{have l:scope.names.lookup y=%[|12]\/scope.names.lookup y=some .free:=l;rcases l with l | l;{exact IW l};{exact absurd rfl (S.nofree _ (ip l))}};{exact eR (x.above y c (ip h))}
 . have D:i<o.length:=by unfold start at g;by_cases D:i<o.length;{exact D};{rw[dt (by simpa using D)]at g;rw[List.getElem?_replicate]at g;split at g<;>cases g}
   have J:o[i]? =some v:=by
    unfold start at g;rw[x9 (by simpa using D),y8]at g
    cases e:o[i]? with
    | none=>rw[e]at g;cases g
    | some a=>rw[e]at g;cases g;rfl
   obtain⟨u,I,O⟩:=r.get J;have t:ps[i]? =some y:=by rw[<-S.pre,List.getElem?_take_of_lt %[|0]];exact C
   have B:ps.Nodup:=by rw[<-S.pre];exact S.nd.sublist (kS _ _)
   refine%[u,O|?_];rcases S.par y (y4 t)with k | k;{exact .inl %[k|Dm B t I k]};{obtain⟨c,e⟩:=IW (n:=%[|28]) k;refine .inr %[.inl k,c,e|?_];have q:=x.cell y c e;rw[Dv B t I (by show scope.names.lookup y≠_;rw[k];decide)]at q;exact q}
 {exact j.hok.fresh (eR (x.above y c (ip h)))};{unfold start;show _=N.length;rw[x8,y7,nS];omega}
def adJ{K}
 (lk:K.lookup f=some %[oc,od,.func (PySem.W.fnOf name a d g scope X Y p Z U c ct)|M])(F:PySem.W.codeIn K c a=true)(S:FnScope N ps scope)
 (D:∀h H Q E,sp h H Q E->h.length=ps.length)
 (j:∀(A:ah0)(outer:List Env)(s:af3)(H:Hp)(h:List V)(Q:VK)(E:XK),Room k (A.deeper (envOfC a scope s.heap.objs.size f c))->sp h H Q E->
  ∃t,PSs (qU CX P w K mg base N a scope f c A outer s H E) g t/\t {nx:=λ _ H'=>Q .non H',rt:=Q} (start N h) H):
 FnOk P w K mg base CX (k+1) f (PySem.W.fnOf name a d g scope X Y p Z U c ct) ps sp:=by
 refine%[D|λ A outer s H W us h Q E G z hb r C=>?_];have hl:=D _ _ _ _ C;have T:K.In s.heap:=z.mod.kin.keeps λ b o e=>(z.bs b o e).1;have L:s.heap.NoLimit:=z.mod.nolimit.keeps λ b o e=>(z.bs b o e).1;have l:∀y∈ps.zip us,scope.names.lookup y.1=some .local\/(scope.names.lookup y.1=%[|12]/\((cellsFrom %[|28] scope.names []).lookup y.1).isSome=true):=λ⟨n,v⟩ hy=>by rcases S.par n (List.of_mem_zip hy).1 with q | q;{exact .inl q};{exact .inr %[q|PySem.W.cellsFrom_some _ _ _ (.inl q)]}
 refine codeAny_call_function G.depth (T _ _ lk) rfl S.co S.gen rfl (PySem.W.codeRec_of T F) (hb _ _ _ _ ?_);refine wpAny_newFunctionEnv_cells S.kind l λ aa he s1 x=>?_;subst he;refine%[L.keeps x.toInCall.keep|codeAny_func ?_];obtain⟨t,ht,hq⟩:=j A outer s H h Q E (G.deeper _) C;have I:Inv (qU CX P w K mg base N a scope f c A outer s H E) [] (start N h) H s1:=Uj S G.hd z hl r x;refine gS (ht [] s1 (start N h) H _ I hq) (λ fl R m=>?_) λ e R m=>m;have B:∀{i:St}{H':Hp}{v:V}{u:Value},Inv (qU CX P w K mg base N a scope f c A outer s H E) [] i H' R->RelV v u->Q v H'->CE outer P w H s Q u R:=
  λ{i H' v u} J O q=>%[v,H',J.os,J.bare,J.base,J.hok,O|q]
 cases fl with
 | ret u=>obtain⟨v,i,H',J,O,q⟩:=m;exact B J O q
 | next=>obtain⟨i,H',J,q⟩:=m;exact B (v:=V.non) (u:=Value.none) J rfl q
 | brk=>obtain⟨_,_,_,q⟩:=m;exact False.elim q
 | cont=>obtain⟨_,_,_,q⟩:=m;exact False.elim q
section
variable{X:Cx}{x:Str}{p pos:Pos}{e:Expr}{es:List Expr}{t:TA}{id T:String}{r:List V -> Hp -> VK -> Prop}
def tCB(r:List V->Hp->VK->Prop)(t:TA):TE:=λ c H Q=>t c H λ b a=>r b a Q
def Xc(g:jG X (.builtin id) r)(j:Gl X x)(k:X.mg x=none)(m:bootBuiltins x=some (.builtin id))(f:PA X (e::es) t)(l:x≠"__name__":=by decide)(b:%[|67]:=by decide)
 (i:%[|90]:=by rfl)(c:(backTo pos (starEach es X.env)).any (·.1)=false:=by rfl):PE X (.Call (.Name x p) (e::es) [] pos) (tCB r t):=by intro a s d H Q I h;refine gu (cV I j k m ?_ l b);exact i0 (thn (f pos a s d H _ I h) λ o n ⟨vs,H1,I1,r1,q1⟩=>g a n d H1 vs o Q I1 r1 q1) i c
end
end L2
namespace HT
open PySem PyProof.Rows
section
variable{prog:Program}{w:World}{A:Around}{E:%[|26]}{s:Shared}
def cat_tup(x:IsTup s.heap t c.toArray)(v:IsTup s.heap b ws.toArray)(q:c≠[])
 (h1:ws=[]->Q (.ref t) s)(h2:ws≠[]->Q %[|8] {s with heap:=s.heap.push {cls:=%[|9],data:=.seq (c++ws).toArray}})
 (hsz:c.length+ws.length<=sizeLine):wpAny %[|4] A (binaryOp .Add (.ref t) (.ref b)) Q E s:=by
 obtain⟨⟨cls,m,data,u⟩,i,o,n,p⟩:=id x;obtain⟨⟨l,d,k,h⟩,a,f,r,g⟩:=id v;simp only at o p f g;subst o p f g;have e:c.toArray++ws.toArray=(c++ws).toArray:=by simp
 by_cases j:ws=[]
 . exact oq %[_,i|rfl] %[_,a|rfl] noFill_tuple_add seq_tuple_add nv n3 (mw _ _)
    (tuple_addW1 t b c.toArray ws.toArray n r m d u h (by simpa using q) (by simp[j])) %[i,a|h1 j]
 . refine oq %[_,i|rfl] %[_,a|rfl] noFill_tuple_add seq_tuple_add nv n3 (mw _ _)
    (tuple_addW2 t b c.toArray ws.toArray n r m d u h (by simpa using q) (by simpa using j) (by rw[x5,x5];exact hsz)) %[i,a|?_];rw[e];exact h2 j
def sIx(n d:Nat):Option Int->Nat
 | none=>d
 | some v=>if v<0 then(v+(n:Int)).toNat else min v.toNat n
def sIx_none(n d:Nat):sIx n d none=d:=rfl
def sIx_nat(n d k:Nat):sIx n d (some (k:Int))=min k n:=by show(if(k:Int)<0 then((k:Int)+(n:Int)).toNat else min (k:Int).toNat n)=min k n;rw[c8 %[|0],f7]
def aaY(n d:Nat)(b:d<=n)(o:ag3):sIx n d o<=n:=by
 cases o with
 | none=>exact b
 | some v=>show(if v<0 then(v+(n:Int)).toNat else min v.toNat n)<=n;by_cases a:v<0;{rw[ci a];omega};{rw[c8 a];exact Nat.min_le_right _ _}
def Nz(v:Int)(n d:Nat):(if v<0 then max (v+(n:Int)) 0 else min v (n:Int))=((sIx n d (some v):Nat):Int):=by show(if v<0 then max (v+(n:Int)) 0 else min v (n:Int))=(((if v<0 then(v+(n:Int)).toNat else min v.toNat n):Nat):Int);by_cases a:v<0;{simp only[ci a];omega};{simp only[c8 a];omega}
def PP(lo hi:ag3)(n:Nat):Builtin.Slice.sliceAdjust lo hi 1 (n:Int)=(((sIx n 0 lo:Nat):Int),((sIx n n hi:Nat):Int)):=by
 have a:¬((1:Int)<0):=%[|0]
 unfold Builtin.Slice.sliceAdjust;simp only[a,en];refine lI ?_ ?_
 . cases lo with
   | none=>rfl
   | some v=>exact Nz v n 0
 . cases hi with
   | none=>rfl
   | some v=>exact Nz v n n
def PX(i j:Nat):Builtin.Slice.slicePlaces (i:Int) (j:Int) 1=j-i:=by
 unfold Builtin.Slice.slicePlaces;have a:(1:Int)>0:=%[|0]
 simp only[a,h9,Int.ediv_one];split<;>omega
def yf(p:IsPart v o)(h:Q o s):wpAny %[|4] A (Builtin.Slice.slicePartIndex v) Q E s:=by
 cases p with
 | none=>exact slicePart_none h
 | int i t=>exact slicePart_int h
def sliceApplied_gen{lo hi}{Q:Int×Int×Nat->Shared->Prop}(hs:s.heap.IsSliceOf c vl vu .none)(pl:IsPart vl lo)(e:IsPart vu hi)
 (h:Q (((sIx n 0 lo:Nat):Int),1,sIx n n hi-sIx n 0 lo) s):wpAny %[|4] A (Builtin.Slice.sliceApplied (.ref c) (pure (n:Int))) Q E s:=by obtain⟨f,b,d,a⟩:=id hs;unfold Builtin.Slice.sliceApplied Builtin.Slice.sliceFields;refine b0 (b0 (fA b a (x:=vl) rfl (b0 (fA b a (x:=vu) rfl (b0 (fA b a (x:=.none) rfl (b9 ?_)))))));refine b0 (slicePart_none ?_);show wpAny _ _ (if((1:Int)==0)=true then _ else _) _ _ s;rw[c8 %[|1]];refine b0 (yf pl (b0 (yf e (b0 (b9 ?_)))));show wpAny _ _ (match Builtin.Slice.sliceAdjust lo hi 1 (n:Int)with | (lo,hi)=>pure (lo,(1:Int),Builtin.Slice.slicePlaces lo hi 1)) _ _ s;rw[PP lo hi n];show wpAny _ _ (pure (((sIx n 0 lo:Nat):Int),(1:Int),Builtin.Slice.slicePlaces ((sIx n 0 lo:Nat):Int) ((sIx n n hi:Nat):Int) 1)) _ _ s;rw[PX];exact b9 h
def Wz(xs:ag1)(i k:Nat):((List.range k).filterMap λ(m:Nat)=>xs[((i:Int)+(m:Int)*1).toNat]?).toArray=((xs.toList.drop i).take k).toArray:=by
 have e:(λ(m:Nat)=>xs[((i:Int)+(m:Int)*1).toNat]?)=λ m=>xs[i+m]?:=by
  funext m;have:((i:Int)+(m:Int)*1).toNat=i+m:=%[|0]
  rw[this]
 rw[e];have:=pick_run xs i k;rw[List.filterMap_map]at this;have a:((λ x=>xs[x]?) ∘ λ x=>i+x)=λ m=>xs[i+m]?:=rfl;rw[a]at this;rw[this]
def getItem_tuple_cut{lo hi}(b:IsTup s.heap t items)(hs:s.heap.IsSliceOf g vl vu .none)(pl:IsPart vl lo)(k:IsPart vu hi)
 (hw:¬(%[|68]=0/\sIx items.size items.size hi=items.size))
 (h:Q %[|8] {s with heap:=s.heap.push {cls:=%[|9],data:=.seq ((items.toList.drop %[|68]).take (sIx items.size items.size hi-%[|68])).toArray}})
 (hsz:items.size<=sizeLine):wpAny %[|4] A (getItem (.ref t) (.ref g)) Q E s:=by
 have a:sizeOk (.seq ((items.toList.drop %[|68]).take (sIx items.size items.size hi-%[|68])).toArray):=by show((items.toList.drop %[|68]).take (sIx items.size items.size hi-%[|68])).toArray.size<=sizeLine;rw[x5,ej,nK,e7];omega
 have l:sIx items.size items.size hi<=items.size:=aaY _ _ (y9 _) hi;obtain⟨j,f,d,i⟩:=id hs;have c:s.TypeIs (.ref g) "slice":=%[j,f|d];unfold getItem;try with_reducible refine eD ?_
 first | refine b0 (b9 ?_) | skip
 refine b0 (wpAny_sequenceKey b.typeIs %[|1] ?_);refine b0 (wpAny_callSpecial?_slot (name:=Str.ofString "__getitem__") b.typeIs gp
  (dQ gp b.typeIs entry_tuple_getitem ?_ (args_tuple_getitem _ _)));show wpAny _ _ (Builtin.Tuple.tupleItemsOf (.ref t)>>=_) _ _ s;refine b0 (tupleItemsOf_ b ?_);refine b0 (iq c ?_);rw[ci %[|1]];refine b0 (sliceApplied_gen hs pl k ?_);have e:¬((((%[|68]:Nat):Int)==0&&(1:Int)==1&&(sIx items.size items.size hi-%[|68])==items.size)=true):=by intro q;rw[fk,fk]at q;have n:((%[|68]:Nat):Int)=0:=ZU q.1.1;have o:sIx items.size items.size hi-%[|68]=items.size:=ZU q.2;exact hw %[|40]
 show wpAny _ _ (if(((%[|68]:Nat):Int)==0&&(1:Int)==1&&(sIx items.size items.size hi-%[|68])==items.size)=true then _ else _) _ _ s;rw[c8 e,Wz];first
  | exact b0 (m:=Builtin.Tuple.tupleExact _) (dV (b9 %[_,rfl|b9 h]) a)
  | exact b0 (m:=Builtin.Tuple.tupleExact _) (dV (b0 (b9 (b9 %[_,rfl|b9 h]))) a)
  | exact b0 (b0 (m:=Builtin.Tuple.tupleExact _) (dV (b9 (b9 %[_,rfl|b9 h])) a))
  | exact b0 (b0 (m:=Builtin.Tuple.tupleExact _) (dV (b9 %[_,rfl|b9 h]) a))
end
end HT
namespace L2
open PySem PySem.Spec PyProof.Rows
abbrev TO:=St->Hp->(Option Int->Hp->Prop)->Prop
def intsAre_of:∀{a:af5},Vals (ns.map V.int) a->IntsAre a ns:=by
 induction ns with
 | nil=>intro a r;rw[l9]at r;cases r;exact .nil
 | cons n ns b=>intro a r;rw[cw]at r;cases r with| cons c d=>obtain⟨t,e⟩:=c;subst e;exact .cons n t (b d)
section
variable{X:Cx}{e:Expr}{te:TE}{lo hi:Option Expr}{tl th:TO}{pos p2:Pos}
def SlR(X:Cx)(r:V->Option Int->Option Int->Hp->VK->Prop):Prop:=
 ∀ (a:af6)(s:af3)(g:St)(H:Hp)(x:V)(v e f:Value)(c b:ag3)(d:Addr)(Q:VK),Inv X a g H s->RelV x v->s.heap.IsSliceOf d e f .none->IsPart e c->IsPart f b->r x c b H Q->
   ∃T h,typeLookup (.type T) "__getitem__"=pure (some (.builtin h))/\s.TypeIs v T/\wpAny %[|5] X.A (getItem v (.ref d)) (EP X a g Q) X.xe s
def sZ(xs:List V)(lo hi:ag3):List V:=(xs.drop (HT.sIx xs.length 0 lo)).take (HT.sIx xs.length xs.length hi-HT.sIx xs.length 0 lo)
def vL(xs:List V)(lo hi:ag3):(sZ xs lo hi).length<=xs.length:=by unfold sZ;rw[ej,nK];omega
def adZ(K:af0):V->Option Int->Option Int->Hp->VK->Prop:=λ x d c H Q=>∃a b,x=.ref a/\SqT K H a b/\
 ¬(HT.sIx b.length 0 d=0/\HT.sIx b.length b.length c=b.length)/\∀p,H p=none->Q (.ref p) (upd H p (.tup (sZ b d c)))
def abj:SlR X (adZ X.K):=by
 intro k s B H x v z A e f y Q I u l p t h;obtain⟨a,d,rfl,n,m,q⟩:=h;cases u;obtain⟨g,r,i,j⟩:=I.tuple n;have c:g.toArray.size=d.length:=by rw[x5];exact r.length.symm
 refine%["tuple",_,gp.lookup,i.typeIs|?_];refine HT.getItem_tuple_cut i l p t (by rw[c];exact m) ?_ (by rw[c];exact j);rw[c];refine%[%[|8],_,I.laid (t':=s.toks) (o:=.tup (sZ d e f)) (λ b w q=>bX _ q) (y9 _) ?_,rfl|q _ (I.hok.fresh (y9 _))];exact%[d6 (vL d e f) j,_,(r.drop (HT.sIx d.length 0 e)).take (HT.sIx d.length d.length f-HT.sIx d.length 0 e)|IsTup.new _ _]
def acH(K:af0):R2:=λ x y H Q=>∃a b d c,x=.ref a/\y=.ref b/\SqT K H a d/\SqT K H b c/\d≠[]/\d.length+c.length<=sizeLine/\
 (c=[]->Q (.ref a) H)/\(c≠[]->∀p,H p=none->Q (.ref p) (upd H p (.tup (d++c))))
def Vals.nil_iff(r:Vals xs a):a=[]↔xs=[]:=by
 cases r with
 | nil=>simp
 | cons _ _=>simp
def ZC:OpR X (binaryOp .Add) (acH X.K):=by intro g s E H x y v u Q I t A h;obtain⟨a,b,B,C,rfl,rfl,i,j,k,e,p,r⟩:=h;cases t;cases A;obtain⟨l,d,m,_⟩:=I.tuple i;obtain⟨f,c,n,_⟩:=I.tuple j;refine HT.cat_tup m n (λ z=>k (d.nil_iff.mp z)) (λ z=>%[.ref a,H,I,rfl|p (c.nil_iff.mp z)]) (λ z=>?_) (by rw[<-d.length,<-c.length];exact e);refine%[%[|8],_,I.laid (t':=s.toks) (o:=.tup (B++C)) (λ b D q=>bX _ q) (y9 _) ?_,rfl|r (λ w=>z (c.nil_iff.mpr w)) _ (I.hok.fresh (y9 _))];exact%[by rw[x8];exact e,_,d.append c|IsTup.new _ _]
end
def ixN(n:Nat)(i:Int):Option Nat:=if 0<=i then(if i<n then some i.toNat else none)else if-(n:Int)<=i then some (i+n).toNat else none
def atI{α:Type}(xs:List α)(i:Int):Option α:=(ixN xs.length i).bind λ j=>xs[j]?
def M8(h:ixN n i=some j):seqIndex? i n=some j/\j<n/\ -(n:Int)<=i/\i<n:=by unfold ixN at h;by_cases b:0<=i;{rw[ci b]at h;by_cases a:i<n;{rw[ci a]at h;have e:i.toNat=j:=cq h;exact%[by rw[seqIndex_of b a,e],%[|0],%[|0]|a]};{rw[c8 a]at h;cases h}};{rw[c8 b]at h;by_cases a: -(n:Int)<=i;{rw[ci a]at h;have e:(i+n).toNat=j:=cq h;exact%[by rw[seqIndex_neg %[|0] a,e],%[|0],a|%[|0]]};{rw[c8 a]at h;cases h}}
def M5{v:a}(h:atI xs i=some v):∃j,seqIndex? i xs.length=some j/\xs[j]? =some v/\j<xs.length/\ -(xs.length:Int)<=i/\i<xs.length:=by
 unfold atI at h
 cases e:ixN xs.length i with
 | none=>rw[e]at h;cases h
 | some j=>rw[e]at h;obtain⟨b,c,d,f⟩:=M8 e;exact%[j,b,h,c,d|f]
def bW{j:Nat}{v:a}(h:xs[j]? =some v):atI xs (j:Int)=some v:=by
 have b:j<xs.length:=(z0.mp h).1;have e:ixN xs.length (j:Int)=some j:=by unfold ixN;rw[ci %[|0],ci %[|0]];simp
 unfold atI;rw[e];exact h
def Ng(b:Expr):Prop:=∀o i,subscripted b false o i=operate [o,i] (getItem o i)
def IxR(X:Cx)(r:R2):Prop:=
 ∀ (c a:Expr)(b:af6)(s:af3)(d:St)(H:Hp)(x y:V)(v u:Value)(Q:VK),Inv X b d H s->RelV x v->RelV y u->r x y H Q->
   subscripted a false v u=operate [v,u] (getItem v u)->wpAny %[|5] X.A (subscriptTail c a v u) (EP X b d Q) X.xe s
def MtR(X:Cx)(id:String)(r:V->List V->Hp->VK->Prop):Prop:=
 ∀ (a:af6)(s:af3)(d:St)(H:Hp)(x:V)(c:List V)(v:Value)(b:af5)(Q:VK),Inv X a d H s->RelV x v->Vals c b->r x c H Q->
   wpAny %[|5] X.A (call (.builtin id) (v::b)) (EP X a d Q) X.xe s
section
variable{X:Cx}{a b:Expr}{ta tb:TE}{pos:Pos}
def adQ(K:af0):R2:=λ x y H Q=>∃p a i v,x=.ref p/\y=.int i/\SqL K H p a/\atI a i=some v/\Q v H
def adT(K:af0):R2:=λ x y H Q=>∃p a i v,x=.ref p/\y=.int i/\SqT K H p a/\atI a i=some v/\Q v H
def Oh:IxR X (adQ X.K):=by
 intro l k a s A H x y v u Q I J K h o;obtain⟨p,P,i,z,rfl,rfl,G,E,q⟩:=h;cases J;obtain⟨t,rfl⟩:=K;obtain⟨e,r,f,O⟩:=I.list G;obtain⟨j,c,B,M,C,D⟩:=M5 E;obtain⟨w,m,g⟩:=r.get B;have F:=r.length;have N:=xm;have b:EP X a A Q w s:=%[z,H,I,g|q];by_cases n:0<=i
 . have d:i.toNat=j:=by rw[seqIndex_of n D]at c;exact cq c
   exact item_listR f.isList n %[|0] (by rw[d];simpa using m) b o
 . have d:(i+(e.toArray.size:Int)).toNat=j:=by rw[seqIndex_neg %[|0] C]at c;rw[x5,<-F];exact cq c
   exact subscriptTail_builtinR (x:=w) f.isList.typeIs slot_list_getitem.lookup
    (wpAny_getItem_list_neg (Q:=λ r L=>r=w/\EP X a A Q r L) f.isList %[|0] (by rw[x5]<;>omega) %[|0] (by rw[d];simpa using m) %[rfl|b]) o
def ab4:IxR X (adT X.K):=by
 intro e d a s g H x y v u Q I D E h B;obtain⟨p,N,i,z,rfl,rfl,A,n,q⟩:=h;cases D;obtain⟨t,rfl⟩:=E;obtain⟨C,r,f,M⟩:=I.tuple A;obtain⟨j,l,m,G,J,K⟩:=M5 n;obtain⟨w,k,c⟩:=r.get m;have o:=r.length;have L:=xm;have b:EP X a g Q w s:=%[z,H,I,c|q];exact subscriptTail_builtinR (x:=w) f.typeIs slot_tuple_getitem.lookup
  (getItem_tuple (j:=j) (Q:=λ r F=>r=w/\EP X a g Q r F) f %[|0] %[|0] (by rw[x5,<-o];exact l) (by simpa using k) %[rfl|b]) B
def QJ(its:af5)(n j:Nat)(u:Value):Obj.mapSeq (·.setIfInBounds j u) {cls:=%[|23],data:=.seq its.toArray n}={cls:=%[|23],data:=.seq (its.set j u).toArray n}:=by simp[Obj.mapSeq]
def Inv.lst{σ:St}(I:%[|3])(h:H p=some (.lst xs)):
 ∃(its:af5) (n:Nat),Vals xs its/\s.heap.get? p=some {cls:=%[|23],data:=.seq its.toArray n}/\xs.length<=sizeLine:=by obtain⟨z,its,n,r,e⟩:=I.hok p _ h;exact%[its,n,r,e|z]
def Inv.lstUpd{σ:St}{its its':af5}{n a}(I:%[|3])(h:H p=some (.lst xs))
 (g:s.heap.get? p=some {cls:=%[|23],data:=.seq its.toArray n})(c:f {cls:=%[|23],data:=.seq its.toArray n}={cls:=%[|23],data:=.seq its'.toArray a})(r:Vals ys its')(hz:ys.length<=sizeLine)(t:Nat):
 Inv X pins σ (upd H p (.lst ys)) {s with heap:=s.heap.update p f,toks:=t}:=by
 have e:(s.heap.update p f).get? p=some {cls:=%[|23],data:=.seq its'.toArray a}:=by rw[fx f g (by rw[c]<;>rfl),c]
 refine I.write (x:=p) (e:=p) (by rw[h];trivial) (.inl rfl) (λ b u d q=>(kR _ _ (i5 d)).trans q) %[_|e] ?_;exact%[hz,its',a,r|e]
def acY:V->V->V->Hp->(Hp->Prop)->Prop:=λ o i v H Q=>∃p a k j,o=.ref p/\i=.int k/\H p=some (.lst a)/\ixN a.length k=some j/\Q (upd H p (.lst (a.set j v)))
def set_list:aed X acY:=by
 intro b s E H o i v K J u Q I B A C h;obtain⟨p,D,k,j,rfl,rfl,x,y,q⟩:=h;cases B;obtain⟨t,rfl⟩:=A;obtain⟨a,n,r,f,z⟩:=I.lst x;obtain⟨c,F,m,w⟩:=M8 y;have e:=r.length;have G:=xm;have g:Inv X b E (upd H p (.lst (D.set j v))) {s with heap:=s.heap.update p (Obj.mapSeq (·.setIfInBounds j u))}:=
  I.lstUpd x f (QJ a n j u) (r.set C j) (by rw[List.length_set];exact z) s.toks;by_cases l:0<=k
 . have d:k.toNat=j:=by rw[seqIndex_of l w]at c;exact cq c
   exact PySem.W.ki_setAt f l %[|0] (by rw[x5,<-e];exact w) (by rw[d];exact%[_,g|q])
 . have d:(k+(a.toArray.size:Int)).toNat=j:=by rw[seqIndex_neg %[|0] m]at c;rw[x5,<-e];exact cq c
   exact PySem.W.ki_setBack f %[|0] (by rw[x5,<-e];exact m) %[|0] (by rw[d];exact%[_,g|q])
def HF(lo hi:ag3)(n:Nat):(sliceBounds lo hi none n).1=((HT.sIx n 0 lo:Nat):Int)/\(sliceBounds lo hi none n).2.1=((HT.sIx n n hi:Nat):Int)/\(sliceBounds lo hi none n).2.2=1:=by
 refine%[?_,?_|rfl]
 . cases lo with
   | none=>simp[sliceBounds,HT.sIx]
   | some i=>simp only[sliceBounds,HT.sIx,Option.getD_none,show(1:Int)>0 by decide,h9];by_cases h:i<0;{simp only[h,h9]<;>omega};{simp only[h,en]<;>omega}
 . cases hi with
   | none=>simp[sliceBounds,HT.sIx]
   | some i=>simp only[sliceBounds,HT.sIx,Option.getD_none,show(1:Int)>0 by decide,h9];by_cases h:i<0;{simp only[h,h9]<;>omega};{simp only[h,en]<;>omega}
def Fb(its:af5)(lo hi:ag3):slicePick its.toArray lo hi none=((its.drop (HT.sIx its.length 0 lo)).take (HT.sIx its.length its.length hi-HT.sIx its.length 0 lo)).toArray:=by obtain⟨a,b,c⟩:=HF lo hi its.toArray.size;unfold slicePick;rw[a,b,c];simp only[sliceRange_one,pick_run,x5]<;>rfl
def adO(K:af0):V->Option Int->Option Int->Hp->VK->Prop:=λ x d c H Q=>∃a b,x=.ref a/\SqL K H a b/\∀p,H p=none->Q (.ref p) (upd H p (.lst (sZ b d c)))
def Nu:SlR X (adO X.K):=by intro i s A H x v y z e f w Q I t j n p h;obtain⟨a,c,rfl,k,q⟩:=h;cases t;obtain⟨m,r,g,l⟩:=I.list k;have d:=r.length;refine%["list",_,slot_list_getitem.lookup,g.isList.typeIs|?_];refine wpAny_getItem_list_slice g.isList j n p .none (by simp) ?_ (by rw[x5]<;>omega);rw[Fb,<-d];refine%[%[|8],_,I.laid (t':=s.toks) (o:=.lst (sZ c e f)) (λ b u q=>bX _ q) (y9 _) ?_,rfl|q _ (I.hok.fresh (y9 _))];exact%[d6 (vL c e f) l,_,0,(r.drop (HT.sIx c.length 0 e)).take (HT.sIx c.length c.length f-HT.sIx c.length 0 e)|cb _ rfl]
def jX:jG X (.builtin "len") (λ xs H Q=>∃p ys,xs=[.ref p]/\(SqL X.K H p ys\/SqT X.K H p ys)/\Q (.int ys.length) H):=by intro f s l H xs k Q I r h;obtain⟨p,ys,rfl,b,q⟩:=h;obtain⟨u,rfl,i⟩:=vals1 r;cases i;have j:=xm;rcases b with b | b;{obtain⟨c,e,d,g⟩:=I.list b;have a:=e.length;exact Calls.call_len_list d.isList (by simp only[x5]<;>omega) %[.int ys.length,H,I.tok _,%[s.toks+1|by rw[x5,a]]|q]};{obtain⟨c,e,d,g⟩:=I.tuple b;have a:=e.length;exact len_tuple d (by simp only[x5]<;>omega) %[.int ys.length,H,I.tok _,%[s.toks+1|by rw[x5,a]]|q]}
def pX:jG X %[|9] (λ xs H Q=>∃p ys,xs=[.ref p]/\((SqL X.K H p ys/\∀l,H l=none->Q (.ref l) (upd H l (.tup ys)))\/(SqT X.K H p ys/\Q (.ref p) H))):=by
 intro a s n H xs x Q I r h;obtain⟨p,ys,rfl,h⟩:=h;obtain⟨u,rfl,w⟩:=vals1 r;cases w;rcases h with⟨f,q⟩ | ⟨f,q⟩
 . obtain⟨c,i,g,m⟩:=I.list f;have k:=i.length;refine call_tuple_list g.isList (λ d v=>?_) (by simp only[x5]<;>omega);have j:Inv X a n H {s with heap:=d}:=I.kept (t':=s.toks) v;have t:Inv X a n (upd H d.objs.size (.tup ys)) {s with heap:=d.push {cls:=%[|9],data:=.seq c.toArray}}:=
    j.laid (t':=s.toks) (λ b o e=>bX _ e) (y9 _) (show aU X.prog X.w _ _ _ (.tup ys)from%[m,c,i|IsTup.new _ _]);exact%[.ref d.objs.size,_,t,rfl|q _ (j.hok.fresh (y9 _))]
 {obtain⟨c,i,g,m⟩:=I.tuple f;exact call_tuple_same g %[.ref p,H,I,rfl|q]}
def tyV(K:af0)(T:String)(x:V)(H:Hp):Prop:=match x with
 | .str _=>T="str"
 | .int _=>T="int"
 | .ref p=>(T="list"/\∃b,SqL K H p b)\/(T="tuple"/\∃o,K.lookup p=some o/\o.cls=%[|9]/\o.dict=none)\/
  (T="dict"/\((∃a,H p=some (.dK a))\/∃a,H p=some (.dT a)))\/(T="set"/\∃S n,H p=some (.set S n))
 | _=>False
def acw{σ:St}(I:%[|3])(r:RelV x v)(d:tyV X.K T x H):
 s.TypeIs v T/\∀a,v=.ref a->∃ob,s.heap.get? a=some ob/\ob.dict=none:=by
 cases x with
 | str z=>obtain⟨t,rfl⟩:=r;cases (show T="str" from d);exact%[typeIs_str s z t|λ _ e=>nomatch e]
 | int i=>obtain⟨t,rfl⟩:=r;cases (show T="int" from d);exact%[typeIs_int s i t|λ _ e=>nomatch e]
 | ref p=>
   cases r;rcases d with⟨rfl,q,l⟩ | ⟨rfl,o,b,k,g⟩ | ⟨rfl,b⟩ | ⟨rfl,S,n,b⟩;{obtain⟨m,_,j,_⟩:=I.list l;refine%[j.isList.typeIs|λ a e=>?_];cases e;obtain⟨o,n,e,c,g,_⟩:=j;exact%[o,e|g]};{refine%[%[o,I.kIn p o b|k]|λ a e=>?_];cases e;exact%[o,I.kIn _ o b|g]}
   . have z:∃o,s.heap.get? p=some o/\o.ExactDict:=by rcases b with⟨h,b⟩ | ⟨h,b⟩;{obtain⟨_,_,_,_,o,_,_,e,ex,_⟩:=I.hok p _ b;exact%[o,e|ex]};{obtain⟨_,_,_,_,o,_,_,e,ex,_⟩:=I.hok p _ b;exact%[o,e|ex]}
     obtain⟨o,e,ex⟩:=z;refine%[%[o,e|ex.1]|λ a f=>?_];cases f;exact%[o,e|ex.2.1]
   {obtain⟨o,_,_,_,e,ex,_⟩:=I.hok p _ b;refine%[%[o,e|ex.1]|λ a f=>?_];cases f;exact%[o,e|ex.2.1]}
 | _=>exact False.elim d
def tBM(K:af0)(T:String)(r:V->List V->Hp->VK->Prop)(to:TE)(t:TA):TE:=λ b H Q=>to b H λ x a=>tyV K T x a/\t b a λ d c=>r x d c Q
variable{o e:Expr}{es:List Expr}{to:TE}{t:TA}{name:Str}{apos cpos:Pos}{T id:String}{r:V -> List V -> Hp -> VK -> Prop}
def X4(q:PlainAttrs T)(slot:Slot T name id)(g:typeOf (.builtin id)=pure (.type "method_descriptor"))(n:MtR X id r)(p:PE X o to)(m:PA X (e::es) t)
 (c:attributeBase o name X.env (eval o X.env)=eval o X.env:=by rfl)
 (f:((backTo cpos (starEach (e::es) X.env)).all (λ x=>!x.1)&&(backToKw cpos (keywordEach [] X.env)).all (λ x=>x.1.isSome)
  &&decide ((e::es).length+([]:List Keyword).length+(if([]:List Keyword).isEmpty then 0 else 1)<30))=true:=by rfl)
 (d:(apos.endLine==cpos.line)=true:=by rfl)(hs:%[|90]:=by rfl)(b:(backTo cpos (starEach es X.env)).any (·.1)=false:=by rfl):
 PE X (.Call (.Attribute o name apos) (e::es) [] cpos) (tBM X.K T r to t):=by intro a s i H Q I h;refine wpAny_Call_method_late c f d rfl (thn (p a s i H _ I h) λ v u ⟨x,H1,I1,r1,ty,q1⟩=>?_);obtain⟨k,l⟩:=acw I1 r1 ty;refine%[T,id,q,slot,g,k,l|?_];have j:=m cpos a u i H1 _ I1 q1;rw[hs]at j ⊢;refine Calls.callWith_builtin (by show(false||(backTo cpos (starEach es X.env)).any (·.1))=false;rw[b]<;>rfl) (Calls.evalArgs_plain ?_);exact thn j λ y w ⟨vs,H2,I2,r2,q2⟩=>n a w i H2 x vs v y Q I2 r1 r2 q2
end
def MtM(X:Cx)(id:String)(r:V->List V->Hp->VK->Prop):Prop:=
 ∀ (a:af6)(s:af3)(d:St)(H:Hp)(x:V)(c:List V)(v:Value)(b:af5)(Q:VK),Inv X a d H s->RelV x v->Vals c b->r x c H Q->
   wpAny %[|5] X.A (call (.builtin id) (v::b)) (EP X a d Q) X.xe s
def Vals.one:∀{x:V}{a:af5},Vals [x] a->∃u,a=[u]/\RelV x u:=by intro _ _ h;cases h with| cons r t=>cases t;exact%[_,rfl|r]
theorem Vals.rep(h:Vals xs a):∀k:Nat,Vals (List.replicate k xs).flatten (List.replicate k a).flatten
 | 0=>.nil
 | k+1=>by rw[gl,gl,k9,k9];exact Vals.append h (Vals.rep h k)
theorem foldl_rep(its:af5):∀(k:Nat)(acc:af5),
 List.foldl (λ x1 x2=>x1++x2) acc.toArray (List.replicate k its.toArray)=(acc++(List.replicate k its).flatten).toArray
 | 0,acc=>by simp
 | k+1,acc=>by
   have e:acc.toArray++its.toArray=(acc++its).toArray:=by simp
   have a:(acc++its)++(List.replicate k its).flatten=acc++(List.replicate (k+1) its).flatten:=by rw[gl,k9,ck]
   rw[<-a,<-foldl_rep its k (acc++its),<-e,gl,List.foldl_cons]
section
variable{X:Cx}{pins:List (Addr × Obj)}{σ:St}{H:Hp}{s:Shared}{l b:Addr}{xs ys zs:List V}
def Inv.lset{its its':af5}(I:%[|3])(a:H l=some (.lst xs))
 (e:s.heap.get? l=some {cls:=%[|23],data:=.seq its.toArray n})(c:f its.toArray=its'.toArray)(g:Vals ys its')(hz:ys.length<=sizeLine):
 Inv X pins σ (upd H l (.lst ys)) {s with heap:=s.heap.update l (Obj.mapSeq f),toks:=t'}:=by have q:=PySem.IsL.update e f;rw[c]at q;refine I.write (x:=l) (e:=l) (by rw[a];exact trivial) (.inl rfl) (λ h u b d=>(kR s.heap (Obj.mapSeq f) (i5 b)).trans d) %[_|q] ?_;exact%[hz,its',_,g|q]
def Inv.lnew(I:%[|3])(a:Vals ys its)(hz:ys.length<=sizeLine):
 Inv X pins σ (upd H s.heap.objs.size (.lst ys)) {s with heap:=s.heap.push {cls:=%[|23],data:=.seq its.toArray},toks:=t'}:=
 I.laid (λ _ _ q=>bX _ q) (y9 _) %[hz,its,0,a|cb _ rfl]
def Inv.fresh(I:%[|3]):H s.heap.objs.size=none:=I.hok.fresh (y9 _)
def Inv.lstM(I:%[|3])(a:H l=some (.lst xs)):xs.length<=sizeLine/\∃(its:af5) (n:Nat),Vals xs its/\xs.length=its.length/\s.heap.get? l=some {cls:=%[|23],data:=.seq its.toArray n}:=by obtain⟨z,its,n,r,e⟩:=I.hok l _ a;exact%[z,its,n,r,r.length|e]
end
section
variable{X:Cx}
def aar:V->List V->Hp->VK->Prop:=λ x b H Q=>∃l a y,x=.ref l/\b=[y]/\H l=some (.lst a)/\a.length<sizeLine/\Q .non (upd H l (.lst (a++[y])))
def Dg:MtM X "list.append" aar:=by intro c s p H x m v k Q I g f h;obtain⟨l,o,y,rfl,rfl,b,j,q⟩:=h;cases g;obtain⟨u,rfl,d⟩:=f.one;obtain⟨z,a,n,r,i,e⟩:=I.lstM b;refine kN F.slot_list_append %[_,e|rfl] F.entry_list_append (F.args_list_append_2 _ _) (PySem.list_append l a.toArray n u (by rw[x5];omega)) %[e|?_];refine%[.non,_,I.lset (its':=a++[u]) b e (by simp) (r.append (.cons d .nil)) ?_,rfl|q];rw[x8,i6];omega
def len_rep{b:Type}(xs:List b)(k:Nat):(List.replicate k xs).flatten.length=k*xs.length:=by
 induction k with
 | zero=>simp
 | succ k a=>rw[gl,k9,x8,a,mx,Nat.add_comm]
end
end L2
namespace Att
open PySem PySem.W PySem.Calls PyProof.Rows
def yF:∀(ns:af1)(c:af5),WellAll P h c (ns.map WData.int)->IntsAre c ns:=by
 intro ns
 induction ns with
 | nil=>intro c w;rw[l9]at w;cases w;exact .nil
 | cons n ns d=>intro c w;rw[cw]at w;cases w with| cons a b=>cases a;exact .cons _ _ (d _ b)
def Vf{l:OpenLaw}(t:l.most=some n)
 (b:l.row.toRowW.claim.pre args=true)(k:WellAll P h c args):
 ∃a vs ns,c=[Value.ref a]/\args=[WData.list (ns.map WData.int)]/\h.get? a=some {cls:=%[|23],data:=.seq vs.toArray}/\IntsAre vs ns/\ns.length<=n:=by
 have j:WShape.hasAll [] args [.list .int]=true:=(pre_splitW b).1;have m:l.pre.holds [] {args:=args}=true:=(pre_splitW b).2;obtain⟨d,r,rfl,o,p⟩:=hasAllW_cons j;obtain rfl:=hasAllW_nil p;obtain⟨y,rfl,s⟩:=hasW_list o;obtain⟨ns,rfl⟩:=items_int s;have f:ns.length<=n:=by
  unfold OpenLaw.pre at m;have g:(WTm.not (.lt (.lit (.int (n:Int))) (.len (.arg 0)))).holds [] {args:=[.list (ns.map .int)]}=true:=by have g:=(holds_andW m).1;rw[t]at g;exact g
  have i:=condW_of g (w_not (w_lt w_lit (w_len_list (w_arg rfl))));rw[y7]at i;refine Nat.le_of_not_lt λ q=>?_;have v:(n:Int)<((ns.length:Nat):Int):=%[|0]
  first
   | (rw[cc v]at i;exact absurd i %[|1])
   | (simp at i;omega)
 cases k with| cons w x=>cases x;cases w with| list u e=>exact%[_,_,ns,rfl,rfl,u,yF ns _ e|f]
def Tw(l:OpenLaw)(args:List WData):l.row.toRowW.claim.post args (.bool true) args=true:=
 postW_of (r:=l.row.toRowW) (X:=(true==true))
  (show WShape.has [] (.bool true) .bool=true by first | rfl | decide | simp[WShape.has,WShape.arms,WShape.armsAll])
  (show(WTm.eq .res (.lit (.bool true))).value [] {args:=args,res:=some (.bool true),after:=args}=some (.bool (true==true))from w_eq_bool (w_res rfl) w_lit) rfl
def attach_call{l:OpenLaw}
 (M:l.most=some n)(p:d.params.defaults=[])
 (call:∀(w:World)(s₀ b:af3)(mg u:af8)(fa:Addr)(o:Obj)(v cd e:Value)(a:Addr)(h:af5)(ns:af1),
  Ground q c [] x w s₀ mg u b.heap->y w b.heap->
  b.heap.get? fa=some o->o.data=.func (docDef d.name d.params d.body d.scope v cd e)->b.heap.CodeRec cd d.name->mg d.name=some (.ref fa)->
  b.heap.get? a=some {cls:=%[|23],data:=.seq h.toArray}->IntsAre h ns->ns.length<=n->b.gens=#[]->
  codeAny (model l.prog w) callerA (.call (.ref fa) %[[.ref a]|[]]) (λ r s'=>r=.ok (.ret (.bool true))/\OldK b.heap s'.heap/\s'.os=b.os/\AllBare s'.gens) b):
 WalkO q c x y l.row.toRowW d [] (λ f h=>PySem.call f h):=by intro w s₀ b mg u G Y fa o v cd e D Q N I m A s J z C R k B P t K;obtain rfl:D=.none:=Dflts.none A p;obtain rfl:Q=.none:=Dflts.noKw A;obtain⟨a,h,ns,rfl,rfl,j,g,i⟩:=Vf M k t;refine enter_call (l8 (call w s₀ b mg u fa o v cd e a h ns G Y N (fd_plain I) m s j g i J) λ r s' O=>?_);obtain⟨rfl,E,F,H⟩:=O;exact%[.inl %[.bool true,.bool true,[],rfl,λ _=>rfl,.bool true,Tw l _|λ _=>%[List.Pairwise.nil|λ _ L=>(nomatch L)]],E,F|H]
end Att
namespace L2
open PySem PySem.Spec PyProof.Rows
theorem jr:∀{a:af5}{ns:af1},IntsAre a ns->Vals (ns.map V.int) a
 | _,_,.nil=>.nil
 | _,_,.cons n t h=>.cons %[t|rfl] (jr h)
def Only(H:Hp):Prop:=∀b,H b=none\/∃o a,H b=some (.frz o (.lst a))
def Wy{K}
 (T:K.In c.heap)(C:c.heap.Ns mainGlobals mg)(f:c.heap.Ns builtinsNs R)(N:∀x:Str,x≠"__name__"->R x=bootBuiltins x)(B:c.heap.NoLimit)(hg:c.gens=#[])
 (J:c.heap.get? a=some {cls:=%[|23],data:=.seq l.toArray})(hi:IntsAre l ns)(Z:ns.length<=sizeLine)(hr:Room k callerA)
 (F:∀base:Heap,K.In base->base.Ns mainGlobals mg->FnOk P w K mg base CX k fa W [x] sp)(j:∀(s:af3)(u:Value),BindsTo s W %[[u]|[]] [(x,u)])
 (Q:∀H:Hp,Only H->SqL K H a (ns.map V.int)->sp [.ref a] H (λ v _=>v=.bl true) λ _ _ _=>False)
 (M:∀H e s',CX [] H c (λ _ _ _=>False) e s'->False):
 codeAny (model P w) callerA (.call (.ref fa) %[[.ref a]|[]]) (λ r s'=>r=.ok (.ret (.bool true))/\OldK c.heap s'.heap/\s'.os=c.os/\AllBare s'.gens) c:=by
 have rv:=jr hi;have G:=hi.length;have i:∀H:Hp,Only H->SqL K H a (ns.map V.int)->HOk P w H c.heap->(∀b,H b≠none->b=a)->(H a≠none->K.lookup a=none)->
  codeAny (model P w) callerA (.call (.ref fa) %[[.ref a]|[]]) (λ r s'=>r=.ok (.ret (.bool true))/\OldK c.heap s'.heap/\s'.os=c.os/\AllBare s'.gens) c:=by
  intro H Y hS D X hK;have iU:∀{b:Addr}{o:Obj},c.heap.get? b=some o->H b=none->(pJ c.heap H).get? b=some o:=λ e n=>Xu e n;have S:∀{b:Addr}{o:Obj}{y:Array DictEntry}{t:Nat},c.heap.get? b=some o->o.data=.dict y t->H b=none:=λ{b o y t} e d=>by
   cases q:H b with
   | none=>rfl
   | some u=>have L:b=a:=X b (by rw[q];simp);subst L;rw[J]at e;cases e;have d':Data.seq l.toArray _=Data.dict y t:=d;cases d'
  have g:∀{b:Addr}{m:af8},c.heap.Ns b m->(pJ c.heap H).Ns b m:=λ{b m} ⟨o,y,t,e,d,r⟩=>%[o,y,t,iU e (S e d),d|r];have A:K.In (pJ c.heap H):=λ b o e=>iU (T b o e) (by
   cases q:H b with
   | none=>rfl
   | some u=>have L:b=a:=X b (by rw[q];simp);subst L;rw[hK (by rw[q];simp)]at e;cases e);have hM:Mod K mg (pJ c.heap H):=%[A,g C,%[R,g f|N]|let ⟨mc,h1,h2⟩:=B;%[mc,g h1|h2]];have e0:Env0 P w K mg (pJ c.heap H) callerA [] c H:=%[rfl,hM,λ b o e=>ZZ e,mA (Ue _ _),trivial,λ b f=>absurd (show b∈([]:List Addr)from f) (by simp),D|.of_eq hg];refine l8 ((F _ A (g C)).run callerA [] c H %[[.ref a]|[]] [.ref a] [.ref a] _ _ hr e0 (j c (.ref a)) (.cons rfl .nil) (Q H Y hS)) λ r s' h=>?_
  cases r with
  | error e=>exact(M H e s' h).elim
  | ok fl =>
    cases fl with
    | next=>exact False.elim h
    | brk=>exact False.elim h
    | cont=>exact False.elim h
    | ret u=>
      obtain⟨v,H',os,p,un,E,r',q⟩:=h;have q':v=.bl true:=q;subst q';obtain rfl:u=Value.bool true:=r';refine%[rfl,OldK.of_keep λ b o e=>?_,os|p]
      cases q:H b with
      | none=>exact un.keep b o e q (by intro z;exact absurd (show b∈([]:List Addr)from z) (by simp)) (by simp)
      | some u=>rcases Y b with z | ⟨ob,xs,z⟩;{rw[q]at z;cases z};{have z2:=un.frzs b ob _ z;obtain⟨U,_⟩:=D b _ z;obtain⟨e2,_⟩:=E b _ z2;rw[e]at U;cases U;exact e2}
 cases O:K.lookup a with
 | some o=>have e:=T a o O;rw[J]at e;cases e;refine i (λ _=>none) (λ _=>.inl rfl) (.inr %[_,l.toArray,_,O,rfl,rfl,rfl,by rw[x5,G];exact Z|by simpa using rv]) (λ b u z=>by have I:(none:Option HO)=some u:=z;cases I) (λ b z=>absurd rfl z) λ z=>absurd rfl z
 | none=>refine i (λ b=>if b=a then some (.frz {cls:=%[|23],data:=.seq l.toArray} (.lst (ns.map V.int)))else none) (λ b=>?_) (.inl (.inr %[{cls:=%[|23],data:=.seq l.toArray}|ci rfl])) (λ b u z=>?_) (λ b z=>?_) λ _=>O;{by_cases f:b=a;{exact .inr %[_,_|ci f]};{exact .inl (c8 f)}};{by_cases f:b=a;{have I:=(ci f).symm.trans z;cases I;subst f;exact%[J,by rw[y7];exact Z,l,_,rv|J]};{have I:=(c8 f).symm.trans z;cases I}};{by_cases f:b=a;{exact f};{exact absurd (c8 f) z}}
abbrev KOf{K:af0}{h:Heap}(_:K.In h):PySem.W.Frag:=K
def walk_of{l:PySem.W.OpenLaw}{K:Params->PySem.W.Frag}{CX:World->CXT}{sp:World->Sp}
 (P:l.most=some n)(t:n<=sizeLine)(p:d.params.defaults=[])(Q:Room k callerA)
 (L:∀(w:World)(h:Heap),A w h->(K w.params).In h)
 (F :∀(w:World)(mg:af8)(fa:Addr)(h:Heap),(K w.params).In h->h.Ns mainGlobals mg->mg d.name=some (.ref fa)->
  ∃ fd:FuncData,(∀(s:af3)(u:Value),BindsTo s fd %[[u]|[]] [(x,u)])/\
    ∀base:Heap,(K w.params).In base->base.Ns mainGlobals mg->FnOk l.prog w (K w.params) mg base (CX w) k fa fd [x] (sp w))
 (y:∀(w:World)(H:Hp)(a:Addr)(ns:af1),ns.length<=n->Only H->SqL (K w.params) H a (ns.map V.int)->sp w [.ref a] H (λ v _=>v=.bl true) λ _ _ _=>False)
 (m:∀(w:World)(H:Hp)(s:af3)(e:Value)(s':af3),CX w [] H s (λ _ _ _=>False) e s'->False):
 PySem.W.WalkO q g C A l.row.toRowW d [] (λ f vs=>PySem.call f vs):=by refine Att.attach_call P p λ w B j mg U fa o W R D a vs ns G Y T S N r i c b O=>?_;have z:=L w _ Y;obtain⟨fd,M,E⟩:=F w mg fa _ z G.T.g r;exact Wy z G.T.g G.T.b G.T.builtins G.T.nolimit O i c (d6 b t) Q E M (λ H I J=>y w H a ns b I J) λ H e s'=>m w H j e s'
def iK(s:Stmt):Arguments:=match s with
 | .FunctionDef _ a _ _ _ _ _ _ _ _=>a
 | _=>{posonlyargs:=[],args:=[],vararg:=none,kwonlyargs:=[],kw_defaults:=[],kwarg:=none,defaults:=[]}
def dY(s:Stmt):List Stmt:=match s with
 | .FunctionDef _ _ b _ _ _ _ _ _ _=>b
 | _=>[]
def bj(s:Stmt):Scope:=match s with
 | .FunctionDef _ _ _ _ _ _ sc _ _ _=>sc
 | _=>{kind:=.function,names:=[],isGenerator:=false,isCoroutine:=false}
abbrev CX0:CXT:=λ _ _ _ _ _ _=>False
abbrev E0:XK:=λ _ _ _=>False
def adL:R6 CX0 X E0:=λ _ _ _ _ _ _ _ h=>h.elim
structure Fun(K:af0)(x qual:Str)(st:Stmt)(f:Addr)(fd:FuncData):Prop where
 ex:∃(oc:Value) (od:ag8) (kV doc pm:Value) (an:ag8) (cdv ct:Value) (osl:ag5),
  fd=PySem.W.fnOf x qual (iK st) (dY st) (bj st) .none kV doc pm an cdv ct/\K.lookup f=some %[oc,od,.func fd|osl]/\PySem.W.codeIn K cdv qual=true
 kp:PySem.W.keepIn K (.ref f)=true
section
variable{P:Program}{w:World}{K:PySem.W.Frag}{mg:Str -> Option Value}{base:Heap}
def Fun.binds{st}(F:Fun K x a st f j)
 (h:∀(e c g:Value)(d:ag8)(b ct:Value)(i:af5),i.length=ps.length->bindArgs (PySem.W.fnOf x a (iK st) (dY st) (bj st) .none e c g d b ct) %[i|[]]=pure (ps.zip i)):Binds K j ps []:=by obtain⟨n,o,e,c,g,d,b,ct,l,rfl,m,k⟩:=F.ex;exact .all (h e c g d b ct)
def Rk{st}(l:K.lookup f=some %[j,od,.func (PySem.W.fnOf x a (iK st) (dY st) (bj st) .none h d i g b ct)|e])
 (c:PySem.W.codeIn K b a=true)(k:PySem.W.keepIn K (.ref f)=true):Fun K x a st f (PySem.W.fnOf x a (iK st) (dY st) (bj st) .none h d i g b ct):=%[%[j,od,h,d,i,g,b,ct,e,rfl,l|c]|k]
end
def fB(H H':Hp):Prop:=∀b o,H b=some o->H' b=some o
def fB.refl(H:Hp):fB H H:=λ _ _ h=>h
def acF(r:RelV (kV k) u):(eX P w).is k u=true:=by
 cases k with
 | inl i=>obtain⟨t,e⟩:=(show ∃t,u=Value.int i t from r);subst e;exact MJ P w i t
 | inr x=>obtain⟨t,e⟩:=(show ∃t,u=Value.str x t from r);subst e;exact K8 P w x t
theorem CT:∀{ks:List Key}{a:af5},Vals (ks.map kV) a->ItemsAre (eX P w) ks a
 | [],_,r=>by rw[l9]at r;cases r;exact .nil
 | k::ks,_,r=>by rw[cw]at r;cases r with| cons h t=>exact .cons (acF h) (CT t)
abbrev KT(H:Hp):List (List Key×V)->List (List Key×Addr×Value)->Prop:=Paired λ p q=>p.1=q.1/\H q.2.1=some (.tup (p.1.map kV))/\RelV p.2 q.2.2
section
variable{P:Program}{w:World}{H:Hp}{h:Heap}{a:Addr}
def Yg(ok:HOk P w H h)(e:Rd H a u):aU P w H h a u:=e.ok ok
def adt(ok:HOk P w H h)(e:Rd H a (.dK kvs)):kvs.length<=sizeLine/\%[|74]/\∃vs,KV kvs vs/\h.DictOf (eX P w) a vs:=
 show aU P w H h a (.dK kvs)from Yg ok e
def aa7(ok:HOk P w H h)(e:H a=some (.tup (ks.map kV))):(tupleKind (eX P w)).is h ks a:=by obtain⟨_,b,r,o,c,d,n,f⟩:=(show aU P w H h a (.tup (ks.map kV))from ok a _ e);exact%[o,b.toArray,n,c,d,f|by simpa using CT r]
def adb(ok:HOk P w H h)(e:Rd H a (.dT kvs)):kvs.length<=sizeLine/\%[|74]/\
 ∃xs,KT H kvs xs/\h.DictOfH (tupleKind (eX P w)) a xs:=by
 obtain⟨z,y,xs,r,o,f,d,g,i,j,k,n⟩:=(show aU P w H h a (.dT kvs)from Yg ok e);refine%[z,y,xs,r,o,f,d,g,i,j,k,λ x b=>?_|n];have c:∀{l:List (List Key×V)}{m:List (List Key×Addr×Value)},KT H l m->∀x∈m,(tupleKind (eX P w)).is h x.1 x.2.1:=by
  intro l m q
  induction q with
  | nil=>intro x b;exact nomatch b
  | @cons p q u v hq t s=>intro x b;rcases cK.mp b with e | b;{subst e;exact aa7 ok (by rw[<-hq.1];exact hq.2.1)};{exact s x b}
 exact c r x b
end
section
variable{X:Cx}{pins:List (Addr × Obj)}{σ:St}{H:Hp}{s:Shared}{a:Addr}{y v:V}{u r:Value}{o:Option V}{A:Around}{E:%[|26]}
def Inv.big(I:%[|3]):sysModules<s.heap.objs.size:=by have h:mainGlobals<s.heap.objs.size:=(I.mod.glob.keeps I.bk).lt;exact ot %[|1] h
def Bj(I:%[|3])(h:Mut (H a))(hs:Heap.SameBut a s.heap h')(g:∃q,h'.get? a=some q)(c:aU X.prog X.w (upd H a d) h' a d):
 Inv X pins σ (upd H a d) {s with heap:=h',toks:=t'}:=
 I.write (x:=a) (e:=a) h (.inl rfl) (λ b q f z=>(hs.2 b f).trans z) g c
end
def Xv(i:Expr):Prop:=∀b a,subscripted i false b a=operate [b,a] (getItem b a)
def Oz{T id}
 (l:typeLookup (.type T) "__getitem__"=pure (some (.builtin id)))(hs:Xv a)
 (h:wpAny %[|4] A (eval b env) (λ o s₁=>wpAny %[|4] A (eval a env) (λ i s₂=>s₂.TypeIs o T/\wpAny %[|4] A (getItem o i) Q E s₂) E s₁) E s):
 wpAny %[|4] A (eval (.Subscript b a j) env) Q E s:=by
 refine Subscript_ (gS h (λ o s₁ f=>gS f (λ i s₂ c=>?_) λ _ _ x=>x) λ _ _ x=>x);obtain⟨k,c⟩:=c;unfold subscriptTail;refine b0 ?_;rw[getitemInPython_of_ne k.not_modules];refine b0 (gv k l ?_);have e:wpAny %[|4] A (subscripted a false o i) (λ r d=>wpAny %[|4] A (letTemporaryGo b o r>>=λ _=>pure r) Q E d) E s₂:=by rw[hs o i];exact wpAny_operating (gS c (λ r d g=>b0 (wpAny_letTemporaryGo (b9 g))) λ _ _ x=>x)
 first
  | exact b9 (b0 e)
  | exact b0 (b9 (b0 e))
  | exact b0 e
def WF(h:Heap)(a:sysModules<h.objs.size):aU P w H (h.push %[|89]) h.objs.size (.dT []):=
 %[dk _,mh.mpr (i5 (cr a)),[],.nil,_,#[],0,cb _ rfl,%[rfl,rfl|rfl],rfl,rfl|g9]
structure M2(X:Cx)(o:Expr)(m:Str)(apos:Pos)(e f:Expr)(cpos:Pos):Prop where
 base:attributeBase o m X.env (eval o X.env)=eval o X.env
 few:((backTo cpos (starEach [e,f] X.env)).all (λ x=>!x.1)&&(backToKw cpos (keywordEach [] X.env)).all (λ x=>x.1.isSome)
  &&decide (([e,f]:List Expr).length+([]:List Keyword).length+(if([]:List Keyword).isEmpty then 0 else 1)<30))=true
 line:(apos.endLine==cpos.line)=true
 trees:backTo cpos (starEach [e,f] X.env)=[(false,eval e X.env),(false,eval f X.env)]
def IsD(H:Hp)(a:Addr):Prop:=(∃b,Rd H a (.dK b))\/∃b,Rd H a (.dT b)
def aa5{σ:St}(I:%[|3])(d:IsD H a):
 s.TypeIs (.ref a) "dict"/\(∀b,Value.ref a=.ref b->∃ob,s.heap.get? b=some ob/\ob.dict=none)/\%[|74]:=by rcases d with⟨h,e⟩ | ⟨h,e⟩;{obtain⟨_,g,i,_,c⟩:=adt I.hok e;refine%[c.typeIs,λ b q=>?_|g];cases q;obtain⟨ob,_,_,f,h2,_⟩:=c;exact%[ob,f|h2.2.1]};{obtain⟨_,g,j,_,c⟩:=adb I.hok e;refine%[c.typeIs,λ b q=>?_|g];cases q;obtain⟨ob,_,_,f,h2,_⟩:=c;exact%[ob,f|h2.2.1]}
end L2
set_option maxHeartbeats 4000000
namespace DL
open PySem PySem.Spec L2
open PyProof.Rows
variable{a p:Addr}{xs vs:List V}{O':Own}{H':Hp}{S:Store}
abbrev St:=L2.St
inductive D where
 | non | bl(b:Bool) | int(i:Int) | str(x:Str) | tup(ds:List D) | lst(ds:List D) | loc(k:Nat) | dic | dlo(k:Nat)
abbrev Store:=List (List D)
abbrev Gam:=List (Option D)
structure Own where
 A:List (Addr×Bool)
 B:List Addr
abbrev adr(A:List (Addr×Bool)):List Addr:=A.map Prod.fst
def dD{k:Nat}(h:A[k]? =some (a,q)):a∈adr A:=c9.mpr %[_,y4 h|rfl]
def cY(A N:List (Addr×Bool)):adr (A++N)=adr A++adr N:=da
abbrev Own.has(O:Own)(a:Addr):Prop:=a∈adr O.A\/a∈O.B
def Tp(K:af0)(O:Own)(H:Hp)(a:Addr)(xs:List V):Prop:=¬O.has a/\H a=some (.tup xs)
def Ls(K:af0)(O:Own)(H:Hp)(a:Addr)(xs:List V):Prop:=(¬O.has a/\Rd H a (.lst xs))\/SqL K (λ _=>none) a xs
def Tp.sq{K}(h:Tp K O H a xs):SqT K H a xs:=.inl (.inl h.2)
def Ls.sq{K}(h:Ls K O H a xs):SqL K H a xs:=by rcases h with⟨_,h⟩ | (h | h);{exact .inl h};{rcases h with h | ⟨_,h⟩<;>cases h};{exact .inr h}
def Abv(K:af0)(a:Addr):Prop:=∀c o,K.lookup c=some o->c<a
mutual
inductive Rep(K:af0)(O:Own)(H:Hp):V->D->Prop
 | non:Rep K O H .non .non
 | bl(b:Bool):Rep K O H (.bl b) (.bl b)
 | int(i:Int):Rep K O H (.int i) (.int i)
 | str(x:Str):Rep K O H (.str x) (.str x)
 | tup{a:Addr}{xs:List V}{ds:List D}(h:Tp K O H a xs)(r:%[|58]):Rep K O H (.ref a) (.tup ds)
 | lst{a:Addr}{xs:List V}{ds:List D}(h:Ls K O H a xs)(r:%[|58]):Rep K O H (.ref a) (.lst ds)
 | loc{a:Addr}{k:Nat}(h:O.A[k]? =some (a,false)):Rep K O H (.ref a) (.loc k)
 | dlo{a:Addr}{k:Nat}(h:O.A[k]? =some (a,true))(n:Abv K a):Rep K O H (.ref a) (.dlo k)
 | dic{a:Addr}(h:¬O.has a)(e:H a=some (.dK [])):Rep K O H (.ref a) .dic
inductive Reps(K:af0)(O:Own)(H:Hp):List V->List D->Prop
 | nil:Reps K O H [] []
 | cons{v:V}{d:D}{vs:List V}{ds:List D}(r:%[|33])(t:Reps K O H vs ds):Reps K O H (v::vs) (d::ds)
end
inductive RvD(K:af0)(O:Own)(k:Nat)(v:V):Prop
 | mk(a:Addr)(e:v=.ref a)(h:O.A[k]? =some (a,true))(n:Abv K a):RvD K O k v
inductive RvL(O:Own)(k:Nat)(v:V):Prop
 | mk(a:Addr)(e:v=.ref a)(h:O.A[k]? =some (a,false)):RvL O k v
inductive RvS(K:af0)(O:Own)(H:Hp)(ds:List D)(v:V):Prop
 | mk(a:Addr)(xs:List V)(e:v=.ref a)(h:Ls K O H a xs)(r:%[|58]):RvS K O H ds v
inductive RvT(K:af0)(O:Own)(H:Hp)(ds:List D)(v:V):Prop
 | mk(a:Addr)(xs:List V)(e:v=.ref a)(h:Tp K O H a xs)(r:%[|58]):RvT K O H ds v
section
variable{K:PySem.W.Frag}{O:Own}{H:Hp}{v:V}{k:Nat}{ds:List D}
def fK(r:Rep K O H v (.dlo k)):RvD K O k v:=by cases r with | dlo h n=>exact%[_,rfl,h|n]
def eU(r:Rep K O H v (.loc k)):RvL O k v:=by cases r with | loc h=>exact%[_,rfl|h]
def dW(r:Rep K O H v (.lst ds)):RvS K O H ds v:=by cases r with | lst h q=>exact%[_,_,rfl,h|q]
def dz(r:Rep K O H v (.tup ds)):RvT K O H ds v:=by cases r with | tup h q=>exact%[_,_,rfl,h|q]
end
structure Step(O O':Own)(H H':Hp):Prop where
 kept:∀b o,b∉adr O.A->H b=some o->H' b=some o
 dom:∀b,H b≠none->H' b≠none
 ext:∃N,O'.A=O.A++N/\∀b∈adr N,H b=none
 hid:O'.B=O.B
def Step.refl(O:Own)(H:Hp):Step O O H H:=%[λ _ _ _ h=>h,λ _ h=>h,%[[],by simp|%[|41]]|rfl]
def Step.trans(a:Step O f H e)(b:Step f O2 e H2):Step O O2 H H2:=by
 obtain⟨j,g,i⟩:=a.ext;obtain⟨k,l,m⟩:=b.ext;refine%[λ c o d h=>b.kept c o (λ z=>?_) (a.kept c o d h),λ c h=>b.dom c (a.dom c h),%[j++k,by rw[l,g,ck]|λ c d=>?_]|b.hid.trans a.hid];{rw[g,cY]at z;rcases cn.mp z with z | z;{exact d z};{rw[i c z]at h;cases h}}
 . rw[cY]at d;rcases cn.mp d with z | z;{exact i c z}
   . cases q:H c with
     | none=>rfl
     | some o=>exact absurd (m c z) (a.dom c (by rw[q];simp))
def Step.nothas(s:Step O O' H H')(h:¬O.has a)(t:H a≠none):¬O'.has a:=by obtain⟨N,e,f⟩:=s.ext;rintro(z | z);{rw[e,cY]at z;rcases cn.mp z with z | z;{exact h (.inl z)};{exact t (f a z)}};{rw[s.hid]at z;exact h (.inr z)}
structure Conv(O O':Own)(H H':Hp):Prop where
 tr:∀a u,¬O.has a->H a=some u->¬O'.has a/\H' a=some u
 lc:∀(k:Nat)(a:Addr×Bool),O.A[k]? =some a->O'.A[k]? =some a
def Step.conv(s:Step O O' H H'):Conv O O' H H':=
 %[λ a u h t=>%[s.nothas h (by rw[t];simp)|s.kept a u (λ z=>h (.inl z)) t]|λ k a h=>by obtain⟨N,e,_⟩:=s.ext;rw[e,x9 (z0.mp h).1];exact h]
def Rd.conv(s:Conv O O' H H')(h:¬O.has a)(r:Rd H a u):¬O'.has a/\Rd H' a u:=by rcases r with r | ⟨o,r⟩;{obtain⟨x,y⟩:=s.tr a _ h r;exact%[x|.inl y]};{obtain⟨x,y⟩:=s.tr a _ h r;exact%[x|.inr %[o|y]]}
def Tp.conv{K}(h:Tp K O H a xs)(s:Conv O O' H H'):Tp K O' H' a xs:=s.tr a _ h.1 h.2
def Ls.conv{K}(h:Ls K O H a xs)(s:Conv O O' H H'):Ls K O' H' a xs:=by rcases h with⟨n,r⟩ | h;{exact .inl (Rd.conv s n r)};{exact .inr h}
def Reps.ind{K}{P:List V->List D->Prop}(n:P [] [])(c:∀{v:V}{d:D}{a:List V}{ds:List D},%[|33]->Reps K O H a ds->P a ds->P (v::a) (d::ds)){a}(h:Reps K O H a ds):P a ds:=
 Reps.rec (motive_1:=λ _ _ _=>True) (motive_2:=λ a ds _=>P a ds) trivial (λ _=>trivial) (λ _=>trivial) (λ _=>trivial) (λ _ _ _=>trivial) (λ _ _ _=>trivial) (λ _=>trivial) (λ _ _=>trivial) (λ _ _=>trivial) n (λ r t _ b=>c r t b) h
def Rep.conv{K}(s:Conv O O' H H')(h:%[|33]):Rep K O' H' v d:=
 Rep.rec (motive_1:=λ v d _=>Rep K O' H' v d) (motive_2:=λ c b _=>Reps K O' H' c b) .non .bl .int .str (λ h _ a=>.tup (h.conv s) a) (λ h _ a=>.lst (h.conv s) a) (λ h=>.loc (s.lc _ _ h)) (λ h n=>.dlo (s.lc _ _ h) n) (λ h e=>.dic (s.tr _ _ h e).1 (s.tr _ _ h e).2) .nil (λ _ _ i j=>.cons i j) h
def Reps.conv{K}(s:Conv O O' H H'){a}(h:Reps K O H a ds):Reps K O' H' a ds:=
 h.ind .nil λ r _ i=>.cons (r.conv s) i
def Rep.mono{K}(h:%[|33])(s:Step O O' H H'):Rep K O' H' v d:=h.conv s.conv
def Reps.mono{K}(h:Reps K O H v d)(s:Step O O' H H'):Reps K O' H' v d:=h.conv s.conv
abbrev Own.hide(O:Own)(p:Addr):Own:=%[O.A|p::O.B]
def Conv.hide(h:H p=none)(o:HO):Conv O (O.hide p) H (upd H p o):=
 ⟨λ a u n t=>by have b:a≠p:=aP t h;refine%[λ z=>?_|by rw[aA b];exact t];rcases z with z | z;{exact n (.inl z)};{rcases cK.mp z with z | z;{exact b z};{exact n (.inr z)}},λ _ _ h=>h⟩
def Conv.unhide:Conv %[A|p::B] %[A|B] H H:=
 %[λ a u n t=>%[λ z=>n (z.elim .inl λ z=>.inr (x4 _ z))|t]|λ _ _ h=>h]
def Conv.updHid(h:p∈O.B)(o:HO):Conv O O H (upd H p o):=
 %[λ a u n t=>%[n|by rw[aA (λ e=>n (.inr (by rw[e];exact h)))];exact t]|λ _ _ h=>h]
def Reps.length{K}(h:Reps K O H vs ds):vs.length=ds.length:=
 h.ind (P:=λ vs ds=>vs.length=ds.length) rfl λ _ _ i=>eC Nat.succ i
def Reps.get{K}{i:Nat}(h:Reps K O H vs ds)(e:%[|25]):∃v,vs[i]? =some v/\%[|33]:=by
 revert i;refine h.ind (P:=λ vs ds=>∀{i:Nat},%[|25]->∃v,vs[i]? =some v/\%[|33]) (λ e=>by simp at e) λ r t a i e=>?_
 cases i with
 | zero=>exact%[_,rfl|cq e▸r]
 | succ i=>exact a e
def Reps.append{K}(h:Reps K O H vs ds)(s:Reps K O H ws es):Reps K O H (vs++ws) (ds++es):=
 h.ind (P:=λ vs ds=>Reps K O H (vs++ws) (ds++es)) s λ r _ i=>.cons r i
def Reps.take{K}(n:Nat)(h:Reps K O H vs ds):Reps K O H (vs.take n) (ds.take n):=by
 revert n;refine h.ind (P:=λ vs ds=>∀n:Nat,Reps K O H (vs.take n) (ds.take n)) (λ n=>?_) λ r t a n=>?_;{cases n<;>exact .nil}
 . cases n with
   | zero=>exact .nil
   | succ n=>exact .cons r (a n)
def Reps.drop{K}(n:Nat)(h:Reps K O H vs ds):Reps K O H (vs.drop n) (ds.drop n):=by
 revert n;refine h.ind (P:=λ vs ds=>∀n:Nat,Reps K O H (vs.drop n) (ds.drop n)) (λ n=>?_) λ r t a n=>?_;{cases n<;>exact .nil}
 . cases n with
   | zero=>exact .cons r t
   | succ n=>exact a n
def Reps.set{K}(r:%[|33]){a}(i:Nat)(h:Reps K O H a ds):Reps K O H (a.set i v) (ds.set i d):=by
 revert i;refine h.ind (P:=λ a ds=>∀i:Nat,Reps K O H (a.set i v) (ds.set i d)) (λ _=>.nil) λ q t b i=>?_
 cases i with
 | zero=>exact .cons r t
 | succ i=>exact .cons q (b i)
def Reps.ints{K}{ns:af1}(h:Reps K O H vs (ns.map D.int)):vs=ns.map V.int:=by
 induction ns generalizing vs with
 | nil=>cases h;rfl
 | cons n ns a=>cases h with| cons r t=>cases r;rw[a t];rfl
theorem aeG{K}:∀ns:List Int,Reps K O H (ns.map V.int) (ns.map D.int)
 | []=>.nil
 | n::ns=>.cons (.int n) (aeG ns)
def Reps.bools{K}{ns:List Bool}(h:Reps K O H vs (ns.map D.bl)):vs=ns.map V.bl:=by
 induction ns generalizing vs with
 | nil=>cases h;rfl
 | cons n ns a=>cases h with| cons r t=>cases r;rw[a t];rfl
def adX(ns:af1):List Key:=ns.map Sum.inl
inductive Kps(K:af0)(O:Own)(H:Hp):List (List Key×V)->List D->Prop
 | nil:Kps K O H [] []
 | cons{ns:af1}{v:V}{d:D}{kvs:List (List Key×V)}{ds:List D}(r:%[|33])(t:Kps K O H kvs ds):Kps K O H ((adX ns,v)::kvs) (.tup [.tup (ns.map .int),d]::ds)
def Kps.conv{K}(s:Conv O O' H H')(h:Kps K O H kvs ds):Kps K O' H' kvs ds:=by
 induction h with
 | nil=>exact .nil
 | cons r t a=>exact .cons (r.conv s) a
def hC0(c:ag7):Int:=reduceHash (Builtin.Tuple.tupleHashOf [hashInt c.1,reduceHash (Builtin.Tuple.tupleHashOf (c.2.map hashInt))])
abbrev Cy:=List (%[|14]×Addr×Value)
def Wm(a:Addr)(ys:Cy)(h:Heap):Prop:=ys.length<=sizeLine/\%[|74]/\(ys.map (·.1)).Nodup/\
 ∃o b c,h.get? a=some o/\o.ExactDict/\o.data=.dict b c/\b.toList=ys.map λ y=>(%[hC0 y.1,.ref y.2.1|y.2.2]:DictEntry)
def bI(a:Addr)(ys:Cy)(h:Heap):Prop:=ys.length<=sizeLine/\%[|74]/\(ys.map (·.1)).Nodup/\
 ∃o b,h.get? a=some o/\o.ExactDict/\o.data=.dict b ys.length/\b.toList=ys.map λ y=>(%[hC0 y.1,.ref y.2.1|y.2.2]:DictEntry)
inductive Kcs(K:af0)(O:Own)(H:Hp):Cy->List D->Prop
 | nil:Kcs K O H [] []
 | cons{c:ag7}{b:Addr}{u:Value}{v:V}{k d:D}{ys:Cy}{ds:List D}(e:k=.tup [.int c.1,.tup (c.2.map .int)])(rk:Rep K O H (.ref b) k)(rv:RelV v u)(r:%[|33])(t:Kcs K O H ys ds):Kcs K O H ((c,b,u)::ys) (.tup [k,d]::ds)
def Kcs.conv{K}(s:Conv O O' H H')(h:Kcs K O H ys ds):Kcs K O' H' ys ds:=by
 induction h with
 | nil=>exact .nil
 | cons e b c r t a=>exact .cons e (b.conv s) c (r.conv s) a
def isO:Option Int->Value->Bool
 | some i,.int j _=>decide (i=j)
 | none,.none=>true
 | _,_=>false
def hO0:Option Int->Int
 | some i=>hashInt i
 | none=>4238894112
abbrev Oy:=List (Option Int×Value)
inductive OEs:List DictEntry->Oy->Prop
 | nil:OEs [] []
 | cons{e:DictEntry}{k:ag3}{v:Value}{es:List DictEntry}{ys:Oy}(i:isO k e.key=true)(h:e.hash=hO0 k)(q:e.val=v)(t:OEs es ys):OEs (e::es) ((k,v)::ys)
def mV(a:Addr)(ys:Oy)(h:Heap):Prop:=ys.length<=sizeLine/\%[|74]/\(ys.map (·.1)).Nodup/\
 ∃o b c,h.get? a=some o/\o.ExactDict/\o.data=.dict b c/\OEs b.toList ys
def oD:Option Int->D
 | some i=>.int i
 | none=>.non
inductive Kos(K:af0)(O:Own)(H:Hp):Oy->List D->Prop
 | nil:Kos K O H [] []
 | cons{c:ag3}{u:Value}{v:V}{k d:D}{ys:Oy}{ds:List D}(e:k=oD c)(rv:RelV v u)(r:%[|33])(t:Kos K O H ys ds):Kos K O H ((c,u)::ys) (.tup [k,d]::ds)
def Kos.conv{K}(s:Conv O O' H H')(h:Kos K O H ys ds):Kos K O' H' ys ds:=by
 induction h with
 | nil=>exact .nil
 | cons e b r t a=>exact .cons e b (r.conv s) a
abbrev tbD(b:Bool)(l c:Nat)(q:Str)(z:Nat):List D:=[.bl b,.int l,.int c,.str q,.int z,.tup (List.replicate (sizeLine+1) .non)]
def acD(K:af0)(z a:Addr):Prop:=∃o b,K.lookup z=some o/\o.data=.fields b/\b[11]? =some (.ref a)
def aee(x:Addr)(q:Str)(h:Heap):Prop:=h.CodeRec (.ref x) q
inductive DOb(K:af0)(O:Own)(H:Hp)(a:Addr)(ds:List D):Prop
 | t(kvs:List (List Key×V))(e:H a=some (.dT kvs))(r:Kps K O H kvs ds):DOb K O H a ds
 | c(ys:Cy)(n:ys≠[])(e:H a=some (.ext (Wm a ys)))(r:Kcs K O H ys ds):DOb K O H a ds
 | o(ys:Oy)(n:ys≠[])(e:H a=some (.ext (mV a ys)))(r:Kos K O H ys ds):DOb K O H a ds
 | m(ys:Cy)(ds':List D)(hd:ds=.non::ds')(e:H a=some (.ext (bI a ys)))(r:Kcs K O H ys ds'):DOb K O H a ds
 | p(ps:ag1)(n:¬Abv K a)(b:Bool)(l c z:Nat)(q:Str)(k:acD K z a)(e:H a=some (.tbl ps))(hd:ds=tbD b l c q z)
   (g:(b=false/\ps=#[])\/(b=true/\∃x,ps=#[rawInt l,rawInt c,.ref x]/\¬O.has x/\H x=some (.ext (aee x q)))):DOb K O H a ds
def DOb.move{K}(s:Conv O O' H H')(b:DOb K O H a ds)(h:∀o,H a=some o->H' a=some o):DOb K O' H' a ds:=by
 cases b with
 | t i e r=>exact .t i (h _ e) (r.conv s)
 | c d n e r=>exact .c d n (h _ e) (r.conv s)
 | o d n e r=>exact .o d n (h _ e) (r.conv s)
 | m d j f e r=>exact .m d j f (h _ e) (r.conv s)
 | p u n b l c z q k e f g=>exact .p u n b l c z q k (h _ e) f (g.imp id λ⟨g1,x,g2,g3,g4⟩=>%[g1,x,g2|s.tr _ _ g3 g4])
def DOb.there{K}(b:DOb K O H a ds):H a≠none:=by
 cases b with
 | t h e r=>rw[e];simp
 | c d n e r=>rw[e];simp
 | o d n e r=>rw[e];simp
 | m d i f e r=>rw[e];simp
 | p j n b l c z q k e f g=>rw[e];simp
structure StOk(K:af0)(O:Own)(H:Hp)(S:Store):Prop where
 nd:(adr O.A).Nodup
 len:O.A.length=S.length
 obj:∀(k:Nat)(a:Addr)(ds:List D),O.A[k]? =some (a,false)->S[k]? =some ds->∃xs,H a=some (.lst xs)/\%[|58]
 dob:∀(k:Nat)(a:Addr)(ds:List D),O.A[k]? =some (a,true)->S[k]? =some ds->DOb K O H a ds
 apart:∀a∈adr O.A,a∉O.B
 hidden:∀b∈O.B,H b≠none
structure EnvOk(K:af0)(O:Own)(H:Hp)(σ:St)(Γ:Gam):Prop where
 len:σ.length=Γ.length
 at_:∀(i:Nat)(d:D),Γ[i]? =some (some d)->∃v,σ[i]? =some (some v)/\%[|33]
def EnvOk.mono{K}(e:EnvOk K O H σ c)(s:Step O O' H H'):EnvOk K O' H' σ c:=
 %[e.len|λ i d h=>let ⟨v,a,b⟩:=e.at_ i d h;%[v,a|b.mono s]]
def EnvOk.set{K}(e:EnvOk K O H σ b)(r:%[|33])(i:Nat):EnvOk K O H (σ.set i (some v)) (b.set i (some d)):=by
 refine%[by simp[e.len]|λ j c h=>?_];by_cases a:i=j
 . subst a;have f:i<b.length:=by have:=(z0.mp h).1;simpa using this
   rw[fR f]at h;cases h;exact%[v,fR (by rw[e.len];exact f)|r]
 {rw[eJ a]at h;rw[eJ a];exact e.at_ j c h}
def StOk.tracked{K}(s:%[|37])(h:O.has a):H a≠none:=by
 rcases h with h | h
 . obtain⟨⟨b,c⟩,f,rfl⟩:=c9.mp h;obtain⟨k,d⟩:=db f;have e:k<S.length:=by rw[<-s.len];exact(z0.mp d).1
   cases c with
   | false=>obtain⟨g,q,_⟩:=s.obj k b S[k] d (y3 e);rw[show(b,false).1=b from rfl,q];simp
   | true=>exact(s.dob k b S[k] d (y3 e)).there
 {exact s.hidden a h}
def Step.fresh(h:H p=none)(o:HO):Step O O H (upd H p o):=
 %[λ b u _ q=>by rw[aA (aP q h)];exact q,λ b q=>by by_cases e:b=p;{subst e;rw[aR];simp};{rw[aA e];exact q},%[[],by simp|λ _ z=>nomatch z]|rfl]
def Step.same(h:fB H H'):Step O O H H':=
 ⟨λ b o _ q=>h b o q,λ b q=>by
  cases e:H b with
  | none=>exact absurd e q
  | some o=>rw[h b o e];simp,%[[],by simp|λ _ z=>nomatch z],rfl⟩
def fB.fresh(h:H p=none)(o:HO):fB H (upd H p o):=λ b u q=>by rw[aA (aP q h)];exact q
def StOk.same{K}(s:%[|37])(h:fB H H'):StOk K O H' S:=
 %[s.nd,s.len,λ k a c d e=>let ⟨xs,q,r⟩:=s.obj k a c d e;%[xs,h _ _ q|r.mono (Step.same h)],λ k a c d e=>(s.dob k a c d e).move (Step.same h).conv λ o q=>h _ _ q,s.apart|λ b f=>(Step.same (O:=O) h).dom b (s.hidden b f)]
def StOk.fresh_not{K}(s:%[|37])(h:H p=none):¬O.has p:=λ z=>s.tracked z h
def StOk.fresh{K}(s:%[|37])(h:H p=none)(o:HO):StOk K O (upd H p o) S:=s.same (fB.fresh h o)
abbrev Own.more(O:Own)(p:Addr)(q:Bool:=false):Own:=%[O.A++[(p,q)]|O.B]
def Step.own(h:H p=none)(o:HO)(q:Bool:=false):Step O (O.more p q) H (upd H p o):=
 %[(Step.fresh (O:=O) h o).kept,(Step.fresh (O:=O) h o).dom,%[[(p,q)],rfl|λ b z=>by rw[cf.mp z];exact h]|rfl]
def jw{p}{x:Addr×Bool}(h:(A++[p])[k]? =some x):A[k]? =some x\/(k=A.length/\x=p):=by
 by_cases b:k<A.length;{rw[x9 b]at h;exact .inl h}
 . rw[dt %[|0]]at h;have a:k-A.length=0:=by have:=(z0.mp h).1;simp at this;omega
   rw[a]at h;exact .inr %[%[|0]|(cq h).symm]
def yH(h:(adr A).Nodup)(n:p∉adr A):(adr (A++[(p,q)])).Nodup:=by rw[cY];refine ke.mpr %[h,by simp|λ a c b d e=>?_];rw[cf.mp d]at e;rw[e]at c;exact n c
def StOk.own{K}(s:%[|37])(h:H p=none)(r:%[|58]):
 StOk K (O.more p) (upd H p (.lst xs)) (S++[ds]):=by have f:=Step.own (O:=O) h (.lst xs);have l:=s.fresh_not h;refine%[yH s.nd λ z=>l (.inl z),by simp[s.len],λ k a g c d=>?_,λ k a g c d=>?_,λ a j=>?_|λ b m=>f.dom b (s.hidden b m)];{rcases jw c with c | ⟨rfl,e⟩;{have i:=(z0.mp c).1;rw[x9 (by rw[<-s.len];exact i)]at d;obtain⟨t,q,n⟩:=s.obj k a g c d;exact%[t,by rw[aA (aP q h)];exact q|n.mono f]};{cases e;rw[dt (by rw[s.len];exact y9 _),s.len,ox]at d;cases d;exact%[xs,aR|r.mono f]}};{rcases jw c with c | ⟨rfl,e⟩;{have i:=(z0.mp c).1;rw[x9 (by rw[<-s.len];exact i)]at d;exact(s.dob k a g c d).move f.conv λ o q=>by rw[aA (aP q h)];exact q};{cases e}};{rw[cY]at j;rcases cn.mp j with z | z;{exact s.apart a z};{rw[cf.mp z];exact λ q=>l (.inr q)}}
def StOk.ownD{K}(s:%[|37])(h:H p=none)(r:Kps K O H kvs ds):
 StOk K (O.more p true) (upd H p (.dT kvs)) (S++[ds]):=by have f:=Step.own (O:=O) h (.dT kvs) true;have l:=s.fresh_not h;refine%[yH s.nd λ z=>l (.inl z),by simp[s.len],λ k a g c d=>?_,λ k a g c d=>?_,λ a j=>?_|λ b m=>f.dom b (s.hidden b m)];{rcases jw c with c | ⟨rfl,e⟩;{have i:=(z0.mp c).1;rw[x9 (by rw[<-s.len];exact i)]at d;obtain⟨u,q,n⟩:=s.obj k a g c d;exact%[u,by rw[aA (aP q h)];exact q|n.mono f]};{cases e}};{rcases jw c with c | ⟨rfl,e⟩;{have i:=(z0.mp c).1;rw[x9 (by rw[<-s.len];exact i)]at d;exact(s.dob k a g c d).move f.conv λ o q=>by rw[aA (aP q h)];exact q};{cases e;rw[dt (by rw[s.len];exact y9 _),s.len,ox]at d;cases d;exact .t kvs aR (r.conv f.conv)}};{rw[cY]at j;rcases cn.mp j with z | z;{exact s.apart a z};{rw[cf.mp z];exact λ q=>l (.inr q)}}
def Step.put(h:a∈adr O.A)(o:HO):Step O O H (upd H a o):=
 %[λ b u c q=>by rw[aA (λ e=>c (by rw[e];exact h))];exact q,λ b q=>by by_cases e:b=a;{subst e;rw[aR];simp};{rw[aA e];exact q},%[[],by simp|λ _ z=>nomatch z]|rfl]
def za(nd:(adr A).Nodup){k j:Nat}{p q}(h:A[k]? =some (a,p))(h2:A[j]? =some (b,q))(i:k≠j):b≠a:=λ e=>i (by
 have f:(adr A)[k]? =some a:=by rw[y8,h];rfl
 have g:(adr A)[j]? =some b:=by rw[y8,h2];rfl
 obtain⟨l,c⟩:=z0.mp f;obtain⟨h2,d⟩:=z0.mp g;exact(List.getElem_inj nd).mp (c.trans (e.symm.trans d.symm)))
def StOk.put{K}(s:%[|37])(h:O.A[k]? =some (a,false))(r:%[|58]):
 StOk K O (upd H a (.lst xs)) (S.set k ds):=by
 have g:=Step.put (O:=O) (H:=H) (dD h) (.lst xs);refine%[s.nd,by simp[s.len],λ j b i c d=>?_,λ j b i c d=>?_,s.apart|λ b l=>g.dom b (s.hidden b l)];{by_cases f:k=j;{subst f;rw[h]at c;cases c;have m:=(z0.mp d).1;rw[fR (by simpa using m)]at d;cases d;exact%[xs,aR|r.mono g]};{rw[eJ f]at d;obtain⟨p,q,n⟩:=s.obj j b i c d;exact%[p,by rw[aA (za s.nd h c f)];exact q|n.mono g]}}
 . have f:k≠j:=λ e=>by subst e;rw[h]at c;cases c
   rw[eJ f]at d;exact(s.dob j b i c d).move g.conv λ o q=>by rw[aA (za s.nd h c f)];exact q
def StOk.putO{K}(s:%[|37])(h:O.A[k]? =some (a,true))(r:DOb K O (upd H a o) a ds):
 StOk K O (upd H a o) (S.set k ds):=by
 have i:=Step.put (O:=O) (H:=H) (dD h) o;refine%[s.nd,by simp[s.len],λ j b g c d=>?_,λ j b g c d=>?_,s.apart|λ b l=>i.dom b (s.hidden b l)]
 . have f:k≠j:=λ e=>by subst e;rw[h]at c;cases c
   rw[eJ f]at d;obtain⟨p,q,n⟩:=s.obj j b g c d;exact%[p,by rw[aA (za s.nd h c f)];exact q|n.mono i]
 {by_cases f:k=j;{subst f;rw[h]at c;cases c;have m:=(z0.mp d).1;rw[fR (by simpa using m)]at d;cases d;exact r};{rw[eJ f]at d;exact(s.dob j b g c d).move i.conv λ o q=>by rw[aA (za s.nd h c f)];exact q}}
def StOk.hide{K}(s:%[|37])(h:H p=none)(o:HO):StOk K (O.hide p) (upd H p o) S:=by have i:=Step.fresh (O:=O) h o;refine%[s.nd,s.len,λ k a c d e=>?_,λ k a c d e=>?_,λ a f z=>?_|λ b g=>?_];{obtain⟨j,q,r⟩:=s.obj k a c d e;exact%[j,by rw[aA (aP q h)];exact q|r.conv (Conv.hide h o)]};{exact(s.dob k a c d e).move (Conv.hide h o) λ o q=>by rw[aA (aP q h)];exact q};{rcases cK.mp z with z | z;{exact s.tracked (.inl f) (z▸h)};{exact s.apart a f z}};{rcases cK.mp g with z | z;{subst z;rw[aR];simp};{exact i.dom b (s.hidden b z)}}
def StOk.unhide{K}(s:StOk K %[A|p::B] H S):StOk K %[A|B] H S:=
 %[s.nd,s.len,λ k a c d e=>let ⟨xs,q,r⟩:=s.obj k a c d e;%[xs,q|r.conv Conv.unhide],λ k a c d e=>(s.dob k a c d e).move Conv.unhide λ _ q=>q,λ a f z=>s.apart a f (x4 _ z)|λ b g=>s.hidden b (x4 _ g)]
def StOk.updHid{K}(s:%[|37])(h:p∈O.B)(o:HO):StOk K O (upd H p o) S:=
 %[s.nd,s.len,λ k a d c f=>by obtain⟨j,q,r⟩:=s.obj k a d c f;have g:a≠p:=λ e=>s.apart a (dD c) (e▸h);exact%[j,by rw[aA g];exact q|r.conv (Conv.updHid h o)],λ k a d c f=>by have g:a≠p:=λ e=>s.apart a (dD c) (e▸h);exact(s.dob k a d c f).move (Conv.updHid h o) λ _ q=>by rw[aA g];exact q,s.apart|λ b i=>by by_cases e:b=p;{subst e;rw[aR];simp};{rw[aA e];exact s.hidden b i}]
def Step.adopt(s:Step O %[A|O.B] H H')(h:H p=none):Step O %[A++[(p,false)]|O.B] H H':=by obtain⟨N,e,f⟩:=s.ext;refine%[s.kept,s.dom,%[N++[(p,false)],?_|λ b a=>?_]|rfl];{show A++[(p,false)]=_;rw[show A=O.A++N from e,ck]};{rw[cY]at a;rcases cn.mp a with z | z;{exact f b z};{rw[cf.mp z];exact h}}
def Conv.adopt:Conv %[A|p::B] %[A++[(p,false)]|B] H H:=
 %[λ a u n t=>%[λ z=>n (z.elim (λ z=>(cn.mp (by rw[<-cY];exact z)).elim .inl λ z=>.inr (by rw[cf.mp z];exact x6)) λ z=>.inr (x4 _ z))|t]|
  λ k a h=>by show(A++[(p,false)])[k]? =some a;rw[x9 (z0.mp h).1];exact h]
def StOk.adopt{K}(s:StOk K %[A|p::B] H S)(m:p∉B)(h:H p=some (.lst xs))(r:Reps K %[A|p::B] H xs ds):StOk K %[A++[(p,false)]|B] H (S++[ds]):=by have n:p∉adr A:=λ z=>s.apart p z x6;have i:A.length=S.length:=s.len;refine%[yH s.nd n,by simp[i],λ k a g c d=>?_,λ k a g c d=>?_,λ a f=>?_|λ b j=>s.hidden b (x4 _ j)];{rcases jw c with c | ⟨rfl,e⟩;{have l:=(z0.mp c).1;rw[x9 %[|0]]at d;obtain⟨t,q,o⟩:=s.obj k a g c d;exact%[t,q|o.conv Conv.adopt]};{cases e;rw[dt %[|0],i,ox]at d;cases d;exact%[xs,h|r.conv Conv.adopt]}};{rcases jw c with c | ⟨rfl,e⟩;{have l:=(z0.mp c).1;rw[x9 %[|0]]at d;exact(s.dob k a g c d).move Conv.adopt λ _ q=>q};{cases e}};{have f:a∈adr (A++[(p,false)]):=f;rw[cY]at f;rcases cn.mp f with z | z;{exact λ q=>s.apart a z (x4 _ q)};{rw[cf.mp z];exact m}}
def Step.inner(a:Step O %[d|B] H g)(b:Step %[d|p::B] %[f|p::B] g H2)(h:H p=none)(o:HO):Step O %[f|B] H (upd H2 p o):=by have i:Step %[d|B] %[f|B] g H2:=%[b.kept,b.dom,b.ext|rfl];have c:=a.trans i;refine%[λ x u j t=>?_,λ x t=>?_,c.ext|c.hid];{rw[aA (aP t h)];exact c.kept x u j t};{by_cases e:x=p;{subst e;rw[aR];simp};{rw[aA e];exact c.dom x t}}
end DL
namespace DL
open PySem PySem.Spec L2
open PyProof.Rows
variable{K:PySem.W.Frag}{O:Own}{H:Hp}{x:D}{ds:List D}{i j:Int}{p:Addr}{xs:List V}
abbrev Pins:=List (Addr×Obj)
abbrev WD:=D->%[|7]
inductive And3(a b c:Prop):Prop
 | mk(x:a)(y:b)(z:c):And3 a b c
inductive QG(K:af0)(O:Own)(H:Hp)(W:WD)(v:V)(H':Hp):Prop
 | mk(O':Own)(d:D)(S':Store)(w:W d S')(q:And3 (Step O O' H H') (StOk K O' H' S') (Rep K O' H' v d)):QG K O H W v H'
inductive QA(K:af0)(O:Own)(H:Hp)(W:List D->%[|7])(vs:List V)(H':Hp):Prop
 | mk(O':Own)(ds:List D)(S':Store)(w:W ds S')(q:And3 (Step O O' H H') (StOk K O' H' S') (Reps K O' H' vs ds)):QA K O H W vs H'
inductive QT(K:af0)(O:Own)(H:Hp)(W:Bool->%[|7])(b:Bool)(H':Hp):Prop
 | mk(O':Own)(S':Store)(w:W b S')(q:Step O O' H H'/\StOk K O' H' S'):QT K O H W b H'
def Ev(X:Cx)(Γ:Gam)(S:Store)(e:Expr)(W:WD):Prop:=
 ∀ (a:Pins)(s:af3)(b:St)(H:Hp)(O:Own),Inv X a b H s->EnvOk X.K O H b Γ->%[|15]->
   wpAny %[|5] X.A (eval e X.env) (EP X a b (QG X.K O H W)) X.xe s
def EvA(X:Cx)(Γ:Gam)(S:Store)(es:ag0)(W:List D->%[|7]):Prop:=
 ∀ (b:Pos)(a:Pins)(s:af3)(c:St)(H:Hp)(O:Own),Inv X a c H s->EnvOk X.K O H c Γ->%[|15]->
   wpAny %[|5] X.A (spliced (backTo b (starEach es X.env))) (AP X a c (QA X.K O H W)) X.xe s
def TsW(X:Cx)(Γ:Gam)(S:Store)(e:Expr)(W:Bool->%[|7]):Prop:=
 ∀ (b:Sem Value)(a:Pins)(s:af3)(c:St)(H:Hp)(O:Own),Inv X a c H s->EnvOk X.K O H c Γ->%[|15]->
   wpAny %[|5] X.A (isTrue e X.env b) (TP X a c (QT X.K O H W)) X.xe s
def Ts(X:Cx)(Γ:Gam)(S:Store)(e:Expr)(W:Bool->%[|7]):Prop:=
 ∀ (a:Pins)(s:af3)(b:St)(H:Hp)(O:Own),Inv X a b H s->EnvOk X.K O H b Γ->%[|15]->
   wpAny %[|5] X.A (isTrue e X.env (eval e X.env)) (TP X a b (QT X.K O H W)) X.xe s
def OpW(X:Cx)(f:Value->Value->Sem Value)(x y:D)(S:Store)(W:WD):Prop:=
 ∀ (a:Pins)(s:af3)(c:St)(H:Hp)(O:Own)(v w:V)(u b:Value),Inv X a c H s->%[|15]->Rep X.K O H v x->Rep X.K O H w y->RelV v u->RelV w b->
   wpAny %[|5] X.A (f u b) (EP X a c (QG X.K O H W)) X.xe s
def fQ(X:Cx)(f:Value)(ds:List D)(S:Store)(W:WD):Prop:=
 ∀ (a:Pins)(s:af3)(d:St)(H:Hp)(O:Own)(c:List V)(b:af5),Inv X a d H s->%[|15]->Reps X.K O H c ds->Vals c b->
   wpAny %[|5] X.A (call f b) (EP X a d (QG X.K O H W)) X.xe s
abbrev gq(X:Cx)(op:Operator):=OpW X (binaryOp op)
abbrev cU(X:Cx)(op:CmpOp):=OpW X (compareOp op)
section
variable{X:Cx}{Γ:Gam}{S S1:Store}{W:WD}{a b e:Expr}{es rest:List Expr}{pos:Pos}
def QG.pre{b}(st:Step O c H b){a}(q:QG K c b W v a):QG K O H W v a:=by obtain⟨e,d,f,w,h,g,r⟩:=q;exact%[e,d,f,w,st.trans h,g|r]
def gH{pins:Pins}{σ:St}{b}{a}(st:Step O b H a)(q:EP X pins σ (QG X.K b a W) u s'):EP X pins σ (QG X.K O H W) u s':=by obtain⟨v,c,I,r,q⟩:=q;exact%[v,c,I,r|q.pre st]
def Yq{pins:Pins}{σ:St}{b}{a}(st:Step O b H a){W}(q:TP X pins σ (QT X.K b a W) u s'):TP X pins σ (QT X.K O H W) u s':=by obtain⟨c,I,d,e,w,g,f⟩:=q;exact%[c,I,d,e,w,st.trans g|f]
def Ev.mono(h:Ev X Γ S e W)(k:∀d S',W d S'->f d S'):Ev X Γ S e f:=λ a s m H O I b l=>
 thn (h a s m H O I b l) λ _ _ c=>by obtain⟨v,g,i,r,j,d,S',w,q⟩:=c;exact%[v,g,i,r,j,d,S',k d S' w|q]
def OpW.mono(h:OpW X f x y S W)(k:∀d S',W d S'->c d S'):OpW X f x y S c:=λ a s t H O v w u p I o j l m n=>
 thn (h a s t H O v w u p I o j l m n) λ _ _ b=>by obtain⟨v,e,g,r,i,d,S',w,q⟩:=b;exact%[v,e,g,r,i,d,S',k d S' w|q]
def gY(b:OpR X f r)(h:∀O H v w,%[|15]->Rep X.K O H v x->Rep X.K O H w y->r v w H (QG X.K O H W)):OpW X f x y S W:=
 λ a s k H O v w u j I i c d e g=>b a s k H v w u j _ I e g (h O H v w i c d)
def eV(b:jG X f r)(h:∀O H vs,%[|15]->Reps X.K O H vs ds->r vs H (QG X.K O H W)):fQ X f ds S W:=
 λ a s i H O vs g I e c d=>b a s i H vs g _ I d (h O H vs e c)
def Ac(w:W d S)(st:%[|37])(r:%[|33]):QG K O H W v H:=%[O,d,S,w,Step.refl O H,st|r]
def abx(i:Nat){x}(f:Γ[i]? =some (some d))(w:W d S)(g:X.N[i]? =some x:=by rfl)
 (j:Vis X.env.scope x:=by first | exact Or.inl rfl | exact Or.inr (Or.inl rfl) | exact Or.inr (Or.inr rfl))(h:%[|67]:=by decide)(c:(x==("__classdict__":Str))=false:=by decide):
 Ev X Γ S (.Name x pos) W:=by intro a s l H O I b k;obtain⟨v,e,r⟩:=b.at_ i d f;exact ab9 g j h c a s l H _ I %[v,e|Ac w k r]
def acj{j}(w:W (.int i) S):Ev X Γ S (.Constant (.int i) j pos) W:=λ a s c H O I _ b=>aa4 a s c H _ I (Ac w b (.int i))
def acT{i}{j}(w:W (.bl i) S):Ev X Γ S (.Constant (.bool i) j pos) W:=λ a s c H O I _ b=>adI a s c H _ I (Ac w b (.bl i))
def abf{j}(w:W .non S):Ev X Γ S (.Constant .none j pos) W:=λ a s c H O I _ b=>ab8 a s c H _ I (Ac w b .non)
def aaU{x}{j}(w:W (.str x) S):Ev X Γ S (.Constant (.str x) j pos) W:=λ a s c H O I _ b=>acx a s c H _ I (Ac w b (.str x))
def Vo{x}(d:X.mg x=some (.int i t))(w:W (.int i) S)(c:Gl X x:=by rfl)(b:%[|67]:=by decide):Ev X Γ S (.Name x pos) W:=
 λ a s f H O I _ e=>aak c d (v:=.int i) %[t|rfl] b a s f H _ I (Ac w e (.int i))
def xU(h:Ev X Γ S a λ x S1=>Ev X Γ S1 b λ y S2=>gq X op x y S2 W):Ev X Γ S (.BinOp a op b pos) W:=by intro c s m H O I e G;refine wpAny_BinOp (thn (h c s m H O I e G) λ u E d=>?_);obtain⟨v,n,p,C,t,x,S1,A,i,k,f⟩:=d;refine thn (A c E m n t p (e.mono i) k) λ J F d=>?_;obtain⟨w,o,r,D,z,y,S2,B,j,l,g⟩:=d;exact thn (B c F m o z v w u J r l (f.mono j) g C D) λ _ _ q=>gH (i.trans j) q
def ace(h:Ev X Γ S a λ x S1=>Ev X Γ S1 b λ y S2=>cU X op x y S2 W)(B:behindInMarks op b=false:=by first | exact nomark _ | (with_unfolding_all rfl)):Ev X Γ S (.Compare a [op] [b] pos) W:=by intro c s m H O I e J;refine wpAny_Compare1 (thn (h c s m H O I e J) λ u F d=>?_) B;obtain⟨v,n,p,D,t,x,S1,A,i,k,f⟩:=d;refine thn (A c F m n t p (e.mono i) k) λ K G d=>?_;obtain⟨w,o,r,E,z,y,S2,C,j,l,g⟩:=d;exact thn (C c G m o z v w u K r l (f.mono j) g D E) λ _ _ q=>gH (i.trans j) q
abbrev asB(W:Bool->%[|7]):WD:=λ d S=>∃c,d=.bl c/\W c S
def aaT{W}(h:Ev X Γ S a λ x S1=>Ev X Γ S1 b λ y S2=>cU X op x y S2 (asB W))(N:behindInMarks op b=false:=by first | exact nomark _ | (with_unfolding_all rfl)):Ts X Γ S (.Compare a [op] [b] pos) W:=by intro f s r H O I g Y;refine wpAny_isTrue_Compare1 (thn (h f s r H O I g Y) λ u U e=>?_) N;obtain⟨v,t,C,Q,F,x,S1,L,l,n,i⟩:=e;refine thn (L f U r t F C (g.mono l) n) λ Z V e=>?_;obtain⟨w,A,D,R,G,y,S2,P,m,o,j⟩:=e;refine thn (P f V r A G v w u Z D o (i.mono m) j Q R) λ _ _ e=>?_;obtain⟨z,B,E,T,J,d,K,⟨c,M,wc⟩,q,p,k⟩:=e;subst M;cases k;cases T;exact hE %[B,E,J,K,wc,(l.trans m).trans q|p]
def aa9{W}(h:Ev X Γ S e (asB W))(p:∀whole,isTrue e X.env whole=(do let v <-whole;standAt e.pos;holding [v] (truthy v)):=by intro _;rfl):Ts X Γ S e W:=by intro a s u H O I f r;refine isTrue_plain (thn (h a s u H O I f r) λ _ _ g=>?_) (p _);obtain⟨z,k,l,q,m,d,n,⟨c,o,t⟩,j,i,b⟩:=g;subst o;cases b;cases q;exact hE %[k,l,m,n,t,j|i]
def TsW.ts{W}(h:TsW X Γ S e W):Ts X Γ S e W:=λ a s d H O I b c=>h _ a s d H O I b c
def tw_and1{W}(h:Ts X Γ S a W):TsW X Γ S (.BoolOp .And [a] pos) W:=by
 intro j b s g H O I d f;refine isTrue_and (thn (h b s g H O I d f) λ c i e=>?_)
 cases c with
 | true=>exact isTrue_and_nil e
 | false=>exact e
def tw_or1{W}(h:Ts X Γ S a W):TsW X Γ S (.BoolOp .Or [a] pos) W:=by
 intro j b s g H O I d f;refine isTrue_or (thn (h b s g H O I d f) λ c i e=>?_)
 cases c with
 | false=>exact isTrue_or_nil e
 | true=>exact e
def tw_and{W}(h:Ts X Γ S a λ c S1=>(c=true->TsW X Γ S1 (.BoolOp .And (b::rest) pos) W)/\(c=false->W false S1)):TsW X Γ S (.BoolOp .And (a::b::rest) pos) W:=by
 intro p d s m H O I f o;refine isTrue_and (thn (h d s m H O I f o) λ c n i=>?_);obtain⟨j,k,l,S1,w1,e,g⟩:=i
 cases c with
 | true=>exact thn (w1.1 rfl p d n m j l k (f.mono e) g) λ _ _ q=>Yq e q
 | false=>exact%[j,k,l,S1,w1.2 rfl,e|g]
def tw_or{W}(h:Ts X Γ S a λ c S1=>(c=true->W true S1)/\(c=false->TsW X Γ S1 (.BoolOp .Or (b::rest) pos) W)):TsW X Γ S (.BoolOp .Or (a::b::rest) pos) W:=by
 intro p d s m H O I f o;refine isTrue_or (thn (h d s m H O I f o) λ c n i=>?_);obtain⟨j,k,l,S1,w1,e,g⟩:=i
 cases c with
 | false=>exact thn (w1.2 rfl p d n m j l k (f.mono e) g) λ _ _ q=>Yq e q
 | true=>exact%[j,k,l,S1,w1.1 rfl,e|g]
def aa8{W}(h:Ts X Γ S a λ c S1=>W (!c) S1):Ts X Γ S (.UnaryOp .Not a pos) W:=by intro b s f H O I d e;exact isTrue_not (thn (h b s f H O I d e) λ c g ⟨H1,I1,O1,S1,w1,st1,ok1⟩=>%[H1,I1,O1,S1,w1,st1|ok1])
def TY{op}(h:Ev X Γ S a W):Ev X Γ S (.BoolOp op [a] pos) W:=λ b s e H O I c d=>BoolOp_one (h b s e H O I c d)
def abG(h:Ev X Γ S a λ x S1=>∃c,x=.bl c/\(c=true->Ev X Γ S1 (.BoolOp .And (b::rest) pos) W)/\(c=false->W (.bl false) S1)):Ev X Γ S (.BoolOp .And (a::b::rest) pos) W:=by
 intro d s n H O I f y;refine BoolOp_and (thn (h d s n H O I f y) λ u w j=>?_);obtain⟨v,k,l,t,m,x,S1,⟨c,r,o,p⟩,e,g,i⟩:=j;subst r;cases i;cases t;refine hE ?_
 cases c with
 | true=>exact thn (o rfl d w n k m l (f.mono e) g) λ _ _ q=>gH e q
 | false=>exact%[.bl false,k,l,rfl,m,.bl false,S1,p rfl,e,g|.bl false]
def adK(h:Ev X Γ S a λ x S1=>∃c,x=.bl c/\(c=true->W (.bl true) S1)/\(c=false->Ev X Γ S1 (.BoolOp .Or (b::rest) pos) W)):Ev X Γ S (.BoolOp .Or (a::b::rest) pos) W:=by
 intro d s n H O I f y;refine BoolOp_or (thn (h d s n H O I f y) λ u w j=>?_);obtain⟨v,k,l,t,m,x,S1,⟨c,r,o,p⟩,e,g,i⟩:=j;subst r;cases i;cases t;refine hE ?_
 cases c with
 | false=>exact thn (p rfl d w n k m l (f.mono e) g) λ _ _ q=>gH e q
 | true=>exact%[.bl true,k,l,rfl,m,.bl true,S1,o rfl,e,g|.bl true]
def acr(h:Ev X Γ S a λ x S1=>∃c,x=.bl c/\W (.bl (!c)) S1):Ev X Γ S (.UnaryOp .Not a pos) W:=by intro b s q H O I e p;refine UnaryOp_ (thn (h b s q H O I e p) λ u r f=>?_);obtain⟨v,j,k,o,l,x,S1,⟨c,n,m⟩,i,g,d⟩:=f;subst n;cases d;cases o;exact not_of (hE %[.bl (!c),j,k,rfl,l,.bl (!c),S1,m,i,g|.bl (!c)])
def aaL(h:Ev X Γ S a λ x S1=>∃i,x=.int i/\W (.int (-i)) S1):Ev X Γ S (.UnaryOp .USub a pos) W:=by intro b s k H O I e t;refine UnaryOp_ (thn (h b s k H O I e t) λ u r f=>?_);obtain⟨v,l,m,q,n,x,S1,⟨c,p,o⟩,j,g,d⟩:=f;subst p;cases d;exact abO b r k l _ _ _ m q %[c,rfl,n,.int (-c),S1,o,j,g|.int (-c)]
def V1(h:Ev X Γ S a λ x S1=>Ev X Γ S1 b λ y S2=>cU X op x y S2 λ z S3=>∃k,z=.bl k/\(k=false->W (.bl false) S3)/\(k=true->Ev X Γ S3 c λ t S4=>cU X n y t S4 W))
 (hm:lastMarks [op,n] [b,c]=false:=by with_unfolding_all rfl):Ev X Γ S (.Compare a [op,n] [b,c] pos) W:=by
 intro e s C H O I m st;refine Compare_chain (thn (h e s C H O I m st) λ u s1 f=>?_) hm;obtain⟨v,N,R,r1,V,x,S1,hb,g,D,p⟩:=f;refine chain_link (thn (hb e s1 C N V R (m.mono g) D) λ M s2 f=>?_);obtain⟨w,P,T,L,Y,y,S2,hw,i,E,l⟩:=f;refine thn (hw e s2 C P Y v w u M T E (p.mono i) l r1 L) λ _ s3 f=>?_;obtain⟨z,G,J,r3,K,d,S3,⟨k,hd,k1,k2⟩,j,o,r⟩:=f;subst hd;cases r;cases r3;refine hE ?_
 cases k with
 | false=>exact ite_ff %[.bl false,G,J,rfl,K,.bl false,S3,k1 rfl,(g.trans i).trans j,o|.bl false]
 | true=>refine ite_tt (chain_last (thn (k2 rfl e s3 C G K J (((m.mono g).mono i).mono j) o) λ u4 s4 f=>?_));obtain⟨w4,Q,U,r4,Z,t,S4,h4,B,F,A⟩:=f;exact thn (h4 e s4 C Q Z w w4 M u4 U F ((l.mono j).mono B) A L r4) λ _ _ q=>gH (((g.trans i).trans j).trans B) q
def nq{W}(w:W [] S):EvA X Γ S [] W:=λ _ a s c H O I _ b=>fF %[[],H,I,.nil,O,[],S,w,Step.refl O H,b|.nil]
def fH{W}(h:Ev X Γ S e λ d S1=>EvA X Γ S1 es λ ds S2=>W (d::ds) S2)(hs:%[|90]:=by rfl):EvA X Γ S (e::es) W:=by intro f a s n H O I c E;rw[hs];show wpAny _ _ (spliced ((false,eval e X.env)::backTo f (starEach es X.env))) _ _ s;refine f8 (thn (h a s n H O I c E) λ u C b=>?_);obtain⟨v,o,q,A,t,x,S1,z,j,l,g⟩:=b;exact thn (z f a C n o t q (c.mono j) l) λ J G b=>by obtain⟨F,p,r,B,y,ds,S2,w,k,m,i⟩:=b;exact%[v::F,p,r,.cons A B,y,x::ds,S2,w,j.trans k,m|.cons (g.mono k) i]
def small(h:n<=1000000):n<=sizeLine:=d6 h %[|1]
def abM(st:%[|37])(h:H p=none):Tp K O (upd H p (.tup xs)) p xs:=%[st.fresh_not h|aR]
def Ve(st:%[|37])(h:H p=none):Ls K O (upd H p (.lst xs)) p xs:=.inl %[st.fresh_not h|.inl aR]
def nP(w:W (.tup ds) S)(st:%[|37])(h:H p=none)(r:%[|58]):QG K O H W (.ref p) (upd H p (.tup xs)):=
 %[O,.tup ds,S,w,Step.fresh h _,st.fresh h _|.tup (abM st h) (r.mono (Step.fresh h _))]
def j8(w:W (.lst ds) S)(st:%[|37])(h:H p=none)(r:%[|58]):QG K O H W (.ref p) (upd H p (.lst xs)):=
 %[O,.lst ds,S,w,Step.fresh h _,st.fresh h _|.lst (Ve st h) (r.mono (Step.fresh h _))]
def JP(w:W (.loc S.length) (S++[ds]))(st:%[|37])(h:H p=none)(r:%[|58]):QG K O H W (.ref p) (upd H p (.lst xs)):=
 %[O.more p,.loc S.length,S++[ds],w,Step.own h _,st.own h r|.loc (by show(O.A++[(p,false)])[S.length]? =some (p,false);rw[<-st.len];simp)]
def ab2{o}(h:EvA X Γ S es λ ds S1=>ds.length<=1000000/\W (.tup ds) S1):Ev X Γ S (.Tuple es o pos) W:=by intro c s q H O I d m;refine wpAny_Tuple_spliced (thn (h pos c s q H O I d m) λ n s1 f=>?_);obtain⟨p,j,k,r,t,ds,S1,⟨z,w⟩,i,g,a⟩:=f;refine%[by rw[<-r.length,a.length];exact small z|?_];have l:j s1.heap.objs.size=none:=k.hok.fresh (y9 _);refine%[.ref s1.heap.objs.size,upd j s1.heap.objs.size (.tup p),k.laid (t':=s1.toks) (λ b u e=>bX _ e) (y9 _) ?_,rfl|(nP w g l a).pre i];exact%[by rw[a.length];exact small z,n,r|%[_,cb _ rfl,rfl,_|rfl]]
def ab7(h:EvA X Γ S es λ ds S1=>ds.length<=1000000/\W (.lst ds) S1):Ev X Γ S (.List es pos) W:=by intro c s p H O I d m;refine wpAny_List_spliced (thn (h pos c s p H O I d m) λ n s1 f=>?_);obtain⟨o,j,k,r,q,ds,S1,⟨z,w⟩,i,g,a⟩:=f;refine%[by rw[<-r.length,a.length];exact small z|?_];have l:j s1.heap.objs.size=none:=k.hok.fresh (y9 _);refine%[.ref s1.heap.objs.size,upd j s1.heap.objs.size (.lst o),k.laid (t':=s1.toks) (λ b u e=>bX _ e) (y9 _) ?_,rfl|(j8 w g l a).pre i];exact%[by rw[a.length];exact small z,n,0,r|cb _ rfl]
def Zo(h:EvA X Γ S es λ ds S1=>ds.length<=1000000/\W (.loc S1.length) (S1++[ds])):Ev X Γ S (.List es pos) W:=by intro c s p H O I d m;refine wpAny_List_spliced (thn (h pos c s p H O I d m) λ n s1 f=>?_);obtain⟨o,j,k,r,q,ds,S1,⟨z,w⟩,i,g,a⟩:=f;refine%[by rw[<-r.length,a.length];exact small z|?_];have l:j s1.heap.objs.size=none:=k.hok.fresh (y9 _);refine%[.ref s1.heap.objs.size,upd j s1.heap.objs.size (.lst o),k.laid (t':=s1.toks) (λ b u e=>bX _ e) (y9 _) ?_,rfl|(JP w g l a).pre i];exact%[by rw[a.length];exact small z,n,0,r|cb _ rfl]
def jQ{g:Int->Int->Int}(a:OpR X (binaryOp op) (rI C λ i j=>.int (g i j)))(c:C i j)(w:W (.int (g i j)) S):gq X op (.int i) (.int j) S W:=
 gY a λ O H v f e b d=>by cases b;cases d;exact%[i,j,rfl,rfl,c|Ac w e (.int _)]
def Jy{g:Int->Int->Int}(a:OpR X (binaryOp op) (rI0 λ i j=>.int (g i j)))(w:W (.int (g i j)) S):gq X op (.int i) (.int j) S W:=
 gY a λ O H v e d b c=>by cases b;cases c;exact%[i,j,rfl,rfl|Ac w d (.int _)]
def acE(w:W (.int (i+j)) S):gq X .Add (.int i) (.int j) S W:=Jy aaP w
def adB(w:W (.int (i-j)) S):gq X .Sub (.int i) (.int j) S W:=Jy abK w
def acR(c:CMul i j)(w:W (.int (i*j)) S):gq X .Mult (.int i) (.int j) S W:=jQ abP c w
def acG(c:0<j)(w:W (.int (i % j)) S):gq X .Mod (.int i) (.int j) S W:=jQ abD c w
def abg(c:0<j/\j<1073741824)(w:W (.int (i/j)) S):gq X .FloorDiv (.int i) (.int j) S W:=jQ Yt c w
def ac1(c:CPow i j)(w:W (.int (i ^ j.toNat)) S):gq X .Pow (.int i) (.int j) S W:=jQ abE c w
def uG{g:Int->Int->Bool}(a:OpR X (compareOp op) (rI0 λ i j=>.bl (g i j)))(w:W (.bl (g i j)) S):cU X op (.int i) (.int j) S W:=
 gY a λ O H v e d b c=>by cases b;cases c;exact%[i,j,rfl,rfl|Ac w d (.bl _)]
def ad5(w:W (.bl (decide (i<j))) S):cU X .Lt (.int i) (.int j) S W:=uG acU w
def adU(w:W (.bl (decide (i<=j))) S):cU X .LtE (.int i) (.int j) S W:=uG acK w
def adP(w:W (.bl (decide (j<i))) S):cU X .Gt (.int i) (.int j) S W:=uG acN w
def ad3(w:W (.bl (decide (j<=i))) S):cU X .GtE (.int i) (.int j) S W:=uG adw w
def ada(w:W (.bl (decide (i=j))) S):cU X .Eq (.int i) (.int j) S W:=
 gY X8 λ O H v d c a b=>by
  cases a;cases b;have e:decide (V.int i=V.int j)=decide (i=j):=by rw[uC];exact(Bool.beq_eq_decide_eq i j)
  exact%[rfl|by rw[e];exact Ac w c (.bl _)]
def ade(w:W (.bl (!decide (i=j))) S):cU X .NotEq (.int i) (.int j) S W:=
 gY Yo λ O H v d c a b=>by
  cases a;cases b;have e:decide (V.int i=V.int j)=decide (i=j):=by rw[uC];exact(Bool.beq_eq_decide_eq i j)
  exact%[rfl|by rw[e];exact Ac w c (.bl _)]
def adG{i j}(w:W (.bl (i==j)) S):cU X .Eq (.bl i) (.bl j) S W:=
 gY X8 λ O H v d c a b=>by cases a;cases b;exact%[rfl|by rw[xr];exact Ac w c (.bl _)]
def adm{i j}(w:W (.bl (!(i==j))) S):cU X .NotEq (.bl i) (.bl j) S W:=
 gY Yo λ O H v d c a b=>by cases a;cases b;exact%[rfl|by rw[xr];exact Ac w c (.bl _)]
def acX(w:W (.bl (match x with | .non=>true | _=>false)) S):cU X .Is x .non S W:=
 gY abH λ O H v d c a b=>by cases b;refine%[rfl|?_];cases a<;>exact Ac w c (.bl _)
def aas(w:W (.bl (match x with | .non=>false | _=>true)) S):cU X .IsNot x .non S W:=
 gY aaa λ O H v d c a b=>by cases b;refine%[rfl|?_];cases a<;>exact Ac w c (.bl _)
def aaH{es}(hz:ds.length+es.length<=1000000)(w:W (.tup (ds++es)) S):gq X .Add (.tup ds) (.tup es) S W:=by
 intro h s Z H O v w' u U I r Q R C E;obtain⟨a,F,rfl,m,i⟩:=dz Q;obtain⟨b,Y,rfl,o,j⟩:=dz R;by_cases B:F=[]
 . subst B;have e:ds=[]:=by have:=i.length;simpa using this.symm
   subst e;cases C;cases E;obtain⟨L,V,N,_⟩:=I.tuple m.sq;obtain⟨g,v2,P,_⟩:=I.tuple o.sq;cases V;obtain⟨⟨G,J,x,T⟩,A,y,n,z⟩:=id N;obtain⟨⟨t,l,k,q⟩,f,c,M,d⟩:=id P;simp only at y z c d;subst y z c d;exact oq %[_,A|rfl] %[_,f|rfl] noFill_tuple_add seq_tuple_add nv n3 (mw _ _)
    (tuple_addW0 a b ([]:List Value).toArray g.toArray n M J l T q rfl) %[A,f|%[.ref b,H,I,rfl|Ac w r (.tup o j)]]
 . refine ZC h s Z H _ _ u U _ I C E %[a,b,F,Y,rfl,rfl,m.sq,o.sq,B,by rw[i.length,j.length];exact small hz,λ e=>?_|λ _ p K=>nP w r K (i.append j)];subst e;have e:es=[]:=by have:=j.length;simpa using this.symm
   subst e;rw[gt]at w;exact Ac w r (.tup m i)
def ab1{es}(hz:ds.length+es.length<=1000000)(w:W (.lst (ds++es)) S):gq X .Add (.lst ds) (.lst es) S W:=by
 intro x s σ H O v Y u V I U N P Q R;obtain⟨a,Z,rfl,F,j⟩:=dW N;obtain⟨b,ys,rfl,G,k⟩:=dW P;cases Q;cases R;obtain⟨d,y,L,_⟩:=I.list F.sq;obtain⟨c,A,M,_⟩:=I.list G.sq;obtain⟨⟨B,C,o,T⟩,n,t,p,J,q⟩:=id L;obtain⟨⟨m,i,h,l⟩,K,g,e,r,f⟩:=id M;simp only at p q e f;subst p q e f;have z:d.length+c.length<=sizeLine:=by rw[<-y.length,<-A.length,j.length,k.length];exact small hz
 refine oq %[_,t|rfl] %[_,g|rfl] noFill_list_add seq_list_add PySem.F.slot_list_add PySem.F.entry_list_add (PySem.F.args_list_add_2 _ _)
  (list_addW a b d.toArray c.toArray n K C i T l (by simpa using z)) %[t,g|?_];have E:d.toArray++c.toArray=(d++c).toArray:=by simp
 rw[E];refine%[%[|8],_,I.lnew (t':=s.toks) (y.append A) (by rw[x8,j.length,k.length];exact small hz),rfl|j8 w U I.fresh (j.append k)]
end
end DL
namespace DL
open PySem PySem.Spec L2
open PyProof.Rows
variable{K:PySem.W.Frag}{O:Own}{H:Hp}{xs:List V}{ds:List D}{i:Int}{d:D}{k:Nat}{x:Str}{p:Pos}
section
variable{X:Cx}{Γ:Gam}{S:Store}{W:WD}{a b e:Expr}{es:List Expr}{pos:Pos}
def IxW(X:Cx)(a b:Expr)(x y:D)(S:Store)(W:WD):Prop:=
 ∀ (c:Pins)(s:af3)(e:St)(H:Hp)(O:Own)(v w:V)(u d:Value),Inv X c e H s->%[|15]->Rep X.K O H v x->Rep X.K O H w y->RelV v u->RelV w d->
   subscripted b false u d=operate [u,d] (getItem u d)->wpAny %[|5] X.A (subscriptTail a b u d) (EP X c e (QG X.K O H W)) X.xe s
def adD(h:Ev X Γ S a λ x S1=>Ev X Γ S1 b λ y S2=>IxW X a b x y S2 W)(hs:Ng b:=by intro _ _;rfl):Ev X Γ S (.Subscript a b pos) W:=by intro c s m H O I e G;refine Subscript_ (thn (h c s m H O I e G) λ u E d=>?_);obtain⟨v,n,p,C,t,x,S1,A,i,k,f⟩:=d;refine thn (A c E m n t p (e.mono i) k) λ J F d=>?_;obtain⟨w,o,r,D,z,y,S2,B,j,l,g⟩:=d;exact thn (B c F m o z v w u J r l (f.mono j) g C D (hs _ _)) λ _ _ q=>gH (i.trans j) q
def Bg(r:%[|58])(h:atI ds i=some d):∃v,atI xs i=some v/\%[|33]:=by
 unfold atI at h ⊢;rw[r.length]
 cases e:ixN ds.length i with
 | none=>rw[e]at h;cases h
 | some j=>rw[e]at h;exact r.get (i:=j) h
def adp(h:atI ds i=some d)(w:W d S):IxW X a b (.tup ds) (.int i) S W:=by intro c s x H O v y u r I q k l m n f;cases l;obtain⟨p,t,rfl,e,j⟩:=dz k;obtain⟨z,g,o⟩:=Bg j h;exact ab4 a b c s x H _ _ u r _ I m n %[p,t,i,z,rfl,rfl,e.sq,g|Ac w q o] f
def ac3(h:atI ds i=some d)(w:W d S):IxW X a b (.lst ds) (.int i) S W:=by intro c s x H O v y u r I q k l m n f;cases l;obtain⟨p,t,rfl,e,j⟩:=dW k;obtain⟨z,g,o⟩:=Bg j h;exact Oh a b c s x H _ _ u r _ I m n %[p,t,i,z,rfl,rfl,e.sq,g|Ac w q o] f
def acQ(g:S[k]? =some ds)(h:atI ds i=some d)(w:W d S):IxW X a b (.loc k) (.int i) S W:=by intro c s B H O v C u y I e o q r t j;cases q;obtain⟨p,rfl,f⟩:=eU o;obtain⟨A,l,n⟩:=e.obj k p ds f g;obtain⟨z,m,x⟩:=Bg n h;exact Oh a b c s B H _ _ u y _ I r t %[p,A,i,z,rfl,rfl,SqL.of l,m|Ac w e x] j
def PoD(X:Cx)(Γ:Gam)(S:Store)(o:Option Expr)(W:Option Int->%[|7]):Prop:=match o with
 | none=>W none S
 | some e=>Ev X Γ S e λ d a=>∃i,d=.int i/\W (some i) a
def SlW(X:Cx)(x:D)(lo hi:ag3)(S:Store)(W:WD):Prop:=
 ∀ (a:Pins)(s:af3)(e:St)(H:Hp)(O:Own)(v:V)(u c d:Value)(b:Addr),Inv X a e H s->%[|15]->Rep X.K O H v x->RelV v u->s.heap.IsSliceOf b c d .none->IsPart c lo->IsPart d hi->
   ∃T f,typeLookup (.type T) "__getitem__"=pure (some (.builtin f))/\s.TypeIs u T/\wpAny %[|5] X.A (getItem u (.ref b)) (EP X a e (QG X.K O H W)) X.xe s
def SQ{W}(h:PoD X Γ S o W){pins:Pins}{σ:St}(I:%[|3])(env:EnvOk X.K O H σ Γ)(st:%[|15]):
 wpAny %[|5] X.A (evalPart o X.env) (λ u s'=>∃p H' O' S',Inv X pins σ H' s'/\IsPart u p/\W p S'/\Step O O' H H'/\StOk X.K O' H' S') X.xe s:=by
 cases o with
 | none=>rw[evalPart_none];exact b9 %[none,H,O,S,I,.none,h,Step.refl O H|st]
 | some e=>rw[evalPart_some];refine thn (h pins s σ H O I env st) λ u n b=>?_;obtain⟨v,f,g,m,j,x,k,⟨i,l,w⟩,d,c,a⟩:=b;subst l;cases a;obtain⟨t,rfl⟩:=m;exact%[some i,f,j,k,g,.int i t,w,d|c]
def V7{lo hi}(h:Ev X Γ S e λ x S1=>PoD X Γ S1 lo λ l S2=>PoD X Γ S2 hi λ r S3=>SlW X x l r S3 W):Ev X Γ S (.Subscript e (.Slice lo hi none w) pos) W:=by intro c s t H O I d Q;refine Subscript_ (thn (h c s t H O I d Q) λ v s1 a=>?_);obtain⟨y,R,z,P,V,x,S1,F,f,n,i⟩:=a;refine wpAny_Slice (thn (SQ F z (d.mono f) n) λ k s2 a=>?_);obtain⟨l,U,Y,S2,A,M,G,g,o⟩:=a;refine thn (SQ G A ((d.mono f).mono g) o) λ m s3 a=>?_;obtain⟨r,u,D,S3,B,N,J,j,p⟩:=a;rw[evalPart_none];refine b9 ?_;have C:Inv X c t u {s3 with heap:=s3.heap.push {cls:=.type "slice",data:=.fields #[k,m,.none]}}:=B.kept (t':=s3.toks) λ b ob q=>bX _ q;obtain⟨T,Z,E,L,K⟩:=J c {s3 with heap:=s3.heap.push {cls:=.type "slice",data:=.fields #[k,m,.none]}} t u D y v k m s3.heap.objs.size C p ((i.mono g).mono j) P (Heap.IsSliceOf.new ..) M N;show wpAny %[|5] X.A (subscriptTail e (.Slice lo hi none w) v (.ref s3.heap.objs.size)) _ X.xe {s3 with heap:=s3.heap.push {cls:=.type "slice",data:=.fields #[k,m,.none]}};exact tail_any (ops:=[.ref s3.heap.objs.size,v]) L E (thn K λ _ _ q=>gH ((f.trans g).trans j) q) (by with_unfolding_all rfl)
def cutD(ds:List D)(lo hi:ag3):List D:=(ds.drop (HT.sIx ds.length 0 lo)).take (HT.sIx ds.length ds.length hi-HT.sIx ds.length 0 lo)
def zR(r:%[|58])(lo hi:ag3):Reps K O H (sZ xs lo hi) (cutD ds lo hi):=by unfold sZ cutD;rw[r.length];exact(r.drop _).take _
def Lx{t e}{lo hi}(a:IsTup s.heap t items)(hs:s.heap.IsSliceOf e vl vu .none)(pl:IsPart vl lo)(j:IsPart vu hi)
 (f:HT.sIx items.size 0 lo=0)(h1:HT.sIx items.size items.size hi=items.size)(h:Q (.ref t) s):wpAny %[|4] A (getItem (.ref t) (.ref e)) Q E s:=by
 obtain⟨i,c,b,g⟩:=id hs;have d:s.TypeIs (.ref e) "slice":=%[i,c|b];unfold getItem;try with_reducible refine eD ?_
 first | refine b0 (b9 ?_) | skip
 refine b0 (wpAny_sequenceKey a.typeIs %[|1] ?_);refine b0 (wpAny_callSpecial?_slot (name:=Str.ofString "__getitem__") a.typeIs gp
  (dQ gp a.typeIs entry_tuple_getitem ?_ (args_tuple_getitem _ _)));show wpAny _ _ (Builtin.Tuple.tupleItemsOf (.ref t)>>=_) _ _ s;refine b0 (tupleItemsOf_ a (b0 (iq d ?_)));rw[ci %[|1]];refine b0 (HT.sliceApplied_gen hs pl j ?_);rw[f,h1];show wpAny _ _ (if(((0:Nat):Int)==0&&(1:Int)==1&&(items.size-0)==items.size)=true then _ else _) _ _ s;rw[ci (by simp)];unfold Builtin.Tuple.tupleIsExact;first
  | exact b0 (b0 (iq a.typeIs (b9 (by rw[ci %[|1]];exact b0 (kt (b9 %[_,rfl|b9 h]))))))
  | (refine b0 (b0 (iq a.typeIs (b9 ?_)));simp only[ge,h9];exact b0 (kt (b9 %[_,rfl|b9 h])))
def adC{lo hi}(w:W (.tup (cutD ds lo hi)) S):SlW X (.tup ds) lo hi S W:=by
 intro c s y H O v u t x q I m o l h j k;obtain⟨p,b,rfl,f,d⟩:=dz o;by_cases hw:HT.sIx b.length 0 lo=0/\HT.sIx b.length b.length hi=b.length
 . cases l;obtain⟨g,r,i,z⟩:=I.tuple f.sq;have a:g.toArray.size=b.length:=by rw[x5];exact r.length.symm
   refine%["tuple",_,gp.lookup,i.typeIs|Lx i h j k (by rw[a];exact hw.1) (by rw[a];exact hw.2) %[.ref p,H,I,rfl|?_]];have e:cutD ds lo hi=ds:=by unfold cutD;rw[<-d.length,hw.1,hw.2,List.drop_zero,cS (by rw[<-d.length];omega)]
   rw[e]at w;exact Ac w m (.tup f d)
 {exact abj c s y H _ u t x lo hi q _ I l h j k %[p,b,rfl,f.sq,hw|λ A n=>nP w m n (zR d lo hi)]}
def ac6{lo hi}(w:W (.lst (cutD ds lo hi)) S):SlW X (.lst ds) lo hi S W:=by intro a s o H O v u l m j I k h i d e f;obtain⟨p,n,rfl,b,g⟩:=dW h;exact Nu a s o H _ u l m lo hi j _ I i d e f %[p,n,rfl,b.sq|λ q c=>j8 w k c (zR g lo hi)]
def WL{id}(h:EvA X Γ S (e::es) λ ds S1=>fQ X (.builtin id) ds S1 W)(t:X.mg x=none)(v:bootBuiltins x=some (.builtin id))(r:Gl X x:=by rfl)(u:x≠"__name__":=by decide)(c:%[|67]:=by decide)
 (o:%[|90]:=by rfl)(d:(backTo pos (starEach es X.env)).any (·.1)=false:=by rfl):Ev X Γ S (.Call (.Name x p) (e::es) [] pos) W:=by intro a s k H O I b A;refine gu (cV I r t v ?_ u c);exact i0 (thn (h pos a s k H O I b A) λ B z f=>by obtain⟨C,l,m,y,n,ds,S1,w,j,g,i⟩:=f;exact thn (w a z k l n C B m g i y) λ _ _ q=>gH j q) o d
def VL(h:EvA X Γ S (e::es) λ ds S1=>fQ X (.type T) ds S1 W)(t:X.mg x=none)(v:bootBuiltins x=some (.type T))(r:Gl X x:=by rfl)(u:x≠"__name__":=by decide)(c:%[|67]:=by decide)
 (o:%[|90]:=by rfl)(d:(backTo pos (starEach es X.env)).any (·.1)=false:=by rfl):Ev X Γ S (.Call (.Name x p) (e::es) [] pos) W:=by intro a s k H O I b A;refine gu (cV I r t v ?_ u c);exact eu (thn (h pos a s k H O I b A) λ B z f=>by obtain⟨C,l,m,y,n,ds,S1,w,j,g,i⟩:=f;exact thn (w a z k l n C B m g i y) λ _ _ q=>gH j q) o d
def d8{b}(r:Reps K O H b [d]):∃v,b=[v]/\%[|33]:=by cases r with| cons a t=>cases t;exact%[_,rfl|a]
def acq(w:W (.int ds.length) S):fQ X (.builtin "len") [.tup ds] S W:=eV jX λ O H f d r=>by obtain⟨v,rfl,c⟩:=d8 r;obtain⟨p,e,rfl,a,b⟩:=dz c;exact%[p,e,rfl,.inr a.sq|by rw[b.length];exact Ac w d (.int _)]
def ab5(w:W (.int ds.length) S):fQ X (.builtin "len") [.lst ds] S W:=eV jX λ O H f d r=>by obtain⟨v,rfl,c⟩:=d8 r;obtain⟨p,e,rfl,a,b⟩:=dW c;exact%[p,e,rfl,.inl a.sq|by rw[b.length];exact Ac w d (.int _)]
def acA(c:S[k]? =some ds)(w:W (.int ds.length) S):fQ X (.builtin "len") [.loc k] S W:=eV jX λ O H h a r=>by obtain⟨v,rfl,f⟩:=d8 r;obtain⟨p,rfl,b⟩:=eU f;obtain⟨g,d,e⟩:=a.obj k p ds b c;exact%[p,g,rfl,.inl (SqL.of d)|by rw[e.length];exact Ac w a (.int _)]
def aby(w:W (.tup ds) S):fQ X %[|9] [.lst ds] S W:=eV pX λ O H g e r=>by obtain⟨v,rfl,d⟩:=d8 r;obtain⟨p,f,rfl,a,c⟩:=dW d;exact%[p,f,rfl|.inl %[a.sq|λ l b=>nP w e b c]]
def acl(c:S[k]? =some ds)(w:W (.tup ds) S):fQ X %[|9] [.loc k] S W:=eV pX λ O H i a r=>by obtain⟨v,rfl,g⟩:=d8 r;obtain⟨p,rfl,b⟩:=eU g;obtain⟨h,e,f⟩:=a.obj k p ds b c;exact%[p,h,rfl|.inl %[SqL.of e|λ l d=>nP w a d f]]
abbrev Ct:=List D->Store->WD->Prop
def spC(K:af0)(n:Nat)(F:Ct):Sp:=λ c H Q _=>∃O a S W,a.length=n/\Reps K O H c a/\%[|37]/\F a S W/\∀v b,QG K O H W v b->Q v b
structure Callee(P:ag4)(w:World)(K:af0)(mg:af8)(base:Heap)(x:Str)(k n:Nat)(F:Ct):Prop where
 ex:∃f fd ps,FnOk P w K mg base CX0 k f fd ps (spC K n F)/\mg x=some (.ref f)/\PySem.W.keepIn K (.ref f)=true/\Binds K fd ps []
def Yw(C:Callee X.prog X.w X.K X.mg X.base x k n F)(D:Room k X.A)(h:EvA X Γ S (e::es) λ ds S1=>ds.length=n/\F ds S1 W)(y:Gl X x:=by rfl)(c:%[|67]:=by decide)
 (u:%[|90]:=by rfl)(d:(backTo pos (starEach es X.env)).any (·.1)=false:=by rfl):Ev X Γ S (.Call (.Name x p) (e::es) [] pos) W:=by intro a s J H O I b G;obtain⟨f,M,N,r,B,z,t⟩:=C.ex;refine gu (Ox I y B ?_ c);refine PySem.W.callWith_K (h₀:=X.base) I.ok.mod.kin z (thn (h pos a s J H O I b G) λ Q P g=>?_) u d;obtain⟨R,L,m,E,o,ds,S1,⟨A,w⟩,l,i,j⟩:=g;refine%[m.kIn|?_];refine abo r D t .nil adL m E ?_;rw[gt];exact%[o,ds,S1,W,A,j,i,w|λ v K q=>q.pre l]
structure Fin where
 nx:Gam->%[|7]
 rt:WD
 bk:Gam->%[|7]:=λ _ _=>False
 ct:Gam->%[|7]:=λ _ _=>False
inductive QN(K:af0)(O:Own)(H:Hp)(W:Gam->%[|7])(σ':St)(H':Hp):Prop
 | mk(O':Own)(Γ':Gam)(S':Store)(w:W Γ' S')(q:And3 (Step O O' H H') (StOk K O' H' S') (EnvOk K O' H' σ' Γ')):QN K O H W σ' H'
def ends(K:af0)(O:Own)(H:Hp)(W:Fin):Ends:={nx:=QN K O H W.nx,rt:=QG K O H W.rt,bk:=QN K O H W.bk,ct:=QN K O H W.ct}
def Rn(X:Cx)(Γ:Gam)(S:Store)(st:Stmt)(W:Fin):Prop:=
 ∀ (a:Pins)(s:af3)(b:St)(H:Hp)(O:Own),Inv X a b H s->EnvOk X.K O H b Γ->%[|15]->
   wpAny %[|5] X.A (exec st X.env) (SP X a (ends X.K O H W)) X.xe s
def Rns(X:Cx)(Γ:Gam)(S:Store)(sts:List Stmt)(W:Fin):Prop:=
 ∀ (a:Pins)(s:af3)(b:St)(H:Hp)(O:Own),Inv X a b H s->EnvOk X.K O H b Γ->%[|15]->
   wpAny %[|5] X.A (execs sts X.env) (SP X a (ends X.K O H W)) X.xe s
def QN.pre{b}(st:Step O c H b){W}{a}(q:QN K c b W v a):QN K O H W v a:=by obtain⟨e,d,f,w,h,g,r⟩:=q;exact%[e,d,f,w,st.trans h,g|r]
def Qe{pins:Pins}{d}{W}(st:Step O d H c)(q:SP X pins (ends X.K d c W) f s'):SP X pins (ends X.K O H W) f s':=by
 cases f with
 | next=>obtain⟨b,a,I,q⟩:=q;exact%[b,a,I|QN.pre st q]
 | brk=>obtain⟨b,a,I,q⟩:=q;exact%[b,a,I|QN.pre st q]
 | cont=>obtain⟨b,a,I,q⟩:=q;exact%[b,a,I|QN.pre st q]
 | ret u=>obtain⟨v,b,a,I,r,q⟩:=q;exact%[v,b,a,I,r|QG.pre st q]
variable{W:Fin}{st:Stmt}{sts:List Stmt}
def abl(w:W.nx Γ S):Rns X Γ S [] W:=λ b s d H O I a c=>wpAny_execs_nil %[d,H,I,O,Γ,S,w,Step.refl O H,c|a]
def Yv(h:Rn X Γ S st {W with nx:=λ Γ1 S1=>Rns X Γ1 S1 sts W}):Rns X Γ S (st::sts) W:=by
 intro a s n H O I c l;refine wpAny_execs_cons (thn (h a s n H O I c l) λ f m q=>?_)
 cases f with
 | next=>obtain⟨g,i,j,k,Γ1,S1,w,e,d,b⟩:=q;exact thn (w a m g i k j b d) λ _ _ q=>Qe e q
 | ret v=>exact q
 | brk=>exact q
 | cont=>exact q
def acV(h:Ev X Γ S e W.rt):Rn X Γ S (.Return (some e) pos) W:=by intro a s c H O I b d;exact wpAny_Return_some (thn (h a s c H O I b d) λ v f ⟨x,H1,I1,r1,q1⟩=>%[x,c,H1,I1,r1|q1])
def ad4{xs ys}(h:Ts X Γ S c λ k S1=>(k=true->Rns X Γ S1 xs W)/\(k=false->Rns X Γ S1 ys W)):Rn X Γ S (.If c xs ys pos) W:=by
 intro a s i H O I e o;refine wpAny_If (thn (h a s i H O I e o) λ d n g=>?_);obtain⟨j,l,m,S1,w,b,f⟩:=g
 cases d with
 | true=>exact thn (w.1 rfl a n i j m l (e.mono b) f) λ _ _ q=>Qe b q
 | false=>exact thn (w.2 rfl a n i j m l (e.mono b) f) λ _ _ q=>Qe b q
def Ye(i:Nat){a}(h:Ev X Γ S e λ d S1=>W.nx (Γ.set i (some d)) S1)(p:X.N.Nodup)(hi:X.N[i]? =some x:=by rfl)(r:Loc X.env.scope x:=by first | exact Or.inl rfl | exact Or.inr rfl)
 (hs:swapsWith e (some (.Name x a)) pos.line X.env=pure false:=by rfl)(q:%[|88]:=by first | exact .inl rfl | exact .inr rfl):Rn X Γ S (.Assign [.Name x a] e pos) W:=by intro c s z H O I b t;refine wpAny_Assign_Name (thn (h c s z H O I b t) λ v A j=>?_) hs;obtain⟨y,l,m,u,o,d,S1,w,g,k,f⟩:=j;exact wJ m p hi r u (λ B n=>%[_,l,n,o,_,S1,w,g,k|(b.mono g).set f i]) q
def abY(h:Ev X Γ S e λ d S1=>W.nx Γ S1)(hs:swapsWith e none pos.line X.env=pure false:=by rfl):Rn X Γ S (.Expr e pos) W:=by intro b s j H O I a n;exact wpAny_Expr_any (thn (h b s j H O I a n) λ v p f=>by obtain⟨x,k,l,o,m,d,S1,w,c,g,i⟩:=f;exact%[j,k,l,m,Γ,S1,w,c,g|a.mono c]) I.quiet hs
def tE(K:af0)(Γ:Gam)(S:Store)(W:WD):TE:=λ b H Q=>∃O,EnvOk K O H b Γ/\%[|37]/\∀v a,QG K O H W v a->Q v a
def aaX{pins:Pins}{σ:St}{Q a}(q:EP X pins σ Q u s')(k:∀v H',Q v H'->a v H'):EP X pins σ a u s':=by obtain⟨v,H',I,r,q⟩:=q;exact%[v,H',I,r|k v H' q]
def Ev.pe{W}(h:Ev X Γ S e W):PE X e (tE X.K Γ S W):=λ a s b H Q I ⟨O,env,st,k⟩=>thn (h a s b H O I env st) λ _ _ q=>aaX q k
def tEA(K:af0)(Γ:Gam)(S:Store)(W:List D->%[|7]):TA:=λ b H Q=>∃O,EnvOk K O H b Γ/\%[|37]/\∀v a,QA K O H W v a->Q v a
def EvA.pa{W}(h:EvA X Γ S es W):PA X es (tEA X.K Γ S W):=λ b a s c H Q I ⟨O,env,st,k⟩=>thn (h b a s c H O I env st) λ _ _ ⟨v,H',I',r,q⟩=>%[v,H',I',r|k v H' q]
def aat{o i}{a}(h:Ev X Γ S e λ d S1=>Ev X Γ S1 o λ x S2=>Ev X Γ S2 i λ y S3=>∃k n ds j,x=.loc k/\y=.int n/\S3[k]? =some ds/\ixN ds.length n=some j/\W.nx Γ (S3.set k (ds.set j d)))
 (ha:∀v,assign (.Subscript o i a) X.env v=(do
  let ov <-holding [v] (eval o X.env)
  let iv <-holding [v,ov] (eval i X.env)
  standAt a
  holding [v,ov,iv] (setItem ov iv v)
  release [v,ov,iv] []):=by intro _;rfl)(hs:swapsWithSole [.Subscript o i a] e pos.line X.env=pure false:=by rfl)(hw:swappedStores [.Subscript o i a] e X.env=pure none:=by rfl)
 (h1:(assignEach [.Subscript o i a] X.env).map (·.2)=[assign (.Subscript o i a) X.env]:=by rfl):Rn X Γ S (.Assign [.Subscript o i a] e pos) W:=by intro c s B H O I f ok;refine wpAny_Assign_stores (thn (h c s B H O I f ok) λ u s1 b=>?_) hs hw;obtain⟨v,K,M,r1,R,d,S1,w1,g,D,t⟩:=b;rw[h1];show wpAny _ _ (assign (.Subscript o i a) X.env u) _ _ _;rw[ha];refine b0 (eD (thn (w1 c s1 B K R M (f.mono g) D) λ ov s2 b=>?_));obtain⟨x,L,N,r2,T,dx,S2,w2,l,E,z⟩:=b;refine b0 (eD (thn (w2 c s2 B L T N ((f.mono g).mono l) E) λ iv s3 b=>?_));obtain⟨y,F,P,r3,U,dy,S3,⟨k,n,ds,j,Y,Z,hk,hj,w⟩,m,r,A⟩:=b;subst Y;subst Z;have rx:=z.mono m;obtain⟨p,rfl,C⟩:=eU rx;cases A;obtain⟨G,hx,q⟩:=r.obj k p ds C hk;have rd:=(t.mono l).mono m;refine b0 (wpAny_standAt (b0 (eD (thn (set_list c s3 B F _ _ v ov iv u (λ J=>J=upd F p (.lst (G.set j v))) P r2 r3 r1 %[p,G,n,j,rfl,rfl,hx,by rw[q.length];exact hj|rfl]) λ _ s4 b=>?_))));obtain⟨H4,Q,V⟩:=b;subst V;refine wpAny_release %[B,_,Q,U,Γ,_,w,((g.trans l).trans m).trans (Step.put (dD C) _),r.put C (q.set rd j)|(((f.mono g).mono l).mono m).mono (Step.put (dD C) _)]
def BdW(X:Cx)(tg:Expr)(d:D)(Γ:Gam)(S:Store)(W:Gam->%[|7]):Prop:=
 ∀ (a:Pins)(s:af3)(b:St)(H:Hp)(O:Own)(v:V)(u:Value),Inv X a b H s->EnvOk X.K O H b Γ->%[|15]->Rep X.K O H v d->RelV v u->
   wpAny %[|5] X.A (assign tg X.env u) (λ _ c=>NP X a (QN X.K O H W) c) X.xe s
def Hu(X:Cx)(ts:ag0)(ds:List D)(Γ:Gam)(S:Store)(W:Gam->%[|7]):Prop:=
 ∀ (a:Pins)(s:af3)(d:St)(H:Hp)(O:Own)(c:List V)(b:af5),Inv X a d H s->EnvOk X.K O H d Γ->%[|15]->Reps X.K O H c ds->Vals c b->
   wpAny %[|5] X.A (assignInOrder ((assignEach ts X.env).map (·.2)) b) (λ _ e=>NP X a (QN X.K O H W) e) X.xe s
def aaC(i:Nat){W}(w:W (Γ.set i (some d)) S)(e:X.N.Nodup)(hi:X.N[i]? =some x:=by rfl)(g:Loc X.env.scope x:=by first | exact Or.inl rfl | exact Or.inr rfl)
 (f:%[|88]:=by first | exact .inl rfl | exact .inr rfl):BdW X (.Name x pos) d Γ S W:=λ b s l H O v u I a j r h=>
 wpAny_assign_Name (wJ I e hi g h (λ k c=>%[_,H,c,O,_,S,w,Step.refl O H,j|a.set r i]) f)
def ZK{W}(w:W Γ S):Hu X [] [] Γ S W:=λ b s e H O g f I a d r c=>by cases r;cases c;exact assignInOrder_nil %[e,H,I,O,Γ,S,w,Step.refl O H,d|a]
def Xk{W}(h:BdW X t d Γ S λ Γ1 S1=>Hu X f ds Γ1 S1 W)
 (hs:(assignEach (t::f) X.env).map (·.2)=assign t X.env::(assignEach f X.env).map (·.2):=by rfl):Hu X (t::f) (d::ds) Γ S W:=λ a s A H O D C I g z r k=>by cases r with| cons r x=>cases k with| cons k j=>rw[hs];refine assignInOrder_cons (thn (h a s A H O _ _ I g z r k) λ _ y b=>?_);obtain⟨l,n,p,v,Γ1,S1,w,e,i,c⟩:=b;refine thn (w a y l n v _ _ p c i (x.mono e) j) λ _ B b=>by obtain⟨m,o,u,q⟩:=b;exact%[m,o,u|QN.pre e q]
def acf{W}(h:Hu X c ds Γ S W)(q:%[|32]:=by rfl)(t:(assignEach c X.env).length=ds.length:=by rfl)(f:(assignEach c X.env).findIdx? (·.1)=none:=by rfl):BdW X (.Tuple c k pos) (.tup ds) Γ S W:=λ a s j H O v u I d A r z=>by obtain⟨p,B,rfl,n,g⟩:=dz r;cases z;obtain⟨y,i,w,C⟩:=I.tuple n.sq;refine assign_Tuple_tuple (I.ok.hd q) w (by simp[t,<-g.length,i.length]) f λ m x=>?_;have l:Inv X a j H {s with heap:=m}:=I.kept (t':=s.toks) λ b o e=>x b o (cr (ca e)) e;exact h a _ j H O B _ l d A g (by simpa using i)
def kJ(K:af0)(J:It)(O:Own)(H:Hp)(ds:List D):Prop:=
 ∀(e:Own)(c:Hp),Conv O e H c->(∀a,e.has a->c a≠none)->∀i:Nat,(∀d,%[|25]->J.go i c/\∀x b,J.yld i c x b->fB c b/\Rep K e b x d)/\(i=ds.length->J.stop i c)
inductive QI(K:af0)(O:Own)(H:Hp)(W:List D->%[|7])(J:It)(H':Hp):Prop
 | mk(O':Own)(ds:List D)(S':Store)(w:W ds S')(q:And3 (Step O O' H H') (StOk K O' H' S') (kJ K J O' H' ds)):QI K O H W J H'
def ItW(X:Cx)(Γ:Gam)(S:Store)(tg iter:Expr)(W:List D->%[|7]):Prop:=
 ∀ (a:Pins)(s:af3)(b:St)(H:Hp)(O:Own),Inv X a b H s->EnvOk X.K O H b Γ->%[|15]->
   wpAny %[|5] X.A (eval iter X.env) (λ v c=>wpAny %[|5] X.A (pyIter v) (PIE X a b tg (QI X.K O H W)) X.xe c) X.xe s
def vQ{a}(h:Ls K O H a xs)(r:%[|58]):kJ K (Itl K a) O H ds:=by intro n m f _ i;have b:=(h.conv f).sq;refine%[λ d j=>?_|λ k=>%[xs,b|by rw[r.length];exact mA k.symm]];obtain⟨v,c,l⟩:=r.get j;refine%[%[xs,v,b|c]|λ x g y=>?_];obtain⟨e,y⟩:=y;subst e;have e:=y xs b;rw[c]at e;cases e;exact%[fB.refl _|l.conv f]
def xq{a}(h:Tp K O H a xs)(r:%[|58]):kJ K (Itt K a) O H ds:=by intro n m f _ i;have b:=(h.conv f).sq;refine%[λ d j=>?_|λ k=>%[xs,b|by rw[r.length];exact mA k.symm]];obtain⟨v,c,l⟩:=r.get j;refine%[%[xs,v,b|c]|λ x g y=>?_];obtain⟨e,y⟩:=y;subst e;have e:=y xs b;rw[c]at e;cases e;exact%[fB.refl _|l.conv f]
def upTo(lo:Int)(n:Nat):List D:=%[|31].map λ(k:Nat)=>D.int (lo+(k:Int))
def aL(lo:Int)(n:Nat):(upTo lo n).length=n:=by simp[upTo]
def cP{lo}{n i}(h:(upTo lo n)[i]? =some d):i<n/\d=.int (lo+i):=by
 unfold upTo at h;rw[y8]at h
 cases e:%[|31][i]? with
 | none=>rw[e]at h;cases h
 | some k=>rw[e]at h;obtain⟨b,a⟩:=z0.mp e;simp at b a;subst a;cases h;exact%[b|rfl]
def rN(lo:Int)(n:Nat):kJ K (Itr lo n) O H (upTo lo n):=by intro j h k _ i;refine%[λ d g=>?_|λ a=>by rw[aL]at a;exact mA a.symm];obtain⟨a,c⟩:=cP g;subst c;refine%[a|λ x b y=>?_];obtain⟨e,f⟩:=y;subst e;subst f;exact%[fB.refl _|.int _]
def Rz{u a}{W}(h:Ev X Γ S a λ d S1=>∃j:Int,d=.int j/\ -(2 ^ 62)<=j/\j<2 ^ 62/\W (upTo 0 j.toNat) S1)(r:X.mg "range"=none)(o:Gl X "range":=by rfl)(hs:starEach [a] X.env=[(false,eval a X.env)]:=by rfl):
 ItW X Γ S u (.Call (.Name "range" p) [a] [] pos) W:=by intro b s x H O I c t;refine Ut o r (uI h.pe Ih hs) hs b s x H _ I %[O,c,t|λ v y q=>?_];obtain⟨i,d,k,⟨j,l,m,n,w⟩,g,e,f⟩:=q;subst l;cases f;exact%[j,rfl,m,n,i,_,k,w,g,e|rN 0 _]
def RK{F a b}{W}(h:Ev X Γ S a λ d S1=>Ev X Γ S1 b λ d' S2=>∃i j:Int,d=.int i/\d'=.int j/\(-(2 ^ 62)<=i/\i<2 ^ 62/\ -(2 ^ 62)<=j/\j<2 ^ 62)/\W (upTo i (j-i).toNat) S2)(A:X.mg "range"=none)(z:Gl X "range":=by rfl)
 (hs:starEach [a,b] X.env=[(false,eval a X.env),(false,eval b X.env)]:=by rfl)(c:starEach [b] X.env=[(false,eval b X.env)]:=by rfl):
 ItW X Γ S F (.Call (.Name "range" p) [a,b] [] pos) W:=by
 intro e s G H O I f E;have y:EvA X Γ S [a,b] λ o S2=>∃i j:Int,o=[.int i,.int j]/\(-(2 ^ 62)<=i/\i<2 ^ 62/\ -(2 ^ 62)<=j/\j<2 ^ 62)/\W (upTo i (j-i).toNat) S2:=
  fH (h.mono λ d S1 x=>fH (x.mono λ d' S2 ⟨i,j,e1,e2,g,w⟩=>nq %[i,j,by rw[e1,e2],g|w]) c) (by rw[hs,c]);refine Vh z A y.pa hs c e s G H _ I %[O,f,E|λ v J q=>?_];obtain⟨r,o,t,⟨i,j,u,g,w⟩,n,k,m⟩:=q;subst u;cases m with| cons B l=>cases l with| cons l C=>cases C;cases B;cases l;exact%[i,j,rfl,g,r,_,t,w,n,k|rN i _]
def adl(h:ItW X Γ S M iter λ ds S1=>∃Pv:%[|53],Pv 0 Γ S1/\
 (∀i d Γ' S',%[|25]->Pv i Γ' S'->BdW X M d Γ' S' λ Γ2 S2=>Rns X Γ2 S2 l %[|93])/\(∀Γ' S',Pv ds.length Γ' S'->W.nx Γ' S'))
 (hp:PassesOwn %[|5] X.A X.env X.xe:=by exact ml)(hc:%[|32]:=by rfl)(hs:∀x,foldedSetIterable iter X.env x=pure x:=by intro _;rfl):Rn X Γ S (.For M iter l [] pos) W:=by
 intro j s o H O I n ok;let WI:List D->%[|7]:=λ ds S1=>∃Pv:%[|53],Pv 0 Γ S1/\
     (∀i d Γ' S',%[|25]->Pv i Γ' S'->BdW X M d Γ' S' λ Γ2 S2=>Rns X Γ2 S2 l %[|93])/\(∀Γ' S',Pv ds.length Γ' S'->W.nx Γ' S');have hI:PI X M iter (λ o H R=>∃O,EnvOk X.K O H o Γ/\%[|15]/\∀J g,QI X.K O H WI J g->R J g):=λ j s o H R I T=>by obtain⟨O,n,U,k⟩:=T;refine thn (h j s o H O I n U) λ _ _ q=>thn q λ _ _ q2=>?_;obtain⟨it,fp,tn,J,g,e1,e2,e3,e4,e5,e6⟩:=q2;exact%[it,fp,tn,J,g,e1,e2,e3,e4,e5|k J g e6]
 have hG:PG X M (λ v o H Q=>∃O d Γ S t,EnvOk X.K O H o Γ/\%[|15]/\Rep X.K O H v d/\BdW X M d Γ S t/\∀c g,QN X.K O H t c g->Q c g):=λ j s o H v u Q I ru T=>by obtain⟨O,d,Γ,S,t,n,U,r,b,k⟩:=T;refine thn (b j s o H O v u I n U r ru) λ _ _ q2=>?_;obtain⟨c,g,w,q⟩:=q2;exact%[c,g,w|k c g q]
 have hB:PSs X l (λ D o H=>∃O Γ S t,EnvOk X.K O H o Γ/\%[|15]/\Rns X Γ S l t/\(∀c g,QN X.K O H t.nx c g->D.nx c g)/\(∀v g,QG X.K O H t.rt v g->D.rt v g)/\(∀c g,QN X.K O H t.bk c g->D.bk c g)/\∀c g,QN X.K O H t.ct c g->D.ct c g):=
  λ j s o H D I T=>by
   obtain⟨O,Γ,S,t,n,U,b,k1,k2,k3,k4⟩:=T;refine thn (b j s o H O I n U) λ f s' q=>?_
   cases f with
   | next=>obtain⟨c,g,w,q⟩:=q;exact%[c,g,w|k1 c g q]
   | brk=>obtain⟨c,g,w,q⟩:=q;exact%[c,g,w|k3 c g q]
   | cont=>obtain⟨c,g,w,q⟩:=q;exact%[c,g,w|k4 c g q]
   | ret u=>obtain⟨v,c,g,w,r,q⟩:=q;exact%[v,c,g,w,r|k2 v g q]
 refine Tq hp hc hI hG hB hs j s o H _ I %[O,n,ok|λ J H1 q=>?_];obtain⟨Y,ds,S1,⟨Pv,p0,pt,pe⟩,A,aa,yl⟩:=q;refine%[λ i m c g=>m=ds.length-i/\i<=ds.length/\∃E Γ' S',Pv i Γ' S'/\Step Y E H1 g/\StOk X.K E g S'/\EnvOk X.K E g c Γ',%[ds.length,by simp,dk _,Y,Γ,S1,p0,Step.refl _ _,aa|n.mono A]|?_];rintro i m af H2 ⟨rfl,hi,O2,Γ2,S2,p2,K,F,C⟩;obtain⟨y1,y2⟩:=yl O2 H2 K.conv (λ a ha=>F.tracked ha) i;by_cases z:i<ds.length;{obtain⟨go,yy⟩:=y1 ds[i] (y3 z);refine .inr %[go,λ c g=>i+1<=ds.length/\∃E Γ' S',Pv (i+1) Γ' S'/\Step Y E H1 g/\StOk X.K E g S'/\EnvOk X.K E g c Γ',λ c g q=>%[ds.length-(i+1),%[|0],rfl,q.1|q.2]|λ x H3 y=>?_];obtain⟨sm,rx⟩:=yy x H3 y;have V:=Step.same (O:=O2) sm;refine%[O2,ds[i],Γ2,S2,_,C.mono V,F.same sm,rx,pt i ds[i] Γ2 S2 (y3 z) p2|λ ag H4 q4=>?_];obtain⟨O4,ad,S4,w4,ac,ab,P⟩:=q4;have B:=(K.trans V).trans ac;refine%[O4,ad,S4,_,P,ab,w4,?_,?_,?_|?_];{rintro ae H5 ⟨Z,N,S5,w5,L,G,p⟩;exact%[z,Z,N,S5,w5,B.trans L,G|p]};{exact λ v g q=>QG.pre (A.trans B) q};{exact λ c g q=>QN.pre (A.trans B) q};{rintro ae H5 ⟨Z,N,S5,w5,L,G,p⟩;exact%[z,Z,N,S5,w5,B.trans L,G|p]}}
 . have e:i=ds.length:=%[|0]
   subst e;exact .inl %[y2 rfl,O2,Γ2,S2,pe Γ2 S2 p2,A.trans K,F|C]
def adk(FF:Fun K x g m f C)(SC:FnScope N ps (bj m))
 (p:∀(l:Value)(A:ah0)(outer:List Env)(s:af3)(H:Hp)(E:XK)(ds:List D)(S:Store)(W:WD),C.code=l->Room k (A.deeper (envOfC g (bj m) s.heap.objs.size f l))->ds.length=ps.length->F ds S W->
  Rns (qU CX0 P w K mg base N g (bj m) f l A outer s H E).nox (ds.map some++List.replicate (N.length-ds.length) none) S (dY m) {nx:=λ _ S1=>W .non S1,rt:=W}):FnOk P w K mg base CX0 (k+1) f C ps (spC K ps.length F):=by
 obtain⟨oc,od,kV,aa,pm,an,l,ct,ab,rfl,lk,G⟩:=FF.ex;refine adJ lk G SC (λ V H Q E h=>?_) λ A outer s H V Q E hr h=>?_;{obtain⟨O,ds,S,W,L,r,_⟩:=h;rw[r.length,L]}
 . obtain ⟨O,ds,S,W,L,r,T,hF,q⟩:=h;have hB:=p l A outer s H E ds S W rfl hr L hF;suffices key:∃t,PSs (qU CX0 P w K mg base N g (bj m) f l A outer s H E).nox (dY m) t/\t {nx:=λ _ c=>Q .non c,rt:=Q} (L2.start N V) H from key.elim λ t h=>%[t,h.1.nox|h.2];refine%[λ D Y c=>∃O X S o,EnvOk K O c Y X/\StOk K O c S/\Rns (qU CX0 P w K mg base N g (bj m) f l A outer s H E).nox X S (dY m) o/\(∀a j,QN K O c o.nx a j->D.nx a j)/\(∀v j,QG K O c o.rt v j->D.rt v j)/\(∀a j,QN K O c o.bk a j->D.bk a j)/\∀a j,QN K O c o.ct a j->D.ct a j,?_|?_]
   . rintro y s Y c D I ⟨O,X,S,o,B,T,b,k1,k2,k3,k4⟩;refine thn (b y s Y c O I B T) λ f s' q=>?_
     cases f with
     | next=>obtain⟨a,c,n,q⟩:=q;exact%[a,c,n|k1 a c q]
     | brk=>obtain⟨a,c,n,q⟩:=q;exact%[a,c,n|k3 a c q]
     | cont=>obtain⟨a,c,n,q⟩:=q;exact%[a,c,n|k4 a c q]
     | ret u=>obtain⟨v,a,c,n,r,q⟩:=q;exact%[v,a,c,n,r|k2 v c q]
   . refine%[O,_,S,_,?_,T,hB,?_,?_,?_|?_]
     . have Z:V.length=ds.length:=r.length;refine%[by simp[L2.start,Z]|λ i d h=>?_];by_cases J:i<ds.length
       . rw[x9 (by simpa using J),y8]at h
         cases e:ds[i]? with
         | none=>rw[e]at h;cases h
         | some d'=>rw[e]at h;cases h;obtain⟨v,M,rv⟩:=r.get e;refine%[v,?_|rv];unfold L2.start;rw[x9 (by rw[y7,Z];exact J),y8,M];rfl
       {rw[dt (by simpa using J),List.getElem?_replicate]at h;split at h<;>cases h}
     {rintro a j ⟨O',ac,S',w,U,R,_⟩;exact q _ _ %[O',.non,S',w,U,R|.non]};{exact λ v j z=>q v j z};{rintro a j ⟨_,_,_,w,_⟩;exact w.elim};{rintro a j ⟨_,_,_,w,_⟩;exact w.elim}
end
end DL
namespace DL
open PySem PySem.Spec L2
open PyProof.Rows
variable{x:Str}{K:PySem.W.Frag}{O:Own}{H:Hp}{s:Shared}
def rk(env:Env)(n:Str)(k:NameKind):NameKind:=if(k==NameKind.free&&env.scope.kind==.function&&env.kindOf n==%[|12])=true then .cell else k
def ph(a:Scope)(env:Env):(relabel a env).names=a.names.map λ p=>(p.1,rk env p.1 p.2):=by show a.names.map _=_;congr 1;funext p;obtain⟨n,k⟩:=p;unfold rk;by_cases h:(k==NameKind.free&&env.scope.kind==.function&&env.kindOf n==%[|12])=true;{simp only[h,h9]};{simp only[h,en,de]}
theorem ir(g:Str->NameKind->NameKind)(x:Str):∀names:List (Str×NameKind),(names.map λ p=>(p.1,g p.1 p.2)).lookup x=(names.lookup x).map (g x)
 | []=>rfl
 | (n,k)::r=>by
   have b:=ir g x r;rw[cw,kq,kq]
   cases a:x==n with
   | true=>rw[ZU a];rfl
   | false=>exact b
def wL(env:Env)(n:Str)(k:NameKind):rk env n k=k\/(k=.free/\rk env n k=.cell):=by unfold rk;by_cases h:(k==NameKind.free&&env.scope.kind==.function&&env.kindOf n==%[|12])=true;{rw[ci h];rw[fk,fk]at h;exact .inr %[ZU h.1.1|rfl]};{rw[c8 h];exact .inl rfl}
def nQ(h:(relabel a env).names.lookup x=some k):∃k0,a.names.lookup x=some k0/\(k=k0\/(k0=.free/\k=.cell)):=by
 rw[ph,ir]at h
 cases e:a.names.lookup x with
 | none=>rw[e]at h;cases h
 | some k0=>rw[e]at h;have b:rk env x k0=k:=cq h;refine%[k0,rfl|?_];rcases wL env x k0 with q | ⟨c,d⟩;{exact .inl (b.symm.trans q)};{exact .inr %[c|b.symm.trans d]}
def Jx(h:a.names.lookup x=some .free):(relabel a env).names.lookup x=%[|12]\/(relabel a env).names.lookup x=some .free:=by rw[ph,ir,h];rcases wL env x .free with q | ⟨_,q⟩;{exact .inr (eC some q)};{exact .inl (eC some q)}
def closes(env:Env):List (Str×NameKind)->List (Str×Addr)->List (Str×Addr)
 | [],cs=>cs
 | (n,k)::r,cs=>closes env r (if k==.free then(n,(env.cells.lookup n).getD 0)::cs else cs)
def Ml:∀(names:ag6)(cs:ag9),(∀y∈names,y.2=.free->∃c,env.cells.lookup y.1=some c)->
 (forIn (m:=Sem) names cs λ x r=>if(x.2==.free)=true then do let a <-cellOf env x.1;pure (ForInStep.yield ((x.1,a)::r))else pure (ForInStep.yield r))=pure (closes env names cs):=by
 intro names
 induction names with
 | nil=>intro cs _;rw[lh];rfl
 | cons l r g=>
   obtain⟨n,k⟩:=l;intro cs h;rw[mm];have f:=λ cs=>g cs λ y j=>h y (x4 _ j);by_cases d:(k==NameKind.free)=true
   . obtain⟨c,i⟩:=h (n,k) x6 (ZU d);have b:env.cells.lookup n=some c:=i;have e:cellOf env n=pure c:=by unfold cellOf;rw[b]
     have q:=f ((n,c)::cs);simp only[d,h9,e,pure_bind];rw[q];simp[closes,d,b]
   {have q:=f cs;simp only[d,en,pure_bind,de];rw[q];simp[closes,d]}
def pQ(h:∀y∈a.names,y.2=.free->∃c,env.cells.lookup y.1=some c):closureFor a env=pure (closes env a.names []):=by
 have q:=Ml (env:=env) a.names [] h;unfold closureFor;first
  | (simp only[bind_pure];exact q)
  | (rw[show(forIn a.names ([]:List (Str×Addr)) _:Sem _)=_ from q];rfl)
  | (refine Eq.trans (eC (λ t=>t>>=pure) q) ?_;simp)
def Lr:∀(names:ag6)(cs:ag9),(∀y∈names,y.2=.free->∃c,env.cells.lookup y.1=some c)->(∀c,cs.lookup x=some c->env.cells.lookup x=some c)->(closes env names cs).lookup x=some c->env.cells.lookup x=some c:=by
 intro names
 induction names with
 | nil=>intro cs _ d h;exact d c h
 | cons p r l=>
   obtain⟨n,k⟩:=p;intro cs j d h;refine l _ (λ y o=>j y (x4 _ o)) ?_ h;intro i a;by_cases f:(k==NameKind.free)=true
   . rw[ci f]at a;obtain⟨m,b⟩:=j (n,k) x6 (ZU f);have b:env.cells.lookup n=some m:=b;rw[kq]at a
     cases g:x==n with
     | true=>rw[g,b]at a;have e:x=n:=ZU g;subst e;simp only[Option.getD_some]at a;cases a;exact b
     | false=>rw[g]at a;exact d i a
   {rw[c8 f]at a;exact d i a}
def oH:∀(names:ag6)(cs:ag9),((∃c,cs.lookup x=some c)\/names.lookup x=some .free)->∃c,(closes env names cs).lookup x=some c:=by
 intro names
 induction names with
 | nil=>intro cs h;rcases h with h | h;{exact h};{simp at h}
 | cons e r d=>
   obtain⟨n,k⟩:=e;intro cs h;refine d _ ?_;rcases h with⟨c,h⟩ | h
   . refine .inl ?_;by_cases b:(k==NameKind.free)=true
     . rw[ci b,kq]
       cases a:x==n with
       | true=>exact%[_|rfl]
       | false=>exact%[c|h]
     {rw[c8 b];exact%[c|h]}
   . rw[kq]at h
     cases a:x==n with
     | true=>rw[a]at h;simp only at h;cases h;refine .inl %[(env.cells.lookup n).getD 0|?_];simp[kq,a]
     | false=>rw[a]at h;exact .inr h
def jd(X:Cx)(sc:Scope)(N:af7)(C:Addr)(s:af3)(H:Hp)(ex:ah2)(cl:ag9):Cx:=
 {X with N:=N,s₀:=s,H₀:=H,env:=compEnvC sc cl C X.env,outer:=X.stack,stack:=X.stack,ex:=ex,fn:=λ x=>%[|70]==%[|12],pn:=[]}
def capt{α:Type}(cap:af9)(xs:List (Option α)):List (Option α):=cap.map λ o=>o.bind λ j=>(xs[j]?).join
def cC(N:af7)(names:ag6)(N':af7)(names':ag6):List (Option Nat)->List Str->Bool
 | [],[]=>true
 | none::r,_::t=>cC N names N' names' r t
 | some j::r,x::t=>(N[j]? ==some x)&&(names.lookup x==%[|12]||names.lookup x==some .free)&&(names'.lookup x==some .free)&&cC N names N' names' r t
 | _,_=>false
def Vd:∀{a:af9}{t:af7},cC N names d b a t=true->a.length=t.length:=by
 intro a
 induction a with
 | nil=>
   intro t h
   cases t with
   | nil=>rfl
   | cons=>simp[cC]at h
 | cons o r c=>
   intro t h
   cases t with
   | nil=>cases o<;>simp[cC]at h
   | cons x t=>
     cases o with
     | none=>simp only[cC]at h;simp[c h]
     | some j=>simp only[cC,fk]at h;simp[c h.2]
def Vs:∀{d:af9}{t:af7}{i j:Nat},cC N names l c d t=true->d[i]? =some (some j)->
 ∃x,t[i]? =some x/\N[j]? =some x/\(names.lookup x=%[|12]\/names.lookup x=some .free)/\c.lookup x=some .free:=by
 intro d
 induction d with
 | nil=>intro t i j _ h;simp at h
 | cons o r f=>
   intro t i j h e
   cases t with
   | nil=>cases o<;>simp[cC]at h
   | cons x t=>
     cases o with
     | none=>
       cases i with
       | zero=>simp at e
       | succ i=>simp only[cC]at h;obtain⟨y,a,b⟩:=f (i:=i) h (by simpa using e);exact%[y,by simpa using a|b]
     | some k=>
       simp only[cC,fk]at h
       cases i with
       | zero=>obtain⟨⟨⟨m,g⟩,n⟩,_⟩:=h;simp at e;subst e;rw[ky]at g;exact%[x,rfl,ZU m,g.imp ZU ZU|ZU n]
       | succ i=>obtain⟨y,a,b⟩:=f (i:=i) h.2 (by simpa using e);exact%[y,by simpa using a|b]
def Np{i:Nat}{d:b}(h:(capt a xs)[i]? =some (some d)):∃j,a[i]? =some (some j)/\xs[j]? =some (some d):=by
 unfold capt at h;rw[y8]at h
 cases e:a[i]? with
 | none=>rw[e]at h;cases h
 | some o=>
   rw[e]at h
   cases o with
   | none=>simp at h
   | some j=>
     simp at h;refine%[j,rfl|?_]
     cases q:xs[j]? with
     | none=>rw[q]at h;cases h
     | some z=>rw[q]at h;simp at h;rw[h]
def EnvOk.capt(e:EnvOk K O H σ b)(a:af9):EnvOk K O H (capt a σ) (capt a b):=by refine%[by simp[DL.capt]|λ i d h=>?_];obtain⟨j,f,c⟩:=Np h;obtain⟨v,g,r⟩:=e.at_ j d c;refine%[v,?_|r];unfold DL.capt;rw[y8,f];simp[g]
def Sub(Γ Γ':Gam):Prop:=Γ.length=Γ'.length/\∀(i:Nat)(d:D),Γ[i]? =some (some d)->Γ'[i]? =some (some d)
def Sub.refl(a:Gam):Sub a a:=%[rfl|λ _ _ h=>h]
def Sub.set(s:Sub b Γ')(i:Nat)(d:Option D)(h:b[i]? =some none:=by rfl):Sub b (Γ'.set i d):=%[by rw[List.length_set];exact s.1|λ j c a=>by
 have f:i≠j:=λ e=>by subst e;rw[h]at a;cases a
 rw[eJ f];exact s.2 j c a]
def EnvOk.sub(e:EnvOk K O H σ Γ')(s:Sub a Γ'):EnvOk K O H σ a:=%[e.len.trans s.1.symm|λ i d h=>e.at_ i d (s.2 i d h)]
def EnvOk.conv(e:EnvOk K O H σ g)(s:Conv O f H c):EnvOk K f c σ g:=
 %[e.len|λ i d h=>let ⟨v,a,b⟩:=e.at_ i d h;%[v,a|b.conv s]]
def freeOk(names names':ag6):Bool:=names'.all λ y=>!(y.2==.free)||(names.lookup y.1==%[|12]||names.lookup y.1==some .free)
def tB(h:freeOk names a=true):∀y∈a,y.2=.free->names.lookup y.1=%[|12]\/names.lookup y.1=some .free:=λ y b e=>by have q:=gT.mp h y b;simp only[e,ge,fm,Bool.false_or,ky,beq_iff_eq]at q;exact q
def Bh(names:ag6):Bool:=match names.filter (λ y=>y.2==.cell)with
 | []=>true
 | [y]=>names.lookup y.1==%[|12]
 | _=>false
def Kq(h:names.filter (λ y=>y.2==.cell)=[])(n:Nat)(acc:ag9)(b:Heap):cellsFrom n names acc=acc/\pushCells b names=b:=by
 induction names with
 | nil=>exact%[rfl|rfl]
 | cons y r e=>obtain⟨x,k⟩:=y;rw[kG]at h;by_cases a:(k==NameKind.cell)=true;{rw[ci a]at h;cases h};{rw[c8 a]at h;obtain⟨c,d⟩:=e h;unfold cellsFrom pushCells;rw[c8 a,c8 a];exact%[c|d]}
def Df(h:names.filter (λ y=>y.2==.cell)=[t])(n:Nat)(acc:ag9)(b:Heap):cellsFrom n names acc=(t.1,n)::acc/\pushCells b names=b.push {cls:=.type "cell",data:=.cell none}:=by
 induction names with
 | nil=>cases h
 | cons y r f=>obtain⟨x,k⟩:=y;rw[kG]at h;by_cases a:(k==NameKind.cell)=true;{rw[ci a]at h;have e:=iE h;obtain⟨c,d⟩:=Kq e.2 (n+1) ((x,n)::acc) (b.push {cls:=.type "cell",data:=.cell none});unfold cellsFrom pushCells;rw[ci a,ci a,c,d,<-e.1];exact%[rfl|rfl]};{rw[c8 a]at h;obtain⟨c,d⟩:=f h;unfold cellsFrom pushCells;rw[c8 a,c8 a];exact%[c|d]}
def YS
 (h:Q (newEnv scope s.heap.objs.size b (cellsFrom %[|28] scope.names a) c none .none (some outer) builtinsNs) {s with heap:=pushCells %[|44] scope.names}):
 wpAny M A (newFunctionEnv scope b a [] c none .none (some outer)) Q E s:=by simp only[newFunctionEnv,Option.isSome_some,h9];refine b0 (wpAny_alloc ?_);refine b0 (wpAny_layCells _ (λ g d e=>by cases f:d==NameKind.cell<;>simp[f]) _ _ _ _ ?_);rw[show({s with heap:=%[|44]}:Shared).heap.objs.size=%[|28] from gc ..];rw[lh];exact b0 (b9 (b9 h))
structure CelsB(X:Cx)(sc:Scope)(cl:ag9)(z:Nat)(h1:Heap):Prop where
 lk:∀x c,cl.lookup x=some c->%[|45]\/(c=z/\%[|70]=%[|12]/\h1.IsCell c none/\∀y,cl.lookup y=some c->y=x)
 has:∀x,%[|70]=%[|12]\/%[|70]=some .free->∃c,cl.lookup x=some c
 cp:∀x c,%[|70]=some .free->%[|45]->cl.lookup x=some c
 ow:∀x c,%[|70]=%[|12]->cl.lookup x=some c->z<=c
section
variable{X:Cx}
def aac{pins:Pins}{σ:St}(I:%[|3])(A:∀b∈J,iT X pins H b)(R:∀b∈J,∃o,%[|39])
 (D:n.kind=.function)(f:CelsB X n cl (s.heap.objs.size+2) h1)(P:∀y∈n.names,y.2=.free->X.env.kindOf y.1=%[|12]\/X.env.kindOf y.1=some .free)(B:cC X.N X.env.scope.names F n.names C F=true)
 (k:∀b u,s.heap.get? b=some u->h1.get? b=some u)(hD:h1.get? s.heap.objs.size=some {cls:=%[|23],data:=.seq #[] 0})(hC:∃m,h1.Ns %[|28] m):
 Inv (jd X n F %[|28] s H J cl) [] (capt C σ) (upd H s.heap.objs.size (.lst [])) {s with heap:=h1,toks:=t}:=by
 have L:H s.heap.objs.size=none:=I.hok.fresh (y9 _);have M:H %[|28]=none:=I.hok.fresh (jp _);have N:H (s.heap.objs.size+2)=none:=I.hok.fresh %[|0];have V:∀b∈J,%[|49]:=λ b g=>let ⟨o,e⟩:=R b g;ca e;have K:∀{x c},%[|45]->c<s.heap.objs.size:=λ{x c} h=>by obtain⟨v,q⟩:=I.cell x c h;exact q.lt
 refine%[%[I.ok.mod,D,I.ok.glob,I.ok.blt,jp _,λ x y c a b=>?_,λ x hx=>?_,λ x c z e=>?_,I.ok.hd,I.ok.frames,.inl rfl,λ b g=>%[cr (hH (V b g))|λ x c h=>?_],
  I.bs,d6 I.ok.bsz I.sz,λ b o e g=>?_,λ b g z=>?_,I.stack|I.stkFree],rfl,I.bare,Un.laid k (y9 _) L,?_,λ x c h=>?_,?_,λ x c h=>?_,λ p hp=>absurd (show p∈([]:Pins)from hp) (by simp),I.hok.laid k (y9 _) %[dk _,[],0,.nil|hD]|?_];{rcases f.lk x c a with q | ⟨_,_,_,q⟩;{rcases f.lk y c b with E | ⟨_,_,_,E⟩;{exact I.ok.inj x y c q E};{exact E x a}};{exact(q y b).symm}}
 . have S:(relabel n X.env).names.lookup x=%[|12]\/(relabel n X.env).names.lookup x=some .free:=hx;have z:n.names.lookup x=%[|12]\/n.names.lookup x=some .free:=by rcases S with q | q;{obtain⟨k0,e,r⟩:=nQ q;rcases r with r | r;{exact .inl (by rw[e,r])};{exact .inr (by rw[e,r.1])}};{obtain⟨k0,e,r⟩:=nQ q;rcases r with r | r;{exact .inr (by rw[e,r])};{exact absurd r.2 %[|1]}}
   exact f.has x z
 {have z':n.names.lookup x=%[|12]:=ZU z;have:=f.ow x c z' e;show s.heap.objs.size<=c;omega};{rcases f.lk x c h with q | ⟨q,_⟩;{exact(A b g).2.2.2.2.1 x c q};{exact λ e=>ic _ (v3 (V b g) (by rw[<-e,q];exact gg _ _))}};{rcases(A b g).2.2.2.1 with z | z;{exact I.ok.noex b o e z};{exact absurd (v3 (ca e) (d6 I.ok.bsz z)) (ic _)}};{rcases cK.mp (I.stkSub b z)with q | q;{exact(A b g).2.1 q};{exact(A b g).2.2.1 q}}
 . obtain⟨m,hm⟩:=hC;refine%[m,hm|λ i x v W Y e3=>?_];obtain⟨j,hj,hv⟩:=Np Y;obtain⟨y,a,b,c,d⟩:=Vs B hj;have G:F[i]? =some x:=W;rw[a]at G;cases G;obtain⟨m0,aa,hl⟩:=I.loc;have T:Vis X.env.scope x:=by rcases c with c | c;{exact .inr (.inl c)};{exact .inr (.inr c)}
   obtain⟨u,r,l⟩:=hl j x v b hv T;refine%[u,r|?_];rcases l with⟨q,_⟩ | ⟨q,U,hc,w⟩;{exfalso;have E:X.env.scope.names.lookup x=some .local:=q;rcases c with c | c<;>· rw[c]at E;cases E};{have Z:=f.cp x U d hc;obtain⟨o,Q,O⟩:=w;refine .inr %[?_,U,Z|%[o,k _ _ Q|O]];exact Jx d}
 {rcases f.lk x c h with q | ⟨_,_,q,_⟩;{obtain⟨v,o,Q,O⟩:=I.cell x c q;exact%[v,o,k _ _ Q|O]};{exact%[_|q]}};{show upd H s.heap.objs.size (.lst []) %[|28]=none;rw[aA (Nat.succ_ne_self _)];exact M};{rcases f.lk x c h with q | ⟨q,_⟩;{rw[aA (cr (K q))];exact I.freeC x c q};{subst q;rw[aA (ft (Nat.lt_add_of_pos_right %[|1]))];exact N}};{show(capt C σ).length=F.length;rw[<-Vd B];simp[capt]}
def zp{Q:a->Shared->Prop}(b:E=λ _ _=>False)(h:wpAny M A t Q E s):wpAny M A t Q E' s:=gS h (λ _ _ q=>q) λ _ _ z=>by rw[b]at z;exact z.elim
def TsA(X:Cx)(Γ:Gam)(S:Store):List Expr->(Bool->%[|7])->Prop
 | [],W=>W true S
 | [c],W=>Ts X Γ S c W
 | _,_=>False
def Ze(h:TsA X b S a W){pins:Pins}{σ:St}(I:%[|3])(env:EnvOk X.K O H σ b)(st:%[|15]):
 wpAny %[|5] X.A (forIn a true λ c r=>if r=true then do let ok <-isTrue c X.env (eval c X.env);pure (ForInStep.yield ok)else pure (ForInStep.yield r)) (TP X pins σ (QT X.K O H W)) X.xe s:=by
 match a,h with
 | [],h=>exact wpAny_tests_nil %[H,I,O,S,h,Step.refl O H|st]
 | [c],h=>exact wpAny_tests_one (h pins s σ H O I env st)
 | _::_::_,h=>exact h.elim
def nM(K:af0)(J:It)(O:Own)(H:Hp)(C:%[|7])(ds:List D):Prop:=
 ∀(c:Own)(b:Hp)(e:Store),Conv O c H b->StOk K c b e->C e->∀i:Nat,(∀d,%[|25]->J.go i b/\∀x a,J.yld i b x a->fB b a/\Rep K c a x d)/\(i=ds.length->J.stop i b)
inductive QIc(K:af0)(O:Own)(H:Hp)(W:List D->%[|7]->%[|7])(J:It)(H':Hp):Prop
 | mk(O':Own)(ds:List D)(C:%[|7])(S':Store)(w:W ds C S')(q:And3 (Step O O' H H') (StOk K O' H' S') (nM K J O' H' C ds)):QIc K O H W J H'
def ItC(X:Cx)(Γ:Gam)(S:Store)(tg iter:Expr)(W:List D->%[|7]->%[|7]):Prop:=
 ∀ (a:Pins)(s:af3)(b:St)(H:Hp)(O:Own),Inv X a b H s->EnvOk X.K O H b Γ->%[|15]->
   wpAny %[|5] X.A (eval iter X.env) (λ v c=>wpAny %[|5] X.A (pyIter v) (PIE X a b tg (QIc X.K O H W)) X.xe c) X.xe s
def wu(y:kJ K J O H ds):nM K J O H (λ _=>True) ds:=λ c b g f e _ i=>y c b f (λ a d=>e.tracked d) i
def aeX(h:ItW X e S d iter λ ds S1=>W ds (λ _=>True) S1):ItC X e S d iter W:=λ a s y H O I b r=>
 thn (h a s y H O I b r) λ _ _ q=>thn q λ _ _ c=>by obtain⟨p,o,t,J,f,j,k,l,m,n,g,ds,i,w,u,v,x⟩:=c;exact%[p,o,t,J,f,j,k,l,m,n,g,ds,_,i,w,u,v|wu x]
abbrev FZ(X:Cx)(sc:Scope)(N':af7)(cap:af9)(Γ:Gam)(elt tg:Expr)(ifs:ag0)(W:WD):List D->%[|7]->%[|7]:=λ g l m=>
 g.length<=1000000/\∃e:Nat->List D->%[|7],e 0 [] m/\(∀i a b,e i a b->l b)/\
  (∀i d a b,g[i]? =some d->e i a b->∀(C:Addr)(s:af3)(H:Hp)(h:ah2)(f:ag9),BdW (jd X sc N' C s H h f) tg d (capt cap Γ) b λ c n=>Sub (capt cap Γ) c/\
   TsA (jd X sc N' C s H h f) c n ifs λ k j=>(k=true->Ev (jd X sc N' C s H h f) c j elt λ y o=>e (i+1) (a++[y]) o)/\(k=false->e (i+1) a j))/\
  ∀a b,e g.length a b->W (.lst a) b\/W (.loc b.length) (b++[a])
def Cp{pins:Pins}{σ:St}
 {RR:Value->Addr->Result->Shared->Prop}
 (hx:X.xe=λ _ _=>False)(hc:%[|32])(ay:f.kind=.function)(F:Bh f.names=true)(ae:∀y∈f.names,y.2=.free->X.env.kindOf y.1=%[|12]\/X.env.kindOf y.1=some .free)
 (aP:cC X.N X.env.scope.names N' f.names N N'=true)(h:ItC X Γ S tg iter (FZ X f N' N Γ al tg aq W))(I:%[|3])(env:EnvOk X.K O H σ Γ)(st:%[|15])
 (fin:∀(s':af3)(g:Hp)(D0 C:Addr)(m:af8),Inv X pins σ g s'->s'.heap.Ns C m->iT X pins g C->D0≠C->QG X.K O H W (.ref D0) g->RR (.ref D0) C (.ok .next) s'):
 wpAny %[|5] X.A (eval iter X.env) (λ x s₁=>wpAny %[|5] X.A (pyIter x) (λ it s₂=>wpAny %[|5] X.A (newList []) (λ acc s₃=>
  wpAny %[|5] X.A (newFunctionEnv f X.env.globals (closes X.env f.names []) [] X.env.qual none .none (some X.env)) (λ cenv s₄=>
   codeAny %[|5] X.A (.compStart (.ListComp al [%[tg,iter,aq|0]] f ab) 0 it acc {cenv with scope:=relabel f X.env}) (RR acc cenv.locals) s₄) E s₃) E s₂) E s₁) E s:=by
 refine thn (zp hx (h pins s σ H O I env st)) λ xv s1 h1=>thn (zp hx h1) λ bk s2 h2=>?_;obtain⟨it,fp,tn,J,H2,e,I2,T,aG,f2,l,ds,C0,S2,⟨hz,Pv,p0,pC,pt,pe⟩,aI,aE,yl⟩:=h2;subst e;refine dV (YS ?_);dsimp only;have L:H2 s2.heap.objs.size=none:=I2.hok.fresh (y9 _);have aB:%[|94].objs.size=%[|75]:=gc ..;rw[aB];have aX:=Heap.Ns.new %[|94] (.type "dict");rw[aB]at aX;obtain⟨cl,P⟩:∃cl,cellsFrom (%[|75]+1) f.names (closes X.env f.names [])=cl:=%[_|rfl];obtain⟨h₁,an⟩:∃h₁,pushCells (%[|94].push %[|89]) f.names=h₁:=%[_|rfl];have ao:h₁.Ns %[|75] (λ _=>none):=by rw[<-an];exact aX.keeps (pushCells_keeps _ _)
 have aW:∀b u,%[|94].get? b=some u->h₁.get? b=some u:=λ b u e=>by rw[<-an];exact pushCells_keeps _ _ b u (bX _ e)
 have kp:∀b u,s2.heap.get? b=some u->h₁.get? b=some u:=λ b u e=>aW b u (bX _ e);have ba:h₁.get? s2.heap.objs.size=some {cls:=%[|23],data:=.seq #[] 0}:=aW _ _ (cb _ rfl);have hf:∀y∈f.names,y.2=.free->∃c,X.env.cells.lookup y.1=some c:=λ y hy e=>I.ok.has y.1 (ae y hy e);have bb :CelsB X f cl (s2.heap.objs.size+2) h₁:=by
  have U:∀{x c},(closes X.env f.names []).lookup x=some c->%[|45]:=λ{x c} h=>Lr f.names [] hf (λ c h=>by simp at h) h;have aJ:∀x c,f.names.lookup x=some .free->%[|45]->(closes X.env f.names []).lookup x=some c:=λ x c d hc=>by obtain⟨c2,h2⟩:=oH (env:=X.env) f.names [] (.inr d);have e:=U h2;rw[hc]at e;cases e;exact h2
  unfold Bh at F;split at F
  . rename_i aa;have e1:=(Kq aa (%[|75]+1) (closes X.env f.names []) s2.heap).1;rw[P]at e1;have no:∀x,f.names.lookup x≠%[|12]:=λ x z=>by have:(x,NameKind.cell)∈f.names.filter (λ y=>y.2==.cell):=hZ.mpr %[ip z|rfl];rw[aa]at this;cases this
    rw[e1];exact%[λ x c h=>.inl (U h),λ x hx=>hx.elim (λ z=>absurd z (no x)) λ z=>oH f.names [] (.inr z),aJ|λ x c z=>absurd z (no x)]
  . rename_i y aa;have hy:f.names.lookup y.1=%[|12]:=ZU F;obtain⟨e1,_⟩:=Df aa (%[|75]+1) (closes X.env f.names []) s2.heap;rw[P]at e1;have e2:=(Df aa 0 [] (%[|94].push %[|89])).2;rw[an]at e2;have e3:(%[|94].push %[|89]).objs.size=s2.heap.objs.size+2:=by rw[gc,aB]
    have a3:h₁.IsCell (s2.heap.objs.size+2) none:=by rw[e2,<-e3];exact%[_,cb _ rfl|rfl]
    have only:∀x,f.names.lookup x=%[|12]->x=y.1:=λ x z=>by have:(x,NameKind.cell)∈f.names.filter (λ y=>y.2==.cell):=hZ.mpr %[ip z|rfl];rw[aa]at this;have:=cf.mp this;rw[<-this]
    have bg:∀{x c},(closes X.env f.names []).lookup x=some c->c<s2.heap.objs.size:=λ{x c} h=>by obtain⟨v,q⟩:=I2.cell x c (U h);exact q.lt
    have af:∀x,cl.lookup x=if x=y.1 then some (%[|75]+1)else(closes X.env f.names []).lookup x:=λ x=>by rw[e1,kq];by_cases z:x=y.1;{subst z;simp};{rw[c8 z,mh.mpr z]}
    refine%[λ x c h=>?_,λ x hx=>?_,λ x c d hc=>?_|λ x c z h=>?_];{rw [af]at h;by_cases z:x=y.1;{rw[ci z]at h;cases h;refine .inr %[rfl,by rw[z];exact hy,a3|λ u hu=>?_];rw[af]at hu;by_cases z2:u=y.1;{rw[z2,z]};{rw[c8 z2]at hu;exact(ic _ (kP (gg _ 2) (bg hu))).elim}};{rw[c8 z]at h;exact .inl (U h)}};{rw[af];by_cases z:x=y.1;{exact%[_|ci z]};{rw[c8 z];exact hx.elim (λ q=>absurd (only x q) z) λ q=>oH f.names [] (.inr q)}};{rw[af,c8 (λ z=>by rw[z,hy]at d;cases d)];exact aJ x c d hc};{rw[af,ci (only x z)]at h;cases h;exact y9 _}
  {cases F}
 rw[P,an];have aS:∀b∈fp,∃o,s2.heap.get? b=some o:=λ b k=>let ⟨o,e,_⟩:=T.obj _ _ aG b k;%[o|e];have I4:=aac (t:=s2.toks) (h1:=h₁) I2 f2 aS ay bb ae aP kp ba %[_|ao];generalize hX':jd X f N' %[|75] s2 H2 fp cl=X' at I4;have aZ:=λ i d acc S' a b=>pt i d acc S' a b %[|75] s2 H2 fp cl;rw[hX']at aZ;have eP:X'.prog=X.prog:=by rw[<-hX'];rfl
 have ew:X'.w=X.w:=by rw[<-hX'];rfl
 have eK:X'.K=X.K:=by rw[<-hX'];rfl
 have eA:X'.A=X.A:=by rw[<-hX'];rfl
 have ec:X'.calm=true:=by rw[<-hX'];exact hc
 have am:X'.xe=λ _ _=>False:=by rw[<-hX'];exact hx
 have ac:X'.env=compEnvC f cl %[|75] X.env:=by rw[<-hX'];rfl
 have ad:X'.ex=fp:=by rw[<-hX'];rfl
 have aM:X'.outer=X.stack:=by rw[<-hX'];rfl
 have aN:X'.s₀=s2:=by rw[<-hX'];rfl
 have a5:X'.H₀=H2:=by rw[<-hX'];rfl
 have a6:X'.pn=[]:=by rw[<-hX'];rfl
 have aj:∀{H':Hp},(∀b∈fp,H' b=none)->∀b∈fp,iT X' [] H' b:=λ hn b k=>by refine%[hn b k,(I4.ok.exf b (by rw[ad];exact k)).1,I4.ok.exfs b (by rw[ad];exact k),.inl (by rw[ad];exact k),(I4.ok.exf b (by rw[ad];exact k)).2|λ p hp=>?_];rw[a6]at hp;exact absurd hp (by simp)
 have au:∀s₃:Shared,s₃={s2 with heap:=h₁}->
  codeAny %[|5] X.A (.compLoop (.ListComp al [%[tg,iter,aq|0]] f ab) 0 (.ref it) (.ref s2.heap.objs.size) (compEnvC f cl %[|75] X.env))
   (RR (.ref s2.heap.objs.size) %[|75]) s₃:=by
  intro s₃ es;rw[<-ac];refine codeAny_loop rfl (λ n s'=>∃i acc Y g A Z G,n=ds.length-i/\i<=ds.length/\Inv X' [] G g s'/\tn i s'.heap/\(∀b∈fp,g b=none)/\Pv i acc Z/\g s2.heap.objs.size=some (.lst Y)/\Y.length<=i/\
   Reps X.K %[A|%[|51]] g Y acc/\Step l %[A|l.B] H2 g/\StOk X.K %[A|%[|51]] g Z/\EnvOk X.K %[A|%[|51]] g G (capt N Γ)) ?_ ds.length ?_
  . rintro n s' ⟨i,acc,Y,g,A,Z,G,rfl,hi,Ic,a0,aO,pc,aC,aU,rc,ag,Q,aL⟩;show wpAny _ _ ((compTurn (.ListComp al [%[tg,iter,aq|0]] f ab) 0 (.ref it) (.ref s2.heap.objs.size) X'.env).onRaise (λ x=>do noteFrame x X'.env;theTreesLotGoes x)) _ _ s';refine wpAny_noted ?_;rw[compTurn_list];refine b0 (wpAny_standAt (b0 ?_));have cv:Conv l %[A|%[|51]] H2 g:=by refine%[λ a u n t=>?_|ag.conv.lc];obtain⟨x1,x2⟩:=ag.conv.tr a u n t;refine%[λ z=>?_|x2];rcases z with z | z;{exact x1 (.inl z)};{rcases cK.mp z with z | z;{subst z;rw[L]at t;cases t};{exact x1 (.inr z)}}
    obtain⟨y1,y2⟩:=yl _ _ _ cv Q (pC _ _ _ pc) i;by_cases az:i<ds.length
    . obtain⟨go,yy⟩:=y1 ds[i] (y3 az);have aV:=T.item X' eP ew eK ec i [] s' G g (λ _ _=>False) Ic (aj aO) a0 go;rw[eA]at aV;refine gS aV (λ r s3 j=>?_) λ _ _ z=>z.elim;obtain⟨u,hr,h3⟩:=j;subst hr;refine b0 (gS h3 (λ _ s5 j=>?_) λ _ _ z=>z.elim);obtain⟨x,H5,I5,r5,y5,aH,a8⟩:=j;obtain⟨sm,rx⟩:=yy x H5 y5;have a2:=I5.pinned (aj a8) (T.obj _ _ aH);have aw:=Step.same (O:=%[A|%[|51]]) sm;have bd:=aZ i ds[i] acc Z (y3 az) pc _ s5 G H5 %[A|%[|51]] x u a2 (by rw[eK];exact aL.mono aw) (by rw[eK];exact Q.same sm) (by rw[eK];exact rx) r5;rw[eP,ew,eA]at bd;refine b0 (gS (zp (E':=λ _ _=>False) am bd) (λ _ s6 j=>?_) λ _ _ z=>z.elim);obtain⟨ak,H6,I6,O6,bl,S6,⟨ax,w6⟩,bi,aY,K⟩:=j;have a1:=Ze w6 I6 K aY;rw[eP,ew,eA]at a1;refine b0 (gS (zp (E':=λ _ _=>False) am a1) (λ ok s7 j=>?_) λ _ _ z=>z.elim);obtain⟨H7,I7,O7,S7,w7,as,aF⟩:=j;have M:Step %[A|%[|51]] O7 g H7:=aw.trans (bi.trans as);have bj:O7.B=%[|51]:=M.hid;have next:∀(s9:af3)(H8:Hp)(O8:Own)(S8:Store)(ys:List V)(R:List D),Step %[A|%[|51]] O8 g H8->
       StOk X.K O8 H8 S8->EnvOk X.K O8 H8 ak (capt N Γ)->Pv (i+1) R S8->Inv X' ([]++qX fp s5.heap) ak (upd H8 s2.heap.objs.size (.lst ys)) s9->Reps X.K O8 H8 ys R->ys.length<=i+1->
       ∃ m,m<ds.length-i/\∃i acc Y g A Z G,m=ds.length-i/\i<=ds.length/\Inv X' [] G g s9/\tn i s9.heap/\(∀b∈fp,g b=none)/\Pv i acc Z/\g s2.heap.objs.size=some (.lst Y)/\Y.length<=i/\
         Reps X.K %[A|%[|51]] g Y acc/\Step l %[A|l.B] H2 g/\StOk X.K %[A|%[|51]] g Z/\EnvOk X.K %[A|%[|51]] g G (capt N Γ):=by
       intro s9 H8 O8 S8 ys R ai ar aK p8 I8 r8 bc;have eB:O8.B=%[|51]:=ai.hid;obtain⟨A8,B8⟩:=O8;have a4:B8=%[|51]:=eB;subst a4;have aD:s2.heap.objs.size∈(%[A8|%[|51]]:Own).B:=x6;refine%[ds.length-(i+1),%[|0],i+1,R,ys,_,A8,S8,ak,rfl,az,I8.unpinned,T.keep _ _ _ aH λ b k o e=>(I8.pin (b,o) (fe _ (fe _ (jK k e)))).1,λ b k=>?_,p8,aR,bc,
        r8.conv (Conv.updHid aD _),ag.inner ai L _,ar.updHid aD _|aK.conv (Conv.updHid aD _)];obtain⟨o,e,d⟩:=T.obj _ _ aH b k;exact(I8.pin (b,o) (fe _ (fe _ (jK k e)))).2.1
      rw[eK]at aF K aY;have aQ:∀{O':Own}{H':Hp}{S':Store},Step %[A|%[|51]] O' g H'->H' s2.heap.objs.size=some (.lst Y):=λ bh=>
       bh.kept _ _ (λ z=>Q.apart _ z x6) aC
      cases ok with
      | false=>
        refine b9 %[rfl|?_];have be:=aQ (S':=S7) M;have a7:upd H7 s2.heap.objs.size (.lst Y)=H7:=by funext b;by_cases k:b=s2.heap.objs.size;{subst k;rw[aR];exact be.symm};{exact aA k}
        exact next s7 H7 O7 S7 Y acc M aF ((K.mono as).sub ax) (w7.2 rfl) (by rw[a7];exact I7) (rc.mono M) (Nat.le_succ_of_le aU)
      | true=>
        have el:=w7.1 rfl _ s7 ak H7 O7 I7 (by rw[eK];exact K.mono as) (by rw[eK];exact aF);rw[eP,ew,eA]at el;refine b0 (b0 (gS (zp (E':=λ _ _=>False) am el) (λ xe s8 j=>?_) λ _ _ z=>z.elim));obtain⟨v8,H8,I8,r8,O8,y,S8,w8,ai,ar,av⟩:=j;rw[eK]at ar av;have ah:=M.trans ai;have bf:=aQ (S':=S8) ah;have ap:=Dg (X:=X') _ s8 ak H8 (.ref s2.heap.objs.size) [v8] (.ref s2.heap.objs.size) [xe] (λ v H'=>H'=upd H8 s2.heap.objs.size (.lst (Y++[v8]))) I8 rfl (.cons r8 .nil)
         %[s2.heap.objs.size,Y,v8,rfl,rfl,bf,kP (d6 aU (d6 hi hz)) %[|1]|rfl];rw[eP,ew,eA]at ap;refine b0 (gS (zp (E':=λ _ _=>False) am ap) (λ _ s9 j=>b9 (b9 %[rfl|?_])) λ _ _ z=>z.elim);obtain⟨_,H9,I9,_,e9⟩:=j;subst e9;exact next s9 H8 O8 S8 (Y++[v8]) (acc++[y]) ah ar (((K.mono as).mono ai).sub ax) w8 I9 ((rc.mono ah).append (.cons av .nil)) (by rw[x8,i6];omega)
    . have e:i=ds.length:=%[|0]
      subst e;have dn:=T.done X' eP ew eK ec ds.length [] s' G g (λ _ _=>False) Ic (aj aO) a0 (y2 rfl);rw[eA]at dn;refine gS dn (λ r s3 j=>?_) λ _ _ z=>z.elim;obtain⟨hr,I3⟩:=j;subst hr;refine b9 ?_;obtain⟨m,hm,_⟩:=I3.loc;have un:Un (frs X.stack) fp H2 g s2.heap s3.heap:=by have:=I3.base;rw[ad,a5,aN]at this;show Un (frs X.stack) fp H2 g s2.heap s3.heap;rw[<-aM];exact this
      have os:s3.os=s2.os:=by have:=I3.os;rw[aN]at this;exact this
      have aT:HOk X.prog X.w g s3.heap:=by have:=I3.hok;rw[eP,ew]at this;exact this
      have IX:Inv X pins σ g s3:=I2.call' os un aT I3.bare (λ b k=>%[(f2 b k).2.2.2.1,(f2 b k).2.1,(f2 b k).2.2.2.2.1|(f2 b k).2.2.2.2.2]);have a9:g %[|75]=none:=by have:=I3.free;rw[ac]at this;exact this
      refine fin s3 g _ _ m IX (by rw[ac]at hm;exact hm) (I2.fpOk (jp _) a9) (cr (iL _)) ?_;rcases pe acc Z pc with w | w;{refine%[%[A|l.B],.lst acc,Z,w,aI.trans ag,Q.unhide|.lst (.inl %[λ z=>?_|.inl aC]) (rc.conv Conv.unhide)];rcases z with z | z;{exact Q.apart _ z x6};{exact aE.hidden _ z L}};{refine%[%[A++[(s2.heap.objs.size,false)]|l.B],.loc Z.length,Z++[acc],w,aI.trans (ag.adopt L),Q.adopt (λ z=>aE.hidden _ z L) aC rc|.loc ?_];have el:A.length=Z.length:=Q.len;show(A++[(s2.heap.objs.size,false)])[Z.length]? =some _;rw[<-el];simp}
  {refine%[0,[],[],upd H2 s2.heap.objs.size (.lst []),l.A,S2,capt N σ,rfl,dk _,by rw[es];exact I4,by rw[es];exact T.keep 0 s2.heap h₁ aG λ b k o e=>kp b o e,λ b k=>?_,p0,aR,y9 0,.nil,Step.fresh L _,aE.hide L _|((env.mono aI).capt N).conv (Conv.hide L _)];obtain⟨o,e⟩:=aS b k;rw[aA (cr (ca e))];exact(f2 b k).1}
 exact codeAny_compStart_list (au _ rfl) (T.self _ 0 _ _ _ (T.keep 0 s2.heap h₁ aG λ b k o e=>kp b o e) (au _ rfl))
variable{Γ:Gam}{S:Store}{elt tg iter:Expr}{ifs:List Expr}{sc:Scope}{pos:Pos}{N':List Str}{cap:List (Option Nat)}
def Zq(n:af7)(j:af9)(h:ItC X Γ S tg iter (FZ X sc n j Γ elt tg ifs W))(L:X.xe=λ _ _=>False:=by rfl)(G:%[|32]:=by rfl)(d:sc.kind=.function:=by rfl)
 (i:Bh sc.names=true:=by rfl)(hfr:freeOk X.env.scope.names sc.names=true:=by rfl)
 (f:∀y∈sc.names,y.2=.local->sc.names.lookup y.1=some .local:=by decide+kernel)(k:cC X.N X.env.scope.names n sc.names j n=true:=by rfl)(hs:∀x,foldedSetIterable iter X.env x=pure x:=by intro _;rfl):
 Ev X Γ S (.ListComp elt [%[tg,iter,ifs|0]] sc pos) W:=by intro l s P H O I r N;have a:∀y∈sc.names,y.2=.free->X.env.kindOf y.1=%[|12]\/X.env.kindOf y.1=some .free:=tB hfr;have J:∀y∈sc.names,y.2=.free->∃c,X.env.cells.lookup y.1=some c:=λ y M e=>I.ok.has y.1 (a y M e);rw[eval_ListComp];refine wpAny_comprehension_free (use:=none) (g:=%[tg,iter,ifs|0]) (gs:=[]) rfl hs (pQ J) d f ?_;refine Cp (RR:=λ p C=>compPost %[|5] X.A X.xe none (EP X l P (QG X.K O H W)) p C) L G d i a k h I r N ?_;intro s' u t C m v K E T q;refine%[m,K|λ R sb=>%[.ref t,u,?_,rfl|q]];obtain⟨w,z,Q,A,B,D⟩:=E;exact v.turned (t':=s'.toks) (λ b o F e=>(sb.2 b F).trans e) w z A B D
def Sw(i:Nat){f p}{W}(E:af7)(t:af9)(h:ItC X Γ S tg iter (FZ X sc E t Γ elt tg ifs λ d S1=>W.nx (Γ.set i (some d)) S1))(hN:X.N.Nodup)(hi:X.N[i]? =some x:=by rfl)
 (hl:Loc X.env.scope x:=by first | exact Or.inl rfl | exact Or.inr rfl)(K:swapsWith (.ListComp elt [%[tg,iter,ifs|0]] sc pos) (some (.Name x f)) p.line X.env=pure true:=by rfl)
 (G:%[|88]:=by first | exact .inl rfl | exact .inr rfl)(hx:X.xe=λ _ _=>False:=by rfl)(hc:%[|32]:=by rfl)(k:sc.kind=.function:=by rfl)
 (r:Bh sc.names=true:=by rfl)(hfr:freeOk X.env.scope.names sc.names=true:=by rfl)
 (l:∀y∈sc.names,y.2=.local->sc.names.lookup y.1=some .local:=by decide+kernel)(v:cC X.N X.env.scope.names E sc.names t E=true:=by rfl)(hs:∀x,foldedSetIterable iter X.env x=pure x:=by intro _;rfl):
 Rn X Γ S (.Assign [.Name x f] (.ListComp elt [%[tg,iter,ifs|0]] sc pos) p) W:=by
 intro n s σ H O I u st;have j:∀y∈sc.names,y.2=.free->X.env.kindOf y.1=%[|12]\/X.env.kindOf y.1=some .free:=tB hfr;have hf:∀y∈sc.names,y.2=.free->∃c,X.env.cells.lookup y.1=some c:=λ y hy e=>I.ok.has y.1 (j y hy e);rw[exec_Assign_Name_used _ _ _ _ K];refine b0 (wpAny_standAt (b0 ?_));show wpAny _ X.A (do let _ <-comprehension (.ListComp elt [%[tg,iter,ifs|0]] sc pos) sc X.env _ (newList []) false (eval iter X.env) (some (assign (.Name x f) X.env))) _ _ s;refine b0 (gS (wpAny_comprehension_free (use:=some (assign (.Name x f) X.env)) (g:=%[tg,iter,ifs|0]) (gs:=[]) (Q:=λ _ A=>SP X n (ends X.K O H W) .next A) rfl hs (pQ hf) k l ?_) (λ _ A hq=>b9 (b9 hq)) λ _ _ e=>e);refine Cp (RR:=λ F C=>compPost %[|5] X.A X.xe (some (assign (.Name x f) X.env)) (λ _ A=>SP X n (ends X.K O H W) .next A) F C) hx hc k r j v h I u st ?_;intro A T D C m U hm fp ne q;show wpAny _ X.A (assign (.Name x f) X.env (.ref D)) _ _ _;refine wpAny_assign_Name (Dq U hN hi hl (show RelV (.ref D) (.ref D)from rfl) (λ s2 V J=>?_) G);obtain⟨a,sa,ha⟩:=J;obtain⟨f0,P,f2,f3,R,f5⟩:=fp;have L:C≠a:=by rcases ha with z | z;{rw[z];exact P};{exact(R x a z).symm}
 refine%[m,hm.sameBut sa L|λ h' sb=>?_];obtain⟨Y,d,Z,w,B,M,N⟩:=q;exact%[_,T,V.turned (t':=s2.toks) (λ b o hb e=>(sb.2 b hb).trans e) f0 P f3 R f5,Y,_,Z,w,B,M|(u.mono B).set N i]
end
end DL
namespace DL
open PySem PySem.Spec L2
open PyProof.Rows
def tyD:D->String
 | .non=>"NoneType" | .bl _=>"bool" | .int _=>"int" | .str _=>"str" | .tup _=>"tuple" | .lst _=>"list" | .loc _=>"list" | .dic=>"dict" | .dlo _=>"dict"
def isi(t c:String):Bool:=t==c||(t=="bool"&&c=="int")
def isT(c:String):Bool:=c=="int"||c=="bool"||c=="tuple"||c=="list"||c=="str"
def kit_at(K:af0)(d:D)(a:isT c=true):PySem.W.kitOne K (.type (tyD d)) (.type c)=some (isi (tyD d) c):=by simp only[isT,ky,beq_iff_eq]at a;rcases a with(((h | h) | h) | h) | h<;>subst h<;>cases d<;>kernel_rfl
section
variable{X:Cx}{Γ:Gam}{S:Store}{W:WD}{a b e:Expr}{es:List Expr}{pos:Pos}
def YF{pins:Pins}{σ:St}(I:%[|3])(st:%[|15])(r:Rep X.K O H v d)(f:RelV v u)
 (b:∀{x t:Value}{G:Heap->Prop},PySem.W.KitX X.K x t G->t=.type (tyD d)->G s.heap->x≠.builtin "__main__.__loader__#opaque"->wpAny %[|5] A (call (.builtin "isinstance") [x,c]) Q E s):
 wpAny %[|5] A (call (.builtin "isinstance") [u,c]) Q E s:=by
 cases r with
 | non=>cases f;exact b PySem.W.kitx_none rfl True.intro %[|59]
 | bl y=>cases f;exact b PySem.W.kitx_bool rfl True.intro %[|59]
 | int y=>obtain⟨t,rfl⟩:=f;exact b PySem.W.kitx_int rfl True.intro %[|59]
 | str y=>obtain⟨t,rfl⟩:=f;exact b PySem.W.kitx_str rfl True.intro %[|59]
 | tup q K=>cases f;obtain⟨i,_,⟨o,g,a,_⟩,_⟩:=I.tuple q.sq;exact b PySem.W.kitx_tuple rfl %[o,g|a] %[|59]
 | lst q K=>cases f;obtain⟨i,_,F,_⟩:=I.list q.sq;obtain⟨o,g,a,_⟩:=F.isList;exact b PySem.W.kitx_list rfl %[o,g|a] %[|59]
 | @loc p k h=>
   cases f;have B:k<S.length:=by rw[<-st.len];exact(z0.mp h).1
   obtain⟨L,e,_⟩:=st.obj k p S[k] h (y3 B);obtain⟨i,_,F,_⟩:=I.list (SqL.of e);obtain⟨o,g,a,_⟩:=F.isList;exact b PySem.W.kitx_list rfl %[o,g|a] %[|59]
 | @dic p q g=>cases f;obtain⟨_,_,M,_,o,l,w,a,h4,_⟩:=(show aU X.prog X.w H s.heap p (.dK [])from I.hok p _ g);exact b kT rfl %[o,a|h4.1] %[|59]
 | @dlo p k h J=>
   cases f;have B:k<S.length:=by rw[<-st.len];exact(z0.mp h).1
   cases st.dob k p S[k] h (y3 B)with
   | t C e _=>obtain⟨_,_,L,_,o,l,w,a,h4,_⟩:=(show aU X.prog X.w H s.heap p (.dT C)from I.hok p _ e);exact b kT rfl %[o,a|h4.1] %[|59]
   | c j _ e _=>obtain⟨⟨_,_,_,o,l,w,a,h4,_⟩,_,_⟩:=(show aU X.prog X.w H s.heap p (.ext (Wm p j))from I.hok p _ e);exact b kT rfl %[o,a|h4.1] %[|59]
   | o j _ e _=>obtain⟨⟨_,_,_,o,l,w,a,h4,_⟩,_,_⟩:=(show aU X.prog X.w H s.heap p (.ext (mV p j))from I.hok p _ e);exact b kT rfl %[o,a|h4.1] %[|59]
   | m j _ _ e _=>obtain⟨⟨_,_,_,o,l,a,h4,_⟩,_,_⟩:=(show aU X.prog X.w H s.heap p (.ext (bI p j))from I.hok p _ e);exact b kT rfl %[o,a|h4.1] %[|59]
   | p _ n=>exact absurd J n
def aaN{p q}(h:Ev X Γ S a λ x S1=>W (.bl (isi (tyD x) Tn)) S1)(C:isT Tn=true)(D:bootBuiltins T=some (.type Tn))(t:X.mg "isinstance"=none)(G:X.mg T=none)(o:Gl X "isinstance":=by rfl)(F:Gl X T:=by rfl)
 (J:T≠"__name__":=by decide)(n:(T==("__debug__":Str))=false:=by decide)(i:starEach [a,.Name T q] X.env=(false,eval a X.env)::starEach [.Name T q] X.env:=by rfl)(j:starEach [.Name T q] X.env=[(false,eval (.Name T q) X.env)]:=by rfl):
 Ev X Γ S (.Call (.Name "isinstance" p) [a,.Name T q] [] pos) W:=by
 intro b s B H O I m N;have E:jG X (.builtin "isinstance") (λ A l Q=>∃v,A=[v,.ty Tn]/\∃f d g,StOk X.K f l g/\Rep X.K f l v d/\Q (.bl (isi (tyD d) Tn)) l):=by intro b s B H A U Q I r h;obtain⟨v,rfl,f,d,g,y,c,q⟩:=h;obtain⟨u,R,rfl,L,M⟩:=vals2 r;cases M;refine YF I y c L λ Z e p K=>?_;subst e;exact PySem.W.kia_one Z I.kIn p (kit_at X.K d C) K λ P=>%[.bl _,H,I.tok P,rfl|q]
 refine Xc E o t PyProof.Rows.boot_isinstance (uI h.pe (uI (Y8 F G D (v:=.ty Tn) rfl J n) Ih j) i) %[|1] %[|1] i (by rw[j];rfl) b s B H _ I %[O,m,N|λ v l q=>?_];obtain⟨f,d,g,w,z,k,c⟩:=q;exact%[v,rfl,f,d,g,k,c,f,_,g,w,z,k|.bl _]
def range_all{n:Type}(f:n->Bool)(d:n):∀(a:List n)(k:Nat),((List.range' k a.length).all λ i=>f ((List.replicate k d++a).getD i d))=a.all f:=by
 intro a
 induction a with
 | nil=>intro _;simp
 | cons b a o=>
   intro k;have q:=o (k+1);rw[dS,List.range'_succ,iF,iF];congr 1;{simp[List.getD]}
   . rw[<-q];have e:List.replicate k d++b::a=(List.replicate k d++[b])++a:=by simp
     rw[List.all_eq,List.all_eq];congr 1;apply propext;constructor
     . intro h i c;have:=h i c;rw[List.mem_range']at c;obtain⟨j,p,rfl⟩:=c;simp only[List.getD,List.getElem?_append,nS]at this ⊢;have l:¬(k+1+1*j<k):=%[|0]
       have m:¬(k+1+1*j<k+1):=%[|0]
       rw[c8 l]at this;rw[c8 m];have g:k+1+1*j-k=(k+1+1*j-(k+1))+1:=%[|0]
       rw[g,List.getElem?_cons_succ]at this;exact this
     . intro h i c;have:=h i c;rw[List.mem_range']at c;obtain⟨j,p,rfl⟩:=c;simp only[List.getD,List.getElem?_append,nS]at this ⊢;have l:¬(k+1+1*j<k):=%[|0]
       have m:¬(k+1+1*j<k+1):=%[|0]
       rw[c8 m]at this;rw[c8 l];have g:k+1+1*j-k=(k+1+1*j-(k+1))+1:=%[|0]
       rw[g,List.getElem?_cons_succ];exact this
def Q0(a:List Bool):((List.range a.length).all λ i=>a.getD i false)=a.all id:=by have:=range_all id false a 0;simpa[List.range_eq_range']using this
def k_all{c:List Bool}(w:W (.bl (c.all id)) S)(C:%[|32]:=by rfl):fQ X (.builtin "all") [.lst (c.map .bl)] S W:=by
 intro n s σ H O Z Y I N r K;obtain⟨v,rfl,J⟩:=d8 r;obtain⟨u,rfl,l⟩:=vals1 K;obtain⟨a,xs,rfl,B,G⟩:=dW J;cases l;obtain⟨d,p,k,T⟩:=I.list B.sq;have y:=G.bools;subst y;have f:d.length=c.length:=by rw[<-p.length];simp
 refine call_all_walk (kf k.isList ?_);have F:a≠s.heap.objs.size:=by obtain⟨o,e,_⟩:=k.isList;exact cr (ca e)
 refine%[_,_,_,_,_,_,λ i=>c.getD i false,rfl,Walks.list (A:=X.A.in1) (I.ok.hd C) _ a F d.toArray,%[%[|73]|k.isList.push _],λ i v M t Q j E=>?_|λ R U D=>?_]
 . have j:d[i]? =some v:=by simpa using j
   have m:i<c.length:=by rw[<-f];exact(z0.mp j).1
   obtain⟨z,h,L⟩:=p.get (i:=i) (x:=V.bl c[i]) (by rw[y8,y3 m];rfl);rw[j]at h;cases h;cases L;have e:c.getD i false=c[i]:=by simp[List.getD,m]
   have g:t (c.getD i false) M:=E;rw[e]at g;exact hE g
 . have e:(List.range d.toArray.size).all (λ i=>c.getD i false)=c.all id:=by rw[x5,f];exact Q0 c
   rw[e];refine%[.bl _,H,I.kept (λ b o q=>D b o (λ z=>?_) (bX _ q)),rfl|Ac w N (.bl _)];have P:b=s.heap.objs.size:=by simpa using z
   exact absurd (ca q) (by rw[P];exact ic _)
def acP{ns:af1}(w:W (.int ns.sum) S)(l:%[|32]:=by rfl):fQ X (.builtin "sum") [.lst (ns.map .int)] S W:=by
 intro h s F H O D C I x r q;obtain⟨v,rfl,p⟩:=d8 r;obtain⟨u,rfl,c⟩:=vals1 q;obtain⟨a,E,rfl,k,o⟩:=dW p;cases c;obtain⟨b,t,n,z⟩:=I.list k.sq;have j:=o.ints;subst j;have g:IntsAre b ns:=intsAre_of t;obtain⟨i,d⟩:=g.allInts.items;have f:=n.isList;rw[d]at f;refine sum_intListG (I.ok.hd l) f λ y B A m=>?_;have e:preSum (numAt i) i.size=ns.sum:=by rw[preSum_eq,cS (by simp),<-nums_intItems,<-d];exact eC List.sum g.numsOf
 rw[e];exact%[.int _,H,I.kept m,%[_|rfl]|Ac w x (.int _)]
mutual
def deep:D->Nat
 | .tup ds=>aY ds+1
 | .lst ds=>aY ds+1
 | .dic=>1
 | _=>0
def aY:List D->Nat
 | []=>0
 | d::ds=>max (deep d) (aY ds)
end
mutual
def aB:D->Bool
 | .tup ds=>aa ds
 | .lst ds=>aa ds
 | .loc _=>false
 | .dlo _=>false
 | _=>true
def aa:List D->Bool
 | []=>true
 | d::ds=>aB d&&aa ds
end
theorem oW:∀{ds:List D}{i:Nat},%[|25]->deep d<=aY ds
 | [],_,h=>by simp at h
 | c::ds,0,h=>by simp at h;subst h;simp[aY];omega
 | c::ds,i+1,h=>by have:=oW (ds:=ds) (i:=i) (by simpa using h);simp[aY];omega
end
end DL
namespace DL
open PySem PySem.Spec L2
open PyProof.Rows
variable{pins:Pins}{H:Hp}{s:Shared}
set_option genInjectivity false in
structure SqKind(P:ag4)(w:World)(K:af0) where
 Sq:Hp->Addr->List V->Prop
 It:Heap->Addr->Addr->Nat->Prop
 Ob:Heap->Addr->Array Value->Prop
 itObj:∀{h it a i},It h it a i->∃o vs,h.get? it=some o/\o.data=.fields vs
 itAt:∀{h h' it a i},It h it a i->(∀o,h.get? it=some o->h'.get? it=some o)->It h' it a i
 obObj:∀{h a its},Ob h a its->∃o n,h.get? a=some o/\o.data=.seq its n
 draws:∀(A:ah0),%[|50]->∀(it a:Addr),a≠it->∀items:Array Value,Draws P w A it [it,a] items.size (λ i v=>items[i]? =some v) (λ i h=>It h it a i/\Ob h a items)
 get:∀{X:Cx}{pins:Pins}{σ:St}{H:Hp}{s:af3}{a:Addr}{xs:List V},X.prog=P->X.w=w->X.K=K->%[|3]->Sq H a xs->∃its:List Value,Vals xs its/\Ob s.heap a its.toArray
 inj:∀{X:Cx}{pins:Pins}{σ:St}{H:Hp}{s:af3}{a:Addr}{xs ys:List V},X.prog=P->X.w=w->X.K=K->%[|3]->Sq H a xs->Sq H a ys->xs=ys
 far:∀{X:Cx}{pins:Pins}{σ:St}{H:Hp}{s:af3}{a b:Addr}{xs:List V},X.K=K->%[|3]->Sq H a xs->iT X pins H b->a≠b
section
variable{P:Program}{w:World}{K:PySem.W.Frag}
def SqKind.ne(q:SqKind P w K)(x:q.It h d a i)(y:q.Ob h a its):a≠d:=λ e=>by obtain⟨o,k,f,g⟩:=q.itObj x;obtain⟨j,n,b,c⟩:=q.obObj y;rw[e,f]at b;cases b;rw[g]at c;cases c
def abA{σ:St}(I:%[|3])(h:X.K.lookup a=some o)(f:iT X pins H b):a≠b:=λ z=>by have e:=I.ok.mod.kin a o h;rw[z]at e;rcases f.2.2.2.1 with q | q;{exact I.ok.noex b o e q};{exact absurd (v3 (ca e) (d6 I.ok.bsz q)) (ic _)}
def Yd(P:ag4)(w:World)(K:af0):SqKind P w K where
 Sq:=SqL K
 It:=λ h m a i=>h.IsListIter m a i
 Ob:=λ h a c=>h.IsList a c
 itObj:=λ x=>let ⟨o,e,_,d⟩:=x;%[o,_,e|d]
 itAt:=λ x k=>x.at k
 obObj:=λ x=>let ⟨o,e,_,n,d⟩:=x;%[o,n,e|d]
 draws:=λ A r m a s b=>Draws.list r m a s b
 get:=λ j l g I h=>by subst j l g;obtain⟨c,t,p,_⟩:=I.list h;exact%[c,t|p.isList]
 inj:=λ j l g I h q=>by subst j l g;exact I.list_inj h q
 far:=λ g I h f=>by subst g;rcases h with(h | ⟨_,h⟩) | ⟨o,_,_,h,_⟩;{exact aP h f.1};{exact aP h f.1};{exact abA I h f}
def abI(hi:s.heap.IsTupleIter a t i)(h:s.heap.IsTuple t items)(j:items[i]? =some x)
 (f:∀h',h'.IsTupleIter a t (i+1)->Heap.SameBut a s.heap h'->Q x %[|19]):wpAny %[|4] A (Builtin.SmallTypes.nextOf (.ref a)) Q E s:=by obtain⟨o,c,g,b⟩:=id hi;obtain⟨l,e,_,k,d⟩:=h;unfold Builtin.SmallTypes.nextOf;refine b0 (wpAny_callSpecial?_slot (name:=%[|85]) hi.typeIs kA (dQ kA hi.typeIs F.entry_tuple_iterator_next ?_ (F.args_tuple_iterator_next_1 _)));refine b0 (m:=field (.ref a) 0) (fA c b (x:=.ref t) rfl ?_);rw[c8 (show ¬((Value.ref t==Value.none)=true)from y6)];refine b0 (m:=field (.ref a) 1) (fA c b (x:=.int i 0) rfl ?_);refine b0 (m:=seqItems? (.ref t)) (fy e d ?_);simp only[f7,j];refine b0 (kr c b (by simp) (b9 %[x,rfl|b9 (f _ %[_,fx _ c (Obj.isFreed_of_fields (mB b _)),(Obj.cls_mapFields ..).trans g|by rw[mB b];simp[rawInt]] (eI ..))]))
def TJ(hh:%[|50])(hi:s.heap.IsTupleIter b t i)(j:s.heap.IsTuple t items)(k:items[i]? =none)
 (h:∀h' e,Heap.ExtBut b s.heap h'->(∃o,h'.get? e=some o/\o.cls=.type "StopIteration")->E (.ref e) %[|19]):wpAny %[|4] A (Builtin.SmallTypes.nextOf (.ref b)) Q E s:=by
 obtain⟨o,f,l,c⟩:=id hi;obtain⟨p,g,_,n,d⟩:=j;unfold Builtin.SmallTypes.nextOf;refine b0 (wpAny_callSpecial?_slot (name:=%[|85]) hi.typeIs kA (dQ kA hi.typeIs F.entry_tuple_iterator_next ?_ (F.args_tuple_iterator_next_1 _)));refine b0 (m:=field (.ref b) 0) (fA f c (x:=.ref t) rfl ?_);rw[c8 (show ¬((Value.ref t==Value.none)=true)from y6)];refine b0 (m:=field (.ref b) 1) (fA f c (x:=.int i 0) rfl ?_);refine b0 (m:=seqItems? (.ref t)) (fy g d ?_);simp only[f7,k];refine b0 (kt (b0 (kr f c (by simp) (b0 (m:=newExc (.type "StopIteration") []) ?_))));simp only[newExc,newTuple];refine b0 (dV (b0 (m:=firstArgMember _ _) (wpAny_of_eq (a:=Value.none) (by first | rfl | (simp only[firstArgMember];rfl)) (dV ?_ (by size_fits)))) (by size_fits));simp only[raiseNew];refine b0 (wpAny_handled ?_);first | rw[show A.in1.handled=none from hh] | rw[hh]
 exact b0 (b9 (wpAny_throw (h _ _ (((eI ..).extBut.push _).push _) %[_,cb _ rfl|rfl])))
theorem Wr(hh:%[|50])(a t:Addr)(ne:t≠a)(items:ag1):
 Draws prog w A a [a,t] items.size (λ i v=>items[i]? =some v) (λ i h=>h.IsTupleIter a t i/\h.IsTuple t items) where
 live:=λ i h x=>let ⟨o,e,_⟩:=x.1;%[o|e]
 frame:=λ i h b x k=>by obtain⟨⟨o,e,r⟩,⟨d,g,m⟩⟩:=x;exact%[%[o,k a (by simp) o e|r]|%[d,k t (by simp) d g|m]]
 item:=λ i s Q E c x l=>abI x.1 x.2 (x:=items[i]) (by simp[c]) λ b y f=>l _ b s.toks (by simp[c]) %[y|x.2.extBut f.extBut ne] f
 done:=λ s Q E x j=>TJ hh x.1 x.2 (by simp) j
def Q4(P:ag4)(w:World)(K:af0):SqKind P w K where
 Sq:=SqT K
 It:=λ h m a i=>h.IsTupleIter m a i
 Ob:=λ h a c=>h.IsTuple a c
 itObj:=λ x=>let ⟨o,e,_,d⟩:=x;%[o,_,e|d]
 itAt:=λ x k=>let ⟨o,e,r⟩:=x;%[o,k o e|r]
 obObj:=λ x=>let ⟨o,e,_,n,d⟩:=x;%[o,n,e|d]
 draws:=λ A s m a t b=>Wr s m a t b
 get:=λ j l g I h=>by subst j l g;obtain⟨c,u,p,_⟩:=I.tuple h;exact%[c,u|p]
 inj:=λ j l g I h q=>by subst j l g;exact I.tuple_inj h q
 far:=λ g I h f=>by subst g;rcases h with(h | ⟨_,h⟩) | ⟨o,_,_,h,_⟩;{exact aP h f.1};{exact aP h f.1};{exact abA I h f}
def uv{σ:St}{ch:ah2}(I:%[|3])(d:∀b∈ch,iT X pins H b)(k:∀b o,b∉ch->%[|38]):Inv X pins σ H {s with heap:=h',toks:=t}:=by
 have f:∀b u,H b=some u->b∉ch:=λ b u e z=>by rw[(d b z).1]at e;cases e
 refine I.step (g':=s.gens) (d':=s.drawn) (ch:=ch) (λ b g=>%[(d b g).2.2.2.1,(d b g).2.1,(d b g).2.2.2.2.1|(d b g).2.2.2.2.2]) (λ b o _ _ a e _=>k b o a e) (λ b o _ _ a e _=>%[o.slots|k b o a e]) (λ _ _ _ _ n=>n) (λ b o a e=>%[o|k b o a e])
  (λ _ _ e=>e) (λ _ _ _ e=>e) (λ b p e=>%[#[]|by rw[e];simp]) (λ m j=>?_) (λ b u e=>?_) I.bare;{obtain⟨o,i,h,l,r⟩:=j;exact%[o,i,h,k _ o (λ z=>(d _ z).2.1 rfl) l|r]};{refine(I.hok b u e).stay (λ c v a q=>k c v ?_ q) (λ _ q=>q) λ _ _ q=>q;rcases a with z | z;{rw[z];exact f b u e};{exact f c _ z}}
def wz{σ:St}{p:Addr}(I:%[|3])(a:Inv X pins σ H s')(d:s.heap.objs.size<=p)(g:aU X.prog X.w (upd H p o) s'.heap p o):Inv X pins σ (upd H p o) s':=by have y:H p=none:=I.hok.fresh d;have f:∀b u,H b=some u->b≠p:=λ b u e=>aP e y;refine%[a.ok,a.os,a.bare,%[a.base.keep,a.base.slot,λ b g e n A=>?_,a.base.there,λ b k e=>?_,λ b g u e=>?_|λ b C e=>?_],a.loc,a.cell,?_,λ x c e=>?_,λ q j=>?_,λ b u e=>?_|a.len];{have B:%[|49]:=v3 (ca e) I.sz;rw[aA (cr (v3 B d))];exact a.base.free b g e n A};{have:=a.base.tups b k e;rw[aA (f b _ this)];exact this};{have:=a.base.frzs b g u e;rw[aA (f b _ this)];exact this};{obtain⟨m,h⟩:=a.base.tbls b C e;exact%[m|by rw[aA (f b _ h)];exact h]};{rw[aA (cr (v3 I.lt d))];exact a.free};{obtain⟨v,z⟩:=I.cell x c e;rw[aA (cr (v3 z.lt d))];exact a.freeC x c e};{obtain⟨w,_⟩:=I.pin q j;obtain⟨l,r,t⟩:=a.pin q j;exact%[l,by rw[aA (cr (v3 (ca w) d))];exact r|t]};{by_cases i:b=p;{subst i;rw[aR]at e;cases e;exact g};{rw[aA i]at e;exact(a.hok b u e).stay (λ c v _ q=>q) (λ c q=>by rw[aA (f c _ q)];exact q) λ c k q=>by rw[aA (f c _ q)];exact q}}
def Ite(q:SqKind P w K)(a:Addr):It:=
 %[λ i H=>∃b x,q.Sq H a b/\b[i]? =some x,λ i H x c=>∃p y,H p=none/\c=upd H p (.tup [.int i,y])/\x=.ref p/\∀b,q.Sq H a b->b[i]? =some y|λ i H=>∃b,q.Sq H a b/\i=b.length]
theorem Uq(q:SqKind P w K)(a e g:Addr)(p:e≠g):Turn P w K (.Tuple C k W) (Ite q a) [e,g] e (λ i h=>(∃old,IsEnum h e g i old)/\q.It h g a i) where
 mem:=by simp
 obj:=λ i h st b d=>by obtain⟨⟨old,f⟩,l⟩:=st;rcases cK.mp d with rfl | d;{exact%[_,f|λ v z=>nomatch z]};{rw[cf.mp d];obtain⟨o,vs,r,m⟩:=q.itObj l;exact%[o,r|λ v z=>by rw[m]at z;cases z]}
 keep:=λ i h h' st k=>%[let ⟨old,f⟩:=st.1;%[old|k e (by simp) _ f]|q.itAt st.2 λ o e=>k g (by simp) o e]
 item :=by
  intro X t y G Q i j s σ H E I J st T;obtain⟨xs,x,L,M⟩:=T;obtain⟨c,Z,A⟩:=q.get t y G I L;obtain⟨u,hu,ru⟩:=Z.get M;obtain⟨⟨old,f⟩,l⟩:=st;have V:=q.ne l A;have S:e≠a:=λ z=>by obtain⟨o,n,r,m⟩:=q.obObj A;rw[<-z,f]at r;cases r;cases m
  have U:i<c.toArray.size:=by simpa using(z0.mp hu).1
  have uq:∀ys,q.Sq H a ys->ys[i]? =some x:=λ ys hy=>by rw[q.inj t y G I hy L];exact M
  subst t y;refine wpAny_pyNext_enum_itemD (q.draws X.A.in1 (I.ok.hd Q) g a V c.toArray) f %[l|A] U p (by simp[p,S]) λ x' h' F D ho hs' hT ab hk=>?_;have ex:x'=u:=by
   have:c.toArray[i]? =some u:=by simpa using hu
   rw[this]at D;exact(cq D).symm
  subst ex;refine%[_,rfl|wpAny_letOwnedTupleGo_enum ho λ m R sb=>?_];have I1:Inv X j σ H {s with heap:=m,toks:=F+1}:=uv (ch:=[e,g]) I J λ b o d Y=>(sb.2 b (λ z=>d (by simp[z]))).trans (hk b o (λ z=>d (by simp[z])) (λ z=>d (by simp[z])) Y);have hp:H s.heap.objs.size=none:=I.hok.fresh (y9 _);have B:e<s.heap.objs.size:=ca f;have O:m.get? s.heap.objs.size=some {cls:=%[|9],data:=.seq #[.int i F,x']}:=(sb.2 _ (ft B)).trans hT;have I2:Inv X j σ (upd H s.heap.objs.size (.tup [.int i,x])) {s with heap:=m,toks:=F+1}:=wz I I1 (y9 _) %[by show 2<=sizeLine;decide,[.int i F,x'],.cons %[F|rfl] (.cons ru .nil),_,O,rfl,_|rfl];refine%[%[|8],_,I2,rfl,%[_,x,hp,rfl,rfl|uq],%[%[_|by simpa using R]|q.itAt hs'.1 λ o Y=>(sb.2 g p.symm).trans Y]|λ b d=>?_];rw[aA (cr ?_)];{exact(J b d).1};{rcases cK.mp d with rfl | d;{exact B};{rw[cf.mp d];obtain⟨o,vs,r,_⟩:=q.itObj l;exact ca r}}
 done:=by
  intro X t y G Q i j s σ H E I J st T;obtain⟨xs,L,M⟩:=T;obtain⟨c,Z,A⟩:=q.get t y G I L;obtain⟨⟨old,f⟩,l⟩:=st;have V:=q.ne l A;subst t y;obtain⟨f0,f1,f2,f3,f4,f5⟩:=J g (by simp);have hn:i=c.toArray.size:=by rw[M,Z.length];simp
  have aa:q.It s.heap g a c.toArray.size/\q.Ob s.heap a c.toArray:=%[hn▸l|A];exact wpAny_pyNext_enum_endD (q.draws X.A.in1 (I.ok.hd Q) g a V c.toArray) f aa λ h' N=>%[rfl|I.turned (t':=s.toks) (λ b o d e=>N b o d e) f0 f1 f3 f4 f5]
 self:=λ _ _ _ _ _ st h=>let ⟨old,f⟩:=st.1;wpAny_pyIter_enum f h
def vp(q:SqKind P w K)(h:∀O' H',Conv O O' H H'->∃xs,q.Sq H' a xs/\Reps K O' H' xs ds):kJ K (Ite q a) O H (ds.mapIdx λ i d=>.tup [.int i,d]):=by
 intro O' H' l t i;obtain⟨xs,f,r⟩:=h O' H' l;refine%[λ d b=>?_|λ m=>%[xs,f|by rw[m,r.length];simp]];rw[jv]at b
 cases e:ds[i]? with
 | none=>rw[e]at b;cases b
 | some u=>rw[e]at b;cases b;obtain⟨v,j,s⟩:=r.get e;refine%[%[xs,v,f|j]|λ x k y=>?_];obtain⟨p,y,c,rfl,rfl,n⟩:=y;have g:=n xs f;rw[j]at g;cases g;have o:¬O'.has p:=λ z=>t p z c;exact%[fB.fresh c _|.tup %[o|aR] (.cons (.int _) (.cons (s.mono (Step.fresh c _)) .nil))]
section
variable{X:Cx}{Γ:Gam}{S:Store}{e:Expr}{pos:Pos}
def M9{σ:St}(q:SqKind X.prog X.w X.K)(I:%[|3])(e:IsEnum h' %[|28] s.heap.objs.size 0 .none)(hi:q.It h' s.heap.objs.size a 0)
 (f:∀b o,%[|38])(r:R (Ite q a) H):wpAny %[|5] X.A (pyIter (.ref %[|28])) (PIE X pins σ (.Tuple c k g) R) E %[|19]:=by refine wpAny_pyIter_enum e ?_;refine%[%[|28],[%[|28],s.heap.objs.size],_,_,H,rfl,I.kept (t':=s.toks) f,Uq q a %[|28] s.heap.objs.size (Nat.succ_ne_self _),%[%[_|e]|hi],λ b d=>?_|r];rcases cK.mp d with rfl | d;{exact I.fpOk (jp _) (I.hok.fresh (jp _))};{rw[cf.mp d];exact I.fpOk (y9 _) (I.hok.fresh (y9 _))}
def Tu(l:Addr)(items:ag1)(n:Nat)(b:ag8)(m:ag5):
 Meets (Builtin.«enumerate.__new__» %[[.type "enumerate",.ref l]|[]]) (λ _ R s=>s.heap.get? l=some {cls:=%[|9],dict:=b,data:=.seq items n,slots:=m}/\
  R (.ok (.ret (.ref (s.heap.push {cls:=.type "tuple_iterator",data:=.fields #[.ref l,.int 0 0]}).objs.size)))
    {s with heap:=(s.heap.push {cls:=.type "tuple_iterator",data:=.fields #[.ref l,.int 0 0]}).push {cls:=.type "enumerate",data:=.fields #[.none,.bool false,%[|8],rawInt 0,.none,.none]}}):=
 .of_wp λ i w A R s h=>by obtain⟨j,g,d,o,k⟩:=s;obtain⟨a,h⟩:=h;have f:=sub_enumerate;have e:Heap.IsTuple (Shared.heap %[j,g,d,o|k]) l items:=%[_,a,rfl,n|rfl];wp_walk using AutoSeq1.wpAny_loadPart' a;refine wpAny_stack_any λ p=>b9 ?_;split;{rename_i c _ _ _ _ _;cases (c==Value.type "enumerate")<;>(wp_walk using AutoSeq1.wpAny_loadPart' a,wpAny_pyIter_tuple e;exact%[_,rfl|h])};{wp_walk using AutoSeq1.wpAny_loadPart' a,wpAny_pyIter_tuple e;exact%[_,rfl|h]}
end
end
end DL
namespace DL
open PySem PySem.Spec L2
open PyProof.Rows
structure Zd(z TI TO i1 i2:Addr)(f1 f2:ah2):Prop where
 a:TI≠z
 b:TO≠z
 c:TI≠TO
 d:TI≠i1
 e:TI≠i2
 f:TO≠i1
 g:TO≠i2
 h:i1≠z
 i:i2≠z
 j:z∉f1
 k:z∉f2
 l:TO∉f1
 m:TO∉f2
 n:i1∉f2
 o:i2∉f1
section
variable{prog:Program}{w:World}{A:Around}{E:%[|26]}{s:Shared}{z TI TO i1 i2:Addr}{f1 f2:List Addr}{n1 n2 k:Nat}{P1 P2:Nat -> Value -> Prop}{T1 T2:Nat -> Heap -> Prop}{va vb:Value}
def abL{Q:af2}(F:Draws prog w A i1 f1 n1 P1 T1)(G:Draws prog w A i2 f2 n2 P2 T2)(Z:Zd z TI TO i1 i2 f1 f2)(hz:IsZip s.heap z TI TO .none)(K:IsPair s.heap TI (.ref i1) (.ref i2))(L:IsPair s.heap TO va vb)(t1:T1 k s.heap)(t2:T2 k s.heap)(k1:k<n1)(k2:k<n2)
 (hQ:∀x y h' tk,P1 k x->P2 k y->IsZip h' z TI TO (rawInt s.heap.objs.size)->IsPair h' TO x y->T1 (k+1) h'->T2 (k+1) h'->IsPair h' s.heap.objs.size x y->
  (∀c o,c≠z->c≠TO->c≠i1->c≠i2->s.heap.get? c=some o->h'.get? c=some o)->Q %[|8] %[|54]):
 wpAny %[|4] A (Builtin.«zip.__next__» %[[.ref z]|[]]) (λ fin s'=>∃v,fin=.done (.ret v)/\Q v s') E s:=by
 obtain⟨V,g,d,aa,os⟩:=s;refine b0 (m:=field (.ref z) 2) (fA hz rfl (x:=.bool false) rfl (b0 (m:=field (.ref z) 3) (fA hz rfl (x:=.ref TI) rfl (b0 (fy K rfl ?_)))));refine b0 (m:=Builtin.SmallTypes.ownedTupleIsFree (.ref z)) ?_;unfold Builtin.SmallTypes.ownedTupleIsFree;refine b0 (fA hz rfl (x:=.none) rfl (b9 ?_));simp only[h9];refine b0 (kt (b0 (fA hz rfl (x:=.ref TO) rfl (b0 (fS hz (by simp) λ S j s1=>?_)))));replace j:IsZip S z TI TO .ellipsis:=j;refine b0 ?_;simp only[List.zipIdx_cons,List.zipIdx_nil,mm,lh];refine b0 (b0 (wpAny_onRaise (b0 (m:=Builtin.SmallTypes.nextOf (.ref i1)) ?_)));refine F.item k _ _ _ k1 (F.frame _ _ _ t1 λ b a o e=>s1.extBut b o (λ q=>Z.j (q▸a)) e) λ x T ab p1 O s2=>b9 ?_;replace s2:Heap.SameBut i1 S T:=s2;have W:IsPair T TO va vb:=s2.extBut _ _ Z.f (s1.extBut _ _ Z.b L);refine b0 (fy W rfl (b0 (oy W λ J N s3=>b0 (wpAny_letGo (b9 ?_)))));replace N:IsPair J TO x vb:=N;refine b0 (b0 (wpAny_onRaise (b0 (m:=Builtin.SmallTypes.nextOf (.ref i2)) ?_)));have P:T2 k J:=G.frame _ _ _ t2 λ b a o e=>s3.extBut b o (λ q=>Z.m (q▸a)) (s2.extBut b o (λ q=>Z.n (q▸a)) (s1.extBut b o (λ q=>Z.k (q▸a)) e));refine G.item k _ _ _ k2 P λ y U R p2 t s4=>b9 ?_;replace s4:Heap.SameBut i2 J U:=s4;have X:IsPair U TO x vb:=s4.extBut _ _ Z.g N;refine b0 (fy X rfl (b0 (oy X λ f C s5=>b0 (wpAny_letGo (b9 (b9 ?_))))));replace C:IsPair f TO x y:=C;refine b0 (fy C rfl (b0 (wpAny_newTuple ?_)));have sz:f.objs.size=V.objs.size:=by rw[s5.1,s4.1,s3.1,s2.1,s1.1]
 have p:IsZip f z TI TO .ellipsis:=s5.extBut _ _ Z.b.symm (s4.extBut _ _ Z.i.symm (s3.extBut _ _ Z.b.symm (s2.extBut _ _ Z.h.symm j)));have k5:∀c o,c≠z->c≠TO->c≠i1->c≠i2->V.get? c=some o->f.get? c=some o:=λ c o i B H I q=>s5.extBut _ _ B (s4.extBut _ _ I (s3.extBut _ _ B (s2.extBut _ _ H (s1.extBut _ _ i q))));have u:z<f.objs.size:=ca p;refine b0 (m:=Builtin.SmallTypes.ownedTupleHandOut (.ref z) (.ref f.objs.size)) ?_;unfold Builtin.SmallTypes.ownedTupleHandOut;have M:IsZip (f.push {cls:=%[|9],data:=.seq #[x,y]}) z TI TO .ellipsis:=bX _ p;refine b0 (fS M (by simp) λ h7 l s7=>?_);replace l:IsZip h7 z TI TO (rawInt f.objs.size):=l;refine fS l (by simp) λ n h s8=>?_;replace h:IsZip n z TI TO (rawInt f.objs.size):=h;have D:∀c o,c≠z->f.get? c=some o->n.get? c=some o:=λ c o i q=>s8.extBut _ _ i (s7.extBut _ _ i (bX _ q));have Y:IsPair n f.objs.size x y:=s8.extBut _ _ (ft u) (s7.extBut _ _ (ft u) (cb _ rfl));rw[sz]at h Y;refine b9 %[_,rfl|?_];show Q (.ref f.objs.size) _;rw[sz];have u1:T1 (k+1) n:=F.frame _ _ _ O λ b a o q=>D b o (λ r=>Z.j (r▸a)) (s5.extBut b o (λ r=>Z.l (r▸a)) (s4.extBut b o (λ r=>Z.o (r▸a)) (s3.extBut b o (λ r=>Z.l (r▸a)) q)));have u2:T2 (k+1) n:=G.frame _ _ _ t λ b a o q=>D b o (λ r=>Z.k (r▸a)) (s5.extBut b o (λ r=>Z.m (r▸a)) q);exact hQ x y n R p1 p2 h (D _ _ Z.b C) u1 u2 Y λ c o i B H I q=>D c o i (k5 c o i B H I q)
def Wa(F:Draws prog w A i1 f1 n1 P1 T1)(M:Draws prog w A i2 f2 n2 P2 T2)(Z:Zd z TI TO i1 i2 f1 f2)(hz:IsZip s.heap z TI TO .none)(I:IsPair s.heap TI (.ref i1) (.ref i2))(J:IsPair s.heap TO va vb)(X:T1 k s.heap)(Y:T2 k s.heap)(V:k=n1\/(k<n1/\k=n2))
 (O:∀h' tk e,(∀c o,c≠z->c≠TO->c≠i1->c≠i2->s.heap.get? c=some o->h'.get? c=some o)->(∃o,h'.get? e=some o/\o.cls=.type "StopIteration")->E (.ref e) %[|54]):
 wpAny %[|4] A (Builtin.«zip.__next__» %[[.ref z]|[]]) Q E s:=by
 obtain⟨hp,g,d,aa,os⟩:=s;refine b0 (m:=field (.ref z) 2) (fA hz rfl (x:=.bool false) rfl (b0 (m:=field (.ref z) 3) (fA hz rfl (x:=.ref TI) rfl (b0 (fy I rfl ?_)))));refine b0 (m:=Builtin.SmallTypes.ownedTupleIsFree (.ref z)) ?_;unfold Builtin.SmallTypes.ownedTupleIsFree;refine b0 (fA hz rfl (x:=.none) rfl (b9 ?_));simp only[h9];refine b0 (kt (b0 (fA hz rfl (x:=.ref TO) rfl (b0 (fS hz (by simp) λ B f v=>?_)))));replace f:IsZip B z TI TO .ellipsis:=f;refine b0 ?_;simp only[List.zipIdx_cons,List.zipIdx_nil,mm,lh];refine b0 (b0 (wpAny_onRaise (b0 (m:=Builtin.SmallTypes.nextOf (.ref i1)) ?_)));have y:T1 k B:=F.frame _ _ _ X λ b r o e=>v.extBut b o (λ q=>Z.j (q▸r)) e;rcases V with rfl | ⟨W,rfl⟩
 . refine F.done _ _ _ y λ p e a i=>?_;obtain⟨K,h,n⟩:=i;replace a:Heap.ExtBut i1 B p:=a;have t:IsZip p z TI TO .ellipsis:=a _ _ Z.h.symm f;have H:e≠z:=λ q=>by subst q;rw[t]at h;cases h;simp at n
   exact fS t (by simp) λ C _ j=>O C _ e (λ c o l _ G _ q=>j.extBut _ _ l (a _ _ G (v.extBut _ _ l q))) %[K,j.extBut _ _ H h|n]
 . refine F.item k _ _ _ W y λ x p ab p1 _ a=>b9 ?_;replace a:Heap.SameBut i1 B p:=a;have P:IsPair p TO va vb:=a.extBut _ _ Z.f (v.extBut _ _ Z.b J);refine b0 (fy P rfl (b0 (oy P λ C o3 j=>b0 (wpAny_letGo (b9 ?_)))));refine b0 (b0 (wpAny_onRaise (b0 (m:=Builtin.SmallTypes.nextOf (.ref i2)) ?_)));have L:T2 k C:=M.frame _ _ _ Y λ b r o e=>j.extBut b o (λ q=>Z.m (q▸r)) (a.extBut b o (λ q=>Z.n (q▸r)) (v.extBut b o (λ q=>Z.k (q▸r)) e));refine M.done _ _ _ L λ N e D i=>?_;obtain⟨K,h,n⟩:=i;replace D:Heap.ExtBut i2 C N:=D;have u:IsZip N z TI TO .ellipsis:=D _ _ Z.i.symm (j.extBut _ _ Z.b.symm (a.extBut _ _ Z.h.symm f));have H:e≠z:=λ q=>by subst q;rw[u]at h;cases h;simp at n
   exact fS u (by simp) λ U _ R=>O U _ e (λ c o l S G T q=>R.extBut _ _ l (D _ _ T (j.extBut _ _ S (a.extBut _ _ G (v.extBut _ _ l q))))) %[K,R.extBut _ _ H h|n]
end
section
variable{P:Program}{w:World}{K:PySem.W.Frag}
def Itz(q r:SqKind P w K)(a b:Addr):It:=
 %[λ i H=>∃c d x y,q.Sq H a c/\r.Sq H b d/\c[i]? =some x/\d[i]? =some y,
  λ i H v e=>∃p x y,H p=none/\e=upd H p (.tup [x,y])/\v=.ref p/\(∀c,q.Sq H a c->c[i]? =some x)/\∀d,r.Sq H b d->d[i]? =some y|
  λ i H=>∃c d,q.Sq H a c/\r.Sq H b d/\i=min c.length d.length]
structure Zr(z TI TO i1 i2:Addr):Prop where
 a:TI≠z
 b:TO≠z
 c:TI≠TO
 d:TI≠i1
 e:TI≠i2
 f:TO≠i1
 g:TO≠i2
 h:i1≠z
 i:i2≠z
 j:i1≠i2
def Zr.zd(q r:SqKind P w K){pins:Pins}{σ:St}{z g d e f a b}(Z:Zr z g d e f)(k:X.K=K)(I:%[|3])(l:∀c∈[z,g,d,e,f],iT X pins H c)(m:q.Sq H a xs)(n:r.Sq H b ys):Zd z g d e f [e,a] [f,b]:=by have h:∀c∈[z,g,d,e,f],c≠a:=λ c j=>(q.far k I m (l c j)).symm;have i:∀c∈[z,g,d,e,f],c≠b:=λ c j=>(r.far k I n (l c j)).symm;refine%[Z.a,Z.b,Z.c,Z.d,Z.e,Z.f,Z.g,Z.h,Z.i,?_,?_,?_,?_,?_|?_];{simp[Z.h.symm,h z (by simp)]};{simp[Z.i.symm,i z (by simp)]};{simp[Z.f,h d (by simp)]};{simp[Z.g,i d (by simp)]};{simp[Z.j,i e (by simp)]};{simp[Z.j.symm,h f (by simp)]}
theorem WW(q r:SqKind P w K)(a b z L N m n:Addr)(Z:Zr z L N m n):Turn P w K (.Tuple ab k al) (Itz q r a b) [z,L,N,m,n] z
 (λ i h=>IsZip h z L N .none/\IsPair h L (.ref m) (.ref n)/\(∃va vb,IsPair h N va vb)/\q.It h m a i/\r.It h n b i) where
 mem:=by simp
 obj:=λ i h st c M=>by obtain⟨C,f,⟨va,vb,g⟩,A,B⟩:=st;obtain⟨o,vs,h1,U⟩:=q.itObj A;obtain⟨o',an,O,af⟩:=r.itObj B;simp only[cK,iN,nL]at M;rcases M with rfl | rfl | rfl | rfl | rfl;{exact%[_,C|λ v z=>nomatch z]};{exact%[_,f|λ v z=>nomatch z]};{exact%[_,g|λ v z=>nomatch z]};{exact%[o,h1|λ v z=>by rw[U]at z;cases z]};{exact%[o',O|λ v z=>by rw[af]at z;cases z]}
 keep:=λ i h h' st k=>by obtain⟨C,f,⟨va,vb,g⟩,A,B⟩:=st;exact%[k z (by simp) _ C,k L (by simp) _ f,%[va,vb|k N (by simp) _ g],q.itAt A λ o e=>k m (by simp) o e|r.itAt B λ o e=>k n (by simp) o e]
 item:=by
  intro X G J D M i t s σ H E I V st hg;obtain⟨xs,ys,x,y,W,Y,hx,hy⟩:=hg;obtain⟨j,rv,ob⟩:=q.get G J D I W;obtain⟨d,R,p⟩:=r.get G J D I Y;obtain⟨u,hu,ru⟩:=rv.get hx;obtain⟨u2,ae,am⟩:=R.get hy;obtain⟨C,f,⟨va,vb,g⟩,A,B⟩:=st;have ux:∀S,q.Sq H a S->S[i]? =some x:=λ S h=>by rw[q.inj G J D I h W];exact hx
  have uy:∀S,r.Sq H b S->S[i]? =some y:=λ S h=>by rw[r.inj G J D I h Y];exact hy
  have Z2:=Z.zd q r D I V W Y;have l1:i<j.toArray.size:=by simpa using(z0.mp hu).1
  have l2:i<d.toArray.size:=by simpa using(z0.mp ae).1
  subst G J;have hT:s.TypeIs (.ref z) "zip":=%[_,C|rfl];unfold pyNext;refine b0 (kB (wpAny_callSpecial?_slot (name:=%[|85]) hT oz (dQ oz hT F.entry_zip_next ?_ (F.args_zip_next_1 _))));refine abL (q.draws X.A.in1 (I.ok.hd M) m a (q.ne A ob) j.toArray) (r.draws X.A.in1 (I.ok.hd M) n b (r.ne B p) d.toArray) Z2 C f g %[A|ob] %[B|p] l1 l2 λ x' y' h' tk px py aj ad t1 t2 ah kp=>b9 ?_;have ex:x'=u:=by
   have e1:j.toArray[i]? =some u:=by simpa using hu
   rw[e1]at px;exact(cq px).symm
  have ey:y'=u2:=by
   have e1:d.toArray[i]? =some u2:=by simpa using ae
   rw[e1]at py;exact(cq py).symm
  subst ex;subst ey;refine%[_,rfl|wpAny_letOwnedTupleGo_zip aj λ U ak sb=>?_];have I1:Inv X t σ H {s with heap:=U,toks:=tk}:=uv (ch:=[z,L,N,m,n]) I V λ c o l Q=>(sb.2 c (λ z=>l (by simp[z]))).trans (kp c o (λ z=>l (by simp[z])) (λ z=>l (by simp[z])) (λ z=>l (by simp[z])) (λ z=>l (by simp[z])) Q);have hp:H s.heap.objs.size=none:=I.hok.fresh (y9 _);have aa:z<s.heap.objs.size:=ca C;have ag:U.get? s.heap.objs.size=some {cls:=%[|9],data:=.seq #[x',y']}:=(sb.2 _ (ft aa)).trans ah;have I2:Inv X t σ (upd H s.heap.objs.size (.tup [x,y])) {s with heap:=U,toks:=tk}:=wz I I1 (y9 _) %[by show 2<=sizeLine;decide,[x',y'],.cons ru (.cons am .nil),_,ag,rfl,_|rfl];have ac:IsPair U L (.ref m) (.ref n):=(sb.2 _ Z.a).trans (kp _ _ Z.a Z.c Z.d Z.e f);refine%[%[|8],_,I2,rfl,%[_,x,y,hp,rfl,rfl,ux|uy],%[ak,ac,%[_,_|(sb.2 _ Z.b).trans ad],q.itAt t1.1 λ o Q=>(sb.2 m Z.h).trans Q|r.itAt t2.1 λ o Q=>(sb.2 n Z.i).trans Q]|λ c l=>?_];rw[aA (cr ?_)];{exact(V c l).1};{obtain⟨o,vs,h1,_⟩:=q.itObj A;obtain⟨o',an,O,_⟩:=r.itObj B;simp only[cK,iN,nL]at l;rcases l with rfl | rfl | rfl | rfl | rfl;{exact aa};{exact ca f};{exact ca g};{exact ca h1};{exact ca O}}
 done:=by
  intro X G J D M i t s σ H E I V st hg;obtain⟨xs,ys,W,Y,hn⟩:=hg;obtain⟨j,rv,ob⟩:=q.get G J D I W;obtain⟨d,R,p⟩:=r.get G J D I Y;obtain⟨C,f,⟨va,vb,g⟩,A,B⟩:=st;have Z2:=Z.zd q r D I V W Y;subst G J;have hT:s.TypeIs (.ref z) "zip":=%[_,C|rfl];have hk:i=j.toArray.size\/(i<j.toArray.size/\i=d.toArray.size):=by have e1:=rv.length;have e2:=R.length;simp only[x5];omega
  unfold pyNext;refine b0 (kB (wpAny_callSpecial?_slot (name:=%[|85]) hT oz (dQ oz hT F.entry_zip_next ?_ (F.args_zip_next_1 _))));refine Wa (q.draws X.A.in1 (I.ok.hd M) m a (q.ne A ob) j.toArray) (r.draws X.A.in1 (I.ok.hd M) n b (r.ne B p) d.toArray) Z2 C f g %[A|ob] %[B|p] hk λ h' tk e kp ai=>?_;obtain⟨o,he,ce⟩:=ai;refine b0 (gz (T:="StopIteration") (b:=true) %[o,he|ce] isSubtype_stop (b9 %[rfl|?_]));exact uv (ch:=[z,L,N,m,n]) I V λ c o l Q=>kp c o (λ z=>l (by simp[z])) (λ z=>l (by simp[z])) (λ z=>l (by simp[z])) (λ z=>l (by simp[z])) Q
 self:=λ _ _ _ _ _ st h=>wpAny_pyIter_zip st.1 h
def yD(q r:SqKind P w K)(h:∀O' H',Conv O O' H H'->∃xs ys,q.Sq H' a xs/\Reps K O' H' xs ds/\r.Sq H' b ys/\Reps K O' H' ys es):kJ K (Itz q r a b) O H (List.zipWith (λ x y=>.tup [x,y]) ds es):=by
 intro O' H' B I i;obtain⟨xs,ys,l,u,m,v⟩:=h O' H' B;refine%[λ d c=>?_|λ C=>%[xs,ys,l,m|by rw[C,u.length,v.length,List.length_zipWith]]];rw[nV]at c
 cases g:ds[i]? with
 | none=>rw[g]at c;cases c
 | some M=>
   cases k:es[i]? with
   | none=>rw[g,k]at c;cases c
   | some N=>rw[g,k]at c;cases c;obtain⟨J,e,n⟩:=u.get g;obtain⟨L,f,o⟩:=v.get k;refine%[%[xs,ys,J,L,l,m,e|f]|λ x A y=>?_];obtain⟨p,Q,R,j,rfl,rfl,E,F⟩:=y;have s:=E xs l;have t:=F ys m;rw[e]at s;rw[f]at t;cases s;cases t;have G:¬O'.has p:=λ z=>I p z j;exact%[fB.fresh j _|.tup %[G|aR] (.cons (n.mono (Step.fresh j _)) (.cons (o.mono (Step.fresh j _)) .nil))]
abbrev zh(h:Heap)(c1 c2:String)(l1 l2:Addr):Heap:=
 ((((h.push {cls:=.type c1,data:=.fields #[.ref l1,.int 0 0]}).push {cls:=.type c2,data:=.fields #[.ref l2,.int 0 0]}).push {cls:=%[|9],data:=.seq #[.ref h.objs.size,.ref (h.push {cls:=.type c1,data:=.fields #[.ref l1,.int 0 0]}).objs.size]}).push {cls:=%[|9],data:=.seq #[.none,.none]})
abbrev zhz(h:Heap)(c1 c2:String)(l1 l2:Addr):Heap:=
 (zh h c1 c2 l1 l2).push {cls:=.type "zip",data:=.fields #[.none,.bool false,.bool false,.ref ((h.push {cls:=.type c1,data:=.fields #[.ref l1,.int 0 0]}).push {cls:=.type c2,data:=.fields #[.ref l2,.int 0 0]}).objs.size,
  .ref (((h.push {cls:=.type c1,data:=.fields #[.ref l1,.int 0 0]}).push {cls:=.type c2,data:=.fields #[.ref l2,.int 0 0]}).push {cls:=%[|9],data:=.seq #[.ref h.objs.size,.ref (h.push {cls:=.type c1,data:=.fields #[.ref l1,.int 0 0]}).objs.size]}).objs.size]}
def UL(a b:Addr)(xs ys:ag1):
 Meets (Builtin.«zip.__new__» %[[.type "zip",.ref a,.ref b]|[]]) (λ _ R s=>s.heap.IsTuple a xs/\s.heap.IsTuple b ys/\
  R (.ok (.ret (.ref (zh s.heap "tuple_iterator" "tuple_iterator" a b).objs.size))) {s with heap:=zhz s.heap "tuple_iterator" "tuple_iterator" a b}):=
 .of_wp λ i w A R s h=>by obtain⟨c,g,d,j,f⟩:=s;obtain⟨k,l,h⟩:=h;have e:=sub_zip;have m:Heap.IsTuple (Shared.heap %[c,g,d,j|f]) a xs:=k;have n:Heap.IsTuple (Shared.heap %[c.push %[|96],g,d,j|f]) b ys:=Heap.IsTuple.push l _;wp_walk using wpAny_pyIter_tuple m,wpAny_pyIter_tuple n;exact%[_,rfl|h]
end
section
variable{X:Cx}{Γ:Gam}{S:Store}{pos:Pos}
def zip_parts(h:Heap)(a d:String)(c f:Addr):(zh h a d c f).objs.size=h.objs.size+4/\IsZip (zhz h a d c f) (h.objs.size+4) (h.objs.size+2) (h.objs.size+3) .none/\IsPair (zhz h a d c f) (h.objs.size+2) (.ref h.objs.size) (.ref (h.objs.size+1))/\IsPair (zhz h a d c f) (h.objs.size+3) .none .none/\
 (zhz h a d c f).get? h.objs.size=some %[|86]/\(zhz h a d c f).get? (h.objs.size+1)=some %[|101]/\∀b o,%[|43]->(zhz h a d c f).get? b=some o:=by
 have j:(h.push %[|86]).objs.size=h.objs.size+1:=gc ..;have g:%[|95].objs.size=h.objs.size+2:=by rw[gc,j]
 have i:(%[|95].push {cls:=%[|9],data:=.seq #[.ref h.objs.size,.ref (h.push %[|86]).objs.size]}).objs.size=h.objs.size+3:=by rw[gc,g]
 have p:(zh h a d c f).objs.size=h.objs.size+4:=by rw[gc,i]
 have n:=cb (zh h a d c f) (o:={cls:=.type "zip",data:=.fields #[.none,.bool false,.bool false,.ref %[|95].objs.size,
  .ref (%[|95].push {cls:=%[|9],data:=.seq #[.ref h.objs.size,.ref (h.push %[|86]).objs.size]}).objs.size]}) rfl;have m:(zhz h a d c f).get? (%[|95].push {cls:=%[|9],data:=.seq #[.ref h.objs.size,.ref (h.push %[|86]).objs.size]}).objs.size=some {cls:=%[|9],data:=.seq #[.none,.none]}:=bX _ (cb _ rfl);have l:(zhz h a d c f).get? %[|95].objs.size=some {cls:=%[|9],data:=.seq #[.ref h.objs.size,.ref (h.push %[|86]).objs.size]}:=bX _ (bX _ (cb _ rfl));have k:(zhz h a d c f).get? (h.push %[|86]).objs.size=some %[|101]:=bX _ (bX _ (bX _ (cb _ rfl)));have q:(zhz h a d c f).get? h.objs.size=some %[|86]:=bX _ (bX _ (bX _ (bX _ (cb _ rfl))));rw[g,i,p]at n;rw[i]at m;rw[j,g]at l;rw[j]at k;refine%[p,?_,l,m,q,k|λ b o e=>bX _ (bX _ (bX _ (bX _ (bX _ e))))];show(zhz h a d c f).get? _=_;unfold zhz;rw[g,i];exact n
def Ui{pins:Pins}{σ:St}(q r:SqKind X.prog X.w X.K)(I:%[|3])
 (hi:q.It (zhz s.heap f g a c) s.heap.objs.size a 0)(j:r.It (zhz s.heap f g a c) %[|28] c 0)(o:R (Itz q r a c) H):
 wpAny %[|5] X.A (pyIter (.ref (s.heap.objs.size+4))) (PIE X pins σ (.Tuple d k p) R) E {s with heap:=zhz s.heap f g a c}:=by
 obtain⟨_,i,m,n,_,_,l⟩:=zip_parts s.heap f g a c;refine wpAny_pyIter_zip i ?_;refine%[s.heap.objs.size+4,[s.heap.objs.size+4,s.heap.objs.size+2,s.heap.objs.size+3,s.heap.objs.size,%[|28]],_,_,H,rfl,I.kept (t':=s.toks) l,WW q r a c (s.heap.objs.size+4) (s.heap.objs.size+2) (s.heap.objs.size+3) s.heap.objs.size %[|28] ?_,%[i,m,%[_,_|n],hi|j],λ b h=>?_|o];{constructor<;>exact λ z=>by have t:(_:Nat)=_:=z;omega}
 . have e:s.heap.objs.size<=b:=by simp only[cK,iN,nL]at h;rcases h with rfl | rfl | rfl | rfl | rfl;{exact gg _ _};{exact gg _ _};{exact gg _ _};{exact y9 _};{exact gg _ _}
   exact I.fpOk e (I.hok.fresh e)
def Vr{f}{k}{tp p}(h:Ev X Γ S e λ d S1=>Ev X Γ S1 c λ d' S2=>∃ds es,d=.tup ds/\d'=.tup es/\W (List.zipWith (λ x y=>.tup [x,y]) ds es) S2)(P:X.mg "zip"=none)(N:Gl X "zip":=by rfl)
 (hs:starEach [e,c] X.env=(false,eval e X.env)::starEach [c] X.env:=by rfl)(g:starEach [c] X.env=[(false,eval c X.env)]:=by rfl):
 ItW X Γ S (.Tuple f k tp) (.Call (.Name "zip" p) [e,c] [] pos) W:=by
 intro j s σ H O I o st;have M:EvA X Γ S [e,c] λ G S2=>∃ds es,G=[.tup ds,.tup es]/\W (List.zipWith (λ x y=>.tup [x,y]) ds es) S2:=
  fH (h.mono λ d S1 m=>fH (m.mono λ d' S2 ⟨ds,es,a,b,w⟩=>nq %[ds,es,by rw[a,b]|w]) g) hs;refine Call_ (cV I N P boot_zip (eu (thn (M pos j s σ H O I o st) λ us s1 q=>?_) hs (by rw[g];rfl)));obtain⟨vs,H1,n,r1,K,G,S1,⟨ds,es,L,w⟩,E,v,B⟩:=q;subst L;cases B with| cons ra A=>cases A with| cons A rc=>cases rc;obtain⟨u,u2,rfl,ru,C⟩:=vals2 r1;obtain⟨a,xs,rfl,m,Y⟩:=dz ra;obtain⟨b,ys,rfl,J,Z⟩:=dz A;cases ru;cases C;obtain⟨r,rv,V,hz⟩:=n.tuple m.sq;obtain⟨i,aa,z,Q⟩:=n.tuple J.sq;obtain⟨z4,R,p2,p3,T,U,kp⟩:=zip_parts s1.heap "tuple_iterator" "tuple_iterator" a b;refine callType_new F.called_zip %[|1] (F.typeCall_zip_2 _ _) (F.newCall_zip_2 _ _) (λ t=>F.args_object_init_3 t _ _) F.entry_zip_new (UL a b r.toArray i.toArray) %[V,z|?_];show _/\_;rw[z4];refine%[%[_,R|rfl]|Ui (Q4 X.prog X.w X.K) (Q4 X.prog X.w X.K) n %[_,T,rfl|rfl] %[_,U,rfl|rfl] %[K,_,S1,w,E,v|yD _ _ λ O' H' l=>%[xs,ys,(m.conv l).sq,Y.conv l,(J.conv l).sq|Z.conv l]]]
end
section
variable{X:Cx}{Γ:Gam}{S:Store}{e:Expr}
def ad0(h:Ev X Γ S e λ d S1=>∃i,d=.int i/\W (some i) S1):PoD X Γ S (some e) W:=h
def adS(h:W none S):PoD X Γ S none W:=h
def adH(h:Ts X Γ S c W):TsA X Γ S [c] W:=h
end
def aD{a:Type}{xs:List a}{x}(h:xs[i]? =some x):xs.take (i+1)=xs.take i++[x]:=by rw[List.take_add_one,h];rfl
def Gu(d:D)(ds:List D):cutD (d::ds) (some 1) none=ds:=by
 unfold cutD;have a:HT.sIx (d::ds).length 0 (some 1)=1:=by have:=HT.sIx_nat (d::ds).length 0 1;simp only[dS]at this ⊢;have b:((1:Nat):Int)=1:=rfl;rw[b]at this;rw[this];omega
 rw[a,HT.sIx_none];simp
def lB{ds:List c}{v:Int}(b:0<=v)(h1:v<ds.length):∃x,atI ds v=some x/\ds[v.toNat]? =some x:=by
 have a:v.toNat<ds.length:=%[|0]
 refine%[ds[v.toNat],?_|y3 a];have q:=bW (xs:=ds) (j:=v.toNat) (y3 a);rwa[oS b]at q
def GK(x:a)(xs:List a):atI (x::xs) 0=some x:=bW (xs:=x::xs) (j:=0) rfl
def set_get{S:Store}(h:S[k]? =some l):(S.set k l')[k]? =some l':=fR (z0.mp h).1
end DL
namespace RF
open PySem PySem.Spec L2 DL
open PyProof.Rows
open Builtin
def vV:fillsNumberSlot %[|9] "mul"=pure false:=
 PySem.fillsNumberSlot_seq (id:="tuple.__mul__") (r:=some (.builtin "tuple.__rmul__")) lP.lookup %[|11] F.slot_tuple_rmul.lookup %[|11]
def Ht:seqRepeat? %[|9]=pure (some (.builtin "tuple.__mul__")):=by unfold seqRepeat?;rw[PySem.seqSlot_of (T:="tuple") (name:="__mul__") (id:="tuple.__mul__") lP.lookup %[|11],PySem.seqSlot_of (T:="tuple") (name:="__rmul__") (id:="tuple.__rmul__") F.slot_tuple_rmul.lookup %[|11]];rfl
def Ce(a:Int)(t:Tok)(l:Addr)(items:ag1)(n:Nat)(b:ag8)(e:ag5):
 Meets (Builtin.«int.__rmul__» %[[.int a t,.ref l]|[]]) (λ _ R s=>s.heap.get? l=some {cls:=%[|9],dict:=b,data:=.seq items n,slots:=e}/\R (.ok (.ret Value.notImplemented)) s):=
 .of_wp λ c w A R s h=>by obtain⟨i,g,d,k,j⟩:=s;obtain⟨f,h⟩:=h;wp_walk;exact%[_,rfl|h]
def zV(l:Addr)(items:ag1)(n:Nat)(a:ag8)(f:ag5)(x:Int)(u:Tok)(h1:¬(decide (x< -(2 ^ 63))||decide (x≥2 ^ 63))=true)(e:(items.isEmpty||x==1)=true):
 Meets (Builtin.«tuple.__mul__» %[[.ref l,.int x u]|[]]) (λ _ R s=>s.heap.get? l=some {cls:=%[|9],dict:=a,data:=.seq items n,slots:=f}/\R (.ok (.ret (.ref l))) s):=
 .of_wp λ c w A R s h=>by
  obtain⟨i,g,d,k,j⟩:=s;obtain⟨b,h⟩:=h;unfold Builtin.«tuple.__mul__»;wp_walk;rw[c8 h1];wp_walk using AutoSeq1.wpAny_loadPart' b;try rw[ci e]
  wp_walk using AutoSeq1.wpAny_loadPart' b;exact%[_,rfl|h]
def Ae(l:Addr)(items:ag1)(n:Nat)(a:ag8)(f:ag5)(x:Int)(u:Tok)(h1:¬(decide (x< -(2 ^ 63))||decide (x≥2 ^ 63))=true)(e:¬(items.isEmpty||x==1)=true)(h2:(decide (x<=0)||items.isEmpty)=true):
 Meets (Builtin.«tuple.__mul__» %[[.ref l,.int x u]|[]]) (λ _ R s=>s.heap.get? l=some {cls:=%[|9],dict:=a,data:=.seq items n,slots:=f}/\R (.ok (.ret %[|8])) {s with heap:=s.heap.push {cls:=%[|9],data:=.seq #[]}}):=
 .of_wp λ c w A R s h=>by
  obtain⟨i,g,d,k,j⟩:=s;obtain⟨b,h⟩:=h;unfold Builtin.«tuple.__mul__»;wp_walk;rw[c8 h1];wp_walk using AutoSeq1.wpAny_loadPart' b;try rw[c8 e]
  wp_walk using AutoSeq1.wpAny_loadPart' b;try rw[ci h2]
  wp_walk using AutoSeq1.wpAny_loadPart' b;exact%[_,rfl|h]
def Bw(l:Addr)(items:ag1)(n:Nat)(b:ag8)(j:ag5)(x:Int)(u:Tok)(h1:¬(decide (x< -(2 ^ 63))||decide (x≥2 ^ 63))=true)(i:¬(items.isEmpty||x==1)=true)(h2:¬(decide (x<=0)||items.isEmpty)=true)
 (e:¬((items.size:Int)*x>(2 ^ 63-1)/8))(f:¬Builtin.Tuple.tupleTooMany ((items.size:Int)*x)=true)(k:((List.replicate x.toNat items).foldl (· ++·) #[]).size<=sizeLine):
 Meets (Builtin.«tuple.__mul__» %[[.ref l,.int x u]|[]]) (λ _ R s=>s.heap.get? l=some {cls:=%[|9],dict:=b,data:=.seq items n,slots:=j}/\R (.ok (.ret %[|8])) {s with heap:=s.heap.push {cls:=%[|9],data:=.seq ((List.replicate x.toNat items).foldl (· ++·) #[])}}):=
 .of_wp λ c w A R s h=>by
  obtain⟨m,g,d,p,o⟩:=s;obtain⟨a,h⟩:=h;unfold Builtin.«tuple.__mul__»;wp_walk;rw[c8 h1];wp_walk using AutoSeq1.wpAny_loadPart' a;try rw[c8 i]
  wp_walk using AutoSeq1.wpAny_loadPart' a;try rw[c8 h2]
  wp_walk using AutoSeq1.wpAny_loadPart' a;try rw[c8 e]
  wp_walk using AutoSeq1.wpAny_loadPart' a;try rw[c8 f]
  wp_walk using AutoSeq1.wpAny_loadPart' a;exact%[_,rfl|h]
theorem Reps.rep{K}(r:Reps K O H a ds):∀k:Nat,Reps K O H (List.replicate k a).flatten (List.replicate k ds).flatten
 | 0=>.nil
 | k+1=>by rw[gl,gl,k9,k9];exact r.append (Reps.rep r k)
def abJ(hk: -(2 ^ 63)<=k/\k<2 ^ 63)(hz:ds.length*k.toNat<=1000000)(w:W (.tup (List.replicate k.toNat ds).flatten) S):gq X .Mult (.tup ds) (.int k) S W:=by
 intro i s Z H O v w' u u' I G L M N P;obtain⟨a,Y,rfl,B,l⟩:=dz L;cases M;cases N;obtain⟨t,rfl⟩:=P;obtain⟨c,J,K,_⟩:=I.tuple B.sq;obtain⟨⟨cls,j,data,o⟩,d,C,n,E⟩:=id K;simp only at C E;subst C E;have r:c.length=ds.length:=by rw[<-J.length,l.length]
 have q:¬(decide (k< -(2 ^ 63))||decide (k≥2 ^ 63))=true:=by rw[cm %[|0],cm %[|0]];decide
 have h:∀m:Nat,m=k.toNat->EP X i Z (QG X.K O H W) %[|8] {s with heap:=s.heap.push {cls:=%[|9],data:=.seq (List.replicate m c).flatten.toArray}}:=by rintro m rfl;refine%[%[|8],upd H s.heap.objs.size (.tup (List.replicate k.toNat Y).flatten),I.laid (t':=s.toks) (λ b u e=>bX _ e) (y9 _) ?_,rfl|nP w G I.fresh (Reps.rep l _)];exact%[by rw[len_rep,l.length,mE];exact small hz,_,J.rep _|%[_,cb _ rfl,rfl,_|rfl]]
 refine oi (T:="tuple") (U:="int") %[|1] %[_,d|rfl] (λ Q=>typeIs_int Q k t) vV F.fills_int_mul oB Ht F.slot_int_index.lookup
  (kN oB (typeIs_int s k t) F.entry_int_rmul (F.args_int_rmul_2 _ _) (Ce k t a c.toArray n j o) %[d,rfl,%[_,d|rfl]|?_]);by_cases f:(c.toArray.isEmpty||k==1)=true
 . refine kN lP %[_,d|rfl] F.entry_tuple_mul (F.args_tuple_mul_2 _ _) (zV a c.toArray n j o k t q f) %[d,.ref a,H,I,rfl|?_];have e:(List.replicate k.toNat ds).flatten=ds:=by
    rw[ky]at f;rcases f with z | z
    . have:c=[]:=by simpa using z
      have:ds=[]:=by rw[this]at r;simpa using r.symm
      subst this;simp
    {have:k=1:=ZU z;subst this;simp}
   rw[e]at w;exact Ac w G (.tup B l)
 . by_cases g:(decide (k<=0)||c.toArray.isEmpty)=true
   . refine kN lP %[_,d|rfl] F.entry_tuple_mul (F.args_tuple_mul_2 _ _) (Ae a c.toArray n j o k t q f g) %[d|?_];have A:k.toNat=0:=by rw[ky]at g;rcases g with z | z;{have:=cE z;omega};{exact absurd (by rw[z];rfl) f}
     have:=h 0 A.symm;exact this
   . have A:0<k:=by
      cases z:decide (k<=0)with
      | true=>exact absurd (by rw[z];rfl) g
      | false=>have:=iP z;omega
     have x:(c.toArray.size:Int)*k=((c.length*k.toNat:Nat):Int):=by rw[x5,Int.natCast_mul,oS %[|0]]
     have y:List.foldl (λ R V=>R++V) #[] (List.replicate k.toNat c.toArray)=(List.replicate k.toNat c).flatten.toArray:=by have:=foldl_rep c k.toNat [];rw[List.nil_append]at this;exact this
     have p:c.length*k.toNat<=1000000:=by rw[r];exact hz
     refine kN lP %[_,d|rfl] F.entry_tuple_mul (F.args_tuple_mul_2 _ _) (Bw a c.toArray n j o k t q f g (by rw[x];omega) ?_ ?_) %[d|?_]
     . rw[x];have:(1000000:Nat)<=sizeLine:=%[|1]
       unfold Builtin.Tuple.tupleTooMany;rw[hV];omega
     {rw[y,x5,len_rep,mE];exact small p};{rw[y];exact h _ rfl}
variable{W:WD}
set_option genInjectivity false in
structure Wd where
 P:Program
 w:World
 K:PySem.W.Frag
 mg:Str->Option Value
 base:Heap
 cd:Option (Value×Str):=none
abbrev Nm:=List (Str×NameKind)
structure At(Ω:Wd)(X:Cx)(r:Nat)(top:Bool)(N:af7)(nm:Nm):Prop where
 p:X.prog=Ω.P
 w:X.w=Ω.w
 k:X.K=Ω.K
 g:X.mg=Ω.mg
 b:X.base=Ω.base
 room:Room r X.A
 xe:X.xe=λ _ _=>False
 calm:%[|32]
 n:X.N=N
 nd:N.Nodup
 kind:X.env.scope.kind=.function
 look:∀x k,nm.lookup x=some k->X.env.kindOf x=some k\/(k=.free/\X.env.kindOf x=%[|12])
 fn:∀x,nm.lookup x=%[|12]->X.fn x=true
 cd:top=true->∀p,Ω.cd=some p->X.env.code=p.1/\X.env.qual=p.2
 fr:top=true->X.stack=X.env::X.outer/\X.env.frame=some X.env.locals/\X.ex=[]
def vis(nm:Nm)(x:Str):Bool:=match nm.lookup x with | some .local=>true | some .cell=>true | some .free=>true | _=>false
def lcl(top:Bool)(nm:Nm)(x:Str):Bool:=match nm.lookup x with | some .local=>true | some .cell=>true | _=>false
def glb(nm:Nm)(x:Str):Bool:=nm.lookup x==some .globalImplicit
def okN(x:Str):Bool:=!(x==("__debug__":Str))&&(!(x==("__classdict__":Str))&& !(x==("__name__":Str)))
def okE:Expr->Bool
 | .Starred .. =>false | .Set .. =>false | .Slice .. =>false | _=>true
def noC:Expr->Bool
 | .ListComp .. =>false | .SetComp .. =>false | .DictComp .. =>false | _=>true
def Vq:Expr->Bool
 | .UnaryOp .. =>false | .BoolOp .. =>false | .IfExp .. =>false | .Compare .. =>false | _=>true
def bz(h:(a&&b)=true):a=true/\b=true:=by cases a<;>cases b<;>first | exact%[rfl|rfl] | exact(y6 h).elim
def onD(x:D)(k:Nat->Prop):Prop:=match x with | .dlo c=>k c | _=>False
@[elab_as_elim] theorem jT{a:D->Prop}(h:onD x k)(g:∀c,k c->a (.dlo c)):a x:=by cases x<;>first | exact g _ h | exact(show False from h).elim
def onL(x:D)(k:Nat->Prop):Prop:=match x with | .loc c=>k c | _=>False
@[elab_as_elim] theorem ZJ{a:D->Prop}(h:onL x k)(g:∀c,k c->a (.loc c)):a x:=by cases x<;>first | exact g _ h | exact(show False from h).elim
def onI(x:D)(k:Int->Prop):Prop:=match x with | .int c=>k c | _=>False
@[elab_as_elim] theorem uD{a:D->Prop}(h:onI x k)(g:∀c,k c->a (.int c)):a x:=by cases x<;>first | exact g _ h | exact(show False from h).elim
def onB(x:D)(k:Bool->Prop):Prop:=match x with | .bl c=>k c | _=>False
@[elab_as_elim] theorem uF{a:D->Prop}(h:onB x k)(g:∀c,k c->a (.bl c)):a x:=by cases x<;>first | exact g _ h | exact(show False from h).elim
def an2{P:Prop}(h:(a&&b)=true)(g:a=true->b=true->P):P:=g (bz h).1 (bz h).2
def an3{P:Prop}(h:(a&&(b&&c))=true)(g:a=true->b=true->c=true->P):P:=an2 (bz h).2 (g (bz h).1)
def an4{P:Prop}(h:(a&&(b&&(c&&d)))=true)(g:a=true->b=true->c=true->d=true->P):P:=an3 (bz h).2 (g (bz h).1)
def an5{P:Prop}(h:(a&&(b&&(c&&(d&&e))))=true)(g:a=true->b=true->c=true->d=true->e=true->P):P:=an4 (bz h).2 (g (bz h).1)
def an6{P:Prop}(h:(a&&(b&&(c&&(d&&(e&&f)))))=true)(g:a=true->b=true->c=true->d=true->e=true->f=true->P):P:=an5 (bz h).2 (g (bz h).1)
def an7{P:Prop}(h:(a&&(b&&(c&&(d&&(e&&(f&&i))))))=true)(g:a=true->b=true->c=true->d=true->e=true->f=true->i=true->P):P:=an6 (bz h).2 (g (bz h).1)
def an8{P:Prop}(h:(a&&(b&&(c&&(d&&(e&&(f&&(i&&j)))))))=true)(g:a=true->b=true->c=true->d=true->e=true->f=true->i=true->j=true->P):P:=an7 (bz h).2 (g (bz h).1)
def an9{P:Prop}(h:(a&&(b&&(c&&(d&&(e&&(f&&(i&&(j&&k))))))))=true)(g:a=true->b=true->c=true->d=true->e=true->f=true->i=true->j=true->k=true->P):P:=an8 (bz h).2 (g (bz h).1)
def nt(h:(!a)=true):a=false:=by cases a<;>first | rfl | exact(y6 h).elim
def jo(h:okN x=true):%[|67]/\(x==("__classdict__":Str))=false/\x≠"__name__":=by refine an3 h λ b c a=>?_;exact%[nt b,nt c|λ e=>by rw[e]at a;simp at a]
section
variable{Ω:Wd}{X:Cx}{r:Nat}{top:Bool}{N:List Str}{nm:Nm}{x:Str}
def At.vis(A:%[|29])(h:RF.vis nm x=true):Vis X.env.scope x:=by
 unfold RF.vis at h
 cases e:nm.lookup x with
 | none=>rw[e]at h;cases h
 | some k=>
   rw[e]at h;have q:=A.look x k e
   cases k with
   | «local»=>rcases q with q | ⟨q,_⟩;exact .inl q;exact nomatch q
   | cell=>rcases q with q | ⟨q,_⟩;exact .inr (.inl q);exact nomatch q
   | free=>rcases q with q | ⟨_,q⟩;exact .inr (.inr q);exact .inr (.inl q)
   | _=>exact(y6 h).elim
def At.lcl(A:%[|29])(h:RF.lcl top nm x=true):Loc X.env.scope x/\%[|88]:=by
 unfold RF.lcl at h
 cases e:nm.lookup x with
 | none=>rw[e]at h;cases h
 | some k=>
   rw[e]at h;have q:=A.look x k e
   cases k with
   | «local»=>rcases q with q | ⟨q,_⟩;exact%[.inl q|.inr q];exact nomatch q
   | cell=>rcases q with q | ⟨q,_⟩;exact%[.inr q|.inl (A.fn x e)];exact nomatch q
   | _=>exact(y6 h).elim
def At.glb(A:%[|29])(h:RF.glb nm x=true):Gl X x:=by have e:nm.lookup x=some .globalImplicit:=ZU h;rcases A.look x _ e with q | ⟨q,_⟩;{exact q};{exact nomatch q}
end
def aX(h:okE e=true)(es:ag0)(env:Env):starEach (e::es) env=(false,eval e env)::starEach es env:=by cases e<;>first | rfl | exact(y6 h).elim
theorem yx:∀{es:ag0}(_:es.all okE=true)(a:Pos)(env:Env),(backTo a (starEach es env)).any (·.1)=false
 | [],_,_,_=>rfl
 | e::es,h,a,env=>by rw[iF]at h;refine an2 h λ b c=>?_;rw[aX b];show(false||(backTo a (starEach es env)).any (·.1))=false;rw[yx c];rfl
def pF(h:okE e=true):behindInMarks op e=false:=by cases e<;>first | rfl | exact(y6 h).elim
def wy(h:okE e=true):Ng e:=by intro _ _;cases e<;>first | rfl | exact(y6 h).elim
def ul(h:okE e=true)(env:Env):∀x,foldedSetIterable e env x=pure x:=by intro x;cases e<;>first | rfl | exact(y6 h).elim
def jZ(h:noC e=true)(t:Option Expr)(l:Nat)(env:Env):swapsWith e t l env=pure false:=by cases e<;>first | rfl | exact(y6 h).elim
def Th(h:Vq e=true)(env:Env):∀whole,isTrue e env whole=(do let v <-whole;standAt e.pos;holding [v] (truthy v)):=by intro w;cases e<;>first | rfl | exact(y6 h).elim
section
variable{X:Cx}{Γ:Gam}{S:Store}{e:Expr}{es:List Expr}
def EvA.mono{W f}(h:EvA X Γ S es W)(k:∀ds S',W ds S'->f ds S'):EvA X Γ S es f:=λ e a s m H O I b l=>
 thn (h e a s m H O I b l) λ _ _ c=>by obtain⟨v,g,i,r,j,d,S',w,q⟩:=c;exact%[v,g,i,r,j,d,S',k d S' w|q]
def Ts.mono{W f}(h:Ts X Γ S e W)(k:∀c S',W c S'->f c S'):Ts X Γ S e f:=λ a s m H O I b l=>
 thn (h a s m H O I b l) λ _ _ d=>by obtain⟨g,i,j,S',w,q⟩:=d;exact%[g,i,j,S',k _ S' w|q]
def BdW.mono{W f}(h:BdW X e d Γ S W)(k:∀G S',W G S'->f G S'):BdW X e d Γ S f:=λ a s n H O v u I b m r l=>
 thn (h a s n H O v u I b m r l) λ _ _ q=>by obtain⟨c,g,i,j,G,S',w,q⟩:=q;exact%[c,g,i,j,G,S',k G S' w|q]
def ItW.mono{W c}(h:ItW X Γ S d e W)(k:∀ds S',W ds S'->c ds S'):ItW X Γ S d e c:=λ a s u H O I b r=>
 thn (h a s u H O I b r) λ _ _ q=>thn q λ _ _ q=>by obtain⟨p,o,t,J,f,i,j,l,m,n,g,ds,S',w,z⟩:=q;exact%[p,o,t,J,f,i,j,l,m,n,g,ds,S',k ds S' w|z]
def aaJ{pins:Pins}{W g}(h1:∀G S,W.nx G S->g.nx G S)(h2:∀d S,W.rt d S->g.rt d S)(h:∀G S,W.bk G S->g.bk G S)(i:∀G S,W.ct G S->g.ct G S)(q:SP X pins (ends X.K O H W) f s'):SP X pins (ends X.K O H g) f s':=by
 cases f with
 | next=>obtain⟨e,a,I,b,G,c,w,q⟩:=q;exact%[e,a,I,b,G,c,h1 _ _ w|q]
 | brk=>obtain⟨e,a,I,b,G,c,w,q⟩:=q;exact%[e,a,I,b,G,c,h _ _ w|q]
 | cont=>obtain⟨e,a,I,b,G,c,w,q⟩:=q;exact%[e,a,I,b,G,c,i _ _ w|q]
 | ret u=>obtain⟨v,e,a,I,r,b,d,c,w,q⟩:=q;exact%[v,e,a,I,r,b,d,c,h2 _ _ w|q]
def Rn.mono{st}{W a}(h:Rn X Γ S st W)(h1:∀G S,W.nx G S->a.nx G S)(h2:∀d S,W.rt d S->a.rt d S)(e:∀G S,W.bk G S->a.bk G S)(f:∀G S,W.ct G S->a.ct G S):Rn X Γ S st a:=λ b s i H O I c g=>
 thn (h b s i H O I c g) λ _ _ q=>aaJ h1 h2 e f q
def Ub{W}(h:Ev X Γ S a λ x S1=>Ev X Γ S1 b λ y S2=>cU X op x y S2 (asB λ k S3=>(k=false->W false S3)/\(k=true->Ev X Γ S3 c λ t S4=>cU X m y t S4 (asB W))))
 (hm:lastMarks [op,m] [b,c]=false):Ts X Γ S (.Compare a [op,m] [b,c] J) W:=by
 intro e s B H O I l st;refine isTrue_chain (rs:=[]) (thn (h e s B H O I l st) λ u s1 d=>?_) hm;obtain⟨v,R,Y,r1,O1,x,S1,hb,f,D,o⟩:=d;refine test_link (thn (hb e s1 B R O1 Y (l.mono f) D) λ Q s2 d=>?_);obtain⟨w,T,Z,P,O2,y,S2,hw,g,E,j⟩:=d;refine thn (hw e s2 B T O2 v w u Q Z E (o.mono g) j r1 P) λ _ s3 d=>?_;obtain⟨z,L,M,r3,N,d3,S3,⟨k,C,k1,k2⟩,i,n,p⟩:=d;subst C;cases p;cases r3;refine hE ?_
 cases k with
 | false=>exact ite_ff %[L,M,N,S3,k1 rfl,(f.trans g).trans i|n]
 | true=>refine ite_tt (test_last (thn (k2 rfl e s3 B L N M (((l.mono f).mono g).mono i) n) λ u4 s4 d=>?_));obtain⟨w4,U,I4,r4,O4,t,S4,h4,A,F,q⟩:=d;refine thn (h4 e s4 B U O4 w w4 Q u4 I4 F ((j.mono i).mono A) q P r4) λ _ s5 d=>?_;obtain⟨z5,V,I5,r5,O5,d5,S5,⟨k,C,w5⟩,K,G,r⟩:=d;subst C;cases r;cases r5;exact hE %[V,I5,O5,S5,w5,(((f.trans g).trans i).trans A).trans K|G]
end
def bII(x y:D)(k:Int->Int->Prop):Prop:=match x with
 | .int i=>(match y with
   | .int j=>k i j
   | _=>False)
 | _=>False
def gP(h:bII x y k):∃i j,x=.int i/\y=.int j/\k i j:=by cases x<;>first | exact h.elim | (cases y<;>first | exact h.elim | exact%[_,_,rfl,rfl|h])
def bTu(x:D)(k:List D->Prop):Prop:=match x with
 | .tup a=>k a
 | _=>False
def By(h:bTu x k):∃a,x=.tup a/\k a:=by cases x<;>first | exact h.elim | exact%[_,rfl|h]
def bLs(x:D)(k:List D->Prop):Prop:=match x with
 | .lst a=>k a
 | _=>False
def Og(h:bLs x k):∃a,x=.lst a/\k a:=by cases x<;>first | exact h.elim | exact%[_,rfl|h]
def bIn(x:D)(k:Int->Prop):Prop:=match x with
 | .int a=>k a
 | _=>False
def aah(h:bIn x k):∃a,x=.int a/\k a:=by cases x<;>first | exact h.elim | exact%[_,rfl|h]
def Ww(x:D)(a b c:Prop):Prop:=match x with
 | .int _=>a
 | .tup _=>b
 | _=>c
def Hn(h:Ww x a b c):a\/b\/c:=by cases x<;>first | exact .inl h | exact .inr (.inl h) | exact .inr (.inr h)
def Yl(op:Operator)(x y:D)(S:Store)(W:WD):Prop:=match op with
 | .Add=>Ww x (bII x y λ i j=>W (.int (i+j)) S) (bTu x λ a=>bTu y λ b=>a.length+b.length<=1000000/\W (.tup (a++b)) S) (bLs x λ a=>bLs y λ b=>a.length+b.length<=1000000/\W (.lst (a++b)) S)
 | .Sub=>bII x y λ i j=>W (.int (i-j)) S
 | .Mult=>Ww x (bII x y λ i j=>CMul i j/\W (.int (i*j)) S) (bTu x λ a=>bIn y λ n=>(-(2 ^ 63)<=n/\n<2 ^ 63)/\a.length*n.toNat<=1000000/\W (.tup (List.replicate n.toNat a).flatten) S) False
 | .Mod=>bII x y λ i j=>0<j/\W (.int (i % j)) S
 | .FloorDiv=>bII x y λ i j=>(0<j/\j<1073741824)/\W (.int (i/j)) S
 | .Pow=>bII x y λ i j=>CPow i j/\W (.int (i ^ j.toNat)) S
 | _=>False
def Wv(h:Yl op x y S W):gq X op x y S W:=by
 cases op<;>first | exact(show False from h).elim | skip
 {rcases Hn h with h | h | h;{obtain⟨i,j,rfl,rfl,h⟩:=gP h;exact acE h};{obtain⟨a,rfl,c⟩:=By h;obtain⟨b,rfl,h2⟩:=By c;exact aaH h2.1 h2.2};{obtain⟨a,rfl,c⟩:=Og h;obtain⟨b,rfl,h2⟩:=Og c;exact ab1 h2.1 h2.2}};{obtain⟨i,j,rfl,rfl,h⟩:=gP h;exact adB h};{rcases Hn h with h | h | h;{obtain⟨i,j,rfl,rfl,h⟩:=gP h;exact acR h.1 h.2};{obtain⟨a,rfl,c⟩:=By h;obtain⟨b,rfl,h2⟩:=aah c;exact abJ h2.1 h2.2.1 h2.2.2};{exact h.elim}};all_goals obtain⟨i,j,rfl,rfl,h⟩:=gP h
 all_goals first | exact acG h.1 h.2 | exact abg h.1 h.2 | exact ac1 h.1 h.2
def Vt(x y:D)(S:Store)(W:WD):Prop:=match x,y with
 | .tup a,.int i=>∃d,atI a i=some d/\W d S
 | .lst a,.int i=>∃d,atI a i=some d/\W d S
 | .loc k,.int i=>∃a d,S[k]? =some a/\atI a i=some d/\W d S
 | _,_=>False
def aal(h:Vt x y S W):IxW X a b x y S W:=by unfold Vt at h;split at h;{obtain⟨d,c,e⟩:=h;exact adp c e};{obtain⟨d,c,e⟩:=h;exact ac3 c e};{obtain⟨g,d,c,e,f⟩:=h;exact acQ c e f};{exact h.elim}
def Wg(x:D)(l h:ag3)(S:Store)(W:WD):Prop:=match x with
 | .tup a=>W (.tup (cutD a l h)) S
 | .lst a=>W (.lst (cutD a l h)) S
 | .loc k=>∃a,S[k]? =some a/\W (.lst (cutD a l h)) S
 | _=>False
def adn{lo hi}(d:S[k]? =some ds)(w:W (.lst (cutD ds lo hi)) S):SlW X (.loc k) lo hi S W:=by intro a s t H O v u o q n I b l m f h i;obtain⟨p,rfl,c⟩:=eU l;obtain⟨r,g,j⟩:=b.obj k p ds c d;exact Nu a s t H _ u o q lo hi n _ I m f h i %[p,r,rfl,SqL.of g|λ x e=>j8 w b e (zR j lo hi)]
def YZ(h:Wg x l r S W):SlW X x l r S W:=by unfold Wg at h;split at h;{exact adC h};{exact ac6 h};{obtain⟨c,a,b⟩:=h;exact adn a b};{exact h.elim}
inductive Ty where
 | int | bool | tuple | list | str
 deriving DecidableEq
def Ty.id:Ty->String
 | .int=>"int" | .bool=>"bool" | .tuple=>"tuple" | .list=>"list" | .str=>"str"
def Ty.nm:Ty->Str
 | .int=>"int" | .bool=>"bool" | .tuple=>"tuple" | .list=>"list" | .str=>"str"
def isD:Ty->D->Bool
 | .int,.int _=>true | .int,.bl _=>true | .bool,.bl _=>true | .tuple,.tup _=>true | .list,.lst _=>true | .list,.loc _=>true | .str,.str _=>true | _,_=>false
def abN(T:Ty)(x:D):isi (tyD x) T.id=isD T x:=by cases T<;>cases x<;>rfl
def Ty.isT(T:Ty):DL.isT T.id=true:=by cases T<;>rfl
def Ty.boot(T:Ty):bootBuiltins T.nm=some (.type T.id):=by cases T<;>decide+kernel
def Ty.ok(T:Ty):(T.nm==("__debug__":Str))=false/\T.nm≠"__name__":=by cases T<;>decide+kernel
end RF
set_option maxHeartbeats 1000000
namespace RF
open PySem PySem.Spec L2 DL
open PyProof.Rows
variable{e:Expr}
def nameP(e:Expr):Option {x:Str×Pos // e=.Name x.1 x.2}:=match e with
 | .Name x p=>some %[(x,p)|rfl]
 | _=>none
def nameV(e:Expr):Option Str:=(nameP e).map (·.1.1)
def jY(h:nameV e=some x):∃p,e=.Name x p:=by obtain⟨z,_,a⟩:=ix.mp h;exact%[z.1.2|by rw[<-a];exact z.2]
def Yk(e:Expr):Option {x:Expr×List Expr×List Keyword×Pos // e=.Call x.1 x.2.1 x.2.2.1 x.2.2.2}:=match e with
 | .Call f es ks q=>some %[(f,es,ks,q)|rfl]
 | _=>none
def anB{α:Type}(o:Option α)(k:α->Bool):Bool:=match o with
 | some a=>k a
 | none=>false
def bU{k:b->Bool}(h:anB o k=true):∃a,o=some a/\k a=true:=by
 cases o with
 | none=>cases h
 | some a=>exact%[a,rfl|h]
def wQ{α:Type}(l:List α)(b:Bool):Bool:=l.isEmpty&&b
def jU{l:List a}(h:wQ l b=true):l=[]/\b=true:=
 %[List.isEmpty_iff.mp (bz h).1|(bz h).2]
def cX(e:Expr)(k:Str->List Expr->Bool):Bool:=anB (Yk e) λ z=>wQ z.1.2.2.1 (anB (nameV z.1.1) λ f=>k f z.1.2.1)
def VD(h:cX e k=true):∃f p es pos,e=.Call (.Name f p) es [] pos/\k f es=true:=by obtain⟨z,_,a⟩:=bU h;obtain⟨b,c⟩:=jU a;obtain⟨x,d,g⟩:=bU c;obtain⟨p,i⟩:=jY d;exact%[x,p,z.1.2.1,z.1.2.2.2,z.2.trans (by rw[b,i])|g]
@[elab_as_elim] theorem bB{a:Expr->Prop}(h:cX e k=true)(g:∀f p es pos,k f es=true->a (.Call (.Name f p) es [] pos)):a e:=by obtain⟨b,c,d,i,rfl,h⟩:=VD h;exact g b c d i h
def dX{α:Type}(l:List α)(k:α->Bool):Bool:=match l with
 | [a]=>k a
 | _=>false
def gh{k:b->Bool}(h:dX l k=true):∃a,l=[a]/\k a=true:=by
 cases l with
 | nil=>cases h
 | cons a l=>cases l with
   | nil=>exact%[a,rfl|h]
   | cons=>cases h
@[elab_as_elim] theorem dq{b:List c->Prop}(h:dX l k=true)(g:∀a,k a=true->b [a]):b l:=by obtain⟨d,rfl,h⟩:=gh h;exact g d h
def two2{α:Type}(l:List α)(k:α->α->Bool):Bool:=match l with
 | [a,b]=>k a b
 | _=>false
def two2_of{k:c->c->Bool}(h:two2 l k=true):∃a b,l=[a,b]/\k a b=true:=by
 cases l with
 | nil=>cases h
 | cons a l=>cases l with
   | nil=>cases h
   | cons b l=>cases l with
     | nil=>exact%[a,b,rfl|h]
     | cons=>cases h
@[elab_as_elim] theorem two2_ind{c:List d->Prop}(h:two2 l k=true)(g:∀a b,k a b=true->c [a,b]):c l:=by obtain⟨e,f,rfl,h⟩:=two2_of h;exact g e f h
def Al{α:Type}(l:List α)(k:α->List α->Bool):Bool:=match l with
 | a::l=>k a l
 | []=>false
def aam{k:b->List b->Bool}(h:Al l k=true):∃a m,l=a::m/\k a m=true:=by
 cases l with
 | nil=>cases h
 | cons a l=>exact%[a,l,rfl|h]
@[elab_as_elim] theorem nZ{b:List c->Prop}(h:Al l k=true)(g:∀a m,k a m=true->b (a::m)):b l:=by obtain⟨d,e,rfl,h⟩:=aam h;exact g d e h
def tupP(e:Expr):Option {x:List Expr×Nat×Pos // e=.Tuple x.1 x.2.1 x.2.2}:=match e with
 | .Tuple a b c=>some %[(a,b,c)|rfl]
 | _=>none
def zN(e:Expr):Bool:=(tupP e).isSome
def nR(h:zN e=true):∃es k p,e=.Tuple es k p:=by obtain⟨z,_⟩:=Option.isSome_iff_exists.mp h;exact%[_,_,_|z.2]
def adi(e:Expr):Option {x:Expr×Str×Pos // e=.Attribute x.1 x.2.1 x.2.2}:=match e with
 | .Attribute x m p=>some %[(x,m,p)|rfl]
 | _=>none
def Xj(st:Stmt):Option {x:List Expr×Expr×Pos // st=.Assign x.1 x.2.1 x.2.2}:=match st with
 | .Assign a b c=>some %[(a,b,c)|rfl]
 | _=>none
def abe(st:Stmt):Option (List Expr×Expr):=(Xj st).map λ x=>(x.1.1,x.1.2.1)
def Zf{st}(h:abe st=some (a,e)):∃p,st=.Assign a e p:=by obtain⟨z,_,b⟩:=ix.mp h;have c:z.1.1=a:=eC Prod.fst b;have d:z.1.2.1=e:=eC Prod.snd b;exact%[z.1.2.2|by rw[<-c,<-d];exact z.2]
def setB(st:Stmt)(k:Str->Expr->Bool):Bool:=anB (Xj st) λ z=>dX z.1.1 λ t=>anB (nameV t) λ x=>k x z.1.2.1
def aaF{st}(h:setB st k=true):∃x q e p,st=.Assign [.Name x q] e p/\k x e=true:=by obtain⟨z,_,c⟩:=bU h;obtain⟨t,a,d⟩:=gh c;obtain⟨x,f,g⟩:=bU d;obtain⟨q,b⟩:=jY f;exact%[x,q,z.1.2.1,z.1.2.2,z.2.trans (by rw[a,b])|g]
@[elab_as_elim] theorem Iu{a:Stmt->Prop}{st}(h:setB st k=true)(g:∀x q e p,k x e=true->a (.Assign [.Name x q] e p)):a st:=by obtain⟨b,c,d,f,rfl,h⟩:=aaF h;exact g b c d f h
def zA(e:Expr)(k:Expr->Str->Pos->List Expr->Pos->Bool):Bool:=anB (Yk e) λ z=>wQ z.1.2.2.1 (anB (adi z.1.1) λ a=>k a.1.1 a.1.2.1 a.1.2.2 z.1.2.1 z.1.2.2.2)
def Z3(h:zA e k=true):∃x m p es q,e=.Call (.Attribute x m p) es [] q/\k x m p es q=true:=by obtain⟨z,_,b⟩:=bU h;obtain⟨c,d⟩:=jU b;obtain⟨a,_,f⟩:=bU d;exact%[a.1.1,a.1.2.1,a.1.2.2,z.1.2.1,z.1.2.2.2,z.2.trans (by rw[c];exact eC (Expr.Call · _ _ _) a.2)|f]
@[elab_as_elim] theorem oU{a:Expr->Prop}(h:zA e k=true)(g:∀x m p es q,k x m p es q=true->a (.Call (.Attribute x m p) es [] q)):a e:=by obtain⟨b,c,d,f,i,rfl,h⟩:=Z3 h;exact g b c d f i h
def frP(st:Stmt):Option {x:Expr×Expr×List Stmt×List Stmt×Pos // st=.For x.1 x.2.1 x.2.2.1 x.2.2.2.1 x.2.2.2.2}:=match st with
 | .For t it b els p=>some %[(t,it,b,els,p)|rfl]
 | _=>none
def frB(st:Stmt)(k:Expr->Expr->List Stmt->Bool):Bool:=anB (frP st) λ z=>wQ z.1.2.2.2.1 (k z.1.1 z.1.2.1 z.1.2.2.1)
def abw{st}(h:frB st k=true):∃t it b p,st=.For t it b [] p/\k t it b=true:=by obtain⟨z,_,a⟩:=bU h;obtain⟨c,d⟩:=jU a;exact%[z.1.1,z.1.2.1,z.1.2.2.1,z.1.2.2.2.2,z.2.trans (by rw[c])|d]
@[elab_as_elim] theorem uE{a:Stmt->Prop}{st}(h:frB st k=true)(g:∀t it b p,k t it b=true->a (.For t it b [] p)):a st:=by obtain⟨c,d,e,f,rfl,h⟩:=abw h;exact g c d e f h
def sbP(e:Expr):Option {x:Expr×Expr×Pos // e=.Subscript x.1 x.2.1 x.2.2}:=match e with
 | .Subscript x y p=>some %[(x,y,p)|rfl]
 | _=>none
def aef(st:Stmt):Option {x:Expr×Operator×Expr×Pos // st=.AugAssign x.1 x.2.1 x.2.2.1 x.2.2.2}:=match st with
 | .AugAssign t o e p=>some %[(t,o,e,p)|rfl]
 | _=>none
def aaK(st:Stmt):Option (Expr×Operator×Expr):=(aef st).map λ x=>(x.1.1,x.1.2.1,x.1.2.2.1)
def YB{st}(h:aaK st=some (t,o,e)):∃p,st=.AugAssign t o e p:=by obtain⟨z,_,a⟩:=ix.mp h;have b:z.1.1=t:=eC Prod.fst a;have c:z.1.2.1=o:=eC (λ z=>z.2.1) a;have d:z.1.2.2.1=e:=eC (λ z=>z.2.2) a;exact%[z.1.2.2.2|by rw[<-b,<-c,<-d];exact z.2]
def dctP(e:Expr):Option {x:List (Option Expr)×List Expr×Pos // e=.Dict x.1 x.2.1 x.2.2}:=match e with
 | .Dict ks vs p=>some %[(ks,vs,p)|rfl]
 | _=>none
def W7(e:Expr):Option (List (Option Expr)×List Expr):=(dctP e).map λ x=>(x.1.1,x.1.2.1)
def Nf(h:W7 e=some (ks,a)):∃p,e=.Dict ks a p:=by obtain⟨z,_,b⟩:=ix.mp h;have c:z.1.1=ks:=eC Prod.fst b;have d:z.1.2.1=a:=eC Prod.snd b;exact%[z.1.2.2|by rw[<-c,<-d];exact z.2]
def ixB(st:Stmt)(k:Expr->Expr->Expr->Bool):Bool:=anB (Xj st) λ z=>dX z.1.1 λ t=>anB (sbP t) λ q=>k q.1.1 q.1.2.1 z.1.2.1
def abd{st}(h:ixB st k=true):∃x y q e p,st=.Assign [.Subscript x y q] e p/\k x y e=true:=by obtain⟨z,_,g⟩:=bU h;obtain⟨t,a,b⟩:=gh g;obtain⟨q,_,c⟩:=bU b;exact%[q.1.1,q.1.2.1,q.1.2.2,z.1.2.1,z.1.2.2,z.2.trans (by rw[a];exact eC (Stmt.Assign [·] _ _) q.2)|c]
@[elab_as_elim] theorem BX{a:Stmt->Prop}{st}(h:ixB st k=true)(g:∀x y q e p,k x y e=true->a (.Assign [.Subscript x y q] e p)):a st:=by obtain⟨b,c,d,f,i,rfl,h⟩:=abd h;exact g b c d f i h
def cmP(e:Expr):Option {x:Expr×List CmpOp×List Expr×Pos // e=.Compare x.1 x.2.1 x.2.2.1 x.2.2.2}:=match e with
 | .Compare l os rs p=>some %[(l,os,rs,p)|rfl]
 | _=>none
def cm1(e:Expr)(k:Expr->CmpOp->Expr->Bool):Bool:=anB (cmP e) λ z=>dX z.1.2.1 λ o=>dX z.1.2.2.1 λ r=>k z.1.1 o r
def abZ(h:cm1 e k=true):∃l o r p,e=.Compare l [o] [r] p/\k l o r=true:=by obtain⟨z,_,g⟩:=bU h;obtain⟨o,a,c⟩:=gh g;obtain⟨r,b,d⟩:=gh c;exact%[z.1.1,o,r,z.1.2.2.2,z.2.trans (by rw[a,b])|d]
@[elab_as_elim] theorem Nj{a:Expr->Prop}(h:cm1 e k=true)(g:∀l o r p,k l o r=true->a (.Compare l [o] [r] p)):a e:=by obtain⟨b,c,d,f,rfl,h⟩:=abZ h;exact g b c d f h
def cm2(e:Expr)(k:Expr->CmpOp->CmpOp->Expr->Expr->Bool):Bool:=anB (cmP e) λ z=>two2 z.1.2.1 λ o p=>two2 z.1.2.2.1 λ m r=>k z.1.1 o p m r
def abb(h:cm2 e k=true):∃l o p m r q,e=.Compare l [o,p] [m,r] q/\k l o p m r=true:=by obtain⟨z,_,g⟩:=bU h;obtain⟨o,p,a,c⟩:=two2_of g;obtain⟨m,r,b,d⟩:=two2_of c;exact%[z.1.1,o,p,m,r,z.1.2.2.2,z.2.trans (by rw[a,b])|d]
@[elab_as_elim] theorem O9{a:Expr->Prop}(h:cm2 e k=true)(g:∀l o p m r q,k l o p m r=true->a (.Compare l [o,p] [m,r] q)):a e:=by obtain⟨b,c,d,f,i,j,rfl,h⟩:=abb h;exact g b c d f i j h
end RF
set_option maxHeartbeats 4000000
namespace RF
open PySem PySem.Spec L2 DL
open PyProof.Rows
variable{ds:List D}{S:Store}{x y:D}{W:Bool -> Store -> Prop}
mutual
def eqD:D->D->Bool
 | .non,.non=>true
 | .bl a,.bl b=>a==b
 | .int a,.int b=>a==b
 | .bl a,.int b=>(if a then 1 else 0)==b
 | .int a,.bl b=>a==(if b then 1 else 0)
 | .str a,.str b=>a==b
 | .tup a,.tup b=>cT a b
 | .lst a,.lst b=>cT a b
 | .dic,.dic=>true
 | _,_=>false
def cT:List D->List D->Bool
 | [],[]=>true
 | a::as,b::bs=>eqD a b&&cT as bs
 | _,_=>false
end
mutual
def okD:D->Bool
 | .tup ds=>cz ds
 | .lst ds=>cz ds
 | .loc _=>false
 | .dic=>false
 | .dlo _=>false
 | _=>true
def cz:List D->Bool
 | []=>true
 | d::ds=>okD d&&cz ds
end
mutual
inductive Sn(K:af0)(H:Hp):V->D->Prop
 | non:Sn K H .non .non
 | bl(b:Bool):Sn K H (.bl b) (.bl b)
 | int(i:Int):Sn K H (.int i) (.int i)
 | str(x:Str):Sn K H (.str x) (.str x)
 | tup{a:Addr}{xs:List V}{ds:List D}(h:SqT K H a xs)(r:Sns K H xs ds):Sn K H (.ref a) (.tup ds)
 | lst{a:Addr}{xs:List V}{ds:List D}(h:SqL K H a xs)(r:Sns K H xs ds):Sn K H (.ref a) (.lst ds)
inductive Sns(K:af0)(H:Hp):List V->List D->Prop
 | nil:Sns K H [] []
 | cons{v:V}{d:D}{vs:List V}{ds:List D}(r:Sn K H v d)(t:Sns K H vs ds):Sns K H (v::vs) (d::ds)
end
section
variable{K:PySem.W.Frag}{H:Hp}{O:Own}
def Sns.ind{P:List V->List D->Prop}(n:P [] [])(c:∀{v:V}{d:D}{a:List V}{ds:List D},Sn K H v d->Sns K H a ds->P a ds->P (v::a) (d::ds))(h:Sns K H a ds):P a ds:=
 Sns.rec (motive_1:=λ _ _ _=>True) (motive_2:=λ a ds _=>P a ds) trivial (λ _=>trivial) (λ _=>trivial) (λ _=>trivial) (λ _ _ _=>trivial) (λ _ _ _=>trivial) n (λ r t _ b=>c r t b) h
def Sns.length(h:Sns K H a ds):a.length=ds.length:=
 h.ind (P:=λ a ds=>a.length=ds.length) rfl λ _ _ i=>eC Nat.succ i
def Sns.get{i:Nat}(h:Sns K H a ds)(e:%[|25]):∃v,a[i]? =some v/\Sn K H v d:=by
 revert i;refine h.ind (P:=λ a ds=>∀{i:Nat},%[|25]->∃v,a[i]? =some v/\Sn K H v d) (λ e=>by simp at e) λ r t b i e=>?_
 cases i with
 | zero=>exact%[_,rfl|cq e▸r]
 | succ i=>exact b e
def Ju(h:okD d=true)(r:%[|33]):Sn K H v d:=
 Rep.rec (motive_1:=λ v d _=>okD d=true->Sn K H v d) (motive_2:=λ e c _=>cz c=true->Sns K H e c) (λ _=>.non) (λ b _=>.bl b) (λ i _=>.int i) (λ x _=>.str x) (λ a _ i h=>.tup a.sq (i h)) (λ a _ i h=>.lst a.sq (i h)) (λ _ h=>by cases h) (λ _ _ h=>by cases h) (λ _ _ h=>by cases h) (λ _=>.nil) (λ _ _ i j h=>.cons (i (bz h).1) (j (bz h).2)) r h
def YJ(h:cz ds=true)(r:Reps K O H a ds):Sns K H a ds:=
 r.ind (P:=λ a ds=>cz ds=true->Sns K H a ds) (λ _=>.nil) (λ r _ i h=>.cons (Ju (bz h).1 r) (i (bz h).2)) h
end
section
variable{X:Cx}{pins:Pins}{s:Shared}{σ:DL.St}{H:Hp}
mutual
theorem su(I:%[|3]){v:V}{x y:D}(a:Sn X.K H v x)(b:Sn X.K H v y):x=y:=by
 cases a with
 | non=>cases b;rfl
 | bl=>cases b;rfl
 | int=>cases b;rfl
 | str=>cases b;rfl
 | tup h r=>
   cases b with
   | tup h' r'=>have e:=I.tuple_inj h h';subst e;rw[Bu I r r']
   | lst h' r'=>exfalso;obtain⟨its,_,⟨o,h2,h3,_⟩,_⟩:=I.tuple h;obtain⟨its2,_,pl,_⟩:=I.list h';obtain⟨o',h2',h3',_⟩:=pl.isList;rw[h2]at h2';cases h2';rw[h3]at h3';exact absurd h3' %[|1]
 | lst h r=>
   cases b with
   | lst h' r'=>have e:=I.list_inj h h';subst e;rw[Bu I r r']
   | tup h' r'=>exfalso;obtain⟨its,_,⟨o,h2,h3,_⟩,_⟩:=I.tuple h';obtain⟨its2,_,pl,_⟩:=I.list h;obtain⟨o',h2',h3',_⟩:=pl.isList;rw[h2]at h2';cases h2';rw[h3]at h3';exact absurd h3' %[|1]
theorem Bu(I:%[|3]){vs:List V}{xs ys:List D}(a:Sns X.K H vs xs)(b:Sns X.K H vs ys):xs=ys:=by
 cases a with
 | nil=>cases b;rfl
 | cons r t=>cases b with| cons r' t'=>rw[su I r r',Bu I t t']
end
end
def zY(a b:List D):eqD (.tup a) (.tup b)=cT a b:=rfl
def Ou(a b:List D):eqD (.lst a) (.lst b)=cT a b:=rfl
def Av(a b:Int):eqD (.int a) (.int b)=(a==b):=rfl
mutual
theorem oO:∀(x:D),aB x=true->eqD x x=true
 | .non,_=>rfl
 | .bl b,_=>ge b
 | .int i,_=>ge i
 | .str s,_=>ge s
 | .tup ds,h=>sJ ds h
 | .lst ds,h=>sJ ds h
 | .loc _,h=>by cases h
 | .dlo _,h=>by cases h
 | .dic,_=>rfl
theorem sJ:∀(xs:List D),aa xs=true->cT xs xs=true
 | [],_=>rfl
 | d::ds,h=>by obtain⟨h1,h2⟩:=bz (show(aB d&&aa ds)=true from h);show(eqD d d&&cT ds ds)=true;rw[oO d h1,sJ ds h2];rfl
end
abbrev eqJ(ds es:List D)(j:Nat):Bool:=eqD (ds.getD j .non) (es.getD j .non)
def Xn(d e:D)(ds es:List D):(eqJ (d::ds) (e::es)) ∘ Nat.succ=eqJ ds es:=by funext j;simp[eqJ,List.getD]
theorem nY:∀(ds es:List D),((List.range (min ds.length es.length)).all (eqJ ds es)&&ds.length==es.length)=cT ds es
 | [],[]=>by simp[cT]
 | [],e::es=>by simp[cT]
 | d::ds,[]=>by simp[cT]
 | d::ds,e::es=>by
   have f:=nY ds es;have a:min (d::ds).length (e::es).length=min ds.length es.length+1:=by simp only[dS];omega
   rw[a,List.range_succ_eq_map,iF,List.all_map,Xn];have b:((d::ds).length==(e::es).length)=(ds.length==es.length):=by simp
   have c:eqJ (d::ds) (e::es) 0=eqD d e:=by simp[eqJ,List.getD]
   rw[b,c,Bool.and_assoc,f];simp only[cT]
def VV(h:ds.length=es.length):(List.range ds.length).all (eqJ ds es)=cT ds es:=by rw[<-nY ds es,<-h,Nat.min_self,ge,df]
def ZF(h:ds.length≠es.length):cT ds es=false:=by
 rw[<-nY ds es];have:(ds.length==es.length)=false:=by simpa using h
 rw[this,Bool.and_false]
section
variable{X:Cx}
def zK(ih:∀(x y:D),deep x<=n->∀{pins:Pins}{s:af3}{σ:DL.St}{H:Hp}{v w:V}{u O:Value}{A:ah0},%[|3]->Sn X.K H v x->Sn X.K H w y->RelV v u->RelV w O->A.units+n<cLine->SeqAt.EqAt A s u O (eqD x y))
 (x y:D)(U:deep x<=n+1){pins:Pins}{σ:DL.St}(I:%[|3])(r1:Sn X.K H v x)(M:Sn X.K H w y)(N:RelV v u)(f:RelV w O)(hu:A.units+(n+1)<cLine):
 SeqAt.RcAt A s u O (eqD x y)/\SeqAt.RcNeAt A s u O (!eqD x y):=by
 have d:A.units<cLine:=%[|0]
 have B:∀{o r:List D}{R S:List V}{l c:af5},aY o<=n->Sns X.K H R o->Sns X.K H S r->Vals R l->Vals S c->∀j(T:j<l.toArray.size)(m:j<c.toArray.size),SeqAt.EqAt A.in1 s l.toArray[j] c.toArray[j] (eqJ o r j):=by
  intro o r R S l c L C p E q j j1 j2;have F:l.length=o.length:=by rw[<-E.length,C.length]
  have K:c.length=r.length:=by rw[<-q.length,p.length]
  have W:j<o.length:=by simpa[F]using j1
  have P:j<r.length:=by simpa[K]using j2
  obtain⟨z1,G,Y⟩:=C.get (y3 W);obtain⟨z2,J,Z⟩:=p.get (y3 P);obtain⟨u1,c1,d1⟩:=E.get G;obtain⟨u2,c2,d2⟩:=q.get J;have e1:l.toArray[j]=u1:=by have:=(z0.mp c1).2;simpa using this
  have e2:c.toArray[j]=u2:=by have:=(z0.mp c2).2;simpa using this
  rw[e1,e2];have e3:eqJ o r j=eqD o[j] r[j]:=by simp[eqJ,List.getD,W,P]
  rw[e3];have aa:=oW (y3 W);exact ih o[j] r[j] %[|0] I Y Z d1 d2 (by show A.units+1+n<cLine;omega)
 cases r1 with
 | non=>
   cases N
   cases M with
   | non=>cases f;exact%[SeqAt.RcAt.none_none|SeqAt.RcNeAt.none_none]
   | bl b=>cases f;exact%[SeqAt.RcAt.none_bool b|SeqAt.RcNeAt.none_bool b]
   | int i=>obtain⟨h,rfl⟩:=f;exact%[SeqAt.RcAt.none_int i h|SeqAt.RcNeAt.none_int i h]
   | str i=>obtain⟨h,rfl⟩:=f;exact%[SeqAt.RcAt.none_str i h|SeqAt.RcNeAt.none_str i h]
   | tup m p=>cases f;obtain⟨c,q,g,_⟩:=I.tuple m;exact%[SeqAt.RcAt.none_tuple %[|83] d|SeqAt.RcNeAt.none_tuple %[|83] d]
   | lst m p=>cases f;obtain⟨c,q,g,_⟩:=I.list m;exact%[SeqAt.RcAt.none_list g.isList d|SeqAt.RcNeAt.none_list g.isList d]
 | bl a=>
   cases N
   cases M with
   | non=>cases f;exact%[SeqAt.RcAt.bool_none a|SeqAt.RcNeAt.bool_none a]
   | bl b=>cases f;exact%[SeqAt.RcAt.bool_bool a b|SeqAt.RcNeAt.bool_bool a b]
   | int i=>obtain⟨h,rfl⟩:=f;exact%[SeqAt.RcAt.bool_int a i h|SeqAt.RcNeAt.bool_int a i h]
   | str i=>obtain⟨h,rfl⟩:=f;exact%[SeqAt.RcAt.bool_str a i h|SeqAt.RcNeAt.bool_str a i h]
   | tup m p=>cases f;obtain⟨c,q,g,_⟩:=I.tuple m;exact%[SeqAt.RcAt.bool_tuple a %[|83] d|SeqAt.RcNeAt.bool_tuple a %[|83] d]
   | lst m p=>cases f;obtain⟨c,q,g,_⟩:=I.list m;exact%[SeqAt.RcAt.bool_list a g.isList d|SeqAt.RcNeAt.bool_list a g.isList d]
 | int a=>
   obtain⟨t,rfl⟩:=N
   cases M with
   | non=>cases f;exact%[SeqAt.RcAt.int_none a t|SeqAt.RcNeAt.int_none a t]
   | bl b=>cases f;exact%[SeqAt.RcAt.int_bool a t b|SeqAt.RcNeAt.int_bool a t b]
   | int i=>obtain⟨h,rfl⟩:=f;exact%[SeqAt.RcAt.int_int a t i h|SeqAt.RcNeAt.int_int a t i h]
   | str i=>obtain⟨h,rfl⟩:=f;exact%[SeqAt.RcAt.int_str a t i h|SeqAt.RcNeAt.int_str a t i h]
   | tup m p=>cases f;obtain⟨c,q,g,_⟩:=I.tuple m;exact%[SeqAt.RcAt.int_tuple a t %[|83] d|SeqAt.RcNeAt.int_tuple a t %[|83] d]
   | lst m p=>cases f;obtain⟨c,q,g,_⟩:=I.list m;exact%[SeqAt.RcAt.int_list a t g.isList d|SeqAt.RcNeAt.int_list a t g.isList d]
 | str a=>
   obtain⟨t,rfl⟩:=N
   cases M with
   | non=>cases f;exact%[SeqAt.RcAt.str_none a t|SeqAt.RcNeAt.str_none a t]
   | bl b=>cases f;exact%[SeqAt.RcAt.str_bool a t b|SeqAt.RcNeAt.str_bool a t b]
   | int i=>obtain⟨h,rfl⟩:=f;exact%[SeqAt.RcAt.str_int a t i h|SeqAt.RcNeAt.str_int a t i h]
   | str i=>obtain⟨h,rfl⟩:=f;exact%[SeqAt.RcAt.str_str a t i h|SeqAt.RcNeAt.str_str a t i h]
   | tup m p=>cases f;obtain⟨c,q,g,_⟩:=I.tuple m;exact%[SeqAt.RcAt.str_tuple a t %[|83] d|SeqAt.RcNeAt.str_tuple a t %[|83] d]
   | lst m p=>cases f;obtain⟨c,q,g,_⟩:=I.list m;exact%[SeqAt.RcAt.str_list a t g.isList d|SeqAt.RcNeAt.str_list a t g.isList d]
 | @tup a R o T C=>
   cases N;obtain⟨l,E,k,_⟩:=I.tuple T;have k:s.heap.IsTuple a l.toArray:=k
   cases M with
   | non=>cases f;exact%[SeqAt.RcAt.tuple_none k d|SeqAt.RcNeAt.tuple_none k d]
   | bl b=>cases f;exact%[SeqAt.RcAt.tuple_bool b k d|SeqAt.RcNeAt.tuple_bool b k d]
   | int i=>obtain⟨h,rfl⟩:=f;exact%[SeqAt.RcAt.tuple_int i h k d|SeqAt.RcNeAt.tuple_int i h k d]
   | str i=>obtain⟨h,rfl⟩:=f;exact%[SeqAt.RcAt.tuple_str i h k d|SeqAt.RcNeAt.tuple_str i h k d]
   | @tup b S r m p=>
     cases f;obtain⟨c,q,g,_⟩:=I.tuple m;have g:s.heap.IsTuple b c.toArray:=g;have F:l.toArray.size=o.length:=by rw[x5,<-E.length,C.length]
     have K:c.toArray.size=r.length:=by rw[x5,<-q.length,p.length]
     have L:aY o<=n:=by simp[deep]at U;exact U
     have G:=SeqAt.RcAt.tuples (e:=eqJ o r) k g d (B L C p E q);have J:=SeqAt.RcNeAt.tuples (e:=eqJ o r) k g d (B L C p E q);rw[F,K,nY]at G J;rw[zY];exact%[G|J]
   | lst m p=>cases f;obtain⟨c,q,g,_⟩:=I.list m;exact%[SeqAt.RcAt.tuple_list k g.isList d|SeqAt.RcNeAt.tuple_list k g.isList d]
 | @lst a R o T C=>
   cases N;obtain⟨l,E,k,_⟩:=I.list T;have k:=k.isList
   cases M with
   | non=>cases f;exact%[SeqAt.RcAt.list_none k d|SeqAt.RcNeAt.list_none k d]
   | bl b=>cases f;exact%[SeqAt.RcAt.list_bool b k d|SeqAt.RcNeAt.list_bool b k d]
   | int i=>obtain⟨h,rfl⟩:=f;exact%[SeqAt.RcAt.list_int i h k d|SeqAt.RcNeAt.list_int i h k d]
   | str i=>obtain⟨h,rfl⟩:=f;exact%[SeqAt.RcAt.list_str i h k d|SeqAt.RcNeAt.list_str i h k d]
   | tup m p=>cases f;obtain⟨c,q,g,_⟩:=I.tuple m;exact%[SeqAt.RcAt.list_tuple k %[|83] d|SeqAt.RcNeAt.list_tuple k %[|83] d]
   | @lst b S r m p=>
     cases f;obtain⟨c,q,g,_⟩:=I.list m;have g:=g.isList;have F:l.toArray.size=o.length:=by rw[x5,<-E.length,C.length]
     have K:c.toArray.size=r.length:=by rw[x5,<-q.length,p.length]
     have L:aY o<=n:=by simp[deep]at U;exact U
     rw[Ou];by_cases Q:o.length=r.length;{have G:=SeqAt.RcAt.lists (e:=eqJ o r) k g (by rw[F,K,Q]) d (B L C p E q);have J:=SeqAt.RcNeAt.lists (e:=eqJ o r) k g (by rw[F,K,Q]) d (B L C p E q);rw[F,VV Q]at G J;exact%[G|J]}
     . have z:(l.toArray.size !=c.toArray.size)=true:=by rw[F,K];simpa using Q
       rw[ZF Q];exact%[SeqAt.RcAt.lists_lengths k g z d|SeqAt.RcNeAt.lists_lengths k g z d]
def Iw:∀{K:af0}{H:Hp}{v:V}{x:D},Sn K H v x->aB x=true:=by intro K H v x h;refine Sn.rec (motive_1:=λ v x _=>aB x=true) (motive_2:=λ j g _=>aa g=true) ?_ ?_ ?_ ?_ ?_ ?_ ?_ ?_ h;{simp[aB]};{intro b;simp[aB]};{intro b;simp[aB]};{intro b;simp[aB]};{intro a g i h r c;simpa[aB]using c};{intro a g i h r c;simpa[aB]using c};{simp[aa]};{intro v d j i r t e f;simp[aa,e,f]}
def Qx (n:Nat):∀(x y:D),deep x<=n->∀{pins:Pins}{s:af3}{σ:DL.St}{H:Hp}{v w:V}{u E:Value}{A:ah0},%[|3]->Sn X.K H v x->Sn X.K H w y->RelV v u->RelV w E->A.units+n<cLine->SeqAt.EqAt A s u E (eqD x y):=by
 induction n with
 | zero=>
   intro x y C pins s σ H v w u E A I B l m c J
   cases B with
   | non=>
     cases m
     cases l with
     | non=>cases c;exact mn _
     | bl b=>cases c;exact SeqAt.EqAt.none_bool b
     | int i=>obtain⟨g,rfl⟩:=c;exact SeqAt.EqAt.none_int i g
     | str i=>obtain⟨g,rfl⟩:=c;exact SeqAt.EqAt.none_str i g
     | tup f k=>cases c;obtain⟨d,o,h,_⟩:=I.tuple f;exact SeqAt.EqAt.none_tuple (show s.heap.IsTuple _ d.toArray from h) %[|0]
     | lst f k=>cases c;obtain⟨d,o,h,_⟩:=I.list f;exact SeqAt.EqAt.none_list h.isList %[|0]
   | bl a=>
     cases m
     cases l with
     | non=>cases c;exact SeqAt.EqAt.bool_none a
     | bl b=>cases c;exact SeqAt.EqAt.bool_bool a b
     | int i=>obtain⟨g,rfl⟩:=c;exact SeqAt.EqAt.bool_int a i g
     | str i=>obtain⟨g,rfl⟩:=c;exact SeqAt.EqAt.bool_str a i g
     | tup f k=>cases c;obtain⟨d,o,h,_⟩:=I.tuple f;exact SeqAt.EqAt.bool_tuple a (show s.heap.IsTuple _ d.toArray from h) %[|0]
     | lst f k=>cases c;obtain⟨d,o,h,_⟩:=I.list f;exact SeqAt.EqAt.bool_list a h.isList %[|0]
   | int a=>
     obtain⟨t,rfl⟩:=m
     cases l with
     | non=>cases c;exact SeqAt.EqAt.int_none a t
     | bl b=>cases c;exact SeqAt.EqAt.int_bool a t b
     | int i=>obtain⟨g,rfl⟩:=c;exact SeqAt.EqAt.int_int a t i g
     | str i=>obtain⟨g,rfl⟩:=c;exact SeqAt.EqAt.int_str a t i g
     | tup f k=>cases c;obtain⟨d,o,h,_⟩:=I.tuple f;exact SeqAt.EqAt.int_tuple a t (show s.heap.IsTuple _ d.toArray from h) %[|0]
     | lst f k=>cases c;obtain⟨d,o,h,_⟩:=I.list f;exact SeqAt.EqAt.int_list a t h.isList %[|0]
   | str a=>
     obtain⟨t,rfl⟩:=m
     cases l with
     | non=>cases c;exact SeqAt.EqAt.str_none a t
     | bl b=>cases c;exact SeqAt.EqAt.str_bool a t b
     | int i=>obtain⟨g,rfl⟩:=c;exact SeqAt.EqAt.str_int a t i g
     | str i=>obtain⟨g,rfl⟩:=c;exact SeqAt.EqAt.str_str a t i g
     | tup f k=>cases c;obtain⟨d,o,h,_⟩:=I.tuple f;exact SeqAt.EqAt.str_tuple a t (show s.heap.IsTuple _ d.toArray from h) %[|0]
     | lst f k=>cases c;obtain⟨d,o,h,_⟩:=I.list f;exact SeqAt.EqAt.str_list a t h.isList %[|0]
   | tup _ _=>simp[deep]at C
   | lst _ _=>simp[deep]at C
 | succ n K=>
   intro x y C pins s σ H v w u E A I B l m c J;by_cases q:deep x<=n;{exact K x y q I B l m c %[|0]}
   . have both:=zK K x y C I B l m c J
     cases B with
     | non=>simp[deep]at q
     | bl b=>simp[deep]at q
     | int b=>simp[deep]at q
     | str b=>simp[deep]at q
     | @tup a O M p z=>
       cases m;obtain⟨r,N,j,_⟩:=I.tuple p;have j:s.heap.IsTuple a r.toArray:=j
       cases l with
       | non=>cases c;exact SeqAt.EqAt.tuple_none j %[|0]
       | bl b=>cases c;exact SeqAt.EqAt.tuple_bool b j %[|0]
       | int i=>obtain⟨g,rfl⟩:=c;exact SeqAt.EqAt.tuple_int i g j %[|0]
       | str i=>obtain⟨g,rfl⟩:=c;exact SeqAt.EqAt.tuple_str i g j %[|0]
       | @tup b L G f k=>cases c;by_cases e:a=b;{subst e;have F:=su I (.tup p z) (.tup f k);rw[<-F,oO _ (Iw (.tup p z))];exact mn _};{exact SeqAt.EqAt.of_refs e both.1}
       | @lst b L G f k=>cases c;obtain⟨d,o,h,_⟩:=I.list f;exact SeqAt.EqAt.tuple_list j h.isList %[|0]
     | @lst a O M p z=>
       cases m;obtain⟨r,N,j,_⟩:=I.list p;have j:=j.isList
       cases l with
       | non=>cases c;exact SeqAt.EqAt.list_none j %[|0]
       | bl b=>cases c;exact SeqAt.EqAt.list_bool b j %[|0]
       | int i=>obtain⟨g,rfl⟩:=c;exact SeqAt.EqAt.list_int i g j %[|0]
       | str i=>obtain⟨g,rfl⟩:=c;exact SeqAt.EqAt.list_str i g j %[|0]
       | tup f k=>cases c;obtain⟨d,o,h,_⟩:=I.tuple f;exact SeqAt.EqAt.list_tuple j (show s.heap.IsTuple _ d.toArray from h) %[|0]
       | @lst b L G f k=>cases c;by_cases e:a=b;{subst e;have F:=su I (.lst p z) (.lst f k);rw[<-F,oO _ (Iw (.lst p z))];exact mn _};{exact SeqAt.EqAt.of_refs e both.1}
def vw(S:Store):D->D
 | .loc k=>match S[k]? with | some ds=>.lst ds | none=>.loc k
 | d=>d
def Rh(S:Store)(x y:D):Prop:=okD (vw S x)=true/\okD (vw S y)=true/\deep (vw S x)<=50
def jg{K}(st:%[|37])(r:Rep K O H v x)(h:okD (vw S x)=true):Sn K H v (vw S x):=by
 cases r with
 | @loc a k e=>
   simp only[vw]at h ⊢;have f:k<S.length:=by rw[<-st.len];exact(z0.mp e).1
   obtain⟨l,g,q⟩:=st.obj k a S[k] e (y3 f);rw[y3 f]at h ⊢;exact .lst (SqL.of g) (YJ (by simpa[okD]using h) q)
 | non=>exact .non
 | bl b=>exact .bl b
 | int i=>exact .int i
 | str i=>exact .str i
 | tup c d=>exact Ju h (.tup c d)
 | lst c d=>exact Ju h (.lst c d)
 | dic c j=>simp[vw,okD]at h
 | dlo c _=>simp[vw,okD]at h
def adz(k:%[|56])(h:Rh S x y)(w:W (eqD (vw S x) (vw S y)) S):cU X .Eq x y S (asB W):=by intro b s o H O v m u l I a e f g i;obtain⟨c,d,j⟩:=h;have:=(zK (n:=50) (A:=X.A) (Qx 50) (vw S x) (vw S y) %[|0] I (jg a e c) (jg a f d) g i %[|0]).1;exact this _ _ _ _ %[.bl _,H,I,rfl|Ac %[_,rfl|w] a (.bl _)]
def acS(k:%[|56])(h:Rh S x y)(w:W (!eqD (vw S x) (vw S y)) S):cU X .NotEq x y S (asB W):=by intro b s o H O v m u l I a e f g i;obtain⟨c,d,j⟩:=h;have:=(zK (n:=50) (A:=X.A) (Qx 50) (vw S x) (vw S y) %[|0] I (jg a e c) (jg a f d) g i %[|0]).2;exact this _ _ _ _ %[.bl _,H,I,rfl|Ac %[_,rfl|w] a (.bl _)]
theorem nW:∀{xs:List V}{its:af5}{i:Nat}{v:V},Vals xs its->xs[i]? =some v->∃y,its[i]? =some y/\RelV v y
 | _,_,_,_,.nil,e=>by simp at e
 | _,_,0,_,.cons a _,e=>by simp at e;subst e;exact%[_,rfl|a]
 | _,_,i+1,v,.cons _ t,e=>by obtain⟨y,b,c⟩:=nW (i:=i) (v:=v) t (by simpa using e);exact%[y,by simpa using b|c]
def NZ{pins:Pins}{σ:DL.St}(T:%[|56])(I:%[|3])(Q:Sn X.K H v x)(R:Sn X.K H F (.lst ds))(O:RelV v u)(P:RelV F E)(J:aY ds<=50):
 ∃(l:Addr) (its:af5) (e:Value->Bool),E=.ref l/\s.heap.IsList l its.toArray/\(∀y,y∈its.toArray->SeqAt.EqAt X.A.in1 s y u (e y))/\its.toArray.any e=ds.any λ d=>eqD d x:=by
 classical
 cases R with
 | @lst a j _ G g=>
   cases P;obtain⟨its,h,N,U⟩:=I.list G;let e:Value->Bool:=λ y=>decide (∃(b:V) (d:D),RelV b y/\Sn X.K H b d/\eqD d x=true);have A:∀(y:Value)(b:V)(d:D),RelV b y->Sn X.K H b d->e y=eqD d x:=by
    intro y b d c f
    cases k:eqD d x with
    | true=>exact cc %[b,d,c,f|k]
    | false=>refine cm ?_;rintro⟨W,S,r,t,m⟩;have p:=r.inj c;subst p;have:=su I t f;subst this;rw[k]at m;cases m
   refine%[a,its,e,rfl,N.isList,?_|?_]
   . intro y L;have z:y∈its:=by simpa using L
     obtain⟨i,B⟩:=db z;have q:i<j.length:=by rw[h.length];exact(z0.mp B).1
     obtain⟨d,k⟩:∃d,%[|25]:=%[_|y3 (by rw[<-g.length];exact q)];obtain⟨b,w,f⟩:=g.get k;obtain⟨Y,n,c⟩:=nW h w;rw[B]at n;cases n;rw[A y b d c f];exact Qx 50 d x (d6 (oW k) J) I f Q c O (by show X.A.units+1+50<cLine;omega)
   . have C:its.length=ds.length:=by rw[<-h.length,g.length]
     have o:∀(j:List V)(its:af5)(ds:List D),Vals j its->Sns X.K H j ds->its.any e=ds.any λ d=>eqD d x:=by
      intro j its ds h g
      induction h generalizing ds with
      | nil=>cases g;rfl
      | cons c _ M=>cases g with| cons f K=>rw[nB,nB,A _ _ _ c f,M _ K]
     rw[List.any_toArray];exact o j its ds h g
def acL(k:%[|56])(b:vw S y=.lst ds)(h1:okD (vw S x)=true)(h2:cz ds=true)(g:aY ds<=50)(w:W (ds.any λ d=>eqD d (vw S x)) S):cU X .In x y S (asB W):=by intro c s z H O v t u r I a n o p q;have f:=jg a o (by rw[b];simpa[okD]using h2);rw[b]at f;obtain⟨l,m,e,rfl,j,i,h⟩:=NZ k I (jg a n h1) f p q g;refine SeqAt.in_listAt e j i ?_;rw[h];exact%[.bl _,H,I,rfl|Ac %[_,rfl|w] a (.bl _)]
def aa1(k:%[|56])(b:vw S y=.lst ds)(h1:okD (vw S x)=true)(h2:cz ds=true)(g:aY ds<=50)(w:W (!(ds.any λ d=>eqD d (vw S x))) S):cU X .NotIn x y S (asB W):=by intro c s z H O v t u r I a n o p q;have f:=jg a o (by rw[b];simpa[okD]using h2);rw[b]at f;obtain⟨l,m,e,rfl,j,i,h⟩:=NZ k I (jg a n h1) f p q g;refine SeqAt.notIn_listAt e j i ?_;rw[h];exact%[.bl _,H,I,rfl|Ac %[_,rfl|w] a (.bl _)]
end
end RF
namespace RF
open PySem PySem.Spec L2 DL
open PyProof.Rows
variable{X:Cx}
def isN:D->Bool
 | .non=>true
 | _=>false
def aci(w:W (a==b) S):cU X .Is (.bl a) (.bl b) S (asB W):=by
 intro c s l H O v k u j I i d f g h;cases d;cases f;cases g;cases h;refine wpAny_is_plain rfl ?_;have e:(Value.bool a==Value.bool b)=(a==b):=by cases a<;>cases b<;>rfl
 rw[e];exact%[.bl _,H,I,rfl|Ac %[_,rfl|w] i (.bl _)]
def R7(w:W (!(a==b)) S):cU X .IsNot (.bl a) (.bl b) S (asB W):=by
 intro c s l H O v k u j I i d f g h;cases d;cases f;cases g;cases h;refine wpAny_isNot_plain rfl ?_;have e:(Value.bool a==Value.bool b)=(a==b):=by cases a<;>cases b<;>rfl
 rw[e];exact%[.bl _,H,I,rfl|Ac %[_,rfl|w] i (.bl _)]
def bEq(x y:D)(ki:Int->Int->Prop)(kb:Bool->Bool->Prop)(g:Prop):Prop:=match x with
 | .int i=>(match y with
   | .int j=>ki i j
   | _=>g)
 | .bl i=>(match y with
   | .bl j=>kb i j
   | _=>g)
 | _=>g
def NQ(h:bEq x y b a g):(∃i j,x=.int i/\y=.int j/\b i j)\/(∃i j,x=.bl i/\y=.bl j/\a i j)\/g:=by cases x<;>first | exact .inr (.inr h) | (cases y<;>first | exact .inr (.inr h) | exact .inl %[_,_,rfl,rfl|h] | exact .inr (.inl %[_,_,rfl,rfl|h]))
def bIs(x y:D)(n:Prop)(kb:Bool->Bool->Prop):Prop:=match y with
 | .non=>n
 | .bl j=>(match x with
   | .bl i=>kb i j
   | _=>False)
 | _=>False
def Ni(h:bIs x y n a):(y=.non/\n)\/∃i j,x=.bl i/\y=.bl j/\a i j:=by cases y<;>first | exact h.elim | exact .inl %[rfl|h] | (cases x<;>first | exact h.elim | exact .inr %[_,_,rfl,rfl|h])
@[irreducible] noncomputable def bh(op:CmpOp)(x y:D)(S:Store)(W:Bool->%[|7]):Prop:=match op with
  | .Lt=>bII x y λ i j=>W (decide (i<j)) S
  | .LtE=>bII x y λ i j=>W (decide (i<=j)) S
  | .Gt=>bII x y λ i j=>W (decide (j<i)) S
  | .GtE=>bII x y λ i j=>W (decide (j<=i)) S
  | .Eq=>bEq x y (λ i j=>W (decide (i=j)) S) (λ i j=>W (i==j) S) (Rh S x y/\W (eqD (vw S x) (vw S y)) S)
  | .NotEq=>bEq x y (λ i j=>W (!decide (i=j)) S) (λ i j=>W (!(i==j)) S) ((Rh S x y/\W (!eqD (vw S x) (vw S y)) S)\/False)
  | .Is=>bIs x y (W (isN x) S) λ i j=>W (i==j) S
  | .IsNot=>bIs x y (W (!isN x) S) λ i j=>W (!(i==j)) S
  | .In=>∃a,vw S y=.lst a/\okD (vw S x)=true/\cz a=true/\aY a<=50/\W (a.any λ d=>eqD d (vw S x)) S
  | .NotIn=>∃a,vw S y=.lst a/\okD (vw S x)=true/\cz a=true/\aY a<=50/\W (!(a.any λ d=>eqD d (vw S x))) S
def dG(h:∀V:WD,V (.bl b) S->cU X op x y S V)(w:W b S):cU X op x y S (asB W):=h (asB W) %[b,rfl|w]
def iJ(a:%[|56])(h:bh op x y S W):cU X op x y S (asB W):=by
 unfold bh at h
 cases op with
 | Lt=>obtain⟨i,j,rfl,rfl,h⟩:=gP h;exact dG (λ _=>ad5) h
 | LtE=>obtain⟨i,j,rfl,rfl,h⟩:=gP h;exact dG (λ _=>adU) h
 | Gt=>obtain⟨i,j,rfl,rfl,h⟩:=gP h;exact dG (λ _=>adP) h
 | GtE=>obtain⟨i,j,rfl,rfl,h⟩:=gP h;exact dG (λ _=>ad3) h
 | Eq=>rcases NQ h with⟨i,j,rfl,rfl,h⟩ | ⟨i,j,rfl,rfl,h⟩ | h;{exact dG (λ _=>ada) h};{exact dG (λ _=>adG) h};{exact adz a h.1 h.2}
 | NotEq=>rcases NQ h with⟨i,j,rfl,rfl,h⟩ | ⟨i,j,rfl,rfl,h⟩ | h | h;{exact dG (λ _=>ade) h};{exact dG (λ _=>adm) h};{exact acS a h.1 h.2};{exact h.elim}
 | Is=>rcases Ni h with⟨rfl,h⟩ | ⟨i,j,rfl,rfl,h⟩;{exact dG (λ V w=>acX w) h};{exact aci h}
 | IsNot=>rcases Ni h with⟨rfl,h⟩ | ⟨i,j,rfl,rfl,h⟩;{refine dG (λ V w=>aas ?_) h;cases x<;>exact w};{exact R7 h}
 | In=>obtain⟨g,b,c,d,e,f⟩:=h;exact acL a b c d e f
 | NotIn=>obtain⟨g,b,c,d,e,f⟩:=h;exact aa1 a b c d e f
section
variable{i j:Int}{a b:Bool}{x y:D}{S:Store}{W:Bool -> Store -> Prop}
def cLt(w:W (decide (i<j)) S):bh .Lt (.int i) (.int j) S W:=by unfold bh;exact w
def cLe(w:W (decide (i<=j)) S):bh .LtE (.int i) (.int j) S W:=by unfold bh;exact w
def cGt(w:W (decide (j<i)) S):bh .Gt (.int i) (.int j) S W:=by unfold bh;exact w
def cGe(w:W (decide (j<=i)) S):bh .GtE (.int i) (.int j) S W:=by unfold bh;exact w
def cEqI(w:W (decide (i=j)) S):bh .Eq (.int i) (.int j) S W:=by unfold bh;exact w
def cNeI(w:W (!decide (i=j)) S):bh .NotEq (.int i) (.int j) S W:=by unfold bh;exact w
def cIsNot(w:W (!isN x) S):bh .IsNot x .non S W:=by unfold bh;cases x<;>exact w
def cIn(h1:vw S y=.lst ds)(h2:okD (vw S x)=true)(a:cz ds=true)(b:aY ds<=50)(w:W (ds.any λ d=>eqD d (vw S x)) S):bh .In x y S W:=by unfold bh;cases x<;>exact%[ds,h1,h2,a,b|w]
def aad(h1:aB x=true)(a:okD x=true)(h2:deep x<=50)(w:W false S):bh .NotEq x x S W:=by
 have e:W (!eqD x x) S:=by rw[oO x h1];exact w
 unfold bh
 cases x with
 | int i=>simpa[bEq]using w
 | bl i=>simpa[bEq]using w
 | loc k=>cases a
 | _=>exact .inl %[%[a,a|h2]|e]
end
set_option genInjectivity false in
structure Ex(Ω:Wd) where
 lev:Nat
 chk:Bool->List Str->Nm->Expr->Bool
 wp:Gam->Store->WD->Prop
 sound:∀{X:Cx}{r:Nat}{top:Bool}{N:af7}{nm:Nm}{e:Expr}{Γ:Gam}{S:Store}{W:WD},%[|29]->lev<=r->chk top N nm e=true->wp Γ S W->Ev X Γ S e W
set_option genInjectivity false in
structure Te(Ω:Wd) where
 lev:Nat
 chk:Bool->List Str->Nm->Expr->Bool
 wp:Gam->Store->(Bool->%[|7])->Prop
 sound:∀{X:Cx}{r:Nat}{top:Bool}{N:af7}{nm:Nm}{e:Expr}{Γ:Gam}{S:Store}{W:Bool->%[|7]},%[|29]->lev<=r->chk top N nm e=true->wp Γ S W->Ts X Γ S e W
set_option genInjectivity false in
structure Ar(Ω:Wd) where
 lev:Nat
 chk:Bool->List Str->Nm->List Expr->Bool
 wp:Gam->Store->(List D->%[|7])->Prop
 plain:∀{top:Bool}{N:af7}{nm:Nm}{es:ag0},chk top N nm es=true->es.all okE=true
 sound:∀{X:Cx}{r:Nat}{top:Bool}{N:af7}{nm:Nm}{es:ag0}{Γ:Gam}{S:Store}{W:List D->%[|7]},%[|29]->lev<=r->chk top N nm es=true->wp Γ S W->EvA X Γ S es W
set_option genInjectivity false in
structure Bo(Ω:Wd) where
 lev:Nat
 chk:Bool->List Str->Nm->List Expr->Bool
 wpA:Gam->Store->WD->Prop
 wpO:Gam->Store->WD->Prop
 ne:∀{top:Bool}{N:af7}{nm:Nm}{es:ag0},chk top N nm es=true->∃b rest,es=b::rest
 soundA:∀{X:Cx}{r:Nat}{top:Bool}{N:af7}{nm:Nm}{es:ag0}{Γ:Gam}{S:Store}{W:WD}{pos:Pos},%[|29]->lev<=r->chk top N nm es=true->wpA Γ S W->Ev X Γ S (.BoolOp .And es pos) W
 soundO:∀{X:Cx}{r:Nat}{top:Bool}{N:af7}{nm:Nm}{es:ag0}{Γ:Gam}{S:Store}{W:WD}{pos:Pos},%[|29]->lev<=r->chk top N nm es=true->wpO Γ S W->Ev X Γ S (.BoolOp .Or es pos) W
set_option genInjectivity false in
structure Bt(Ω:Wd) where
 lev:Nat
 chk:Bool->List Str->Nm->List Expr->Bool
 wpA:Gam->Store->(Bool->%[|7])->Prop
 wpO:Gam->Store->(Bool->%[|7])->Prop
 ne:∀{top:Bool}{N:af7}{nm:Nm}{es:ag0},chk top N nm es=true->∃b rest,es=b::rest
 soundA:∀{X:Cx}{r:Nat}{top:Bool}{N:af7}{nm:Nm}{es:ag0}{Γ:Gam}{S:Store}{W:Bool->%[|7]}{pos:Pos},%[|29]->lev<=r->chk top N nm es=true->wpA Γ S W->TsW X Γ S (.BoolOp .And es pos) W
 soundO:∀{X:Cx}{r:Nat}{top:Bool}{N:af7}{nm:Nm}{es:ag0}{Γ:Gam}{S:Store}{W:Bool->%[|7]}{pos:Pos},%[|29]->lev<=r->chk top N nm es=true->wpO Γ S W->TsW X Γ S (.BoolOp .Or es pos) W
def At.hu(A:%[|29]):%[|56]:=by have:=A.room.un;omega
def lv2{a b r:Nat}(h:max a b<=r):a<=r/\b<=r:=%[|0]
variable{Ω:Wd}
def eN(i:Nat):Ex Ω where
 lev:=0
 chk _ N h e:=match e with | .Name x _=>(N[i]? ==some x)&&(vis h x&&okN x) | _=>false
 wp f S W:=match f[i]? with | some (some d)=>W d S | _=>False
 sound:=by
  intro X r p N h e f S W A _ g b
  cases e with
  | Name x n=>
    refine an3 g λ c l m=>?_;obtain⟨j,k,_⟩:=jo m;have c:N[i]? =some x:=ZU c
    cases a:f[i]? with
    | none=>rw[a]at b;exact b.elim
    | some o=>
      cases o with
      | none=>rw[a]at b;exact b.elim
      | some d=>rw[a]at b;exact abx i a b (by rw[A.n];exact c) (A.vis l) j k
  | _=>exact fE g
def il(i:Int):Ex Ω where
 lev:=0
 chk _ _ _ e:=match e with | .Constant (.int j) _ _=>j==i | _=>false
 wp _ S W:=W (.int i) S
 sound:=by
  intro X r f N g e h S W A _ a b
  cases e with
  | Constant c k d=>
    cases c with
    | int j=>have e:j=i:=ZU a;subst e;exact acj b
    | _=>exact fE a
  | _=>exact fE a
def Ex.bl(i:Bool):Ex Ω where
 lev:=0
 chk _ _ _ e:=match e with | .Constant (.bool j) _ _=>j==i | _=>false
 wp _ S W:=W (.bl i) S
 sound:=by
  intro X r f N g e h S W A _ a b
  cases e with
  | Constant c k d=>
    cases c with
    | bool j=>have e:j=i:=ZU a;subst e;exact acT b
    | _=>exact fE a
  | _=>exact fE a
def Ex.non:Ex Ω where
 lev:=0
 chk _ _ _ e:=match e with | .Constant .none _ _=>true | _=>false
 wp _ S W:=W .non S
 sound:=by
  intro X r f N g e h S W A _ a b
  cases e with
  | Constant c k d=>
    cases c with
    | none=>exact abf b
    | _=>exact fE a
  | _=>exact fE a
def Ex.str(i:Str):Ex Ω where
 lev:=0
 chk _ _ _ e:=match e with | .Constant (.str j) _ _=>j==i | _=>false
 wp _ S W:=W (.str i) S
 sound:=by
  intro X r f N g e h S W A _ a b
  cases e with
  | Constant c k d=>
    cases c with
    | str j=>have e:j=i:=ZU a;subst e;exact aaU b
    | _=>exact fE a
  | _=>exact fE a
def ae5{x:Str}{i:Int}(h:∃t,Ω.mg x=some (.int i t)):Ex Ω where
 lev:=0
 chk _ _ b e:=match e with | .Name y _=>(y==x)&&(glb b x&&okN x) | _=>false
 wp _ S W:=W (.int i) S
 sound:=by
  intro X r k N b e l S W A _ a g
  cases e with
  | Name y j=>refine an3 a λ c d f=>?_;have e:y=x:=ZU c;subst e;obtain⟨t,h⟩:=h;exact Vo (by rw[A.g];exact h) g (A.glb d) (jo f).1
  | _=>exact fE a
def vy(op:Operator)(a b:Ex Ω):Ex Ω where
 lev:=%[|52]
 chk c N d e:=match e with | .BinOp l o r _=>(o==op)&&(a.chk c N d l&&b.chk c N d r) | _=>false
 wp f S W:=a.wp f S λ x g=>b.wp f g λ y h=>Yl op x y h W
 sound:=by
  intro X r c N d e f S W A n i p;obtain⟨s,t⟩:=lv2 n
  cases e with
  | BinOp l o v u=>refine an3 i λ j k m=>?_;have e:o=op:=ZU j;subst e;exact xU ((a.sound A s k p).mono λ x g q=>(b.sound A t m q).mono λ y h q=>Wv q)
  | _=>exact fE i
def aeB(op:CmpOp)(a b:Ex Ω):Ex Ω where
 lev:=%[|52]
 chk f N h e:=cm1 e λ l o r=>(o==op)&&(okE r&&(a.chk f N h l&&b.chk f N h r))
 wp i S W:=a.wp i S λ x j=>b.wp i j λ y k=>bh op x y k λ c m=>W (.bl c) m
 sound:=by intro X r f N h e i S W A v u z;obtain⟨B,C⟩:=lv2 v;refine Nj u λ l o E D g=>?_;refine an4 g λ p n s t=>?_;have e:o=op:=ZU p;subst e;exact ace ((a.sound A B s z).mono λ x j q=>(b.sound A C t q).mono λ y k q=>(iJ A.hu q).mono λ d m ⟨c,e,w⟩=>by subst e;exact w) (pF n)
def abv(op:CmpOp)(a b:Ex Ω):Te Ω where
 lev:=%[|52]
 chk c N f e:=cm1 e λ l o r=>(o==op)&&(okE r&&(a.chk c N f l&&b.chk c N f r))
 wp g S W:=a.wp g S λ x h=>b.wp g h λ y i=>bh op x y i W
 sound:=by intro X r c N f e g S W A s p t;obtain⟨u,v⟩:=lv2 s;refine Nj p λ l o z w d=>?_;refine an4 d λ k j m n=>?_;have e:o=op:=ZU k;subst e;exact aaT ((a.sound A u m t).mono λ x h q=>(b.sound A v n q).mono λ y i q=>iJ A.hu q) (pF j)
abbrev Yn(a:Ex Ω)(o1:CmpOp)(b:Ex Ω)(o2:CmpOp)(c:Ex Ω)(Γ:Gam)(S:Store)(W:Bool->%[|7]):Prop:=
 a.wp Γ S λ x e=>b.wp Γ e λ y f=>bh o1 x y f λ k d=>(k=false->W false d)/\(k=true->c.wp Γ d λ t g=>bh o2 y t g W)
def Ex.ch2(a:Ex Ω)(o1:CmpOp)(b:Ex Ω)(o2:CmpOp)(c:Ex Ω):Ex Ω where
 lev:=max %[|52] c.lev
 chk f N g e:=cm2 e λ l j n m r=>(j==o1)&&((n==o2)&&(okE r&&(a.chk f N g l&&(b.chk f N g m&&c.chk f N g r))))
 wp p S W:=Yn a o1 b o2 c p S λ k o=>W (.bl k) o
 sound:=by intro X r f N g e p S W A G E H;obtain⟨i,J⟩:=lv2 G;obtain⟨i,I⟩:=lv2 i;refine O9 E λ l j n m O K h=>?_;refine an6 h λ v z u B C D=>?_;have e:j=o1:=ZU v;subst e;have e:n=o2:=ZU z;subst e;refine V1 ((a.sound A i B H).mono λ x o q=>(b.sound A I C q).mono λ y L q=>(iJ A.hu q).mono λ d s ⟨k,e,w⟩=>%[k,e,w.1|λ F=>(c.sound A J D (w.2 F)).mono λ t M q=>(iJ A.hu q).mono λ d s ⟨c,e,w⟩=>by subst e;exact w]) (pF u)
def Te.ch2(a:Ex Ω)(o1:CmpOp)(b:Ex Ω)(o2:CmpOp)(c:Ex Ω):Te Ω where
 lev:=max %[|52] c.lev
 chk f N g e:=cm2 e λ l j n m r=>(j==o1)&&((n==o2)&&(okE r&&(a.chk f N g l&&(b.chk f N g m&&c.chk f N g r))))
 wp o S W:=Yn a o1 b o2 c o S W
 sound:=by intro X r f N g e o S W A E C F;obtain⟨i,H⟩:=lv2 E;obtain⟨i,G⟩:=lv2 i;refine O9 C λ l j n m O I h=>?_;refine an6 h λ s u p v z B=>?_;have e:j=o1:=ZU s;subst e;have e:n=o2:=ZU u;subst e;refine Ub ((a.sound A i v F).mono λ x J q=>(b.sound A G z q).mono λ y K q=>(iJ A.hu q).mono λ d L ⟨k,e,w⟩=>%[k,e,w.1|λ D=>(c.sound A H B (w.2 D)).mono λ t M q=>iJ A.hu q]) (pF p)
def aeq(a:Ex Ω):Te Ω where
 lev:=a.lev
 chk b N g e:=Vq e&&a.chk b N g e
 wp h S W:=a.wp h S λ d f=>onB d λ c=>W c f
 sound:=by intro X r b N g e h S W A l k m;refine an2 k λ i j=>?_;refine aa9 ((a.sound A l j m).mono λ d f q=>?_) (Th i _);exact uF q λ _ q=>%[_,rfl|q]
def aes(t:Te Ω):Te Ω where
 lev:=t.lev
 chk b N f e:=match e with | .UnaryOp .Not a _=>t.chk b N f a | _=>false
 wp g S W:=t.wp g S λ c h=>W (!c) h
 sound:=by
  intro X r b N f e g S W A i d j
  cases e with
  | UnaryOp o a k=>
    cases o with
    | Not=>exact aa8 (t.sound A i d j)
    | _=>exact fE d
  | _=>exact fE d
def aeA(t:Te Ω):Bt Ω where
 lev:=t.lev
 chk b N f c:=match c with | [e]=>t.chk b N f e | _=>false
 wpA d S W:=t.wp d S W
 wpO d S W:=t.wp d S W
 ne:=by
  intro b N f c a;match c,a with
  | [e],_=>exact%[_,_|rfl]
  | [],a=>exact fE a
  | _::_::_,a=>exact fE a
 soundA:=by
  intro X r b N f c d S W i A g a h;match c,a with
  | [e],a=>exact tw_and1 (t.sound A g a h)
  | [],a=>exact fE a
  | _::_::_,a=>exact fE a
 soundO:=by
  intro X r b N f c d S W i A g a h;match c,a with
  | [e],a=>exact tw_or1 (t.sound A g a h)
  | [],a=>exact fE a
  | _::_::_,a=>exact fE a
def aew(t:Te Ω)(r:Bt Ω):Bt Ω where
 lev:=max t.lev r.lev
 chk f N j d:=match d with | e::d=>t.chk f N j e&&r.chk f N j d | _=>false
 wpA h S W:=t.wp h S λ c g=>(c=true->r.wpA h g W)/\(c=false->W false g)
 wpO h S W:=t.wp h S λ c g=>(c=true->W true g)/\(c=false->r.wpO h g W)
 ne:=by
  intro f N j d a;match d,a with
  | _::_,_=>exact%[_,_|rfl]
  | [],a=>exact fE a
 soundA:=by
  intro X v f N j d h S W u A n a o;obtain⟨p,s⟩:=lv2 n;match d,a with
  | e::d,a=>refine an2 a λ l i=>?_;obtain⟨b,k,rfl⟩:=r.ne i;exact tw_and (Ts.mono (t.sound A p l o) λ c g q=>%[λ m=>r.soundA A s i (q.1 m)|q.2])
  | [],a=>exact fE a
 soundO:=by
  intro X v f N j d h S W u A n a o;obtain⟨p,s⟩:=lv2 n;match d,a with
  | e::d,a=>refine an2 a λ l i=>?_;obtain⟨b,k,rfl⟩:=r.ne i;exact tw_or (Ts.mono (t.sound A p l o) λ c g q=>%[q.1|λ m=>r.soundO A s i (q.2 m)])
  | [],a=>exact fE a
def aeM(l:Bt Ω):Te Ω where
 lev:=l.lev
 chk a N d e:=match e with | .BoolOp .And c _=>l.chk a N d c | _=>false
 wp f S W:=l.wpA f S W
 sound:=by
  intro X r a N d e f S W A g b h
  cases e with
  | BoolOp o c i=>
    cases o with
    | And=>exact(l.soundA A g b h).ts
    | _=>exact fE b
  | _=>exact fE b
def aeH(l:Bt Ω):Te Ω where
 lev:=l.lev
 chk a N d e:=match e with | .BoolOp .Or c _=>l.chk a N d c | _=>false
 wp f S W:=l.wpO f S W
 sound:=by
  intro X r a N d e f S W A g b h
  cases e with
  | BoolOp o c i=>
    cases o with
    | Or=>exact(l.soundO A g b h).ts
    | _=>exact fE b
  | _=>exact fE b
def aer(t:Ex Ω):Bo Ω where
 lev:=t.lev
 chk b N f c:=match c with | [e]=>t.chk b N f e | _=>false
 wpA d S W:=t.wp d S W
 wpO d S W:=t.wp d S W
 ne:=by
  intro b N f c a;match c,a with
  | [e],_=>exact%[_,_|rfl]
  | [],a=>exact fE a
  | _::_::_,a=>exact fE a
 soundA:=by
  intro X r b N f c d S W i A g a h;match c,a with
  | [e],a=>exact TY (t.sound A g a h)
  | [],a=>exact fE a
  | _::_::_,a=>exact fE a
 soundO:=by
  intro X r b N f c d S W i A g a h;match c,a with
  | [e],a=>exact TY (t.sound A g a h)
  | [],a=>exact fE a
  | _::_::_,a=>exact fE a
def aen(t:Ex Ω)(r:Bo Ω):Bo Ω where
 lev:=max t.lev r.lev
 chk g N k f:=match f with | e::f=>t.chk g N k e&&r.chk g N k f | _=>false
 wpA i S W:=t.wp i S λ d h=>onB d λ c=>(c=true->r.wpA i h W)/\(c=false->W (.bl false) h)
 wpO i S W:=t.wp i S λ d h=>onB d λ c=>(c=true->W (.bl true) h)/\(c=false->r.wpO i h W)
 ne:=by
  intro g N k f a;match f,a with
  | _::_,_=>exact%[_,_|rfl]
  | [],a=>exact fE a
 soundA:=by
  intro X w g N k f i S W v A o a p;obtain⟨s,u⟩:=lv2 o;match f,a with
  | e::f,a=>refine an2 a λ m j=>?_;obtain⟨b,l,rfl⟩:=r.ne j;refine abG ((t.sound A s m p).mono λ d h q=>?_);exact uF q λ _ q=>%[_,rfl,λ n=>r.soundA A u j (q.1 n)|q.2]
  | [],a=>exact fE a
 soundO:=by
  intro X w g N k f i S W v A o a p;obtain⟨s,u⟩:=lv2 o;match f,a with
  | e::f,a=>refine an2 a λ m j=>?_;obtain⟨b,l,rfl⟩:=r.ne j;refine adK ((t.sound A s m p).mono λ d h q=>?_);exact uF q λ _ q=>%[_,rfl,q.1|λ n=>r.soundO A u j (q.2 n)]
  | [],a=>exact fE a
def aet(l:Bo Ω):Ex Ω where
 lev:=l.lev
 chk a N d e:=match e with | .BoolOp .And c _=>l.chk a N d c | _=>false
 wp f S W:=l.wpA f S W
 sound:=by
  intro X r a N d e f S W A g b h
  cases e with
  | BoolOp o c i=>
    cases o with
    | And=>exact l.soundA A g b h
    | _=>exact fE b
  | _=>exact fE b
def afe(l:Bo Ω):Ex Ω where
 lev:=l.lev
 chk a N d e:=match e with | .BoolOp .Or c _=>l.chk a N d c | _=>false
 wp f S W:=l.wpO f S W
 sound:=by
  intro X r a N d e f S W A g b h
  cases e with
  | BoolOp o c i=>
    cases o with
    | Or=>exact l.soundO A g b h
    | _=>exact fE b
  | _=>exact fE b
def afc(a:Ex Ω):Ex Ω where
 lev:=a.lev
 chk f N i e:=match e with | .UnaryOp .Not b _=>a.chk f N i b | _=>false
 wp j S W:=a.wp j S λ d h=>onB d λ c=>W (.bl (!c)) h
 sound:=by
  intro X r f N i e j S W A k g l
  cases e with
  | UnaryOp o b m=>
    cases o with
    | Not=>refine acr ((a.sound A k g l).mono λ d h q=>?_);exact uF q λ _ q=>%[_,rfl|q]
    | _=>exact fE g
  | _=>exact fE g
def aeE(a:Ex Ω):Ex Ω where
 lev:=a.lev
 chk f N i e:=match e with | .UnaryOp .USub b _=>a.chk f N i b | _=>false
 wp j S W:=a.wp j S λ d h=>onI d λ c=>W (.int (-c)) h
 sound:=by
  intro X r f N i e j S W A k g l
  cases e with
  | UnaryOp o b m=>
    cases o with
    | USub=>refine aaL ((a.sound A k g l).mono λ d h q=>?_);exact uD q λ _ q=>%[_,rfl|q]
    | _=>exact fE g
  | _=>exact fE g
def gk:Ar Ω where
 lev:=0
 chk _ _ _ b:=match b with | []=>true | _=>false
 wp _ S W:=W [] S
 plain:=by
  intro c N e b a;match b,a with
  | [],_=>rfl
  | _::_,a=>exact fE a
 sound:=by
  intro X r c N e b f S W A _ a d;match b,a with
  | [],_=>exact nq d
  | _::_,a=>exact fE a
def eO(a:Ex Ω)(r:Ar Ω):Ar Ω where
 lev:=max a.lev r.lev
 chk f N g c:=match c with | e::c=>okE e&&(a.chk f N g e&&r.chk f N g c) | _=>false
 wp j S W:=a.wp j S λ d k=>r.wp j k λ n m=>W (d::n) m
 plain:=by
  intro f N g c b;match c,b with
  | e::c,b=>refine an3 b λ h l i=>?_;rw[iF,h,r.plain i];rfl
  | [],b=>exact fE b
 sound:=by
  intro X u f N g c j S W A o b p;obtain⟨s,t⟩:=lv2 o;match c,b with
  | e::c,b=>refine an3 b λ h l i=>?_;exact fH ((a.sound A s l p).mono λ d k q=>r.sound A t i q) (aX h _ _)
  | [],b=>exact fE b
def Hc(as:Ar Ω):Ex Ω where
 lev:=as.lev
 chk a N f e:=match e with | .Tuple c _ _=>as.chk a N f c | _=>false
 wp g S W:=as.wp g S λ b h=>b.length<=1000000/\W (.tup b) h
 sound:=by
  intro X r a N f e g S W A i d j
  cases e with
  | Tuple c k l=>exact ab2 (as.sound A i d j)
  | _=>exact fE d
def aep(as:Ar Ω):Ex Ω where
 lev:=as.lev
 chk a N f e:=match e with | .List c _=>as.chk a N f c | _=>false
 wp g S W:=as.wp g S λ b h=>b.length<=1000000/\W (.lst b) h
 sound:=by
  intro X r a N f e g S W A i d j
  cases e with
  | List c k=>exact ab7 (as.sound A i d j)
  | _=>exact fE d
def Ex.own(as:Ar Ω):Ex Ω where
 lev:=as.lev
 chk a N g e:=match e with | .List d _=>as.chk a N g d | _=>false
 wp h S W:=as.wp h S λ c b=>c.length<=1000000/\W (.loc b.length) (b++[c])
 sound:=by
  intro X r a N g e h S W A i f j
  cases e with
  | List d k=>exact Zo (as.sound A i f j)
  | _=>exact fE f
def qi(a b:Ex Ω):Ex Ω where
 lev:=%[|52]
 chk c N d e:=match e with | .Subscript l r _=>okE r&&(a.chk c N d l&&b.chk c N d r) | _=>false
 wp f S W:=a.wp f S λ x g=>b.wp f g λ y h=>Vt x y h W
 sound:=by
  intro X r c N d e f S W A n i o;obtain⟨p,s⟩:=lv2 n
  cases e with
  | Subscript l u t=>refine an3 i λ j k m=>?_;exact adD ((a.sound A p k o).mono λ x g q=>(b.sound A s m q).mono λ y h q=>aal q) (wy j)
  | _=>exact fE i
set_option genInjectivity false in
structure Po(Ω:Wd) where
 lev:Nat
 chk:Bool->List Str->Nm->Option Expr->Bool
 wp:Gam->Store->(Option Int->%[|7])->Prop
 sound:∀{X:Cx}{r:Nat}{top:Bool}{N:af7}{nm:Nm}{e:Option Expr}{Γ:Gam}{S:Store}{W:Option Int->%[|7]},%[|29]->lev<=r->chk top N nm e=true->wp Γ S W->PoD X Γ S e W
def Po.no:Po Ω where
 lev:=0
 chk _ _ _ e:=match e with | none=>true | _=>false
 wp _ S W:=W none S
 sound:=by
  intro X r c N f e g S W A d a b
  cases e with
  | none=>exact adS b
  | some e=>exact fE a
def Po.so(a:Ex Ω):Po Ω where
 lev:=a.lev
 chk b N g e:=match e with | some e=>a.chk b N g e | _=>false
 wp h S W:=a.wp h S λ d c=>onI d λ i=>W (some i) c
 sound:=by
  intro X r b N g e h S W A j f k
  cases e with
  | some e=>refine ad0 ((a.sound A j f k).mono λ d c q=>?_);exact uD q λ _ q=>%[_,rfl|q]
  | none=>exact fE f
def PoD.mono(h:PoD X b S e W)(k:∀c S',W c S'->a c S'):PoD X b S e a:=by
 cases e with
 | none=>exact k _ _ h
 | some e=>exact Ev.mono h λ d f ⟨i,e,w⟩=>%[i,e|k _ _ w]
def aeJ(a:Ex Ω)(lo hi:Po Ω):Ex Ω where
 lev:=max a.lev (max lo.lev hi.lev)
 chk b N d e:=match e with | .Subscript l (.Slice x y none _) _=>a.chk b N d l&&(lo.chk b N d x&&hi.chk b N d y) | _=>false
 wp f S W:=a.wp f S λ x i=>lo.wp f i λ l j=>hi.wp f j λ h k=>Wg x l h k W
 sound:=by
  intro X r b N d e f S W A p c s;obtain⟨t,g⟩:=lv2 p;obtain⟨g,u⟩:=lv2 g
  cases e with
  | Subscript l w v=>
    cases w with
    | Slice x y z B=>
      cases z with
      | none=>refine an3 c λ m n o=>?_;exact V7 ((a.sound A t m s).mono λ x i q=>PoD.mono (lo.sound A g n q) λ l j q=>PoD.mono (hi.sound A u o q) λ h k q=>YZ q)
      | some _=>exact fE c
    | _=>exact fE c
  | _=>exact fE c
def qb{x:Str}{k n:Nat}{F:Ct}(C:Callee Ω.P Ω.w Ω.K Ω.mg Ω.base x k n F)(as:Ar Ω):Ex Ω where
 lev:=max k as.lev
 chk c N g e:=cX e λ y b=>Al b λ a i=>(y==x)&&(glb g x&&(okN x&&as.chk c N g (a::i)))
 wp m S W:=as.wp m S λ h q=>h.length=n/\F h q W
 sound:=by
  intro X r c N g e m S W A w v z;obtain⟨B,D⟩:=lv2 w;refine bB v λ y p b H d=>?_;refine nZ d λ a i f=>?_;refine an4 f λ s t u j=>?_;have e:y=x:=ZU s;subst e;have l:=as.plain j;rw[iF]at l;refine an2 l λ E G=>?_;have o:Callee X.prog X.w X.K X.mg X.base y k n F:=by rw[A.p,A.w,A.k,A.g,A.b];exact C
  exact Yw o (A.room.mono B) (as.sound A D j z) (A.glb t) (jo u).1 (aX E _ _) (yx G _ _)
set_option genInjectivity false in
structure Bf where
 x:Str
 id:String
 boot:bootBuiltins x=some (.builtin id)
 wp:List D->Store->WD->Prop
 sound:∀{X:Cx}{ds:List D}{S:Store}{W:WD},%[|32]->Room 0 X.A->wp ds S W->fQ X (.builtin id) ds S W
def FN(b:Bf)(hm:Ω.mg b.x=none)(as:Ar Ω):Ex Ω where
 lev:=as.lev
 chk d N h e:=cX e λ y c=>Al c λ a k=>(y==b.x)&&(glb h b.x&&(okN b.x&&as.chk d N h (a::k)))
 wp o S W:=as.wp o S λ j i=>b.wp j i W
 sound:=by intro X r d N h e o S W A v u w;refine bB u λ y p c B f=>?_;refine nZ f λ a k g=>?_;refine an4 g λ s t l m=>?_;have e:y=b.x:=ZU s;subst e;have n:=as.plain m;rw[iF]at n;refine an2 n λ x z=>?_;exact WL (EvA.mono (as.sound A v m w) λ j i q=>b.sound A.calm (A.room.mono (dk _)) q) %[|76] b.boot (A.glb t) (jo l).2.2 (jo l).1 (aX x _ _) (yx z _ _)
set_option genInjectivity false in
structure Bc where
 x:Str
 id:String
 boot:bootBuiltins x=some (.type id)
 wp:List D->Store->WD->Prop
 sound:∀{X:Cx}{ds:List D}{S:Store}{W:WD},%[|32]->Room 0 X.A->wp ds S W->fQ X (.type id) ds S W
def ael(b:Bc)(hm:Ω.mg b.x=none)(as:Ar Ω):Ex Ω where
 lev:=as.lev
 chk d N h e:=cX e λ y c=>Al c λ a k=>(y==b.x)&&(glb h b.x&&(okN b.x&&as.chk d N h (a::k)))
 wp o S W:=as.wp o S λ j i=>b.wp j i W
 sound:=by intro X r d N h e o S W A v u w;refine bB u λ y p c B f=>?_;refine nZ f λ a k g=>?_;refine an4 g λ s t l m=>?_;have e:y=b.x:=ZU s;subst e;have n:=as.plain m;rw[iF]at n;refine an2 n λ x z=>?_;exact VL (EvA.mono (as.sound A v m w) λ j i q=>b.sound A.calm (A.room.mono (dk _)) q) %[|76] b.boot (A.glb t) (jo l).2.2 (jo l).1 (aX x _ _) (yx z _ _)
def aeN(hm:Ω.mg "isinstance"=none)(a:Ex Ω)(T:Ty)(hT:Ω.mg T.nm=none):Ex Ω where
 lev:=a.lev
 chk i N j e:=cX e λ y m=>two2 m λ b c=>anB (nameV c) λ t=>(y==("isinstance":Str))&&(glb j "isinstance"&&((t==T.nm)&&(glb j T.nm&&(okE b&&a.chk i N j b))))
 wp n S W:=a.wp n S λ d l=>W (.bl (isD T d)) l
 sound:=by intro X r i N j e n S W A z k C;refine bB k λ y p m D f=>?_;refine two2_ind f λ b c g=>?_;obtain⟨t,B,h⟩:=bU g;obtain⟨q,rfl⟩:=jY B;have k:=h;{skip;refine an6 k λ o s u v w x=>?_;have e:y="isinstance":=ZU o;subst e;have e:t=T.nm:=ZU u;subst e;exact aaN (Tn:=T.id) ((a.sound A z x C).mono λ d l q=>by rw[abN];exact q) T.isT T.boot %[|76] (by rw[A.g];exact hT) (A.glb s) (A.glb v) T.ok.2 T.ok.1 (aX w _ _) (aX (e:=.Name T.nm q) rfl [] _)}
end RF
namespace RF
open PySem PySem.Spec L2 DL
open PyProof.Rows
variable{cap:List (Option Nat)}{Γ:Gam}
inductive Tg where
 | nm(i:Nat) | tup(is:af4)
def setAll:Gam->List Nat->List D->Gam
 | Γ,i::is,d::ds=>setAll (Γ.set i (some d)) is ds
 | Γ,_,_=>Γ
def Tg.wp:Tg->D->Gam->(Gam->Prop)->Prop
 | .nm i,d,Γ,W=>W (Γ.set i (some d))
 | .tup is,.tup ds,Γ,W=>ds.length=is.length/\W (setAll Γ is ds)
 | .tup _,_,_,_=>False
def Tg.slots:Tg->List Nat
 | .nm i=>[i]
 | .tup is=>is
def Gb(top:Bool)(N:af7)(nm:Nm)(i:Nat)(e:Expr):Bool:=match e with | .Name x _=>(N[i]? ==some x)&&lcl top nm x | _=>false
def ji(top:Bool)(N:af7)(nm:Nm):List Nat->List Expr->Bool
 | [],[]=>true
 | i::is,e::es=>Gb top N nm i e&&ji top N nm is es
 | _,_=>false
def Tg.chk(t:Tg)(top:Bool)(N:af7)(nm:Nm)(e:Expr):Bool:=match t with
 | .nm i=>Gb top N nm i e
 | .tup is=>match e with | .Tuple es _ _=>ji top N nm is es | _=>false
section
variable{Ω:Wd}{X:Cx}{r:Nat}{top:Bool}{N:List Str}{nm:Nm}
def Ud(A:%[|29])(b:Gb top N nm i e=true)(hw:W (c.set i (some d)) S):BdW X e d c S W:=by
 cases e with
 | Name x j=>refine an2 b λ a f=>?_;have a:N[i]? =some x:=ZU a;obtain⟨g,h⟩:=A.lcl f;exact aaC i hw (by rw[A.n];exact A.nd) (by rw[A.n];exact a) g h
 | _=>exact fE b
def Gv(h:ji top N nm (i::is) es=true):∃x p es',es=.Name x p::es'/\Gb top N nm i (.Name x p)=true/\ji top N nm is es'=true:=by
 cases es with
 | nil=>exact(y6 h).elim
 | cons e es=>
   refine an2 h λ a b=>?_
   cases e with
   | Name x p=>exact%[x,p,es,rfl,a|b]
   | _=>exact(y6 a).elim
def NK(h:ji top N nm [] es=true):es=[]:=by
 cases es with
 | nil=>rfl
 | cons e es=>exact(y6 h).elim
theorem Uo(A:%[|29]):∀{is:af4}{es:ag0}{ds:List D}{a:Gam},ji top N nm is es=true->ds.length=is.length->W (setAll a is ds) S->Hu X es ds a S W
 | [],es,ds,a,hc,hl,hw=>by
   have e:=NK hc;subst e;have e:ds=[]:=by simpa using hl
   subst e;exact ZK hw
 | i::is,es,ds,a,hc,hl,hw=>by
   obtain⟨x,p,b,rfl,c,f⟩:=Gv hc
   cases ds with
   | nil=>simp at hl
   | cons d ds=>exact Xk (Ud A c (Uo A f (by simpa using hl) hw)) rfl
theorem Oi:∀{is:af4}{es:ag0},ji top N nm is es=true->∀env:Env,(assignEach es env).length=is.length/\(assignEach es env).findIdx? (·.1)=none
 | [],es,hc,env=>by have e:=NK hc;subst e;exact%[rfl|rfl]
 | i::is,es,hc,env=>by obtain⟨x,p,c,rfl,f,d⟩:=Gv hc;obtain⟨a,b⟩:=Oi d env;have e:assignEach (.Name x p::c) env=(false,assign (.Name x p) env)::assignEach c env:=rfl;rw[e];refine%[by simp[a]|?_];rw[List.findIdx?_cons,b];rfl
def Tg.sound(A:%[|29]){t:Tg}(c:t.chk top N nm e=true)(hw:t.wp d g λ Γ'=>W Γ' S):BdW X e d g S W:=by
 cases t with
 | nm i=>exact Ud A c hw
 | tup f=>
   cases e with
   | Tuple l k m=>
     have c:ji top N nm f l=true:=c
     cases d with
     | tup h=>obtain⟨j,hw⟩:h.length=f.length/\W (setAll g f h) S:=hw;obtain⟨a,b⟩:=Oi c X.env;exact acf (Uo A c j hw) A.calm (a.trans j.symm) b
     | _=>exact hw.elim
   | _=>exact fE c
end
theorem Sub.setAll:∀{is:af4}{ds:List D}{Γ':Gam},Sub a Γ'->(∀i∈is,a[i]? =some none)->Sub a (RF.setAll Γ' is ds)
 | [],ds,Γ',h,_=>by cases ds<;>exact h
 | i::is,[],Γ',h,_=>h
 | i::is,d::ds,Γ',h,hi=>show Sub a (RF.setAll (Γ'.set i (some d)) is ds)from Sub.setAll (Γ':=Γ'.set i (some d)) (h.set i (some d) (hi i x6)) λ j b=>hi j (x4 _ b)
def Sg{i:Nat}(h:cap[i]? =some none):(capt cap Γ)[i]? =some none:=by unfold capt;rw[y8,h];rfl
set_option genInjectivity false in
structure Itb(Ω:Wd) where
 lev:Nat
 chk:Bool->List Str->Nm->Expr->Expr->Bool
 wp:Gam->Store->(List D->%[|7])->Prop
 sound:∀{X:Cx}{r:Nat}{top:Bool}{N:af7}{nm:Nm}{tg e:Expr}{Γ:Gam}{S:Store}{W:List D->%[|7]},%[|29]->lev<=r->chk top N nm tg e=true->wp Γ S W->ItW X Γ S tg e W
def abC(h:Ev X Γ S e λ d S1=>match d with | .lst ds=>W ds S1 | .tup ds=>W ds S1 | _=>False):ItW X Γ S C e W:=by
 intro j s F H O I l B;refine thn (h j s F H O I l B) λ u s1 n=>?_;obtain⟨v,t,c,y,x,d,S1,w,k,i,r⟩:=n
 cases r with
 | @lst a E ds f q=>
   cases y;obtain⟨g,A,p,z⟩:=c.list f.sq;refine kf p.isList ?_;refine%[s1.heap.objs.size,[s1.heap.objs.size],_,_,t,rfl,c.kept (t':=s1.toks) λ b o e=>bX _ e,qT a _,%[|73],λ b m=>?_,x,ds,S1,w,k,i|vQ f q];have e:b=s1.heap.objs.size:=by simpa using m
   subst e;exact c.fpOk (y9 _) (c.hok.fresh (y9 _))
 | @tup a E ds f q=>
   cases y;obtain⟨g,A,p,z⟩:=c.tuple f.sq;refine i8 (show s1.heap.IsTuple a g.toArray from p) ?_;refine%[s1.heap.objs.size,[s1.heap.objs.size],_,_,t,rfl,c.kept (t':=s1.toks) λ b o e=>bX _ e,yg a _,%[|73],λ b m=>?_,x,ds,S1,w,k,i|xq f q];have e:b=s1.heap.objs.size:=by simpa using m
   subst e;exact c.fpOk (y9 _) (c.hok.fresh (y9 _))
 | _=>exact w.elim
variable{Ω:Wd}
def aek(a:Ex Ω):Itb Ω where
 lev:=a.lev
 chk b N f _ e:=a.chk b N f e
 wp g S W:=a.wp g S λ d c=>match d with | .lst ds=>W ds c | .tup ds=>W ds c | _=>False
 sound:=by intro X r b N f k e g S W A i h j;exact abC (a.sound A i h j)
def aeu(hm:Ω.mg "range"=none)(a:Ex Ω):Itb Ω where
 lev:=a.lev
 chk g N i _ e:=cX e λ y l=>dX l λ b=>(y==("range":Str))&&(glb i "range"&&(okE b&&a.chk g N i b))
 wp m S W:=a.wp m S λ d k=>onI d λ j=>(-(2 ^ 62)<=j/\j<2 ^ 62)/\W (upTo 0 j.toNat) k
 sound:=by intro X r g N i x e m S W A u h v;refine bB h λ y p l w c=>?_;refine dq c λ b f=>?_;have h:=f;{skip;refine an4 h λ n o s t=>?_;have e:y="range":=ZU n;subst e;refine Rz ((a.sound A u t v).mono λ d k q=>?_) %[|76] (A.glb o) (aX s [] _);exact uD q λ _ q=>%[_,rfl,q.1.1,q.1.2|q.2]}
def aeK(hm:Ω.mg "range"=none)(a b:Ex Ω):Itb Ω where
 lev:=%[|52]
 chk c N h _ e:=cX e λ y t=>two2 t λ l r=>(y==("range":Str))&&(glb h "range"&&((okE l&&okE r)&&(a.chk c N h l&&b.chk c N h r)))
 wp n S W:=a.wp n S λ d o=>b.wp n o λ k s=>match d,k with | .int i,.int j=>(-(2 ^ 62)<=i/\i<2 ^ 62/\ -(2 ^ 62)<=j/\j<2 ^ 62)/\W (upTo i (j-i).toNat) s | _,_=>False
 sound:=by intro X r c N h K e n S W A E m F;obtain⟨G,H⟩:=lv2 E;refine bB m λ y p t I f=>?_;refine two2_ind f λ l J g=>?_;have m:=g;{skip;refine an4 m λ v w x z=>?_;refine an2 x λ B u=>?_;refine an2 z λ C D=>?_;have e:y="range":=ZU v;subst e;refine RK ((a.sound A G C F).mono λ d o q=>(b.sound A H D q).mono λ k s q=>?_) %[|76] (A.glb w) (by rw[aX B,aX u];rfl) (aX u [] _);cases d<;>first | exact q.elim | (cases k<;>first | exact%[_,_,rfl,rfl,q.1|q.2] | exact q.elim)}
set_option genInjectivity false in
structure Cd(Ω:Wd) where
 lev:Nat
 chk:Bool->List Str->Nm->List Expr->Bool
 wp:Gam->Store->(Bool->%[|7])->Prop
 sound:∀{X:Cx}{r:Nat}{top:Bool}{N:af7}{nm:Nm}{es:ag0}{Γ:Gam}{S:Store}{W:Bool->%[|7]},%[|29]->lev<=r->chk top N nm es=true->wp Γ S W->TsA X Γ S es W
def aem:Cd Ω where
 lev:=0
 chk _ _ _ a:=match a with | []=>true | _=>false
 wp _ S W:=W true S
 sound:=by
  intro X r d N f a g S W A e b c;match a,b with
  | [],_=>exact c
  | _::_,b=>exact fE b
def Cd.so(t:Te Ω):Cd Ω where
 lev:=t.lev
 chk b N d c:=match c with | [e]=>t.chk b N d e | _=>false
 wp f S W:=t.wp f S W
 sound:=by
  intro X r b N d c f S W A g a h;match c,a with
  | [e],a=>exact adH (t.sound A g a h)
  | [],a=>exact fE a
  | _::_::_,a=>exact fE a
@[irreducible] noncomputable def uA(cap:af9)(Γ:Gam)(elt:Ex Ω)(tg:Tg)(cd:Cd Ω)(W:WD)(ds:List D)(C0:%[|7])(S1:Store):Prop:=
  ds.length<=1000000/\∃c:Nat->List D->%[|7],c 0 [] S1/\(∀i a b,c i a b->C0 b)/\
   (∀i d a b,%[|25]->c i a b->tg.wp d (capt cap Γ) λ e=>cd.wp e b λ g f=>(g=true->elt.wp e f λ y h=>c (i+1) (a++[y]) h)/\(g=false->c (i+1) a f))/\
   ∀a b,c ds.length a b->W (.lst a) b\/W (.loc b.length) (b++[a])
abbrev pH(cap:af9)(Γ:Gam)(elt:Ex Ω)(tg:Tg)(cd:Cd Ω)(W:WD)(ds:List D)(S1:Store):Prop:=uA cap Γ elt tg cd W ds (λ _=>True) S1
def Gx{cd:Cd Ω}(h:ds.length<=1000000/\∃Pv:Nat->List D->%[|7],Pv 0 [] b/\(∀i acc S',Pv i acc S'->C0 S')/\
 (∀i d acc S',%[|25]->Pv i acc S'->c.wp d (capt cap Γ) λ Γ2=>cd.wp Γ2 S' λ ok S3=>(ok=true->a.wp Γ2 S3 λ y S4=>Pv (i+1) (acc++[y]) S4)/\(ok=false->Pv (i+1) acc S3))/\
 ∀acc S',Pv ds.length acc S'->W (.lst acc) S'\/W (.loc S'.length) (S'++[acc])):uA cap Γ a c cd W ds C0 b:=by unfold uA;exact h
def f9{cd:Cd Ω}(h:ds.length<=1000000/\∃Pv:Nat->List D->%[|7],Pv 0 [] b/\
 (∀i d acc S',%[|25]->Pv i acc S'->c.wp d (capt cap Γ) λ Γ2=>cd.wp Γ2 S' λ ok S3=>(ok=true->a.wp Γ2 S3 λ y S4=>Pv (i+1) (acc++[y]) S4)/\(ok=false->Pv (i+1) acc S3))/\
 ∀acc S',Pv ds.length acc S'->W (.lst acc) S'):pH cap Γ a c cd W ds b:=by obtain⟨e,Pv,f,j,g⟩:=h;exact Gx %[e,Pv,f,λ _ _ _ _=>trivial,j|λ acc S' q=>.inl (g acc S' q)]
def lcP(e:Expr):Option {x:Expr×Expr×Expr×List Expr×Scope×Pos // e=.ListComp x.1 [%[x.2.1,x.2.2.1,x.2.2.2.1|0]] x.2.2.2.2.1 x.2.2.2.2.2}:=match e with
 | .ListComp x [⟨t,i,cs,0⟩] sc p=>some %[(x,t,i,cs,sc,p)|rfl]
 | _=>none
def adh(N':af7)(cap:af9)(elt:Ex Ω)(tg:Tg)(it:Itb Ω)(cd:Cd Ω)(top:Bool)(N:af7)(nm:Nm)(x t i:Expr)(cs:ag0)(sc:Scope):Bool:=(sc.kind==.function)&&(Bh sc.names&&(freeOk nm sc.names&&((sc.names.all λ y=>!(y.2==.local)||(sc.names.lookup y.1==some .local))&&(cC N nm N' sc.names cap N'&&
 (okE i&&((tg.slots.all λ j=>cap[j]? ==some none)&&(decide N'.Nodup&&(it.chk top N nm t i&&(tg.chk false N' sc.names t&&(cd.chk false N' sc.names cs&&elt.chk false N' sc.names x))))))))))
def z6(N':af7)(cap:af9)(elt:Ex Ω)(tg:Tg)(it:Itb Ω)(cd:Cd Ω)(top:Bool)(N:af7)(nm:Nm)(e:Expr):Bool:=anB (lcP e) λ z=>adh N' cap elt tg it cd top N nm z.1.1 z.1.2.1 z.1.2.2.1 z.1.2.2.2.1 z.1.2.2.2.2.1
def yc{cd:Cd Ω}(h:z6 a cap b f g cd top N nm e=true):
 ∃x t i cs sc pos,e=.ListComp x [%[t,i,cs|0]] sc pos/\sc.kind=.function/\Bh sc.names=true/\freeOk nm sc.names=true/\(∀y∈sc.names,y.2=.local->sc.names.lookup y.1=some .local)/\cC N nm a sc.names cap a=true/\okE i=true/\(f.slots.all λ j=>cap[j]? ==some none)=true/\a.Nodup/\g.chk top N nm t i=true/\f.chk false a sc.names t=true/\cd.chk false a sc.names cs=true/\b.chk false a sc.names x=true:=by obtain⟨⟨⟨x,t,i,cs,sc,p⟩,k⟩,_,c⟩:=bU h;refine an9 c λ l m n o q r s u c=>?_;refine an3 c λ v d c=>?_;exact%[x,t,i,cs,sc,p,k,ZU l,m,n,λ y w e=>by simpa[e]using List.all_eq_true.mp o y w,q,r,s,of_decide_eq_true u,v,d|bz c]
section
variable{X:Cx}{r:Nat}{top:Bool}{N:List Str}{nm:Nm}
def Do(A:%[|29])(h:nm.lookup x=%[|12]\/nm.lookup x=some .free):X.env.scope.names.lookup x=%[|12]\/X.env.scope.names.lookup x=some .free:=by rcases h with h | h;{rcases A.look x _ h with q | ⟨q,_⟩;{exact .inl q};{exact nomatch q}};{rcases A.look x _ h with q | ⟨_,q⟩;{exact .inr q};{exact .inl q}}
def CW(A:%[|29]){names:Nm}(h:freeOk nm names=true):freeOk X.env.scope.names names=true:=by unfold freeOk;refine gT.mpr λ y a=>?_;by_cases e:y.2=.free;{have:=Do A (tB h y a e);rcases this with q | q<;>simp[q]};{simp[e]}
theorem oR(A:%[|29]){a:Nm}:∀{b:af9}{t:af7},cC N nm c a b t=true->cC X.N X.env.scope.names c a b t=true
 | [],[],_=>rfl
 | [],_::_,h=>by simp[cC]at h
 | none::_,[],h=>by simp[cC]at h
 | some _::_,[],h=>by simp[cC]at h
 | none::r,_::t,h=>by simp only[cC]at h ⊢;exact oR A h
 | some j::r,x::t,h=>by simp only[cC,fk,ky,beq_iff_eq]at h ⊢;exact%[%[%[by rw[A.n];exact h.1.1.1|Do A h.1.1.2]|h.1.2]|oR A h.2]
theorem ab6(A:%[|29])(d:a.kind=.function)(nd:c.Nodup):At Ω (jd X a c C s H ex cl) r false c a.names where
 cd:=λ h=>nomatch h
 fr:=λ h=>nomatch h
 p:=A.p
 w:=A.w
 k:=A.k
 g:=A.g
 b:=A.b
 room:=A.room
 xe:=A.xe
 calm:=A.calm
 n:=rfl
 nd:=nd
 kind:=d
 look:=by intro x k h;show(relabel a X.env).names.lookup x=some k\/_;rw[ph,ir,h];rcases wL X.env x k with q | ⟨e,f⟩;{exact .inl (eC some q)};{refine .inr %[e|?_];show(relabel a X.env).names.lookup x=%[|12];rw[ph,ir,h];exact eC some f}
 fn:=λ x h=>by show(a.names.lookup x==%[|12])=true;rw[h];rfl
def xP(A:%[|29]){cd:Cd Ω}(le:e.lev<=r)(R:cd.lev<=r)(p:m.kind=.function)(nd:g.Nodup)(hs:(u.slots.all λ j=>f[j]? ==some none)=true)
 (P:u.chk false g m.names t=true)(E:cd.chk false g m.names cs=true)(I:e.chk false g m.names x=true)(h:uA f v e u cd W ds C0 F):FZ X m g f v x t cs W ds C0 F:=by
 unfold uA at h;obtain⟨Q,n,S,T,V,U⟩:=h;refine%[Q,n,S,T,λ i d b w L O C s H ex cl=>?_|U];have B:=ab6 A (C:=C) (s:=s) (H:=H) (ex:=ex) (cl:=cl) p nd;have J:∀j∈u.slots,(capt f v)[j]? =some none:=λ j M=>Sg (by have:=gT.mp hs j M;exact ZU this);have base:=V i d b w L O;have G:∀a,(cd.wp a w λ l k=>(l=true->e.wp a k λ y o=>n (i+1) (b++[y]) o)/\(l=false->n (i+1) b k))->
  TsA (jd X m g C s H ex cl) a w cs λ l k=>(l=true->Ev (jd X m g C s H ex cl) a k x λ y o=>n (i+1) (b++[y]) o)/\(l=false->n (i+1) b k):=by
  intro a q;have:=cd.sound B R E q;match cs,this with
  | [],this=>exact%[λ p=>e.sound B le I (this.1 p)|this.2]
  | [c],this=>exact Ts.mono this λ l k z=>%[λ p=>e.sound B le I (z.1 p)|z.2]
  | _::_::_,this=>exact this.elim
 refine Tg.sound B (W:=λ a K=>Sub (capt f v) a/\TsA (jd X m g C s H ex cl) a K cs λ l k=>(l=true->Ev (jd X m g C s H ex cl) a k x λ y o=>n (i+1) (b++[y]) o)/\(l=false->n (i+1) b k)) P ?_
 cases u with
 | nm j=>exact%[(Sub.refl _).set j _ (J j (by simp[Tg.slots]))|G _ base]
 | tup Z=>
   cases d with
   | tup Y=>exact%[base.1,Sub.setAll (Sub.refl _) J|G _ base.2]
   | _=>exact base.elim
end
def S9(N':af7)(cap:af9)(elt:Ex Ω)(tg:Tg)(it:Itb Ω)(cd:Cd Ω):Ex Ω where
 lev:=max elt.lev (max it.lev cd.lev)
 chk a N l e:=z6 N' cap elt tg it cd a N l e
 wp g S W:=it.wp g S λ j h=>pH cap g elt tg cd W j h
 sound:=by intro X r a N l e g S W A z y B;obtain⟨C,f⟩:=lv2 z;obtain⟨f,D⟩:=lv2 f;obtain⟨x,t,i,F,G,E,rfl,k,m,n,o,p,s,u,v,w,b,c,d⟩:=yc y;exact Zq N' cap (aeX (ItW.mono (it.sound A f w B) λ j h q=>xP A C D k v u b c d q)) A.xe A.calm k m (CW A n) o (oR A p) (ul s _)
end RF
namespace RF
open PySem PySem.Spec L2 DL
open PyProof.Rows
variable{Ω:Wd}
def Di(h:noC e=true)(t:Expr)(l:Nat)(env:Env):swapsWithSole [t] e l env=pure false:=by unfold swapsWithSole;exact jZ h (some t) l env
set_option genInjectivity false in
structure Sm(Ω:Wd) where
 lev:Nat
 chk:Bool->List Str->Nm->Stmt->Bool
 wp:Gam->Store->DL.Fin->Prop
 sound:∀{X:Cx}{r:Nat}{top:Bool}{N:af7}{nm:Nm}{st:Stmt}{Γ:Gam}{S:Store}{W:DL.Fin},%[|29]->lev<=r->chk top N nm st=true->wp Γ S W->Rn X Γ S st W
set_option genInjectivity false in
structure Bl(Ω:Wd) where
 lev:Nat
 chk:Bool->List Str->Nm->List Stmt->Bool
 wp:Gam->Store->DL.Fin->Prop
 sound:∀{X:Cx}{r:Nat}{top:Bool}{N:af7}{nm:Nm}{sts:List Stmt}{Γ:Gam}{S:Store}{W:DL.Fin},%[|29]->lev<=r->chk top N nm sts=true->wp Γ S W->Rns X Γ S sts W
def lO:Bl Ω where
 lev:=0
 chk _ _ _ a:=match a with | []=>true | _=>false
 wp c S W:=W.nx c S
 sound:=by
  intro X r e N g a c S W A f b d;match a,b with
  | [],_=>exact abl d
  | _::_,b=>exact fE b
def fM(s:Sm Ω)(b:Bl Ω):Bl Ω where
 lev:=max s.lev b.lev
 chk c N e a:=match a with | st::a=>s.chk c N e st&&b.chk c N e a | _=>false
 wp h S W:=s.wp h S {W with nx:=λ f g=>b.wp f g W}
 sound:=by
  intro X r c N e a h S W A k d l;obtain⟨m,n⟩:=lv2 k;match a,d with
  | st::a,d=>refine an2 d λ i j=>?_;exact Yv (Rn.mono (s.sound A m i l) (λ G g q=>b.sound A n j q) (λ _ _ q=>q) (λ _ _ q=>q) λ _ _ q=>q)
  | [],d=>exact fE d
def sy(a:Ex Ω):Sm Ω where
 lev:=a.lev
 chk b N f d:=match d with | .Return (some e) _=>a.chk b N f e | _=>false
 wp g S W:=a.wp g S W.rt
 sound:=by
  intro X r b N f d g S W A h c i
  cases d with
  | Return o j=>
    cases o with
    | some e=>exact acV (a.sound A h c i)
    | none=>exact fE c
  | _=>exact fE c
def aeo(a:Ex Ω):Sm Ω where
 lev:=a.lev
 chk b N g c:=match c with | .Expr e _=>noC e&&a.chk b N g e | _=>false
 wp d S W:=a.wp d S λ _ h=>W.nx d h
 sound:=by
  intro X r b N g c d S W A k f l
  cases c with
  | Expr e m=>refine an2 f λ i j=>?_;exact abY (a.sound A k j l) (jZ i _ _ _)
  | _=>exact fE f
def Hh(c:Te Ω)(a b:Bl Ω):Sm Ω where
 lev:=max c.lev %[|52]
 chk d N e j:=match j with | .If t m n _=>c.chk d N e t&&(a.chk d N e m&&b.chk d N e n) | _=>false
 wp f S W:=c.wp f S λ k g=>(k=true->a.wp f g W)/\(k=false->b.wp f g W)
 sound:=by
  intro X r d N e j f S W A u l v;obtain⟨w,i⟩:=lv2 u;obtain⟨i,x⟩:=lv2 i
  cases j with
  | If t m n y=>refine an3 l λ o p s=>?_;exact ad4 (Ts.mono (c.sound A w o v) λ k g q=>%[λ h=>a.sound A i p (q.1 h)|λ h=>b.sound A x s (q.2 h)])
  | _=>exact fE l
def qj(i:Nat)(a:Ex Ω):Sm Ω where
 lev:=a.lev
 chk b N g j:=setB j λ x e=>(N[i]? ==some x)&&(lcl b g x&&(noC e&&a.chk b N g e))
 wp h S W:=a.wp h S λ d k=>W.nx (h.set i (some d)) k
 sound:=by intro X r b N g j h S W A p f q;refine Iu f λ x v e u c=>?_;have f:=c;{refine an4 f λ l m n o=>?_;obtain⟨s,t⟩:=A.lcl m;exact Ye i (a.sound A p o q) (by rw[A.n];exact A.nd) (by rw[A.n];exact ZU l) s (jZ n _ _ _) t}
def aeY(i:Nat)(N':af7)(cap:af9)(elt:Ex Ω)(tg:Tg)(it:Itb Ω)(cd:Cd Ω):Sm Ω where
 lev:=max elt.lev (max it.lev cd.lev)
 chk b N u I:=setB I λ x e=>(N[i]? ==some x)&&(lcl b u x&&(b&&(z6 N' cap elt tg it cd b N u e)))
 wp g S W:=it.wp g S λ y w=>pH cap g elt tg cd (λ d J=>W.nx (g.set i (some d)) J) y w
 sound := by
  intro X r b N u I g S W A C o D;refine Iu o λ x p e H o=>?_
  . refine an4 o λ U V k0 a=>?_;obtain⟨E,F⟩:=A.lcl V;have z:X.N[i]? =some x:=by rw[A.n];exact ZU U
    have G:X.N.Nodup:=by rw[A.n];exact A.nd
    obtain⟨le,Y⟩:=lv2 C;obtain⟨li,Z⟩:=lv2 Y;obtain⟨v,t,s,h,c,pos,rfl,B,K,L,M,O,P,Q,R,T,j,l,m⟩:=yc a;{by_cases f:(X.env.blockKind==.function&&X.env.kindOf x==some .local&&p.line==(Expr.ListComp v [%[t,s,h|0]] c pos).pos.line&& !(c.names.any λ(n,k)=>n==x&&(k==.local||k==.cell)))=true;{refine Sw i N' cap (aeX (ItW.mono (it.sound A li T D) λ y w q=>xP A le Z B R Q j l m q)) G z E ?_ F A.xe A.calm B K (CW A L) M (oR A O) (ul P _);{show(pure (X.env.blockKind==.function&&X.env.kindOf x==some .local&&p.line==(Expr.ListComp v [%[t,s,h|0]] c pos).pos.line&& !(c.names.any λ(n,k)=>n==x&&(k==.local||k==.cell))):Sem Bool)=pure true;rw[f]}};{have f:_=false:=Bool.eq_false_iff.mpr f;refine Ye i ((S9 N' cap elt tg it cd).sound A C a D) G z E ?_ F;show(pure (X.env.blockKind==.function&&X.env.kindOf x==some .local&&p.line==(Expr.ListComp v [%[t,s,h|0]] c pos).pos.line&& !(c.names.any λ(n,k)=>n==x&&(k==.local||k==.cell))):Sem Bool)=pure false;rw[f]}}
def aeL(o i a:Ex Ω):Sm Ω where
 lev:=max a.lev (max o.lev i.lev)
 chk f N l B:=ixB B λ x y e=>noC e&&(okE y&&(a.chk f N l e&&(o.chk f N l x&&i.chk f N l y)))
 wp h S W:=a.wp h S λ d u=>o.wp h u λ x w=>i.wp h w λ y m=>match x,y with | .loc k,.int n=>∃g j,m[k]? =some g/\ixN g.length n=some j/\W.nx h (m.set k (g.set j d)) | _,_=>False
 sound:=by intro X r f N l B h S W A H s I;obtain⟨J,t⟩:=lv2 H;obtain⟨t,K⟩:=lv2 t;refine BX s λ x y p e z s=>?_;{refine an5 s λ C D E F G=>?_;refine aat ((a.sound A J E I).mono λ d u q=>(o.sound A t F q).mono λ x w q=>(i.sound A K G q).mono λ y m q=>?_) ?_ (Di C _ _ _) ?_ rfl;{cases x<;>first | exact q.elim | (cases y<;>first | exact q.elim | (obtain⟨g,j,a,b,c⟩:=q;exact%[_,_,g,j,rfl,rfl,a,b|c]))};{intro v;cases y<;>first | rfl | exact(y6 D).elim};{rfl}}
def V0(h:Ev X l S e λ d S1=>BdW X b d l S1 W.nx)(hs:swapsWithSole [b] e f.line X.env=pure false)(hw:swappedStores [b] e X.env=pure none)(h1:(assignEach [b] X.env).map (·.2)=[assign b X.env]):Rn X l S (.Assign [b] e f) W:=by intro a s m H O I c r;refine wpAny_Assign_stores (thn (h a s m H O I c r) λ u w j=>?_) hs hw;obtain⟨v,n,o,t,p,d,S1,x,i,k,g⟩:=j;rw[h1];show wpAny _ _ (assign b X.env u) _ _ _;refine thn (x a w m n p v u o (c.mono i) k g t) λ _ y ⟨σ',H',I',q⟩=>%[σ',H',I'|QN.pre i q]
def acM:Expr->Bool
 | .Tuple .. =>false
 | e=>noC e
def aeO(t:af4)(a:Ex Ω):Sm Ω where
 lev:=a.lev
 chk c N l v:=anB (abe v) λ z=>dX z.1 λ i=>zN i&&(acM z.2&&((Tg.tup t).chk c N l i&&a.chk c N l z.2))
 wp m S W:=a.wp m S λ d o=>(Tg.tup t).wp d m λ n=>W.nx n o
 sound:=by
  intro X r c N l v m S W A y h C;obtain⟨⟨D,e⟩,b,f⟩:=bU h;clear h;obtain⟨u,b⟩:=Zf b;subst b;obtain⟨i,b,g⟩:=gh f;clear f;have b:D=[i]:=b;subst b;refine an2 g λ B h=>?_;clear g;obtain⟨E,k,p,b⟩:=nR B;subst b
  . refine an3 h λ s w x=>?_;have j:noC e=true:=by cases e<;>first | rfl | exact(y6 s).elim
    refine V0 ((a.sound A y x C).mono λ d o q=>Tg.sound A (W:=W.nx) w q) (Di j _ _ _) ?_ rfl;cases e<;>first | rfl | exact(y6 s).elim
@[irreducible] noncomputable def lH(Γ:Gam)(tg:Tg)(body:Bl Ω)(W:DL.Fin)(ds:List D)(S1:Store):Prop:=
  ∃b:%[|53],b 0 Γ S1/\(∀i d a c,%[|25]->b i a c->tg.wp d a λ e=>body.wp e c {W with nx:=b (i+1),ct:=b (i+1),bk:=W.nx})/\(∀a c,b ds.length a c->W.nx a c)
def rZ{a:Bl Ω}(h:∃Pv:%[|53],Pv 0 e b/\(∀i d Γ' S',%[|25]->Pv i Γ' S'->c.wp d Γ' λ Γ2=>a.wp Γ2 S' %[|93])/\(∀Γ' S',Pv ds.length Γ' S'->W.nx Γ' S')):lH e c a W ds b:=by unfold lH;exact h
def aey(tg:Tg)(it:Itb Ω)(body:Bl Ω):Sm Ω where
 lev:=max it.lev body.lev
 chk a N e n:=frB n λ t i b=>okE i&&(tg.chk a N e t&&(it.chk a N e t i&&body.chk a N e b))
 wp h S W:=it.wp h S λ m k=>lH h tg body W m k
 sound:=by intro X r a N e n h S W A x g z;obtain⟨B,C⟩:=lv2 x;refine uE g λ t i b F g=>?_;{refine an4 g λ p s u v=>?_;refine adl (ItW.mono (it.sound A B u z) λ m k q=>?_) (by rw[A.xe];exact ml) A.calm (ul p _);unfold lH at q;obtain⟨f,D,G,E⟩:=q;refine%[f,D,λ i d j o w y=>BdW.mono (Tg.sound A (W:=λ c l=>body.wp c l {W with nx:=f (i+1),ct:=f (i+1),bk:=W.nx}) s (G i d j o w y)) λ c l q=>body.sound A C v q|E]}
def Yc(N ps:af7)(sm:Stmt)(k:Nat)(body:Bl Ω):Bool:=
 ((bj sm).kind==.function)&&(!(bj sm).isCoroutine&&(!(bj sm).isGenerator&&(decide N.Nodup&&(decide (N.take ps.length=ps)&&((ps.all λ x=>(bj sm).names.lookup x==some .local||(bj sm).names.lookup x==%[|12])&&
   (((bj sm).names.all λ y=>!(y.2==.free))&&(Nat.ble body.lev k&&body.chk true N (bj sm).names (dY sm))))))))
def ac4(m:Ω.cd=none)(l:Fun Ω.K x b c f g)(a:Bl Ω)(I:Yc N ps c k a=true)
 (O:∀(ds:List D)(S:Store)(W:WD),F ds S W->ds.length=ps.length->a.wp (ds.map some++List.replicate (N.length-ds.length) none) S {nx:=λ _ S1=>W .non S1,rt:=W}):FnOk Ω.P Ω.w Ω.K Ω.mg Ω.base CX0 (k+1) f g ps (spC Ω.K ps.length F):=by refine an9 I λ o t u v w z B C G=>?_;have i:N.Nodup:=cE v;have j:FnScope N ps (bj c):=%[ZU o,nt t,nt u,i,cE w,λ x L=>by have:=gT.mp z x L;simpa using this|λ y M e=>by have:=List.all_eq_true.mp B y M;simp[e]at this];refine adk l j λ n A d s H E ds S W _ K J h=>?_;refine a.sound (r:=k) (top:=true) (N:=N) (nm:=(bj c).names) %[rfl,rfl,rfl,rfl,rfl,K,rfl,rfl,rfl,i,j.kind,λ x P h=>.inl h,λ _ _=>rfl,λ _ p q=>(nomatch (m.symm.trans q))|λ _=>%[rfl,rfl|rfl]] (Nat.le_of_ble_eq_true C) G (O ds S W h J)
def callee(d:Fun Ω.K x a g f c)(h:FnOk Ω.P Ω.w Ω.K Ω.mg Ω.base CX0 k f c ps (spC Ω.K n F))(e:Ω.mg x=some (.ref f))(b:Binds Ω.K c ps []):Callee Ω.P Ω.w Ω.K Ω.mg Ω.base x k n F:=%[f,c,ps,h,e,d.kp|b]
end RF
namespace RF
open PySem PySem.Spec L2 DL
open PyProof.Rows
def dR:Bf where
 x:="len"
 id:="len"
 boot:=%[|11]
 wp a S W:=match a with
  | [.tup a]=>W (.int a.length) S
  | [.lst a]=>W (.int a.length) S
  | [.loc k]=>∃a,S[k]? =some a/\W (.int a.length) S
  | _=>False
 sound:=by intro X a S W d e h;split at h;{exact acq h};{exact ab5 h};{obtain⟨a,b,c⟩:=h;exact acA b c};{exact h.elim}
def iR:Bf where
 x:="all"
 id:="all"
 boot:=%[|11]
 wp a S W:=match a with
  | [.lst a]=>∃b:List Bool,a=b.map .bl/\W (.bl (b.all id)) S
  | _=>False
 sound:=by intro X a S W c d h;split at h;{obtain⟨b,rfl,h⟩:=h;exact k_all h c};{exact h.elim}
def aaS:Bf where
 x:="abs"
 id:="abs"
 boot:=%[|11]
 wp a S W:=match a with
  | [.int i]=>W (.int (if i<0 then-i else i)) S
  | _=>False
 sound:=by intro X a S W d e h;split at h;{refine eV Xm λ O H f c r=>?_;obtain⟨v,rfl,b⟩:=d8 r;cases b;exact%[_,rfl|Ac h c (.int _)]};{exact h.elim}
def XX{K}(r:Reps K O H c [d,e]):∃v w,c=[v,w]/\%[|33]/\Rep K O H w e:=by cases r with| cons a t=>cases t with| cons b t=>cases t;exact%[_,_,rfl,a|b]
def ad7:Bf where
 x:="min"
 id:="min"
 boot:=%[|11]
 wp a S W:=match a with
  | [.int i,.int j]=>W (.int (if j<i then j else i)) S
  | _=>False
 sound:=by intro X a S W b f h;split at h;{refine eV (Ux b) λ O H g e r=>?_;obtain⟨v,w,rfl,c,d⟩:=XX r;cases c;cases d;exact%[_,_,rfl|Ac h e (.int _)]};{exact h.elim}
def adY:Bf where
 x:="max"
 id:="max"
 boot:=%[|11]
 wp a S W:=match a with
  | [.int i,.int j]=>W (.int (if j>i then j else i)) S
  | _=>False
 sound:=by intro X a S W b f h;split at h;{refine eV (U3 b) λ O H g e r=>?_;obtain⟨v,w,rfl,c,d⟩:=XX r;cases c;cases d;exact%[_,_,rfl|Ac h e (.int _)]};{exact h.elim}
def cH:Bc where
 x:="tuple"
 id:="tuple"
 boot:=%[|11]
 wp a S W:=match a with
  | [.lst a]=>W (.tup a) S
  | [.loc k]=>∃a,S[k]? =some a/\W (.tup a) S
  | _=>False
 sound:=by intro X a S W d e h;split at h;{exact aby h};{obtain⟨a,b,c⟩:=h;exact acl b c};{exact h.elim}
def ad9:Bc where
 x:="int"
 id:="int"
 boot:=%[|11]
 wp c S W:=match c with
  | [.int i]=>W (.int i) S
  | [.bl k]=>W (.int (if k then 1 else 0)) S
  | _=>False
 sound:=by intro X c S W e f h;split at h;{refine eV Ck λ O H d b r=>?_;obtain⟨v,rfl,a⟩:=d8 r;cases a;exact .inl %[_,rfl|Ac h b (.int _)]};{refine eV Ck λ O H d b r=>?_;obtain⟨v,rfl,a⟩:=d8 r;cases a;exact .inr %[_,rfl|Ac h b (.int _)]};{exact h.elim}
section
variable{X:Cx}{Γ:Gam}{S:Store}{e:Expr}{pos:Pos}
def Z1(h:Ev X Γ S e λ d S1=>match d with | .lst ds=>W (ds.mapIdx λ i d=>.tup [.int i,d]) S1 | .tup ds=>W (ds.mapIdx λ i d=>.tup [.int i,d]) S1 | _=>False)(hm:X.mg "enumerate"=none)(hg:Gl X "enumerate")(hs:starEach [e] X.env=[(false,eval e X.env)]):
 ItW X Γ S (.Tuple l k tp) (.Call (.Name "enumerate" p) [e] [] pos) W:=by
 intro t s σ H O I E st;refine Call_ (cV I hg hm boot_enumerate (eu (thn (uI h.pe Ih hs pos t s σ H (λ V y=>∃v,V=[v]/\QG X.K O H (λ d S1=>match d with | .lst ds=>W (ds.mapIdx λ i d=>.tup [.int i,d]) S1 | .tup ds=>W (ds.mapIdx λ i d=>.tup [.int i,d]) S1 | _=>False) v y) I %[O,E,st|λ v y q=>%[v,rfl|q]]) λ us f L=>?_) hs rfl));obtain⟨V,H1,z,r1,v,ev,T,d,S1,w,x,r,Q⟩:=L;subst ev;obtain⟨u,rfl,U⟩:=vals1 r1
 cases Q with
 | @lst a R ds m P=>cases U;obtain⟨g,rv,N,B⟩:=z.list m.sq;refine call_enumerate_list N.isList λ h' A K _ kp=>M9 (Yd X.prog X.w X.K) z A K kp %[T,_,S1,w,x,r|vp _ λ Y y j=>%[R,(m.conv j).sq|P.conv j]]
 | @tup a R ds m P=>
   cases U;obtain⟨g,rv,N,B⟩:=z.tuple m.sq;obtain⟨⟨c,C,Z,sl⟩,hl,G,n,J⟩:=N;replace G:c=%[|9]:=G;replace J:Z=.seq g.toArray n:=J;subst G J;refine callType_new F.called_enumerate %[|1] (F.typeCall_enumerate_1 _) (F.newCall_enumerate_1 _) (λ M=>F.args_object_init_2 M _) F.entry_enumerate_new (Tu a g.toArray n C sl) %[hl|?_];have B:(f.heap.push %[|96]).objs.size=f.heap.objs.size+1:=gc ..;show _/\_;rw[B];have A:IsEnum ((f.heap.push %[|96]).push {cls:=.type "enumerate",data:=.fields #[.none,.bool false,.ref f.heap.objs.size,rawInt 0,.none,.none]}) (f.heap.objs.size+1) f.heap.objs.size 0 .none:=by have:=cb (f.heap.push %[|96]) (o:={cls:=.type "enumerate",data:=.fields #[.none,.bool false,.ref f.heap.objs.size,rawInt 0,.none,.none]}) rfl;rw[B]at this;exact this
   have K:Heap.IsTupleIter ((f.heap.push %[|96]).push {cls:=.type "enumerate",data:=.fields #[.none,.bool false,.ref f.heap.objs.size,rawInt 0,.none,.none]}) f.heap.objs.size a 0:=
    %[_,bX _ (cb _ rfl),rfl|rfl];exact%[%[_,A|rfl]|M9 (Q4 X.prog X.w X.K) z A K (λ b o e=>bX _ (bX _ e)) %[T,_,S1,w,x,r|vp _ λ Y y j=>%[R,(m.conv j).sq|P.conv j]]]
 | _=>exact w.elim
end
variable{Ω:Wd}
def aeR(hm:Ω.mg "enumerate"=none)(a:Ex Ω):Itb Ω where
 lev:=a.lev
 chk h N l o e:=zN o&&cX e λ y n=>dX n λ b=>(y==("enumerate":Str))&&(glb l "enumerate"&&(okE b&&a.chk h N l b))
 wp q S W:=a.wp q S λ d m=>match d with | .lst ds=>W (ds.mapIdx λ i d=>.tup [.int i,d]) m | .tup ds=>W (ds.mapIdx λ i d=>.tup [.int i,d]) m | _=>False
 sound:=by intro X r h N l o e q S W A x j z;refine an2 j λ s c=>?_;obtain⟨D,k,C,rfl⟩:=nR s;refine bB c λ y p n B f=>?_;refine dq f λ b g=>?_;have j:=g;{refine an4 j λ t u v w=>?_;have e:=ZU t;subst e;exact Z1 (a.sound A x w z) %[|76] (A.glb u) (aX v [] _)}
def ae6(hm:Ω.mg "zip"=none)(a b:Ex Ω):Itb Ω where
 lev:=%[|52]
 chk c N j u e:=zN u&&cX e λ y i=>two2 i λ l r=>(y==("zip":Str))&&(glb j "zip"&&((okE l&&okE r)&&(a.chk c N j l&&b.chk c N j r)))
 wp o S W:=a.wp o S λ d s=>b.wp o s λ m t=>match d,m with | .tup ds,.tup i=>W (List.zipWith (λ x y=>.tup [x,y]) ds i) t | _,_=>False
 sound:=by intro X r c N j u e o S W A H n I;obtain⟨J,K⟩:=lv2 H;refine an2 n λ v f=>?_;obtain⟨Q,k,P,rfl⟩:=nR v;refine bB f λ y p i L g=>?_;refine two2_ind g λ M O h=>?_;have n:=h;{refine an4 n λ w z B C=>?_;refine an2 B λ D E=>?_;refine an2 C λ F G=>?_;have e:=ZU w;subst e;refine Vr ((a.sound A J F I).mono λ d s q=>(b.sound A K G q).mono λ m t q=>?_) %[|76] (A.glb z) (aX D _ _) (aX E [] _);cases d<;>first | exact q.elim | (cases m<;>first | exact%[_,_,rfl,rfl|q] | exact q.elim)}
end RF
namespace RF
def ff{P:Prop}(h:false=true):P:=(y6 h).elim
def tf{P:Prop}(h:true=false):P:=(y6 h.symm).elim
open PySem PySem.Spec L2 DL
open PyProof.Rows
abbrev Cal(Ω:Wd)(x:Str)(k n:Nat)(F:Ct):Prop:=Callee Ω.P Ω.w Ω.K Ω.mg Ω.base x k n F
abbrev Ok(Ω:Wd)(k:Nat)(f:Addr)(fd:FuncData)(ps:af7)(F:Ct):Prop:=FnOk Ω.P Ω.w Ω.K Ω.mg Ω.base CX0 k f fd ps (spC Ω.K ps.length F)
def yO:Ct:=λ c S W=>∃a,c=[.lst (List.map .int a)]/\a.length<=63/\(∀b,W (.bl true) b)/\S=[]
def abq{K}{ns:af1}(f:ns.length<=63)(c:SqL K H a (ns.map V.int)):spC K 1 yO [.ref a] H (λ v _=>v=.bl true) E:=by refine%[%[[]|[]],[.lst (ns.map .int)],[],λ d _=>d=.bl true,rfl,.cons (.lst (xs:=ns.map V.int) ?_ (aeG ns)) .nil,?_,%[ns,rfl,f,λ _=>rfl|rfl]|λ v g q=>?_];{rcases c with h | h;{exact .inl ⟨λ z=>by rcases z with z | z<;>exact absurd (show a∈([]:List Addr)from z) (by simp),h⟩};{exact .inr (.inr h)}};{exact%[g9,rfl,λ k a b e=>by simp at e,λ k a b e=>by simp at e,λ a h=>absurd (show a∈([]:List Addr)from h) (by simp)|λ a h=>absurd (show a∈([]:List Addr)from h) (by simp)]};{obtain⟨i,d,j,w,_,_,r⟩:=q;subst w;cases r;rfl}
def walk{l:PySem.W.OpenLaw}{K:Params->PySem.W.Frag}(o:l.most=some 63)(c:d.params.defaults=[])(p:Room lev callerA)
 (j:∀(w:World)(h:Heap),e w h->(K w.params).In h)
 (F:∀(w:World)(mg:af8)(fa:Addr)(h:Heap),(K w.params).In h->h.Ns mainGlobals mg->mg d.name=some (.ref fa)->
  ∃fd:FuncData,(∀(s:af3)(u:Value),BindsTo s fd %[[u]|[]] [(x,u)])/\∀base:Heap,(K w.params).In base->base.Ns mainGlobals mg->FnOk l.prog w (K w.params) mg base CX0 lev fa fd [x] (spC (K w.params) 1 yO)):
 PySem.W.WalkO q b g e l.row.toRowW d [] (λ f vs=>PySem.call f vs):=
 L2.walk_of (n:=63) (k:=lev) (x:=x) (CX:=λ _=>CX0) (sp:=λ w=>spC (K w.params) 1 yO) o %[|1] c p j F (λ _ _ a r m _ i=>abq m i) λ _ _ _ _ _ z=>z
def Tg.mono{t:Tg}(h:t.wp d b W)(k:∀G,W G->a G):t.wp d b a:=by
 cases t with
 | nm i=>exact k _ h
 | tup e=>
   cases d with
   | tup c=>exact%[h.1|k _ h.2]
   | _=>exact h.elim
section
variable{Ω:Wd}{cap:List (Option Nat)}{Γ:Gam}{elt:Ex Ω}{tg:Tg}{cd:Cd Ω}{W:WD}{ds:List D}{S1:Store}
def fC(f:D->D)(hz:ds.length<=1000000)(h:∀(i:Nat)(d:D),%[|25]->∀Q:WD,Q (f d) S1->tg.wp d (capt cap Γ) λ Γ2=>elt.wp Γ2 S1 Q)(w:W (.lst (ds.map f)) S1):pH cap Γ elt tg (aem (Ω:=Ω)) W ds S1:=by refine f9 %[hz,λ i a b=>a=(ds.take i).map f/\b=S1,%[rfl|rfl],?_|?_];{rintro i d a b c ⟨rfl,rfl⟩;refine Tg.mono (h i d c (λ y e=>(ds.take i).map f++[y]=(ds.take (i+1)).map f/\e=b) %[?_|rfl]) λ G q=>%[λ _=>q|λ z=>tf z];rw[aD c,da];rfl};{rintro a b ⟨rfl,rfl⟩;rw[cy];exact w}
def ac7(p:D->Bool)(f:D->D)(hz:ds.length<=1000000)(h:∀(i:Nat)(d:D),%[|25]->∀(Q:WD)(j:%[|7]),(p d=true->Q (f d) S1)->(p d=false->j S1)->tg.wp d (capt cap Γ) λ Γ2=>cd.wp Γ2 S1 λ ok S3=>(ok=true->elt.wp Γ2 S3 Q)/\(ok=false->j S3))
 (w:W (.lst ((ds.filter p).map f)) S1):pH cap Γ elt tg cd W ds S1:=by refine f9 %[hz,λ i a b=>a=((ds.take i).filter p).map f/\b=S1,%[rfl|rfl],?_|?_];{rintro i d a b e ⟨rfl,rfl⟩;refine h i d e (λ y c=>((ds.take i).filter p).map f++[y]=((ds.take (i+1)).filter p).map f/\c=b) (λ c=>((ds.take i).filter p).map f=((ds.take (i+1)).filter p).map f/\c=b) (λ g=>%[?_|rfl]) (λ g=>%[?_|rfl]);{rw[aD e,mI];simp[g]};{rw[aD e,mI];simp[g]}};{rintro a b ⟨rfl,rfl⟩;rw[cy];exact w}
def sV(P:Nat->D->Prop)(Q:%[|7])(hz:ds.length<=1000000)(m:Q S1)(h:∀(i:Nat)(d:D)(S':Store),%[|25]->Q S'->∀R:WD,(∀y S4,P i y->Q S4->R y S4)->tg.wp d (capt cap Γ) λ Γ2=>elt.wp Γ2 S' R)
 (w:∀(ys:List D)(S':Store),ys.length=ds.length->(∀i y,ys[i]? =some y->P i y)->Q S'->W (.lst ys) S'):pH cap Γ elt tg (aem (Ω:=Ω)) W ds S1:=by
 refine f9 %[hz,λ i a S'=>(a.length=i/\∀j y,a[j]? =some y->P j y)/\Q S',%[%[rfl|λ j y e=>by simp at e]|m],?_|λ a S' h=>w a S' h.1.1 h.1.2 h.2];rintro i d a S' f ⟨⟨k,c⟩,q⟩;refine Tg.mono (h i d S' f q (λ y S4=>((a++[y]).length=i+1/\∀j b,(a++[y])[j]? =some b->P j b)/\Q S4) λ y S4 l n=>%[%[by simp[k]|λ j b e=>?_]|n]) λ G q=>%[λ _=>q|λ z=>tf z];by_cases g:j<a.length;{rw[x9 g]at e;exact c j b e}
 . rw[dt %[|0]]at e;have:j-a.length=0:=by have:=(z0.mp e).1;simp at this;omega
   rw[this]at e;simp at e;subst e;have:j=i:=%[|0]
   rw[this];exact l
end
def bT(h:A):(true=true->A)/\(true=false->B):=%[λ _=>h|λ z=>tf z]
def bF(h:B):(false=true->A)/\(false=false->B):=%[λ z=>ff z|λ _=>h]
def dT(h:B):(true=false->A)/\(true=true->B):=%[λ z=>tf z|λ _=>h]
variable{K:PySem.W.Frag}{O O':Own}{H:Hp}{ds:List D}{W:WD}{S:Store}{i:Int}
def fD(h:∀a,¬O.has a->¬O'.has a)(n:aB d=true)(r:%[|33]):Rep K O' H v d:=
 Rep.rec (motive_1:=λ v d _=>aB d=true->Rep K O' H v d) (motive_2:=λ g f _=>aa f=true->Reps K O' H g f) (λ _=>.non) (λ b _=>.bl b) (λ i _=>.int i) (λ x _=>.str x) (λ h1 _ c n=>.tup %[h _ h1.1|h1.2] (c n)) (λ h1 _ c n=>.lst (h1.imp (λ q=>%[h _ q.1|q.2]) id) (c n)) (λ _ n=>by cases n) (λ _ _ n=>by cases n) (λ h1 e _=>.dic (h _ h1) e) (λ _=>.nil) (λ _ _ i j n=>.cons (i (bz n).1) (j (bz n).2)) r n
def gR(h:∀a,¬O.has a->¬O'.has a)(n:aa ds=true)(r:Reps K O H b ds):Reps K O' H b ds:=
 r.ind (P:=λ b ds=>aa ds=true->Reps K O' H b ds) (λ _=>.nil) (λ r _ i n=>.cons (fD h (bz n).1 r) (i (bz n).2)) n
def VB(h:∀a,¬O.has a->¬O'.has a)(n:aa ds=true)(r:Kps K O H b ds):Kps K O' H b ds:=by
 revert n
 induction r with
 | nil=>exact λ _=>.nil
 | cons r t c=>intro n;simp only[aa,aB,fk]at n;exact .cons (fD h n.1.2.1 r) (c n.2)
def Im(h:∀a,¬O.has a->¬O'.has a)(n:aa ds=true)(r:Kcs K O H b ds):Kcs K O' H b ds:=by
 revert n
 induction r with
 | nil=>exact λ _=>.nil
 | cons e d f r t c=>intro n;simp only[aa,aB,fk]at n;exact .cons e (fD h n.1.1 d) f (fD h n.1.2.1 r) (c n.2)
def W3(h:∀a,¬O.has a->¬O'.has a)(n:aa ds=true)(r:Kos K O H b ds):Kos K O' H b ds:=by
 revert n
 induction r with
 | nil=>exact λ _=>.nil
 | cons e d r t c=>intro n;simp only[aa,aB,fk]at n;exact .cons e d (fD h n.1.2.1 r) (c n.2)
def vR(h:∀a,¬O.has a->¬O'.has a)(n:aa ds=true)(b:DOb K O H a ds):DOb K O' H a ds:=by
 cases b with
 | t i e r=>exact .t i e (VB h n r)
 | c d z e r=>exact .c d z e (Im h n r)
 | o d z e r=>exact .o d z e (W3 h n r)
 | m d j f e r=>subst f;exact .m d j rfl e (Im h (by simpa[aa,aB]using n) r)
 | p s z b l c y q k e f g=>exact .p s z b l c y q k e f (g.imp id λ⟨g1,x,g2,g3,g4⟩=>%[g1,x,g2,h _ g3|g4])
def flat(S:Store):Prop:=∀l∈S,aa l=true
def lJ(h:a∈adr (A.take n)):a∈adr A:=by obtain⟨x,b,rfl⟩:=c9.mp h;exact c9.mpr %[x,im b|rfl]
def j9{J:List (List D)}(st:Step O O' H l)(ok:StOk K O' l (S'++J))(E:O.A.length<=S'.length)(p:flat S'):
 Step O %[O'.A.take S'.length|O'.B] H l/\StOk K %[O'.A.take S'.length|O'.B] l S'/\(∀b,¬O'.has b->¬(%[O'.A.take S'.length|O'.B]:Own).has b)/\∀j a,S'.length<=j->∀{q:Bool},O'.A[j]? =some (a,q)->¬(%[O'.A.take S'.length|O'.B]:Own).has a:=by
 obtain⟨N,s,t⟩:=st.ext;have o:O'.A.length=S'.length+J.length:=by have:=ok.len;simpa using this
 have e:∀b,¬O'.has b->¬(%[O'.A.take S'.length|O'.B]:Own).has b:=λ b g z=>g (z.imp lJ id);have x:(adr (O'.A.take S'.length)).Nodup:=by show(List.map _ (List.take _ _)).Nodup;rw[pj];exact ok.nd.sublist (kS _ _)
 refine%[%[st.kept,st.dom,%[N.take (S'.length-O.A.length),by show O'.A.take S'.length=_;rw[s,List.take_append,cS %[|0]]|λ b g=>t b (lJ g)]|st.hid],%[x,by simp[o],λ k b f n d=>?_,λ k b f n d=>?_,λ b g=>ok.apart b (lJ g)|ok.hidden],e|λ j a C q r z=>?_];{have h:k<S'.length:=(z0.mp d).1;have c:(O'.A.take S'.length)[k]? =some (b,false):=n;rw[fT,ci h]at c;obtain⟨A,w,y⟩:=ok.obj k b f c (by rw[x9 h];exact d);exact%[A,w|gR e (p f (y4 d)) y]};{have h:k<S'.length:=(z0.mp d).1;have c:(O'.A.take S'.length)[k]? =some (b,true):=n;rw[fT,ci h]at c;exact vR e (p f (y4 d)) (ok.dob k b f c (by rw[x9 h];exact d))};{rcases z with z | z;{obtain⟨⟨B,F⟩,v,rfl⟩:=c9.mp z;obtain⟨i,m⟩:=db v;rw[fT]at m;split at m;{rename_i u;exact za ok.nd m r %[|0] rfl};{cases m}};{exact ok.apart a (dD r) z}}
def Frz(n:Nat)(W:WD):WD:=λ d c=>W d c\/∃b a,d=.loc a.length/\c=a++[b]/\n<=a.length/\aa b=true/\flat a/\W (.lst b) a
def QG.frz(y:O.A.length=n)(q:QG K O H (Frz n W) v g):QG K O H W v g:=by obtain⟨l,d,m,w,k,b,r⟩:=q;rcases w with w | ⟨i,h,rfl,rfl,x,p,o,w⟩;{exact%[l,d,m,w,k,b|r]};{obtain⟨e,c,f,t⟩:=j9 k b %[|0] o;obtain⟨a,rfl,j⟩:=eU r;obtain⟨z,s,u⟩:=b.obj h.length a i j (by simp);exact%[_,.lst i,h,w,e,c|.lst (.inl %[t _ a (y9 _) j|.inl s]) (gR f p u)]}
def ZQ{W}(h:Rns X g S b {W with rt:=Frz S.length W.rt}):Rns X g S b W:=λ a s k H O I c e=>
 thn (h a s k H O I c e) λ f l q=>by
  cases f with
  | next=>exact q
  | brk=>exact q
  | cont=>exact q
  | ret u=>obtain⟨v,d,i,j,r,q⟩:=q;exact%[v,d,i,j,r|QG.frz e.len q]
variable{Ω:Wd}
def Bl.frz(b:Bl Ω):Bl Ω where
 lev:=b.lev
 chk:=b.chk
 wp a S W:=b.wp a S {W with rt:=Frz S.length W.rt}
 sound:=by intro X r g N h f a S W A d c e;exact ZQ (b.sound A d c e)
def hand(W:WD)(ds:List D)(S:Store):Prop:=W (.lst ds) S\/W (.loc S.length) (S++[ds])
def oZ(h:hand W ds S)(b:aa ds=true)(a:flat S):Frz S.length W (.loc S.length) (S++[ds]):=by rcases h with h | h;{exact .inr %[ds,S,rfl,rfl,y9 _,b,a|h]};{exact .inl h}
def U4(h:Ev X j S o λ x S1=>∃k,x=.loc k/\Ev X j S1 e λ d S2=>∃ds,S2[k]? =some ds/\ds.length<1000000/\W .non (S2.set k (ds++[d])))
 (m:attributeBase o "append" X.env (eval o X.env)=eval o X.env)(hs:starEach [e] X.env=[(false,eval e X.env)])(n:(f.endLine==g.line)=true):Ev X j S (.Call (.Attribute o "append" f) [e] [] g) W:=by
 intro b s E H O I c P;have L:∀(p:Own)(x:D)(v:V)(l:Hp)(S1:Store),(∃k,x=.loc k)->StOk X.K p l S1->Rep X.K p l v x->tyV X.K "list" v l:=by
  rintro p x v l S1 ⟨k,rfl⟩ U r;obtain⟨a,rfl,t⟩:=eU r;have hl:k<S1.length:=by rw[<-U.len];exact(z0.mp t).1
  obtain⟨R,M,_⟩:=U.obj k a S1[k] t (y3 hl);exact .inl %[rfl,R|SqL.of M]
 have hA:PA X [e] (λ E H Q=>∃O j S G,EnvOk X.K O H E j/\%[|15]/\Ev X j S e G/\∀v F,QG X.K O H G v F->Q [v] F):=by rintro N b s E H Q I ⟨O,j,S,G,c,P,J,k⟩;rw[hs];show wpAny _ _ (spliced ((false,eval e X.env)::backTo N (starEach [] X.env))) _ _ s;refine f8 (thn (J b s E H O I c P) λ u s1 K=>?_);obtain⟨v,l,Z,r1,q⟩:=K;exact fF %[[v],l,Z,.cons r1 .nil|k v l q]
 refine X4 (T:="list") PySem.F.plainAttrs_list PySem.F.slot_list_append PySem.F.type_list_append Dg (h.pe) hA m (by rw[hs];rfl) n hs rfl b s E H _ I %[O,c,P|λ v F q=>?_];obtain⟨p,x,S1,⟨k,rfl,J⟩,B,y,i⟩:=q;refine%[L p _ v F S1 %[k|rfl] y i,p,j,S1,_,c.mono B,y,J|λ v2 H2 q2=>?_];obtain⟨O2,d,S2,⟨ds,hk,hz,w⟩,C,z,A⟩:=q2;have r:=i.mono C;obtain⟨a,rfl,t⟩:=eU r;obtain⟨R,M,Y⟩:=z.obj k a ds t hk;exact%[a,R,v2,rfl,rfl,M,by rw[Y.length];exact v3 hz %[|1],O2,.non,_,w,(B.trans C).trans (Step.put (dD t) _),z.put t (Y.append (.cons A .nil))|.non]
def nameE:Expr->Bool
 | .Name .. =>true
 | _=>false
def iU(h:nameE x=true):attributeBase x name env (eval x env)=eval x env:=by cases x<;>first | rfl | exact ff h
def aej(o a:Ex Ω):Ex Ω where
 lev:=max o.lev a.lev
 chk b N h e:=zA e λ x m p n q=>dX n λ y=>(m==("append":Str))&&(nameE x&&((p.endLine==q.line)&&(okE y&&(o.chk b N h x&&a.chk b N h y))))
 wp i S W:=o.wp i S λ x j=>onL x λ k=>a.wp i j λ d l=>∃c,l[k]? =some c/\c.length<1000000/\W .non (l.set k (c++[d]))
 sound:=by intro X r b N h e i S W A B f C;obtain⟨D,E⟩:=lv2 B;refine oU f λ x m p n q g=>?_;refine dq g λ y f=>?_;refine an6 f λ s t u v w z=>?_;have e:=ZU s;subst e;refine U4 ((o.sound A D w C).mono λ x j q=>?_) ?_ (aX v [] _) u;{exact ZJ q λ _ q=>%[_,rfl|a.sound A E z q]};{exact iU t}
def Sm.never:Sm Ω where
 lev:=0
 chk _ _ _ st:=match st with | .Raise _ _ _=>true | _=>false
 wp _ _ _:=False
 sound:=λ _ _ _ h=>h.elim
def aH(S:Store)(x:List D):(S++[x])[S.length]? =some x:=by simp
def b8(S:Store)(x y:List D):(S++[x]).set S.length y=S++[y]:=by simp
def bA{b c:Type}{xs:List b}{f}{i:Nat}{e:c}(h:(xs.map f)[i]? =some e):∃x,xs[i]? =some x/\e=f x:=by
 rw[y8]at h
 cases a:xs[i]? with
 | none=>rw[a]at h;cases h
 | some x=>rw[a]at h;cases h;exact%[x,rfl|rfl]
def nO{b c:Type}{xs:List b}{f}{i}{e:c}(h:(xs.mapIdx f)[i]? =some e):∃x,xs[i]? =some x/\e=f i x:=by
 rw[jv]at h
 cases a:xs[i]? with
 | none=>rw[a]at h;cases h
 | some x=>rw[a]at h;cases h;exact%[x,rfl|rfl]
def gU{m:Gam}{j:Type}{xs:List j}{enc}(f:j->D)(hz:xs.length<=1000000)(h:∀(i:Nat)(x:j),xs[i]? =some x->∀Q:WD,Q (f x) b->l.wp (enc x) (capt c m) λ Γ2=>e.wp Γ2 b Q)
 (w:W (.lst (xs.map f)) b):pH c m e l (aem (Ω:=Ω)) W (xs.map enc) b:=by refine f9 %[by rw[y7];exact hz,λ i a g=>a=(xs.take i).map f/\g=b,%[rfl|rfl],?_|?_];{rintro i d a g o ⟨rfl,rfl⟩;obtain⟨x,k,rfl⟩:=bA o;refine Tg.mono (h i x k (λ y n=>(xs.take i).map f++[y]=(xs.take (i+1)).map f/\n=g) %[?_|rfl]) λ G q=>%[λ _=>q|λ z=>tf z];rw[aD k,da];rfl};{rintro a g ⟨rfl,rfl⟩;rw[y7,cy];exact w}
def wM1(h:L2.CMul i j)(p:P):L2.CMul i j/\P:=%[h|p]
def wM2(h:L2.CPow i j)(p:P):L2.CPow i j/\P:=%[h|p]
def wM3(h:0<i/\i<j)(p:P):(0<i/\i<j)/\P:=%[h|p]
def wM4(h:0<i)(p:P):0<i/\P:=%[h|p]
def wM5{a:Type}{l:List a}(h:l.length<=1000000)(p:P):l.length<=1000000/\P:=%[h|p]
def wM6{a b:Type}{l:List a}{k:List b}(h:l.length+k.length<=1000000)(p:P):l.length+k.length<=1000000/\P:=%[h|p]
def wM7{k j:Nat}{Q:List D->Nat->Prop}(h:S[k]? =some ds)(g:L2.ixN ds.length n=some j)(q:Q ds j):∃ds j,S[k]? =some ds/\L2.ixN ds.length n=some j/\Q ds j:=%[ds,j,h,g|q]
def wM8{k:Nat}{Q:List D->D->Prop}(h:S[k]? =some ds)(g:L2.atI ds n=some d)(q:Q ds d):∃ds d,S[k]? =some ds/\L2.atI ds n=some d/\Q ds d:=%[ds,d,h,g|q]
def wM9{Q:D->Prop}(g:L2.atI ds n=some d)(q:Q d):∃d,L2.atI ds n=some d/\Q d:=%[d,g|q]
end RF
namespace RF
open PySem PySem.Spec L2 DL
open PyProof.Rows
section
variable{prog:Program}{w:World}{A:Around}{E:%[|26]}{s:Shared}
def ltF(fin:Bool):List Int->List Int->Bool
 | x::xs,y::ys=>if x=y then ltF fin xs ys else decide (x<y)
 | _,_=>fin
def ltI(xs ys:af1):Bool:=ltF (decide (xs.length<ys.length)) xs ys
def YD(h:Q (decide (a<b)) s):wpAny %[|4] A (oneLt' c (.int a t) (.int b u)) Q E s:=by
 cases c with
 | true=>exact oneLt_int h
 | false=>exact PySem.W.kat_one _ _ (wpAny_lt_int h)
def gZ(h:Heap)(v:Value)(ns:af1):Prop:=∃b o a k,v=.ref b/\%[|43]/\o.cls=%[|9]/\o.data=.seq a k/\IntsAre a.toList ns
end
def zL(k:Nat)(ds:List D):Option D->Option D
 | some (.loc j)=>if j=k then some (.lst ds)else some (.loc j)
 | o=>o
def atTop(Γ:Gam):Prop:=∀(i:Nat)(d:D),Γ[i]? =some (some d)->aB d=true\/∃j,d=.loc j
def abU(n:Nat)(W:Gam->%[|7]):Gam->%[|7]:=λ c d=>W c d\/∃b a,d=a++[b]/\n<=a.length/\aa b=true/\flat a/\atTop c/\W (c.map (zL a.length b)) a
def QN.frz{K}(P:O.A.length=n)(q:QN K O H (abU n W) σ u):QN K O H W σ u:=by
 obtain⟨b,C,D,w,B,m,r⟩:=q;rcases w with w | ⟨x,c,rfl,N,F,E,G,w⟩;{exact%[b,C,D,w,B,m|r]}
 . obtain ⟨t,s,g,L⟩:=j9 B m %[|0] E;have J:b.A.length=c.length+1:=by have:=m.len;simpa using this
   refine%[%[b.A.take c.length|b.B],_,c,w,t,s|%[by rw[y7];exact r.len|λ i d e=>?_]]
   . rw [y8] at e
     cases k:C[i]? with
     | none=>rw[k]at e;cases e
     | some o=>
       rw[k]at e
       cases o with
       | none=>cases e
       | some h=>
         obtain⟨v,p,A⟩:=r.at_ i h k;rcases G i h k with z | ⟨j,rfl⟩
         . have f:h=d:=by
            cases h with
            | loc j=>simp[aB]at z
            | _=>simpa[zL]using e
           subst f;exact%[v,p|fD g z A]
         . obtain⟨a,rfl,l⟩:=eU A;by_cases y:j=c.length
           . subst y;have f:d=.lst x:=by simpa[zL]using e.symm
             subst f;obtain⟨Q,I,M⟩:=m.obj c.length a x l (by simp);exact%[_,p|.lst (.inl %[L _ a (y9 _) l|.inl I]) (gR g F M)]
           . have f:d=.loc j:=by simpa[zL,y]using e.symm
             subst f;refine%[_,p|.loc ?_];have:j<b.A.length:=(z0.mp l).1;show(b.A.take c.length)[j]? =some (a,false);rw[fT,ci %[|0]];exact l
section
variable{Ω:Wd}
def afd(b:Bl Ω):Bl Ω where
 lev:=b.lev
 chk:=b.chk
 wp g S W:=b.wp g S {W with nx:=abU S.length W.nx}
 sound:=by
  intro X r m N n l g S W A j i k a s d H O I c e;refine thn (b.sound A j i k a s d H O I c e) λ f o q=>?_
  cases f with
  | next=>obtain⟨d,h,I,q⟩:=q;exact%[d,h,I|QN.frz e.len q]
  | brk=>exact q
  | cont=>exact q
  | ret u=>exact q
end
def QK{K}{k:Nat}(h:O.A[k]? =some (a,false)):nM K (Itl K a) O H (λ S=>S[k]? =some ds) ds:=by intro l g w u s n i;have m:l.A[k]? =some (a,false):=u.lc k _ h;obtain⟨b,q,r⟩:=s.obj k a ds m n;have c:SqL K g a b:=SqL.of q;refine%[λ d o=>?_|λ p=>%[b,c|by rw[r.length];exact mA p.symm]];obtain⟨v,f,t⟩:=r.get o;refine%[%[b,v,c|f]|λ x j y=>?_];obtain⟨e,y⟩:=y;subst e;have e:=y b c;rw[f]at e;cases e;exact%[fB.refl _|t]
abbrev itC(W:List D->%[|7]->%[|7]):WD:=λ d b=>match d with
 | .lst a=>W a (λ _=>True) b
 | .tup a=>W a (λ _=>True) b
 | .loc k=>∃a,b[k]? =some a/\W a (λ S=>S[k]? =some a) b
 | _=>False
def aaZ(h:Ev X G S e (itC W)):ItC X G S M e W:=by
 intro n s N H O I y L;refine thn (h n s N H O I y L) λ u s1 z=>?_;obtain⟨v,r,c,A,t,d,x,w,j,f,B⟩:=z
 cases B with
 | @lst a F l g q=>
   cases A;obtain⟨i,E,p,C⟩:=c.list g.sq;refine kf p.isList ?_;refine%[s1.heap.objs.size,[s1.heap.objs.size],_,_,r,rfl,c.kept (t':=s1.toks) λ b o e=>bX _ e,qT a _,%[|73],λ b m=>?_,t,l,_,x,w,j,f|wu (vQ g q)];have e:b=s1.heap.objs.size:=by simpa using m
   subst e;exact c.fpOk (y9 _) (c.hok.fresh (y9 _))
 | @tup a F l g q=>
   cases A;obtain⟨i,E,p,C⟩:=c.tuple g.sq;refine i8 (show s1.heap.IsTuple a i.toArray from p) ?_;refine%[s1.heap.objs.size,[s1.heap.objs.size],_,_,r,rfl,c.kept (t':=s1.toks) λ b o e=>bX _ e,yg a _,%[|73],λ b m=>?_,t,l,_,x,w,j,f|wu (xq g q)];have e:b=s1.heap.objs.size:=by simpa using m
   subst e;exact c.fpOk (y9 _) (c.hok.fresh (y9 _))
 | @loc a k g=>
   cases A;obtain⟨l,J,w⟩:=w;obtain⟨F,K,q⟩:=f.obj k a l g J;obtain⟨i,E,p,C⟩:=c.list (SqL.of K);refine kf p.isList ?_;refine%[s1.heap.objs.size,[s1.heap.objs.size],_,_,r,rfl,c.kept (t':=s1.toks) λ b o e=>bX _ e,qT a _,%[|73],λ b m=>?_,t,l,_,x,w,j,f|QK g];have e:b=s1.heap.objs.size:=by simpa using m
   subst e;exact c.fpOk (y9 _) (c.hok.fresh (y9 _))
 | _=>exact w.elim
def Kh(h:ItC X n S N iter λ ds C S1=>∃Pv:%[|53],Pv 0 n S1/\(∀i Γ' S',Pv i Γ' S'->C S')/\
 (∀i d Γ' S',%[|25]->Pv i Γ' S'->BdW X N d Γ' S' λ Γ2 S2=>Rns X Γ2 S2 j %[|93])/\(∀Γ' S',Pv ds.length Γ' S'->W.nx Γ' S'))
 (hp:PassesOwn %[|5] X.A X.env X.xe)(hc:%[|32])(hs:∀x,foldedSetIterable iter X.env x=pure x):Rn X n S (.For N iter j [] ac) W:=by
 intro g s o H O I l ok;let WI:List D->%[|7]->%[|7]:=λ ds C S1=>∃Pv:%[|53],Pv 0 n S1/\(∀i Γ' S',Pv i Γ' S'->C S')/\
     (∀i d Γ' S',%[|25]->Pv i Γ' S'->BdW X N d Γ' S' λ Γ2 S2=>Rns X Γ2 S2 j %[|93])/\(∀Γ' S',Pv ds.length Γ' S'->W.nx Γ' S');have hI:PI X N iter (λ o H R=>∃O,EnvOk X.K O H o n/\%[|15]/\∀J c,QIc X.K O H WI J c->R J c):=λ g s o H R I U=>by obtain⟨O,l,V,k⟩:=U;refine thn (h g s o H O I l V) λ _ _ q=>thn q λ _ _ q2=>?_;obtain⟨it,fp,tn,J,c,e1,e2,e3,e4,e5,e6⟩:=q2;exact%[it,fp,tn,J,c,e1,e2,e3,e4,e5|k J c e6]
 have hG:PG X N (λ v o H Q=>∃O d n S t,EnvOk X.K O H o n/\%[|15]/\Rep X.K O H v d/\BdW X N d n S t/\∀a c,QN X.K O H t a c->Q a c):=λ g s o H v u Q I ru U=>by obtain⟨O,d,n,S,t,l,V,r,b,k⟩:=U;refine thn (b g s o H O v u I l V r ru) λ _ _ q2=>?_;obtain⟨a,c,w,q⟩:=q2;exact%[a,c,w|k a c q]
 have hB:PSs X j (λ D o H=>∃O n S t,EnvOk X.K O H o n/\%[|15]/\Rns X n S j t/\(∀a c,QN X.K O H t.nx a c->D.nx a c)/\(∀v c,QG X.K O H t.rt v c->D.rt v c)/\(∀a c,QN X.K O H t.bk a c->D.bk a c)/\∀a c,QN X.K O H t.ct a c->D.ct a c):=
  λ g s o H D I U=>by
   obtain⟨O,n,S,t,l,V,b,k1,k2,k3,k4⟩:=U;refine thn (b g s o H O I l V) λ f s' q=>?_
   cases f with
   | next=>obtain⟨a,c,w,q⟩:=q;exact%[a,c,w|k1 a c q]
   | brk=>obtain⟨a,c,w,q⟩:=q;exact%[a,c,w|k3 a c q]
   | cont=>obtain⟨a,c,w,q⟩:=q;exact%[a,c,w|k4 a c q]
   | ret u=>obtain⟨v,a,c,w,r,q⟩:=q;exact%[v,a,c,w,r|k2 v c q]
 refine Tq hp hc hI hG hB hs g s o H _ I %[O,l,ok|λ J H1 q=>?_];obtain⟨Z,ds,C,S1,⟨Pv,p0,pC,pt,pe⟩,A,aa,yl⟩:=q;refine%[λ i m a c=>m=ds.length-i/\i<=ds.length/\∃F Γ' S',Pv i Γ' S'/\Step Z F H1 c/\StOk X.K F c S'/\EnvOk X.K F c a Γ',%[ds.length,by simp,dk _,Z,n,S1,p0,Step.refl _ _,aa|l.mono A]|?_];rintro i m ag H2 ⟨rfl,hi,O2,Γ2,S2,p2,L,G,E⟩;obtain⟨y1,y2⟩:=yl O2 H2 S2 L.conv G (pC _ _ _ p2) i;by_cases z:i<ds.length;{obtain⟨go,yy⟩:=y1 ds[i] (y3 z);refine .inr %[go,λ a c=>i+1<=ds.length/\∃F Γ' S',Pv (i+1) Γ' S'/\Step Z F H1 c/\StOk X.K F c S'/\EnvOk X.K F c a Γ',λ a c q=>%[ds.length-(i+1),%[|0],rfl,q.1|q.2]|λ x H3 y=>?_];obtain⟨sm,rx⟩:=yy x H3 y;have Y:=Step.same (O:=O2) sm;refine%[O2,ds[i],Γ2,S2,_,E.mono Y,G.same sm,rx,pt i ds[i] Γ2 S2 (y3 z) p2|λ ah H4 q4=>?_];obtain⟨O4,ae,S4,w4,ad,ab,T⟩:=q4;have B:=(L.trans Y).trans ad;refine%[O4,ae,S4,_,T,ab,w4,?_,?_,?_|?_];{rintro af H5 ⟨O5,P,S5,w5,M,K,p⟩;exact%[z,O5,P,S5,w5,B.trans M,K|p]};{exact λ v c q=>QG.pre (A.trans B) q};{exact λ a c q=>QN.pre (A.trans B) q};{rintro af H5 ⟨O5,P,S5,w5,M,K,p⟩;exact%[z,O5,P,S5,w5,B.trans M,K|p]}}
 . have e:i=ds.length:=%[|0]
   subst e;exact .inl %[y2 rfl,O2,Γ2,S2,pe Γ2 S2 p2,A.trans L,G|E]
section
variable{Ω:Wd}
@[irreducible] noncomputable def abS(Γ:Gam)(tg:Tg)(body:Bl Ω)(W:DL.Fin)(k:Nat)(ds:List D)(S1:Store):Prop:=
  ∃c:%[|53],c 0 Γ S1/\(∀i a b,c i a b->b[k]? =some ds)/\(∀i d a b,%[|25]->c i a b->tg.wp d a λ e=>body.wp e b {W with nx:=c (i+1),ct:=c (i+1),bk:=W.nx})/\(∀a b,c ds.length a b->W.nx a b)
def aev(tg:Tg)(it:Ex Ω)(body:Bl Ω):Sm Ω where
 lev:=max it.lev body.lev
 chk h N u w:=frB w λ t i b=>okE i&&(tg.chk h N u t&&(it.chk h N u i&&body.chk h N u b))
 wp n S W:=it.wp n S λ d l=>match d with
  | .lst a=>lH n tg body W a l
  | .tup a=>lH n tg body W a l
  | .loc k=>∃a,l[k]? =some a/\abS n tg body W k a l
  | _=>False
 sound:=by
  intro X r h N u w n S W A F v H;obtain⟨I,J⟩:=lv2 F;refine uE v λ t i b L v=>?_
  . refine an4 v λ x y z B=>?_;have g:∀(c:%[|53])(a:List D),(∀i d e j,a[i]? =some d->c i e j->tg.wp d e λ f=>body.wp f j {W with nx:=c (i+1),ct:=c (i+1),bk:=W.nx})->∀i d e j,a[i]? =some d->c i e j->BdW X t d e j λ f s=>Rns X f s b {W with nx:=c (i+1),ct:=c (i+1),bk:=W.nx}:=
     λ c a m i d e j C G=>BdW.mono (Tg.sound A (W:=λ f s=>body.wp f s {W with nx:=c (i+1),ct:=c (i+1),bk:=W.nx}) y (m i d e j C G)) λ f s q=>body.sound A J B q;refine Kh (aaZ (Ev.mono (it.sound A I z H) λ d l q=>?_)) (by rw[A.xe];exact ml) A.calm (ul x _)
    cases d with
    | lst a=>have q:lH n tg body W a l:=q;unfold lH at q;obtain⟨c,o,m,p⟩:=q;exact%[c,o,λ _ _ _ _=>trivial,g c a m|p]
    | tup a=>have q:lH n tg body W a l:=q;unfold lH at q;obtain⟨c,o,m,p⟩:=q;exact%[c,o,λ _ _ _ _=>trivial,g c a m|p]
    | loc k=>obtain⟨a,E,q⟩:=q;unfold abS at q;obtain⟨c,o,K,m,p⟩:=q;exact%[a,E,c,o,K,g c a m|p]
    | _=>exact(show False from q).elim
end
def aap{m:Gam}{g}{j:Type}{xs:List j}{enc}(f:j->D)(hz:xs.length<=1000000)(o:C0 b)(h:∀(i:Nat)(x:j),xs[i]? =some x->∀Q:WD,Q (f x) b->l.wp (enc x) (capt e m) λ Γ2=>g.wp Γ2 b Q)
 (w:W (.lst (xs.map f)) b\/W (.loc b.length) (b++[xs.map f])):uA e m g l (aem (Ω:=Ω)) W (xs.map enc) C0 b:=by refine Gx %[by rw[y7];exact hz,λ i a c=>a=(xs.take i).map f/\c=b,%[rfl|rfl],λ i a c q=>by rw[q.2];exact o,?_|?_];{rintro i d a c p ⟨rfl,rfl⟩;obtain⟨x,k,rfl⟩:=bA p;refine Tg.mono (h i x k (λ y n=>(xs.take i).map f++[y]=(xs.take (i+1)).map f/\n=c) %[?_|rfl]) λ G q=>%[λ _=>q|λ z=>tf z];rw[aD k,da];rfl};{rintro a c ⟨rfl,rfl⟩;rw[y7,cy];exact w}
variable{ds:List D}
def mF(S:Store):D->Option (List D)
 | .lst ds=>some ds
 | .loc k=>S[k]?
 | _=>none
def putL(own:Bool)(W:WD)(ds:List D)(S:Store):Prop:=match own with
 | true=>W (.loc S.length) (S++[ds])
 | false=>W (.lst ds) S
section
variable{X:Cx}{S:Store}{W:WD}
def Ga{pins:Pins}{s:af3}{σ:DL.St}(st:%[|15])(r:Rep X.K O H v d)(h:mF S d=some ds):∃a xs,v=.ref a/\SqL X.K H a xs/\Reps X.K O H xs ds:=by
 cases r with
 | @lst a xs _ b c=>cases h;exact%[a,xs,rfl,b.sq|c]
 | @loc a k b=>obtain⟨xs,e,c⟩:=st.obj k a ds b h;exact%[a,xs,rfl,SqL.of e|c]
 | _=>cases h
def R0{K}(w:putL a W ds S)(st:%[|37])(h:H p=none)(r:%[|58]):QG K O H W (.ref p) (upd H p (.lst xs)):=by
 cases a with
 | true=>exact JP w st h r
 | false=>exact j8 w st h r
def acy(N:mF S x=some ds)(P:mF S y=some es)(hz:ds.length+es.length<=1000000)(w:putL j W (ds++es) S):gq X .Add x y S W:=by
 intro pins s σ H O v w' u u' I o U V Y Z;obtain⟨a,xs,rfl,K,k⟩:=Ga (pins:=pins) (s:=s) (σ:=σ) o U N;obtain⟨b,ys,rfl,L,l⟩:=Ga (pins:=pins) (s:=s) (σ:=σ) o V P;cases Y;cases Z;obtain⟨d,C,R,_⟩:=I.list K;obtain⟨c,E,T,_⟩:=I.list L;obtain⟨⟨F,G,q,sl⟩,n,B,r,M,t⟩:=id R;obtain⟨⟨p,i,h,m⟩,Q,g,e,A,f⟩:=id T;simp only at r t e f;subst r t e f;have z:d.length+c.length<=sizeLine:=by rw[<-C.length,<-E.length,k.length,l.length];exact small hz
 refine oq %[_,B|rfl] %[_,g|rfl] noFill_list_add seq_list_add PySem.F.slot_list_add PySem.F.entry_list_add (PySem.F.args_list_add_2 _ _)
  (list_addW a b d.toArray c.toArray n Q G i sl m (by simpa using z)) %[B,g|?_];have J:d.toArray++c.toArray=(d++c).toArray:=by simp
 rw[J];exact%[%[|8],_,I.lnew (t':=s.toks) (C.append E) (by rw[x8,k.length,l.length];exact small hz),rfl|R0 w o I.fresh (k.append l)]
def acg(J:mF S x=some ds)(V: -(2 ^ 63)<=k/\k<2 ^ 63)(hz:ds.length*k.toNat<=1000000)(w:putL d W (List.replicate k.toNat ds).flatten S):gq X .Mult x (.int k) S W:=by
 intro pins s σ H O v w' u Z I q M N P Q;obtain⟨a,xs,rfl,E,f⟩:=Ga (pins:=pins) (s:=s) (σ:=σ) q M J;cases N;cases P;obtain⟨t,rfl⟩:=Q;obtain⟨b,r,L,_⟩:=I.list E;obtain⟨⟨A,j,i,p⟩,n,c,l,G,o⟩:=id L;simp only at l o;subst l o;have K:b.length=ds.length:=by rw[<-r.length,f.length]
 have y:b.length*k.toNat<=1000000:=by rw[K];exact hz
 have Y:(1000000:Nat)<=sizeLine:=%[|1]
 refine oi (T:="list") (U:="int") %[|1] %[_,c|rfl] (λ R=>typeIs_int R k t) PySem.noFill_list_mul F.fills_int_mul oB PySem.repeat_list F.slot_int_index.lookup
  (kN oB (typeIs_int s k t) F.entry_int_rmul (F.args_int_rmul_2 _ _) (PySem.lm_int_rmul_list_any k t a b.toArray n j p) %[c,rfl,%[_,c|rfl]|?_]);refine kN F.slot_list_mul %[_,c|rfl] F.entry_list_mul (F.args_list_mul_2 _ _) (PySem.lm_list_mul_any a b.toArray n j p k t ?_ ?_ ?_) %[c|?_]
 . have z:Builtin.List.listFitsIndex k=true:=by unfold Builtin.List.listFitsIndex;rw[cc %[|0],cc %[|0]];rfl
   rw[z];decide
 {rw[x5];omega};{rw[x5];unfold Builtin.List.listTooLong;rw[hV];omega}
 . have B:(List.replicate (if b.toArray.isEmpty=true then 0 else k.toNat) b.toArray).foldl (λ g h=>g++h) #[]=(List.replicate k.toNat b).flatten.toArray:=by
    have C:∀m:Nat,(List.replicate m b.toArray).foldl (λ g h=>g++h) #[]=(List.replicate m b).flatten.toArray:=λ m=>by have:=foldl_rep b m [];rw[List.nil_append]at this;exact this
    rw[C];by_cases e:b=[];{subst e;simp}
    . have:b.toArray.isEmpty=false:=by simpa using e
      rw[this];rfl
   rw[B];exact%[%[|8],_,I.lnew (t':=s.toks) (r.rep _) (by rw[len_rep,f.length,mE];exact small hz),rfl|R0 w q I.fresh (Reps.rep f _)]
def abR{ns:af1}(w:W (.int ns.sum) S)(p:%[|32]):fQ X (.builtin "sum") [.tup (ns.map .int)] S W:=by
 intro l s Q H O N M I E r C;obtain⟨v,rfl,B⟩:=d8 r;obtain⟨u,rfl,i⟩:=vals1 C;obtain⟨a,P,rfl,n,y⟩:=dz B;cases i;obtain⟨g,D,x,J⟩:=I.tuple n.sq;have m:=y.ints;subst m;have k:IntsAre g ns:=intsAre_of D;obtain⟨c,j⟩:=k.allInts.items;have h:s.heap.IsTuple a g.toArray:=x;rw[j]at h;have f:a<s.heap.objs.size:=by obtain⟨_,e,_⟩:=h;exact ca e
 refine call_sum_walkG (i8 h ?_);refine%[_,_,_,_,_,_,numAt c,rfl,Walks.tuple (A:=X.A.in1) (I.ok.hd p) _ a (cr f) (intItems c),%[%[|73]|h.push _],(λ b d=>?_),(λ _ _=>intItems_at)|λ G L K t=>?_];{show b<(s.heap.push _).objs.size;rw[gc];rcases cK.mp d with rfl | d;{exact iL _};{rcases cK.mp d with rfl | d;{exact hH f};{cases d}}}
 . have e:preSum (numAt c) (intItems c).size=ns.sum:=by rw[show(intItems c).size=c.size by simp[intItems],preSum_eq,cS (by simp),<-nums_intItems,<-j];exact eC List.sum k.numsOf
   rw[e];refine%[.int _,H,I.kept (λ b o q=>t b o (λ z=>?_) (bX _ q)),%[_|rfl]|Ac w E (.int _)];have F:b=s.heap.objs.size:=by simpa using z
   exact absurd (ca q) (by rw[F];exact ic _)
end
def xT:Bf where
 x:="sum"
 id:="sum"
 boot:=%[|11]
 wp a S W:=match a with
  | [.lst a]=>∃b:List Int,a=b.map .int/\W (.int b.sum) S
  | [.tup a]=>∃b:List Int,a=b.map .int/\W (.int b.sum) S
  | _=>False
 sound:=by intro X a S W c e h;split at h;{obtain⟨d,rfl,h⟩:=h;exact acP h c};{obtain⟨d,rfl,h⟩:=h;exact abR h c};{exact h.elim}
def JG(own:Bool)(op:Operator)(x y:D)(S:Store)(W:WD):Prop:=match op with
 | .Add=>∃a b,mF S x=some a/\mF S y=some b/\a.length+b.length<=1000000/\putL own W (a++b) S
 | .Mult=>∃a k,mF S x=some a/\y=.int k/\(-(2 ^ 63)<=k/\k<2 ^ 63)/\a.length*k.toNat<=1000000/\putL own W (List.replicate k.toNat a).flatten S
 | _=>False
def TX(h:JG d op x y S W):gq X op x y S W:=by unfold JG at h;split at h;{obtain⟨e,i,a,f,b,c⟩:=h;exact acy a f b c};{obtain⟨e,k,a,rfl,b,c,g⟩:=h;exact acg a b c g};{exact h.elim}
section
variable{Ω:Wd}
def aez(own:Bool)(op:Operator)(a b:Ex Ω):Ex Ω where
 lev:=%[|52]
 chk c N d e:=match e with | .BinOp l o r _=>(o==op)&&(a.chk c N d l&&b.chk c N d r) | _=>false
 wp f S W:=a.wp f S λ x g=>b.wp f g λ y h=>JG own op x y h W
 sound:=by
  intro X r c N d e f S W A n i p;obtain⟨s,t⟩:=lv2 n
  cases e with
  | BinOp l o v u=>refine an3 i λ j k m=>?_;have e:o=op:=ZU j;subst e;exact xU ((a.sound A s k p).mono λ x g q=>(b.sound A t m q).mono λ y h q=>TX q)
  | _=>exact fE i
def aeP(a b:Ex Ω):Ex Ω where
 lev:=%[|52]
 chk c N f e:=match e with | .BinOp l o r _=>(o==.FloorDiv)&&(a.chk c N f l&&b.chk c N f r) | _=>false
 wp h S W:=a.wp h S λ x k=>b.wp h k λ y m=>match x,y with
  | .int i,.int j=>(0<j/\j<1000000000000000000000000000000000000000000000000000000000000)/\W (.int (i/j)) m
  | _,_=>False
 sound:=by
  intro X r c N f e h S W A s hc t;obtain⟨u,v⟩:=lv2 s
  cases e with
  | BinOp l o z w=>
    refine an3 hc λ n p d=>?_;have e:o=.FloorDiv:=ZU n;subst e;refine xU ((a.sound A u p t).mono λ x k q=>(b.sound A v d q).mono λ y m q=>?_);split at q
    . rename_i i j;refine jQ (C:=λ _ j=>0<j/\j<1000000000000000000000000000000000000000000000000000000000000) (g:=λ i j=>i/j) (opI λ i j _ _ _ _ _ hc q=>?_) q.1 q.2;have n:(0:Int)<j:=hc.1;have p:j<1000000000000000000000000000000000000000000000000000000000000:=hc.2;refine floordiv_int %[|0] (by rw[Int.fdiv_eq_ediv_of_nonneg i %[|0]];exact q) (.inl (PyProof.noPylong_of_log2 ?_));have d:j.natAbs<2 ^ 200:=%[|0]
      have:j.natAbs.log2<200:=(Nat.log2_lt %[|0]).mpr d;omega
    {exact q.elim}
  | _=>exact fE hc
end
end RF
namespace RF
open PySem PySem.Spec L2 DL
open PyProof.Rows
def mL(n:Nat)(J:List (List D)):Option D->Option D
 | some (.loc j)=>if j<n then some (.loc j)else(J[j-n]?).map .lst
 | o=>o
def Kv(n:Nat)(W:Gam->%[|7]):Gam->%[|7]:=λ b c=>W b c\/∃J a,c=a++J/\n<=a.length/\flat J/\flat a/\atTop b/\W (b.map (mL a.length J)) a
def ae7{K}(Q:O.A.length=n)(q:QN K O H (Kv n W) σ y):QN K O H W σ y:=by
 obtain⟨z,D,E,w,C,t,r⟩:=q;rcases w with w | ⟨J,f,rfl,P,G,F,I,w⟩;{exact%[z,D,E,w,C,t|r]}
 . obtain ⟨x,u,c,M⟩:=j9 C t %[|0] F;refine%[_,_,f,w,x,u|%[by rw[y7];exact r.len|λ i d e=>?_]];rw[y8]at e
   cases h:D[i]? with
   | none=>rw[h]at e;cases e
   | some o=>
     rw[h]at e
     cases o with
     | none=>cases e
     | some g=>
       obtain⟨v,s,B⟩:=r.at_ i g h;rcases I i g h with A | ⟨j,rfl⟩
       . have b:g=d:=by
          cases g with
          | loc j=>simp[aB]at A
          | _=>simpa[mL]using e
         subst b;exact%[v,s|fD c A B]
       . obtain⟨a,rfl,p⟩:=eU B;by_cases l:j<f.length
         . have b:d=.loc j:=by simpa[mL,l]using e.symm
           subst b;refine%[_,s|.loc ?_];show(z.A.take f.length)[j]? =some (a,false);rw[fT,ci l];exact p
         . cases k:J[j-f.length]? with
           | none=>simp[mL,l,k]at e
           | some m=>
             have b:d=.lst m:=by simpa[mL,l,k]using e.symm
             subst b;obtain⟨R,L,N⟩:=t.obj j a m p (by rw[dt %[|0]];exact k);exact%[_,s|.lst (.inl %[M j a %[|0] p|.inl L]) (gR c (G m (y4 k)) N)]
def Drp(n:Nat)(W:WD):WD:=λ d b=>W d b\/∃J a,b=a++J/\n<=a.length/\aB d=true/\flat a/\W d a
def QG.drp{K}(o:O.A.length=n)(q:QG K O H (Drp n W) v e):QG K O H W v e:=by obtain⟨h,d,j,w,g,f,r⟩:=q;rcases w with w | ⟨J,i,rfl,m,l,k,w⟩;{exact%[h,d,j,w,g,f|r]};{obtain⟨b,a,c,p⟩:=j9 g f %[|0] k;exact%[_,d,i,w,b,a|fD c l r]}
section
variable{Ω:Wd}
def Bl.fza(b:Bl Ω):Bl Ω where
 lev:=b.lev
 chk:=b.chk
 wp g S W:=b.wp g S {W with nx:=Kv S.length W.nx}
 sound:=by
  intro X r m N n l g S W A j i k a s d H O I c e;refine thn (b.sound A j i k a s d H O I c e) λ f o q=>?_
  cases f with
  | next=>obtain⟨d,h,I,q⟩:=q;exact%[d,h,I|ae7 e.len q]
  | brk=>exact q
  | cont=>exact q
  | ret u=>exact q
def Bl.drp(b:Bl Ω):Bl Ω where
 lev:=b.lev
 chk:=b.chk
 wp g S W:=b.wp g S {W with rt:=Drp S.length W.rt}
 sound:=by
  intro X r n N p m g S W A k j l a s o H O I c e;refine thn (b.sound A k j l a s o H O I c e) λ f t q=>?_
  cases f with
  | next=>exact q
  | brk=>exact q
  | cont=>exact q
  | ret u=>obtain⟨v,d,h,i,r,q⟩:=q;exact%[v,d,h,i,r|QG.drp e.len q]
end
def Ym(op:Operator)(n:Int)(d:D)(k:Int->Prop):Prop:=match op,d with
 | .Add,.int m=>k (n+m)
 | .Sub,.int m=>k (n-m)
 | .Mult,.int m=>CMul n m/\k (n*m)
 | _,_=>False
def acI(B:(op==.Add||(op==.Sub||op==.Mult))=true)(i:Nat)(D:o[i]? =some (some (.int n)))(h:Ev X o S e λ d S1=>Ym op n d λ z=>W.nx (o.set i (some (.int z))) S1)(u:X.N.Nodup)(hi:X.N[i]? =some x)(C:Loc X.env.scope x)
 (A:%[|88]):Rn X o S (.AugAssign (.Name x m) op e F) W:=by
 intro f s p H O I c E;obtain⟨v,t,r⟩:=c.at_ i (.int n) D;cases r;have l:∀(k:Own)(S1:Store)(j:Hp)(z:Int),Step O k H j->StOk X.K k j S1->W.nx (o.set i (some (.int z))) S1->QN X.K O H W.nx (p.set i (some (.int z))) j:=λ k S1 j z a b w=>%[k,_,S1,w,a,b|(c.mono a).set (.int z) i]
 cases op with
 | Add=>
   refine J0 u hi C h.pe Zx A f s p H _ I %[.int n,t,O,c,E|λ y j q=>?_];obtain⟨k,d,S1,w,a,b,g⟩:=q;cases g<;>first | exact(show False from w).elim | skip
   exact%[n,_,rfl,rfl|l k S1 j _ a b w]
 | Sub=>
   refine J0 u hi C h.pe Z4 A f s p H _ I %[.int n,t,O,c,E|λ y j q=>?_];obtain⟨k,d,S1,w,a,b,g⟩:=q;cases g<;>first | exact(show False from w).elim | skip
   exact%[n,_,rfl,rfl|l k S1 j _ a b w]
 | Mult=>
   refine J0 u hi C h.pe Z7 A f s p H _ I %[.int n,t,O,c,E|λ y j q=>?_];obtain⟨k,d,S1,w,a,b,g⟩:=q;cases g<;>first | exact(show False from w).elim | skip
   exact%[n,_,rfl,rfl,w.1|l k S1 j _ a b w.2]
 | _=>exact absurd B %[|1]
section
variable{Ω:Wd}
def ae2(i:Nat)(op:Operator)(a:Ex Ω):Sm Ω where
 lev:=a.lev
 chk c N m s:=anB (aaK s) λ z=>anB (nameV z.1) λ x=>(z.2.1==op)&&((z.2.1==.Add||(z.2.1==.Sub||z.2.1==.Mult))&&((N[i]? ==some x)&&(lcl c m x&&a.chk c N m z.2.2)))
 wp h S W:=match h[i]? with
  | some (some (.int n))=>a.wp h S λ d u=>Ym op n d λ z=>W.nx (h.set i (some (.int z))) u
  | _=>False
 sound:=by intro X r c N m s h S W A C g k;obtain⟨⟨t,o,e⟩,b,f⟩:=bU g;clear g;obtain⟨q,b⟩:=YB b;subst b;obtain⟨x,b,g⟩:=bU f;clear f;obtain⟨p,b⟩:=jY b;have b:t=.Name x p:=b;subst b;{refine an5 g λ v j w y B=>?_;obtain⟨D,E⟩:=A.lcl y;have e:=ZU v;subst e;split at k;{rename_i n l;exact acI j i l (a.sound A C B k) (by rw[A.n];exact A.nd) (by rw[A.n];exact ZU w) D E};{exact k.elim}}
end
variable{v:Value}{c:Int × List Int}{b:Addr}{ns:List Int}{n:Nat}{Q:Bool -> Shared -> Prop}
def cG(h:Heap)(v:Value)(c:ag7):Prop:=
 ∃b o k a u,v=.ref b/\%[|43]/\o.cls=%[|9]/\o.data=.seq #[.int c.1 a,u] k/\gZ h u c.2
def cG.keep(k:∀b o,%[|43]->o.cls=%[|9]->h'.get? b=some o)(q:cG h v c):cG h' v c:=by obtain⟨b,o,n,t,u,f,g,a,i,e,s,w,r,j,l,d,m,p⟩:=q;exact%[b,o,n,t,u,f,k _ _ g a,a,i,e,s,w,r,j,k _ _ l d,d,m|p]
section
variable{prog:Program}{w:World}{A:Around}{E:%[|26]}{s:Shared}
theorem pO:∀{a:af5}{ns:af1},IntsAre a ns->ItemsAre (intKind prog w) ns a
 | _,_,.nil=>.nil
 | _,_,.cons n t r=>.cons (intKind_is _ _ _ _) (pO r)
def GD(g:gZ h (.ref b) ns):IsTupleKey (intKind prog w) h ns b:=by obtain⟨j,o,i,k,e,a,c,d,f⟩:=g;cases e;exact%[o,i,k,a,c,d|pO f]
def K4:∀{b:af5}{ns a:af1},IntsAre b ns->IntsAre b a->ns=a:=by
 intro b ns a h
 induction h generalizing a with
 | nil=>intro q;cases q;rfl
 | cons _ _ r c=>intro q;cases q with| cons _ _ d=>rw[c d]
def Gf(x:gZ h v ns)(y:gZ h v g):ns=g:=by obtain⟨b,o,t,k,rfl,i,r,l,m⟩:=x;obtain⟨q,n,p,s,e,a,j,c,d⟩:=y;cases e;obtain rfl:o=n:=cq (i.symm.trans a);have f:=l.symm.trans c;injection f with f _;subst f;exact K4 m d
def hC(prog:ag4)(w:World)(c:ag7):Int:=reduceHash (Builtin.Tuple.tupleHashOf [(intKind prog w).hash c.1,tupleKeyHash (intKind prog w) c.2])
def Dy{Q}(y:A.units+5<cLine)(q:cG s.heap v c)(h:Q (hC prog w c) {s with toks:=s.toks+(c.2.length+3)}):wpAny %[|4] A (pyHash v) Q E s:=by
 obtain⟨a,o,n,t,u,rfl,p,j,r,g⟩:=q;have i:s.TypeIs (.ref a) "tuple":=%[o,p|j];have k:∀b,u=.ref b->IsTupleKey (intKind prog w) s.heap c.2 b:=λ b e=>GD (e▸g);obtain⟨b,_,_,_,rfl,_⟩:=id g;have k:=k b rfl;unfold pyHash;first | unfold pyHashByItsType | skip
 first | refine b0 (wpAny_cRoomFor_or (.inr %[|0]) ?_) | skip
 refine b0 (gv i kD.lookup ?_);show wpAny _ _ (if(some (Value.builtin "tuple.__hash__")==some Value.none)=true then _ else _) Q E s;rw[c8 (by rw[beq_builtin_none];exact y6)];refine b0 (gv i kD.lookup ?_);show wpAny _ _ (callSpecialIfBoundUnlessNone? (.ref a) "__hash__" _>>=_) Q E s;refine b0 (wpAny_callSpecialIfBoundUnlessNone?_slot i kD (dQ kD i F.entry_tuple_hash ?_ (F.args_tuple_hash_1 _)));show wpAny _ _ (Builtin.Tuple.tupleItemsOf (.ref a)>>=_) _ _ s;refine b0 (wpAny_tupleItemsOf p r ?_);refine b0 ?_;rw[<-i9];refine gX _
  (λ d (f:Array Int) m=>∃n,m={s with toks:=s.toks+n}/\((d=[.int c.1 t,.ref b]/\f=#[]/\n=0)\/(d=[.ref b]/\f=#[(intKind prog w).hash c.1]/\n=1)\/(d=[]/\n=c.2.length+2/\f=#[(intKind prog w).hash c.1,tupleKeyHash (intKind prog w) c.2])))
  _ ?_ ?_ _ _ %[0,rfl|.inl %[rfl,rfl|rfl]]
 . rintro x d f m ⟨n,rfl,⟨e,rfl,rfl⟩ | ⟨e,rfl,rfl⟩ | ⟨e,rfl,rfl⟩⟩
   . cases e;refine b0 ((intKind prog w).pyHash (intKind_is _ _ _ _) ?_);first
      | exact b9 %[1,rfl|.inr (.inl %[rfl,rfl|rfl])]
      | exact b0 (b9 (b9 %[1,rfl|.inr (.inl %[rfl,rfl|rfl])]))
   . cases e;refine b0 (wpAny_pyHash_tuple (knd:=intKind prog w) ?_ k ?_);{show A.units+1<cLine;omega}
     . first
       | exact b9 %[1+(c.2.length+1),by simp[Nat.add_assoc]|.inr (.inr %[rfl,%[|0]|rfl])]
       | exact b0 (b9 (b9 %[1+(c.2.length+1),by simp[Nat.add_assoc]|.inr (.inr %[rfl,%[|0]|rfl])]))
   {cases e}
 {rintro f m ⟨n,rfl,⟨e,rfl,rfl⟩ | ⟨e,rfl,rfl⟩ | ⟨e,rfl,rfl⟩⟩;{cases e};{cases e};show wpAny _ _ (retInt (Builtin.Tuple.tupleHashOf [(intKind prog w).hash c.1,tupleKeyHash (intKind prog w) c.2])) _ _ _;refine wpAny_ret_mkInt ?_;show wpAny _ _ (if(decide (-(2:Int) ^ 63<=Builtin.Tuple.tupleHashOf _)&&decide (Builtin.Tuple.tupleHashOf _<2 ^ 63))=true then _ else _) Q E _;unfold hC reduceHash at h;split;{rename_i l;rw[ci l]at h;exact b9 h};{rename_i l;rw[c8 l]at h;exact b0 (kt (b9 h))}}
def WT{Q}(b:A.units+5<cLine)(a:cG s.heap v c)(h:∀n,Q (hC prog w c) {s with toks:=s.toks+n}):wpAny %[|4] A (pyHash v) Q E s:=Dy b a (h _)
def rD(j:gZ h (.ref b) ns):∃o xs k,%[|43]/\o.cls=%[|9]/\o.data=.seq xs k/\∀v∈xs.toList,∃i t,v=Value.int i t:=by obtain⟨m,o,xs,k,e,a,c,d,f⟩:=j;cases e;refine%[o,xs,k,a,c,d|λ v l=>?_];obtain⟨i,g⟩:=db l;obtain⟨t,e⟩:=IntsAre.int_at f i v g;exact%[_,t|e]
def Rm(q:gZ s.heap (.ref b) ns)(h:Q true s):wpAny %[|4] A (eqIsQuiet (n+1) (.ref b)) Q E s:=by obtain⟨o,x,k,j,l,m,p⟩:=rD q;have g:s.TypeIs (.ref b) "tuple":=%[o,j|l];unfold eqIsQuiet;refine b0 (gv g F.slot_tuple_eq.lookup ?_);show wpAny _ _ (isInstance (.ref b) %[|9]>>=_) _ _ s;refine b0 (gz g nX ?_);simp only[fm,de,en];refine b0 (fy j m ?_);refine b0 ?_;show wpAny _ _ (forIn x _ _) _ _ s;rw[<-i9];refine gX _ (λ c r f=>r.1=none/\f=s/\∀v∈c,∃i t,v=Value.int i t) _ ?_ ?_ _ _ %[rfl,rfl|p];{rintro v c r f ⟨d,rfl,a⟩;obtain⟨i,t,rfl⟩:=a v x6;rw[eqIsQuiet_byValue _ (by rfl)];refine b0 (b9 ?_);simp only[fm,de,en];exact b9 %[rfl,rfl|λ u e=>a u (x4 _ e)]};{rintro⟨y,z⟩ f ⟨d,rfl,_⟩;simp only at d;subst d;exact b9 h}
def tW(y:cG s.heap (.ref b) c)(h:Q true s):wpAny %[|4] A (eqIsQuiet (n+2) (.ref b)) Q E s:=by obtain⟨a,o,k,q,u,e,p,t,x,d⟩:=y;cases e;obtain⟨l,_,_,_,rfl,_⟩:=id d;have m:s.TypeIs (.ref b) "tuple":=%[o,p|t];unfold eqIsQuiet;refine b0 (gv m F.slot_tuple_eq.lookup ?_);show wpAny _ _ (isInstance (.ref b) %[|9]>>=_) _ _ s;refine b0 (gz m nX ?_);simp only[fm,de,en];refine b0 (fy p x ?_);refine b0 ?_;show wpAny _ _ (forIn #[Value.int c.1 q,.ref l] _ _) _ _ s;rw[<-i9];refine gX _ (λ g r j=>r.1=none/\j=s/\∀v∈g,v=Value.int c.1 q\/v=.ref l) _ ?_ ?_ _ _ %[rfl,rfl|by simp];{rintro v g r j ⟨i,rfl,f⟩;rcases f v x6 with rfl | rfl;{rw[eqIsQuiet_byValue _ (by rfl)];refine b0 (b9 ?_);simp only[fm,de,en];exact b9 %[rfl,rfl|λ u d=>f u (x4 _ d)]};{refine b0 (Rm d ?_);simp only[fm,de,en];exact b9 %[rfl,rfl|λ u d=>f u (x4 _ d)]}};{rintro⟨z,B⟩ j ⟨i,rfl,_⟩;simp only at i;subst i;exact b9 h}
def Nv(n:Nat)(i:Int)(t:Tok):hashByValue n (.int i t)=pure true:=by cases n<;>rfl
def YX(q:gZ s.heap (.ref b) ns)(h:Q true s):wpAny %[|4] A (hashByValue (n+1) (.ref b)) Q E s:=by obtain⟨o,x,k,g,l,m,p⟩:=rD q;have j:s.TypeIs (.ref b) "tuple":=%[o,g|l];unfold hashByValue;refine b0 (gv j kD.lookup ?_);show wpAny _ _ (seqItems? (.ref b)>>=_) _ _ s;refine b0 (fy g m ?_);refine b0 ?_;show wpAny _ _ (forIn x _ _) _ _ s;rw[<-i9];refine gX _ (λ c r f=>r.1=none/\f=s/\∀v∈c,∃i t,v=Value.int i t) _ ?_ ?_ _ _ %[rfl,rfl|p];{rintro v c r f ⟨d,rfl,a⟩;obtain⟨i,t,rfl⟩:=a v x6;rw[Nv];refine b0 (b9 ?_);simp only[fm,de,en];exact b9 %[rfl,rfl|λ u e=>a u (x4 _ e)]};{rintro⟨y,z⟩ f ⟨d,rfl,_⟩;simp only at d;subst d;exact b9 h}
def Y5(y:cG s.heap (.ref b) c)(h:Q true s):wpAny %[|4] A (hashByValue (n+2) (.ref b)) Q E s:=by obtain⟨a,o,k,p,u,e,m,t,x,d⟩:=y;cases e;obtain⟨l,_,_,_,rfl,_⟩:=id d;have q:s.TypeIs (.ref b) "tuple":=%[o,m|t];unfold hashByValue;refine b0 (gv q kD.lookup ?_);show wpAny _ _ (seqItems? (.ref b)>>=_) _ _ s;refine b0 (fy m x ?_);refine b0 ?_;show wpAny _ _ (forIn #[Value.int c.1 p,.ref l] _ _) _ _ s;rw[<-i9];refine gX _ (λ g r j=>r.1=none/\j=s/\∀v∈g,v=Value.int c.1 p\/v=.ref l) _ ?_ ?_ _ _ %[rfl,rfl|by simp];{rintro v g r j ⟨i,rfl,f⟩;rcases f v x6 with rfl | rfl;{rw[Nv];refine b0 (b9 ?_);simp only[fm,de,en];exact b9 %[rfl,rfl|λ u d=>f u (x4 _ d)]};{refine b0 (YX d ?_);simp only[fm,de,en];exact b9 %[rfl,rfl|λ u d=>f u (x4 _ d)]}};{rintro⟨z,B⟩ j ⟨i,rfl,_⟩;simp only at i;subst i;exact b9 h}
def Oq(n:Nat)(i:Int)(t:Tok):ofAClassStatement n (.int i t)=pure false:=by cases n<;>rfl
def Y6(q:gZ s.heap (.ref b) ns)(h:Q false s):wpAny %[|4] A (ofAClassStatement (n+1) (.ref b)) Q E s:=by obtain⟨o,x,k,g,l,m,p⟩:=rD q;have j:s.TypeIs (.ref b) "tuple":=%[o,g|l];unfold ofAClassStatement;refine b0 (iq j ?_);show wpAny _ _ ((pure true:Sem Bool)>>=_) _ _ s;refine b0 (b9 ?_);simp only[fm,de,en];refine b0 (fy g m ?_);refine b0 ?_;show wpAny _ _ (forIn x _ _) _ _ s;rw[<-i9];refine gX _ (λ c r f=>r.1=none/\f=s/\∀v∈c,∃i t,v=Value.int i t) _ ?_ ?_ _ _ %[rfl,rfl|p];{rintro v c r f ⟨d,rfl,a⟩;obtain⟨i,t,rfl⟩:=a v x6;rw[Oq];refine b0 (b9 ?_);simp only[de,en];exact b9 %[rfl,rfl|λ u e=>a u (x4 _ e)]};{rintro⟨y,z⟩ f ⟨d,rfl,_⟩;simp only at d;subst d;exact b9 h}
def Ol(y:cG s.heap (.ref b) c)(h:Q false s):wpAny %[|4] A (ofAClassStatement (n+2) (.ref b)) Q E s:=by obtain⟨a,o,k,p,u,e,m,t,x,d⟩:=y;cases e;obtain⟨l,_,_,_,rfl,_⟩:=id d;have q:s.TypeIs (.ref b) "tuple":=%[o,m|t];unfold ofAClassStatement;refine b0 (iq q ?_);show wpAny _ _ ((pure true:Sem Bool)>>=_) _ _ s;refine b0 (b9 ?_);simp only[fm,de,en];refine b0 (fy m x ?_);refine b0 ?_;show wpAny _ _ (forIn #[Value.int c.1 p,.ref l] _ _) _ _ s;rw[<-i9];refine gX _ (λ g r j=>r.1=none/\j=s/\∀v∈g,v=Value.int c.1 p\/v=.ref l) _ ?_ ?_ _ _ %[rfl,rfl|by simp];{rintro v g r j ⟨i,rfl,f⟩;rcases f v x6 with rfl | rfl;{rw[Oq];refine b0 (b9 ?_);simp only[de,en];exact b9 %[rfl,rfl|λ u d=>f u (x4 _ d)]};{refine b0 (Y6 d ?_);simp only[de,en];exact b9 %[rfl,rfl|λ u d=>f u (x4 _ d)]}};{rintro⟨z,B⟩ j ⟨i,rfl,_⟩;simp only at i;subst i;exact b9 h}
def Xp(n:cG s.heap x c)(p:∀y∈ys,∃d,cG s.heap y d)(h:Q false s):wpAny %[|4] A (searchCouldBeSeen x ys) Q E s:=by have i:=n;obtain⟨a,_,_,_,_,rfl,_⟩:=n;unfold searchCouldBeSeen;refine b0 ?_;refine gX _ (λ e r j=>r.1=none/\j=s/\∀v∈e,∃d,cG s.heap v d) _ ?_ ?_ _ _ %[rfl,rfl|p];{rintro v e r j ⟨k,rfl,f⟩;obtain⟨d,m⟩:=f v x6;have g:=m;obtain⟨b,_,_,_,_,rfl,_⟩:=m;have o:∀v∈e,∃d,cG j.heap v d:=λ u l=>f u (x4 _ l);dsimp only;split;{exact b9 %[rfl,rfl|o]};{refine b0 (tW i ?_);simp only[fm,de,en];refine b0 (tW g ?_);simp only[fm,de,en];refine b0 (Ol i ?_);simp only[de,en];refine b0 (Ol g ?_);simp only[de,en];exact b9 %[rfl,rfl|o]}};{rintro⟨q,t⟩ j ⟨k,rfl,_⟩;simp only at k;subst k;exact b9 h}
def JT(g:A.units<cLine)(d:gZ s.heap u ns)(e:gZ s.heap v f):SeqAt.EqAt A s u v (decide (ns=f)):=by intro c w E Q h;obtain⟨a,_,_,_,rfl,_⟩:=id d;obtain⟨b,_,_,_,rfl,_⟩:=id e;exact wpAny_eqBool_tuple (knd:=intKind c w) g (GD d) (GD e) h
def Ho(J:A.units+2<cLine)(G:cG s.heap u c)(H:cG s.heap v d):SeqAt.EqAt A s u v (decide (c=d)):=by
 obtain⟨a,o,k,n,u,rfl,y,F,x,g⟩:=G;obtain⟨B,z,I,f,w,rfl,i,t,h,l⟩:=H;by_cases e:a=B;{subst e;obtain rfl:o=z:=cq (y.symm.trans i);have p:=x.symm.trans h;injection p with p _;have q:[Value.int c.1 n,u]=[Value.int d.1 f,w]:=eC Array.toList p;injection q with e3 e4;injection e3 with e3 _;injection e4 with e4 _;subst e4;obtain⟨b,_,_,_,rfl,_⟩:=id g;have C:c.2=d.2:=Gf g l;have D:c=d:=lI e3 C;rw[cc D];exact mn _}
 . have m:=SeqAt.RcAt.tuples (A:=A) (s:=s) (e:=λ j=>if j=0 then decide (c.1=d.1)else decide (c.2=d.2)) %[o,y,F,k|x] %[z,i,t,I|h] %[|0] (λ j r E=>by
    match j,r,E with
    | 0,_,_=>have:=SeqAt.EqAt.int_int (A:=A.in1) (s:=s) c.1 n d.1 f;rw[show(c.1==d.1)=decide (c.1=d.1)from by rw[gd];simp]at this;exact this
    | 1,_,_=>exact JT (by show A.units+1<_;omega) g l
    | j+2,r,_=>exact absurd r (by simp));have q:((List.range (min #[Value.int c.1 n,u].size #[Value.int d.1 f,w].size)).all (λ j=>if j=0 then decide (c.1=d.1)else decide (c.2=d.2))&&#[Value.int c.1 n,u].size==#[Value.int d.1 f,w].size)=decide (c=d):=by rw[gd];simp[kQ,oC]
   rw[q]at m;exact SeqAt.EqAt.of_refs e m
end
end RF
namespace RF
open PySem PySem.Spec L2 DL
open PyProof.Rows
abbrev tbl(led:Bool)(ps:af4):SetTable:={mask:=7,place:=ps.toArray,dummies:=#[],finger:=0,led:=led,moves:=0,plain:=true}
section
variable{prog:Program}{w:World}{A:Around}{E:%[|26]}{s:Shared}
def XN(h:Q true s):wpAny M A (isSame (.ref b) (.ref b)) Q E s:=by unfold isSame;dsimp only;rw[ci (ge b)];exact b9 h
end
section
variable{prog:Program}{w:World}{A:Around}{R:Result -> Shared -> Prop}{I:Addr}{fp wr:List Addr}{G:Array GenState -> Array GenState -> Prop}{n:Nat}{P:Nat -> Value -> Prop}{St:Nat -> Shared -> Prop}
def WR(W:WalksS prog w A.in1 I fp wr G n P St)(S:Addr)(l:S∉fp)(g:Nat->Heap->Prop)
 (a:∀i h h',g i h->(∀b o,b∉wr->%[|43]->h'.get? b=some o)->g i h')
 (hadd:∀i v(s:af3)(Q:ah1)(E:af2),i<n->P i v->g i s.heap->(∀b h' tk,Heap.SameBut S s.heap h'->g (i+1) h'->Q b {s with heap:=h',toks:=s.toks+tk})->wpAny %[|4] A.in1 (setAdd S v) Q E s):
 ∀ (k i:Nat)(s:af3),n-i=k->i<=n->St i s->g i s.heap->
   (∀s',Moved (S::wr) G s s'->g n s'.heap->R (.ok (.ret .none)) s')->
   codeAny %[|4] A (.builtin "set.update.loop" %[[.ref S,.ref I]|[]]) R s:=by
 have D:S∉wr:=λ h=>l (W.sub _ h);have c:∀b∈wr,b∈S::wr:=λ b m=>x4 _ m;intro k
 induction k with
 | zero=>
   intro i s J H f u t;have z:i=n:=%[|0]
   subst z;refine gN F.entry_set_update_loop ?_;rw[gx F.plain_set_update_loop _];show wpAny _ A.in1 (pyNext (.ref I)>>=_) _ _ s;refine b0 (W.done s _ _ f λ s' p=>?_);show wpAny _ A.in1 (ret Value.none) _ _ s';exact b9 (t s' (p.mono c) (a _ _ _ u p.heap))
 | succ k K=>
   intro i s J H f u t;have d:i<n:=%[|0]
   refine gN F.entry_set_update_loop ?_;rw[gx F.plain_set_update_loop _];show wpAny _ A.in1 (pyNext (.ref I)>>=_) _ _ s;refine b0 (W.item i s _ _ d f λ v s' C r p=>?_);have x:=a _ _ _ u p.heap;show wpAny _ A.in1 (holding [v] (setAdd S v)>>=_) _ _ s';refine b0 (eD (hadd i v s' _ _ d C x λ b h' tk hsb y=>?_));refine b9 %[kM F.plain_set_update_loop _|K (i+1) _ %[|0] d (W.frame _ s' _ _ r (gg _ _) λ b m o e=>?_) y λ B q j=>?_];{rw[hsb.2 b (λ h:b=S=>l (by rw[<-h];exact m))];exact e};{refine t B (Moved.trans W.gtrans ((p.mono c).then_heap (gg _ _) λ b o m e=>?_) q) j;rw[hsb.2 b (λ h:b=S=>m (by rw[h];exact x6))];exact e}
end
section
variable{prog:Program}{w:World}{A:Around}{E:%[|26]}{s:Shared}
abbrev aO(w:World):Bool:=!%[|62]
def sY(a:Value)
 (h:Q₁ %[|8] {s with heap:=s.heap.push {cls:=.type "set",dict:=none,data:=.set #[] 0 (.fresh 0 0 (aO w))}}):
 codeAny %[|4] A (.call (.builtin "set.__new__") %[[.type "set",a]|[]]) (wants Q₁ E) s:=by refine codeAny_of_tree ?_;show wpAny _ A.in1 (do checkBuiltinCall "set.__new__" %[[.type "set",a]|[]];again (.builtin "set.__new__" %[[.type "set",a]|[]])) _ _ s;refine b0 (wpAny_of_eq (F.newCall_set_1 a) (b9 %[kM F.plain_set_new _|gN F.entry_set_new ?_]));rw[gx F.plain_set_new _];unfold Builtin.«set.__new__» Builtin.Frozenset.newClass;have b:=sub_set_self;obtain⟨c,g,d,f,e⟩:=s;dsimp only;wp_walk;refine ia (b9 ?_);dsimp only;simp only[newObj];refine b0 (wpAny_alloc (b9 ?_));exact b9 h
end
def zB:entryFor table "set.__iter__"=some Builtin.«frozenset.__iter__»:=
 entryFor_alias (id':="frozenset.__iter__") (by kernel_rfl) rfl %[|11] (by kernel_rfl)
def bQ:Slot "set_iterator" "__next__" "set_iterator.__next__":=
 .of (owner:="set_iterator") (n:="__next__") (by rw[typeLookup_type,oe];kernel_rfl) %[|11] %[|11] %[|11]
  (by first | exact .inl %[|11] | exact .inr %[|11]) (by rw[isSubtype_type];kernel_rfl)
def gm:entryFor table "set_iterator.__next__"=some Builtin.«set_iterator.__next__»:=entryFor_of_tree (by kernel_rfl)
def jk:Manifest.owners.lookup (String.ofList ['r','o','t','a','r','e','t','i','_','t','e','s'].reverse)=some Manifest.sig_set_iterator:=by kernel_rfl
def fP(a:Value):argsOk "set_iterator.__next__" %[[a]|[]]:=by unfold argsOk;rw[signature?_of (id:="set_iterator.__next__") (n:=['_','_','t','x','e','n','_','_']) (o:=['r','o','t','a','r','e','t','i','_','t','e','s']) (by kernel_rfl) jk];kernel_rfl
def gw:Slot "set_iterator" "__iter__" "set_iterator.__iter__":=
 .of (owner:="set_iterator") (n:="__iter__") (by rw[typeLookup_type,oe];kernel_rfl) %[|11] %[|11] %[|11]
  (by first | exact .inl %[|11] | exact .inr %[|11]) (by rw[isSubtype_type];kernel_rfl)
def lL:entryFor table "set_iterator.__iter__"=some Builtin.«dict_keyiterator.__iter__»:=
 entryFor_alias (id':="dict_keyiterator.__iter__") (by kernel_rfl) rfl %[|11] (by kernel_rfl)
def lC(a:Value):argsOk "set_iterator.__iter__" %[[a]|[]]:=by unfold argsOk;rw[signature?_of (id:="set_iterator.__iter__") (n:=['_','_','r','e','t','i','_','_']) (o:=['r','o','t','a','r','e','t','i','_','t','e','s']) (by kernel_rfl) jk];kernel_rfl
def slotAt(ps:af4):Nat->Nat
 | 0=>0
 | i+1=>ps.getD i 0+1
def fZ(w:World)(a:Addr)(ep:Nat)(es:List (Int×Value)):Array (Int×Value):=
 if %[|62]=true then pickOrder (w.params.setOrder a ep) es.toArray else es.toArray
abbrev dM(w:World)(ps:af4)(S:Addr)(n ep i:Nat):Obj:={cls:=.type "set_iterator",dict:=none,data:=.fields #[rawInt (if %[|62]=true then 0 else slotAt ps i:Nat),rawInt (i:Nat),.ref S,rawInt (n:Nat),rawInt (ep:Nat)],slots:=#[]}
section
variable{prog:Program}{w:World}{A:Around}{E:%[|26]}{s:Shared}
def pD(a:s.heap.get? I=some (dM w ps S n ep i)):s.TypeIs (.ref I) "set_iterator":=%[_,a|rfl]
def pM{h:Heap}(b:h.get? I=some {cls:=.type "set_iterator",dict:=none,data:=.fields a,slots:=#[]}):
 (h.update I (Obj.mapFields (·.setIfInBounds k x))).get? I=some {cls:=.type "set_iterator",dict:=none,data:=.fields (a.setIfInBounds k x),slots:=#[]}:=fx _ b rfl
end
theorem JZ(fin:Bool):∀ns:List Int,ltF fin ns ns=fin
 | []=>rfl
 | n::ns=>by unfold ltF;rw[ci rfl];exact JZ fin ns
def Jg(ns:af1):ltI ns ns=false:=by unfold ltI;rw[JZ];simp
def ltC(c d:ag7):Bool:=if c.1=d.1 then ltI c.2 d.2 else decide (c.1<d.1)
section
variable{prog:Program}{w:World}{A:Around}{E:%[|26]}{s:Shared}
def Zj(T:gZ s.heap (.ref a) ns)(U:gZ s.heap (.ref b) m)(h:P (.done (.ret (.bool (ltI ns m)))) s):
 wpAny %[|4] A (Builtin.«tuple.__lt__» %[[.ref a,.ref b]|[]]) P E s:=by
 obtain⟨Y,oa,B,na,e,J,S,G,p⟩:=T;cases e;obtain⟨Z,X,C,nb,e,t,F,H,q⟩:=U;cases e;have D:s.TypeIs (.ref b) "tuple":=%[X,t|F];show wpAny _ _ (isInstance (.ref b) %[|9]>>=_) _ _ s;refine b0 (gz D nX ?_);simp only[fm,de,en];refine b0 (wpAny_tupleItemsOf J G ?_);refine b0 (wpAny_tupleItemsOf t H ?_);refine b0 ?_;have V:B.size=ns.length:=by rw[<-e7];exact p.length
 have W:C.size=m.length:=by rw[<-e7];exact q.length
 refine gX _
  (λ j r z=>r.1=none/\z=s/\∃f d g i,j=List.zip g i/\IntsAre g f/\IntsAre i d/\ltF (decide (ns.length<m.length)) f d=ltI ns m)
  _ ?_ ?_ _ _ %[rfl,rfl,ns,m,B.toList,C.toList,rfl,p,q|rfl]
 . rintro⟨u,v⟩ j r z ⟨K,rfl,f,d,g,i,n,k,l,c⟩
   cases k with
   | nil=>simp at n
   | @cons L t1 Q O x=>
     cases l with
     | nil=>simp at n
     | @cons M t2 R N y=>simp only[oT,List.cons.injEq,Prod.mk.injEq]at n;obtain⟨⟨rfl,rfl⟩,rfl⟩:=n;refine b0 (nI ?_);unfold ltF at c;by_cases I:L=M;{subst I;rw[ge];simp only[fm,de,en];rw[ci rfl]at c;exact b9 %[rfl,rfl,_,_,_,_,rfl,x,y|c]};{rw[c8 I]at c;rw[show(L==M)=false from by simpa using I];simp only[Bool.not_false,h9];rw[<-c]at h;refine b0 (kt ?_);refine b0 (show wpAny _ _ (compareOp .Lt _ _) _ _ _ from wpAny_lt_int ?_);exact b0 (b9 (b9 (b9 h)))}
 . rintro⟨r1,r2⟩ z ⟨K,rfl,f,d,g,i,n,k,l,c⟩;simp only at K;subst K;refine b9 ?_;have o:decide (B.size<C.size)=ltI ns m:=by
    rw[<-c,V,W]
    cases k with
    | nil=>rfl
    | cons _ _ _=>
      cases l with
      | nil=>rfl
      | cons _ _ _=>simp at n
   show P (.done (.ret (.bool (decide (B.size<C.size))))) z;rw[o];exact h
def Pz(m:A.units<cLine)(i:gZ s.heap u ns)(j:gZ s.heap v k)(h:Q (.bool (ltI ns k)) s):wpAny %[|4] A (compareOp .Lt u v) Q E s:=by
 obtain⟨a,l,_,_,rfl,d,c,_⟩:=id i;obtain⟨b,n,_,_,rfl,g,f,_⟩:=id j;exact wpAny_richCompare_same_room (op:=.Lt) %[l,d|c] %[n,g|f] F.slot_tuple_lt
  (dQ F.slot_tuple_lt %[l,d|c] F.entry_tuple_lt (Zj i j %[_,rfl,(λ e=>nomatch e)|h]) (F.args_tuple_lt_2 _ _)) m
def abk(C:A.units+2<cLine)(r:cG s.heap v c)(hw:cG s.heap u d)(h:Q (ltC c d) s):wpAny %[|4] A (keyLt' (tuples' b) v u) Q E s:=by obtain⟨a,o,k,t,x,rfl,q,B,p,m⟩:=r;obtain⟨z,F,D,l,y,rfl,j,n,i,f⟩:=hw;refine PySem.W.kat_lt q p j i ?_;show PySem.W.KatLex prog w A b _ Q [(Value.int c.1 t,Value.int d.1 l),(x,y)] 0 s;refine PySem.W.kat_cons (nI ?_);unfold ltC at h;by_cases e:c.1=d.1;{rw[e,ge];rw[ci e]at h;refine PySem.W.kat_yes (PySem.W.kat_cons (JT %[|0] m f prog w _ _ ?_));by_cases g:c.2=d.2;{rw[cc g];refine PySem.W.kat_yes (PySem.W.kat_nil ?_);rw[g,Jg]at h;exact h};{rw[cm g];refine PySem.W.kat_no ?_;rw[show(b&&0+1==0)=false from by cases b<;>rfl];exact PySem.W.kat_one _ _ (Pz %[|0] m f h)}};{rw[show(c.1==d.1)=false from by simpa using e];rw[c8 e]at h;exact PySem.W.kat_no (YD h)}
end
theorem CZ(a:f=true->g=false):∀{ns b:af1},ltF f ns b=true->ltF g b ns=false
 | [],[],h=>by unfold ltF at h ⊢;exact a h
 | [],_::_,h=>by unfold ltF at h ⊢;exact a h
 | _::_,[],h=>by unfold ltF at h ⊢;exact a h
 | n ::ns,m::b,h=>by unfold ltF at h ⊢;by_cases e:n=m;{rw[ci e]at h;rw[ci e.symm];exact CZ a h};{rw[c8 e]at h;rw[c8 (λ z=>e z.symm)];have:=cE h;exact cm %[|0]}
def U6(h:ltI ns a=true):ltI a ns=false:=by unfold ltI at h ⊢;exact CZ (λ b=>cm (by have:=cE b;omega)) h
def Va:∀{ns c:af1},(ns.length<c.length->f=true)->(c.length<ns.length->g=true)->ltF f ns c=false->ltF g c ns=false->ns=c:=by
 intro ns
 induction ns with
 | nil=>
   intro c j k h d
   cases c with
   | nil=>rfl
   | cons=>unfold ltF at h;rw[j (by simp)]at h;cases h
 | cons n ns l=>
   intro c j k i d
   cases c with
   | nil=>unfold ltF at d;rw[k (by simp)]at d;cases d
   | cons m c=>unfold ltF at i d;by_cases e:n=m;{rw[ci e]at i;rw[ci e.symm]at d;rw[e,l (λ z=>j (by simpa using z)) (λ z=>k (by simpa using z)) i d]};{rw[c8 e]at i;rw[c8 (λ z=>e z.symm)]at d;have a:=iP i;have b:=iP d;omega}
def CQ(h1:ltI ns a=false)(h2:ltI a ns=false):ns=a:=by unfold ltI at h1 h2;exact Va (λ h=>cc h) (λ h=>cc h) h1 h2
def Uw(h:ltC c d=true):ltC d c=false:=by unfold ltC at h ⊢;by_cases e:c.1=d.1;{rw[ci e]at h;rw[ci e.symm];exact U6 h};{rw[c8 e]at h;rw[c8 (λ z=>e z.symm)];have:=cE h;exact cm %[|0]}
def Sy(h1:ltC c d=false)(h2:ltC d c=false):c=d:=by unfold ltC at h1 h2;by_cases e:c.1=d.1;{rw[ci e]at h1;rw[ci e.symm]at h2;exact lI e (CQ h1 h2)};{rw[c8 e]at h1;rw[c8 (λ z=>e z.symm)]at h2;have a:=iP h1;have b:=iP h2;exact absurd %[|0] e}
def mW{α:Type}(f:α->%[|14]):List α->List α
 | [x,y]=>if f y=f x then[x]else if ltC (f y) (f x)=true then[y,x]else[x,y]
 | xs=>xs
def cD(c:ag7):D:=.tup [.int c.1,.tup (c.2.map .int)]
section
variable{X:Cx}
def gD{σ:DL.St}(I:%[|3])(r:Rep X.K O H y (cD c))(E:RelV y u):cG s.heap u c:=by unfold cD at r;obtain⟨a,Q,rfl,p,B⟩:=dz r;cases E;obtain⟨P,F,⟨o,x,z,n,A⟩,N⟩:=I.tuple p.sq;cases B with| cons C G=>cases G with| cons D J=>cases J;cases F with| cons i k=>cases k with| cons j l=>cases l;cases C;obtain⟨K,rfl⟩:=i;obtain⟨M,L,rfl,b,g⟩:=dz D;cases j;obtain⟨t,h,⟨w,d,e,v,f⟩,q⟩:=I.tuple b.sq;have m:=g.ints;subst m;exact%[a,o,n,K,_,rfl,x,z,A,_,w,_,v,rfl,d,e,f|intsAre_of h]
end
section
variable{Ω:Wd}
def ae8(a:Ex Ω):Te Ω where
 lev:=a.lev
 chk n N C e:=Vq e&&a.chk n N C e
 wp D S W:=a.wp D S λ d o=>∃b,vw o d=.lst b/\(d=.lst b\/∃k,d=.loc k/\o[k]? =some b)/\b.length<=1000000/\W (!b.isEmpty) o
 sound:=by
  intro X r n N C e D S W A Q L T;refine an2 L λ J K=>?_;intro f s E H O I q st;refine isTrue_plain (thn (a.sound A Q K T f s E H O I q st) λ u s3 v=>?_) (Th J _ _);obtain⟨z,y,B,r3,F,d,G,⟨b,_,M,hz,wc⟩,x,m,g⟩:=v;have c:∀(p:Addr)(i:List V),z=.ref p->SqL X.K y p i->i.length=b.length->wpAny %[|5] X.A (truthy u) (TP X f E (QT X.K O H W)) X.xe s3:=by
   rintro p i rfl R l;cases r3;obtain⟨h,rv,Z,Y⟩:=B.list R;have j:h.length=b.length:=by rw[<-rv.length,l]
   refine wpAny_truthy_list Z.isList (by rw[x5];omega) ?_;have e:(!h.toArray.isEmpty)= !b.isEmpty:=by
    cases h with
    | nil=>cases b with
      | nil=>rfl
      | cons _ _=>simp at j
    | cons _ _=>cases b with
      | nil=>simp at j
      | cons _ _=>rfl
   rw[e];exact%[y,B.tok _,F,G,wc,x|m]
  rcases M with rfl | ⟨k,rfl,P⟩;{obtain⟨p,i,rfl,t,w⟩:=dW g;exact c p i rfl t.sq w.length};{obtain⟨p,rfl,t⟩:=eU g;obtain⟨i,U,w⟩:=m.obj k p _ t P;exact c p i rfl (SqL.of U) w.length}
end
end RF
namespace XE
open PySem PySem.Spec L2 DL RF
open PyProof.Rows
abbrev WX:=Str->%[|7]
variable{Ω:Wd}
end XE
set_option maxHeartbeats 400000
set_option maxHeartbeats 1000000
namespace XE
open PySem PySem.Spec L2 DL RF
open PyProof.Rows
variable{Ω:Wd}
end XE
namespace RF
open PySem PySem.Spec L2 DL
open PyProof.Rows
section
variable{Ω:Wd}
def unl(ns:af1):Nat:=(firstMet (λ i=>ns.getD i 0) ns.length).length
def G8(C:%[|32])(m:ns.length+1<scanBound)(p:mF S d=some (ns.map .int))(w:W (.int (unl ns)) S)
 {pins:Pins}{σ:DL.St}(I:%[|3])(st:%[|15])(M:Rep X.K O H v d)(h:RelV v u):
 wpAny %[|5] X.A (call (.type "set") [u]) (λ u1 s1=>wpAny %[|5] X.A (call (.builtin "len") [u1]) (EP X pins σ (QG X.K O H W)) X.xe s1) X.xe s:=by
 obtain⟨a,Q,rfl,y,x⟩:=Ga (pins:=pins) (s:=s) (σ:=σ) (X:=X) st M p;cases h;obtain⟨its,i,z,K⟩:=I.list y;have j:Q=ns.map V.int:=x.ints;have q:IntsAre its ns:=by
  rw[j]at i;clear z K y x j w m p
  induction ns generalizing its with
  | nil=>cases i;exact .nil
  | cons n ns L=>cases i with| cons N P=>obtain⟨t,rfl⟩:=N;constructor;exact L _ P
 have r:its.length=ns.length:=IntsAre.length q;refine call_set_list (items:=its.toArray) (ns:=ns) (I.ok.hd C) z.isList (by simpa using q) (by rw[x5,r];exact m) λ k tk l F=>?_;have B:its.toArray.size=ns.length:=by rw[x5,r]
 rw[B]at l;obtain⟨o,T,R,t,J,f,c,_,_,g,E,G⟩:=l;have A:Inv X pins σ H {s with heap:=k,toks:=tk}:=I.kept (t':=tk) λ b o e=>F b o (ca e) e;refine call_len_set (s:={s with heap:=k,toks:=tk}) J f c E (by unfold scanBound at g;omega) ?_;rw[G];exact%[.int _,H,A.tok _,%[_|rfl]|Ac w st (.int _)]
def Ex.lset(hm:Ω.mg "len"=none)(hm2:Ω.mg "set"=none)(a:Ex Ω):Ex Ω where
 lev:=a.lev
 chk l N m e:=cX e λ y G=>dX G λ c=>cX c λ z F=>dX F λ b=>(y=="len")&&((z=="set")&&(glb m "len"&&(glb m "set"&&(okE b&&a.chk l N m b))))
 wp K S W:=a.wp K S λ d o=>∃n:List Int,mF o d=some (n.map .int)/\n.length+1<scanBound/\W (.int (unl n)) o
 sound:=by intro X r l N m e K S W A hl w hw;refine bB w λ y p G D f=>?_;refine dq f λ c g=>?_;refine bB g λ z p' F j h=>?_;refine dq h λ b w=>?_;refine an6 w λ U V Y Z J h6=>?_;have R:=ZU U;have T:=ZU V;subst R T;intro i s σ H O I t st;refine gu (cV I (A.glb Y) %[|76] (show bootBuiltins "len"=some (.builtin "len")from %[|11]) ?_ %[|1] %[|1]);refine i0 ?_ rfl rfl;show wpAny _ _ (spliced ((false,eval _ X.env)::backTo D (starEach [] X.env))) _ _ s;refine f8 ?_;refine gu (cV I (A.glb Z) (by rw[A.g];exact hm2) (show bootBuiltins "set"=some (.type "set")from %[|11]) ?_ %[|1] %[|1]);refine eu ?_ (aX J _ _) rfl;rw[aX J [] X.env];show wpAny _ _ (spliced ((false,eval b X.env)::backTo j (starEach [] X.env))) _ _ s;refine f8 (thn (a.sound A hl h6 hw i s σ H O I t st) λ u s1 B=>?_);obtain⟨v,H1,L,r1,O1,x,o,hb,E,C,k⟩:=B;obtain⟨n,M,P,Q⟩:=hb;refine fF ?_;refine thn (G8 A.calm P M Q L C k r1) λ u2 s2 q=>?_;refine fF ?_;exact thn q λ _ _ q=>gH E q
end
end RF
namespace XE
open PySem PySem.Spec L2 DL RF
open PyProof.Rows
variable{Ω:Wd}
end XE
namespace RF
open PySem PySem.Spec L2 DL
open PyProof.Rows
variable{Ω:Wd}
end RF
namespace RF
open PySem PySem.Spec L2 DL
open PyProof.Rows
variable{Ω:Wd}
def Vj(a b:Addr)(xs ys:ag1):
 Meets (Builtin.«zip.__new__» %[[.type "zip",.ref a,.ref b]|[]]) (λ _ R s=>s.heap.IsTuple a xs/\s.heap.IsList b ys/\
  R (.ok (.ret (.ref (zh s.heap "tuple_iterator" "list_iterator" a b).objs.size))) {s with heap:=zhz s.heap "tuple_iterator" "list_iterator" a b}):=
 .of_wp λ i w A R s h=>by obtain⟨c,g,d,j,f⟩:=s;obtain⟨k,l,h⟩:=h;have e:=sub_zip;have m:Heap.IsTuple (Shared.heap %[c,g,d,j|f]) a xs:=k;have n:Heap.IsList (Shared.heap %[c.push %[|96],g,d,j|f]) b ys:=Heap.IsList.push l _;wp_walk using wpAny_pyIter_tuple m,wpAny_pyIter_list n;exact%[_,rfl|h]
def VM(h:Ev X o S e λ d S1=>Ev X o S1 c λ d' S2=>∃ds es,d=.tup ds/\d'=.lst es/\W (List.zipWith (λ x y=>.tup [x,y]) ds es) S2)(R:X.mg "zip"=none)(Q:Gl X "zip")
 (hs:starEach [e,c] X.env=(false,eval e X.env)::starEach [c] X.env)(g:starEach [c] X.env=[(false,eval c X.env)]):
 ItW X o S (.Tuple f k tp) (.Call (.Name "zip" p) [e,c] [] l) W:=by
 intro j s σ H O I r st;have P:EvA X o S [e,c] λ K S2=>∃ds es,K=[.tup ds,.lst es]/\W (List.zipWith (λ x y=>.tup [x,y]) ds es) S2:=
  fH (h.mono λ d S1 n=>fH (n.mono λ d' S2 ⟨ds,es,a,b,w⟩=>nq %[ds,es,by rw[a,b]|w]) g) hs;refine Call_ (cV I Q R boot_zip (eu (thn (P l j s σ H O I r st) λ us s1 t=>?_) hs (by rw[g];rfl)));obtain⟨vs,H1,q,r1,M,K,S1,⟨ds,es,N,w⟩,J,A,E⟩:=t;subst N;cases E with| cons ra C=>cases C with| cons C rc=>cases rc;obtain⟨u,u2,rfl,ru,G⟩:=vals2 r1;obtain⟨a,xs,rfl,n,q1⟩:=dz ra;obtain⟨b,ys,rfl,L,q2⟩:=dW C;cases ru;cases G;obtain⟨v,rv,Z,hz⟩:=q.tuple n.sq;obtain⟨i,aa,B,T⟩:=q.list L.sq;obtain⟨z4,U,p2,p3,V,Y,kp⟩:=zip_parts s1.heap "tuple_iterator" "list_iterator" a b;refine callType_new F.called_zip %[|1] (F.typeCall_zip_2 _ _) (F.newCall_zip_2 _ _) (λ z=>F.args_object_init_3 z _ _) F.entry_zip_new (Vj a b v.toArray i.toArray) %[Z,B.isList|?_];show _/\_;rw[z4];refine%[%[_,U|rfl]|Ui (Q4 X.prog X.w X.K) (Yd X.prog X.w X.K) q %[_,V,rfl|rfl] %[_,Y,rfl|rfl] %[M,_,S1,w,J,A|yD _ _ λ O' H' m=>%[xs,ys,(n.conv m).sq,q1.conv m,(L.conv m).sq|q2.conv m]]]
def aeT(hm:Ω.mg "zip"=none)(a b:Ex Ω):Itb Ω where
 lev:=%[|52]
 chk c N h t e:=zN t&&cX e λ y f=>two2 f λ l r=>(y==("zip":Str))&&(glb h "zip"&&((okE l&&okE r)&&(a.chk c N h l&&b.chk c N h r)))
 wp m S W:=a.wp m S λ d o=>b.wp m o λ i s=>match d,i with | .tup ds,.lst f=>W (List.zipWith (λ x y=>.tup [x,y]) ds f) s | _,_=>False
 sound:=by intro X r c N h t e m S W A G g I;obtain⟨J,K⟩:=lv2 G;refine an2 g λ H j=>?_;clear g;obtain⟨f,n,O,u⟩:=nR H;subst u;refine bB j λ y p f L k=>?_;refine two2_ind k λ l M g=>?_;{refine an4 g λ v w z B=>?_;refine an2 z λ C D=>?_;refine an2 B λ E F=>?_;have e:=ZU v;subst e;refine VM ((a.sound A J E I).mono λ d o q=>(b.sound A K F q).mono λ i s q=>?_) %[|76] (A.glb w) (aX C _ _) (aX D [] _);cases d<;>first | exact q.elim | (cases i<;>first | exact%[_,_,rfl,rfl|q] | exact q.elim)}
end RF
namespace RF
open PySem PySem.Spec L2 DL
open PyProof.Rows
variable{Ω:Wd}
def Bl.never:Bl Ω where
 lev:=0
 chk _ _ _ _:=true
 wp _ _ _:=False
 sound:=by intro X r c N f b g S W A e d a;exact a.elim
end RF
namespace RF
open PySem PySem.Spec L2 DL
open PyProof.Rows
variable{Ω:Wd}
end RF
namespace RF
open PySem PySem.Spec L2 DL
open PyProof.Rows
def aK{α:Type}[DecidableEq α](kvs:List (α×D))(ns:α):Option D:=(kvs.find? λ kv=>decide (kv.1=ns)).map (·.2)
def putD{α:Type}[DecidableEq α](kvs:List (α×D))(ns:α)(d:D):List (α×D):=if(kvs.any λ kv=>decide (kv.1=ns))=true then kvs.map λ kv=>if kv.1=ns then(kv.1,d)else kv else kvs++[(ns,d)]
theorem vq:∀{a b:af1},a.map D.int=b.map D.int->a=b
 | [],[],_=>rfl
 | [],_::_,h=>by cases h
 | _::_,[],h=>by cases h
 | x::a,y::b,h=>by have h:=iE h;rw[D.int.inj h.1,vq h.2]
def _root_.DL.DOb.typ{pins:Pins}{σ:DL.St}(b:DOb X.K O H a ds)(k:Abv X.K a)(I:%[|3]):
 s.TypeIs (.ref a) "dict"/\(∀b,Value.ref a=.ref b->∃ob,s.heap.get? b=some ob/\ob.dict=none)/\%[|74]:=by
 cases b with
 | t h e r=>exact aa5 I (.inr %[h|.inl e])
 | c g n e r=>obtain⟨⟨_,f,_,o,i,j,d,h4,_⟩,_,_⟩:=(show aU X.prog X.w H s.heap a (.ext (Wm a g))from I.hok a _ e);refine%[%[o,d|h4.1],λ b q=>?_|f];cases q;exact%[o,d|h4.2.1]
 | o g n e r=>obtain⟨⟨_,f,_,o,i,j,d,h4,_⟩,_,_⟩:=(show aU X.prog X.w H s.heap a (.ext (mV a g))from I.hok a _ e);refine%[%[o,d|h4.1],λ b q=>?_|f];cases q;exact%[o,d|h4.2.1]
 | m g l f e r=>obtain⟨⟨_,f,_,o,i,d,h4,_⟩,_,_⟩:=(show aU X.prog X.w H s.heap a (.ext (bI a g))from I.hok a _ e);refine%[%[o,d|h4.1],λ b q=>?_|f];cases q;exact%[o,d|h4.2.1]
 | p _ n=>exact absurd k n
section
variable{X:Cx}{Γ:Gam}{S:Store}{W:WD}{pos:Pos}
def Zi(h:W %[|13] (S++[[]])):Ev X Γ S (.Dict [] [] pos) W:=by intro d s g H O I f e;have b:=I.hok.fresh (y9 s.heap.objs.size);refine wpAny_Dict_empty %[%[|8],_,I.laid (a:=s.heap.objs.size) (o:=.dT []) (t':=s.toks) (λ _ _ q=>bX _ q) (y9 _) (WF s.heap I.big),rfl|?_];exact%[O.more s.heap.objs.size true,%[|13],S++[[]],h,Step.own b _ true,e.ownD b .nil|.dlo (by show(O.A++[%[|80]])[S.length]? =some %[|80];rw[<-e.len];simp) λ c o q=>ca (I.kIn c o q)]
end
section
variable{Ω:Wd}
def ae9:Ex Ω where
 lev:=0
 chk b N f e:=match e with | .Dict [] [] _=>true | _=>false
 wp i S W:=W %[|13] (S++[[]])
 sound:=by
  intro X r b N f e i S W A j a c
  cases e with
  | Dict d h g=>
    match d,h,a with
    | [],[],_=>exact Zi c
    | [],_::_,a=>exact fE a
    | _::_,_,a=>exact fE a
  | _=>exact fE a
end
abbrev Kc:=List (%[|14]×D)
def encC(kv:%[|14]×D):D:=.tup [cD kv.1,kv.2]
def aaW(h:cD c=cD d):c=d:=by unfold cD at h;have h:=D.tup.inj h;have a:=D.int.inj (iE h).1;have b:=D.tup.inj (iE (iE h).2).1;exact lI a (vq b)
def JQ(x:cG h v c)(y:cG h v d):c=d:=by obtain⟨b,o,k,s,u,rfl,p,z,n,q⟩:=x;obtain⟨w,r,A,j,t,e,g,m,f,i⟩:=y;cases e;obtain rfl:o=r:=cq (p.symm.trans g);have a:=n.symm.trans f;injection a with a _;have l:[Value.int c.1 s,u]=[Value.int d.1 j,t]:=eC Array.toList a;injection l with e3 e4;injection e3 with e3 _;injection e4 with e4 _;subst e4;exact lI e3 (Gf q i)
def Rb{es ep}(x:cG h v c)(z:h.get? d=some o)(y:o.data=.dict es ep)(hs:Heap.SameBut d h h'):cG h' v c:=by
 obtain⟨b,a,n,C,u,m,p,q,f,l,B,e,A,r,s,t,g,w⟩:=x;have k:∀(b:Addr)(a:Obj)(e:ag1)(n:Nat),h.get? b=some a->a.data=.seq e n->h'.get? b=some a:=λ b a e n i j=>by refine(hs.2 b ?_).trans i;rintro rfl;obtain rfl:a=o:=cq (i.symm.trans z);rw[y]at j;exact nomatch j
 exact%[b,a,n,C,u,m,k _ _ _ _ p f,q,f,l,B,e,A,r,k _ _ _ _ s g,t,g|w]
def cO(prog:ag4)(w:World):HeapKind prog w %[|14] where
 is h c a:=cG h (.ref a) c
 hash:=hC0
 draws c:=c.2.length+3
 room A:=A.units+5<cLine
 inj d e:=JQ d e
 keeps x ho hd hs:=Rb x ho hd hs
 pyHash f hk h:=Dy f hk h
 eqBool:=λ{A E s x y a b Q} f d e h=>Ho %[|0] d e prog w E Q h
 quiet hk h:=tW (n:=6) hk h
section
variable{K:PySem.W.Frag}{O:Own}{H:Hp}
def _root_.DL.Kcs.inv{kcs:Kc}(r:Kcs K O H ys ((kv::kcs).map encC)):∃b u v ys',ys=(kv.1,b,u)::ys'/\Rep K O H (.ref b) (cD kv.1)/\RelV v u/\Rep K O H v kv.2/\Kcs K O H ys' (kcs.map encC):=by have r:Kcs K O H ys (.tup [cD kv.1,kv.2]::kcs.map encC):=r;generalize hx:cD kv.1=x at r;cases r with| @cons c b u v _ _ ys' _ e f g a t=>subst hx;have e:=aaW (d:=c) e;subst e;exact%[b,u,v,ys',rfl,f,g,a|t]
def _root_.DL.Kcs.length{kcs:Kc}(r:Kcs K O H ys (kcs.map encC)):ys.length=kcs.length:=by
 induction kcs generalizing ys with
 | nil=>cases r;rfl
 | cons d kcs a=>obtain⟨b,u,v,c,rfl,_,_,_,t⟩:=r.inv;rw[dS,dS,a t]
def _root_.DL.Kcs.look{kcs:Kc}(r:Kcs K O H ys (kcs.map encC))(c:ag7):(aK kcs c=none/\atKey ys c=none)\/∃d b u v,aK kcs c=some d/\atKey ys c=some (b,u)/\RelV v u/\%[|33]:=by
 induction kcs generalizing ys with
 | nil=>cases r;exact .inl %[rfl|rfl]
 | cons kv kcs h=>
   obtain⟨b,u,v,a,rfl,k,j,i,t⟩:=r.inv;by_cases e:kv.1=c;{exact .inr %[kv.2,b,u,v,by simp[aK,e],by simp[atKey,e],j|i]}
   . have f:aK (kv::kcs) c=aK kcs c:=by simp[aK,eM,e]
     have g:atKey ((kv.1,b,u)::a) c=atKey a c:=by simp[atKey,eM,e]
     rw[f,g];exact h t
def GQ{b}[DecidableEq b](kcs:List (b×D))(c:b):(kcs.any %[|48])=(aK kcs c).isSome:=by
 induction kcs with
 | nil=>rfl
 | cons a l d=>unfold aK at d ⊢;rw[nB,eM,d];cases decide (a.1=c)<;>rfl
def _root_.DL.Kcs.put{kcs:Kc}(r:Kcs K O H ys (kcs.map encC))(q:Rep K O H (.ref b) (cD c))(p:RelV v u)(o:%[|33]):Kcs K O H (storedH ys c b u) ((putD kcs c d).map encC):=by
 have e:(kcs.any %[|48])=(atKey ys c).isSome:=by rw[GQ];rcases r.look c with⟨h,n⟩ | ⟨d,b,u,v,h,n,_⟩<;>rw[h,n]<;>rfl
 unfold putD storedH;rw[e];split
 . rename_i l;clear e l
   induction kcs generalizing ys with
   | nil=>cases r;exact .nil
   | cons kv kcs j=>
     obtain⟨i,k,s,m,rfl,a,g,f,t⟩:=r.inv;rw[cw,cw,cw];by_cases e:kv.1=c
     . have h:putAt c u (kv.1,i,k)=(kv.1,i,u):=by unfold putAt;rw[ci e]
       rw[h,ci e];exact .cons rfl a p o (j t)
     . have h:putAt c u (kv.1,i,k)=(kv.1,i,k):=by unfold putAt;rw[c8 e]
       rw[h,c8 e];exact .cons rfl a g f (j t)
 . rename_i l;clear e l
   induction kcs generalizing ys with
   | nil=>cases r;exact .cons rfl q p o .nil
   | cons kv kcs j=>obtain⟨i,k,s,m,rfl,a,g,f,t⟩:=r.inv;exact .cons rfl a g f (j t)
def Yu{pins:Pins}{σ:DL.St}(I:%[|3]){kcs:Kc}(r:Kcs X.K O H ys (kcs.map encC)):∀x∈ys,cG s.heap (.ref x.2.1) x.1:=by
 induction kcs generalizing ys with
 | nil=>cases r;intro x a;cases a
 | cons f kcs c=>obtain⟨b,u,v,e,rfl,d,h,g,t⟩:=r.inv;intro x a;rcases cK.mp a with rfl | a;{exact gD I d rfl};{exact c t x a}
def iW(r:Rep K O H v (.tup ds)):∃b,v=.ref b:=by cases r;exact%[_|rfl]
def Pu(ys:Cy)(c:ag7)(b:Addr)(u:Value):(storedH ys c b u).length<=ys.length+1:=by unfold storedH;split<;>simp
end
theorem jr:∀{a:af5}{ns:af1},IntsAre a ns->Vals (ns.map V.int) a
 | _,_,.nil=>.nil
 | _,_,.cons n t r=>.cons %[t|rfl] (jr r)
section
variable{X:Cx}
def ac8{pins:Pins}{σ:DL.St}(U:%[|56])(I:%[|3])(R:Sn X.K H v x)(S:Sn X.K H C (.lst ds))(P:RelV v u)(Q:RelV C B)(L:aY ds<=50):
 ∃(l:Addr) (its:af5) (e:Value->Bool),B=.ref l/\PlainL s.heap l its.toArray/\its.length=ds.length/\its.length<=sizeLine/\(∀y,y∈its.toArray->SeqAt.EqAt X.A.in1 s y u (e y))/\∀(i:Nat)(y:Value)(d:D),its[i]? =some y->%[|25]->e y=eqD d x:=by
 classical
 cases S with
 | @lst a Y _ K A=>
   cases Q;obtain⟨its,z,O,N⟩:=I.list K;let e:Value->Bool:=λ y=>decide (∃(b:V) (d:D),RelV b y/\Sn X.K H b d/\eqD d x=true);have E:∀(y:Value)(b:V)(d:D),RelV b y->Sn X.K H b d->e y=eqD d x:=by
    intro y b d k m
    cases f:eqD d x with
    | true=>exact cc %[b,d,k,m|f]
    | false=>refine cm ?_;rintro⟨W,T,q,r,j⟩;have p:=q.inj k;subst p;have:=su I r m;subst this;rw[f]at j;cases j
   have g:∀(i:Nat)(y:Value)(d:D),its[i]? =some y->%[|25]->e y=eqD d x/\SeqAt.EqAt X.A.in1 s y u (eqD d x):=by intro i y d o f;obtain⟨b,t,m⟩:=A.get f;obtain⟨Z,n,k⟩:=nW z t;rw[o]at n;cases n;exact%[E y b d k m|Qx 50 d x (d6 (oW f) L) I m R k P (by show X.A.units+1+50<cLine;omega)]
   have c:its.length=ds.length:=by rw[<-z.length,A.length]
   refine%[a,its,e,rfl,O,c,by rw[<-z.length];exact N,λ y M=>?_|λ i y d h J=>(g i y d h J).1];have w:y∈its:=by simpa using M
   obtain⟨i,o⟩:=db w;obtain⟨d,f⟩:∃d,%[|25]:=%[_|y3 (by rw[<-c];exact(z0.mp o).1)];obtain⟨F,G⟩:=g i y d o f;rw[F];exact G
def acb(X:Cx):V->List V->Hp->VK->Prop:=λ x b H Q=>∃(w:V) (d:D) (a:List D) (j:Nat) (y:D),b=[w]/\Sn X.K H x (.lst a)/\Sn X.K H w d/\aY a<=50/\a[j]? =some y/\eqD y d=true/\(∀(m:Nat)(z:D),m<j->a[m]? =some z->eqD z d=false)/\Q (.int j) H
def Vx(L:%[|56]):MtM X "list.index" (acb X):=by
 intro C s Z H x Y v W Q I R P h;obtain⟨w,d,E,j,y,rfl,U,S,F,t,M,K,q⟩:=h;obtain⟨u,rfl,O⟩:=P.one;obtain⟨l,a,e,rfl,N,c,k,G,b⟩:=ac8 L I S U O R F;obtain⟨⟨D,V,o,T⟩,n,A,p,r,B⟩:=N;simp only at p r B;subst p r B;have f:j<a.length:=by rw[c];exact(z0.mp t).1
 refine kN PySem.F.slot_list_index %[_,A|rfl] PySem.F.entry_list_index (PySem.F.args_list_index_2 _ _)
  (SeqAt.list_indexAt l a.toArray n _ T u e j (by simpa using f) (by have:sizeLine<2 ^ 63-1:=%[|1];omega) ?_ ?_) %[A,G|%[.int j,H,I.tok _,%[_|rfl]|q]];{rw[b j _ y (by simp) t];exact M}
 . intro m J g;have i:m<a.length:=by simpa using J
   obtain⟨z,k⟩:∃z,E[m]? =some z:=%[_|y3 %[|0]];rw[b m _ z (by simp[i]) k];exact K m z g k
def XH(hu:%[|56])(h:Ev X i S o λ x S1=>∃ds,x=.lst ds/\Ev X i S1 e λ d S2=>cz ds=true/\okD (vw S2 d)=true/\aY ds<=50/\∃(j:Nat) (y:D),ds[j]? =some y/\eqD y (vw S2 d)=true/\(∀(m:Nat)(z:D),m<j->ds[m]? =some z->eqD z (vw S2 d)=false)/\W (.int j) S2)
 (l:attributeBase o "index" X.env (eval o X.env)=eval o X.env)(hs:starEach [e] X.env=[(false,eval e X.env)])(n:(c.endLine==f.line)=true):Ev X i S (.Call (.Attribute o "index" c) [e] [] f) W:=by
 intro a s B H O I b L;have Z:PA X [e] (λ B H Q=>∃O i S E,EnvOk X.K O H B i/\%[|15]/\Ev X i S e E/\∀v C,QG X.K O H E v C->Q [v] C):=by rintro K a s B H Q I ⟨O,i,S,E,b,L,F,k⟩;rw[hs];show wpAny _ _ (spliced ((false,eval e X.env)::backTo K (starEach [] X.env))) _ _ s;refine f8 (thn (F a s B H O I b L) λ u s1 G=>?_);obtain⟨v,M,N,r1,q⟩:=G;exact fF %[[v],M,N,.cons r1 .nil|k v M q]
 refine X4 (T:="list") PySem.F.plainAttrs_list PySem.F.slot_list_index PySem.F.type_list_index (Vx hu) (h.pe) Z l (by rw[hs];rfl) n hs rfl a s B H _ I %[O,b,L|λ v C q=>?_];obtain⟨P,x,S1,⟨ds,rfl,F⟩,t,J,g⟩:=q;refine%[?_,P,i,S1,_,b.mono t,J,F|λ v2 H2 q2=>?_];{cases g with| lst hl _=>exact .inl %[rfl,_|hl.sq]};{obtain⟨R,d,S2,⟨U,V,Y,j,y,hj,hy,hn,w⟩,A,p,r⟩:=q2;exact%[v2,_,ds,j,y,rfl,jg (x:=.lst ds) p (g.mono A) (by show cz _=true;exact U),jg p r V,Y,hj,hy,hn,R,_,S2,w,t.trans A,p|.int _]}
end
section
variable{Ω:Wd}
def aeQ(o a:Ex Ω):Ex Ω where
 lev:=max o.lev a.lev
 chk b N h e:=match e with | .Call (.Attribute x m p) [y] [] q=>(m==("index":Str))&&(nameE x&&((p.endLine==q.line)&&(okE y&&(o.chk b N h x&&a.chk b N h y)))) | _=>false
 wp i S W:=o.wp i S λ x k=>match x with | .lst ds=>a.wp i k λ d c=>cz ds=true/\okD (vw c d)=true/\aY ds<=50/\∃(j:Nat) (y:D),ds[j]? =some y/\eqD y (vw c d)=true/\(∀(m:Nat)(z:D),m<j->ds[m]? =some z->eqD z (vw c d)=false)/\W (.int j) c | _=>False
 sound:=by intro X r b N h e i S W A w f B;obtain⟨C,E⟩:=lv2 w;split at f;{rename_i x m p y q;obtain⟨l,g⟩:=bz f;obtain⟨n,g⟩:=bz g;obtain⟨s,g⟩:=bz g;obtain⟨t,g⟩:=bz g;obtain⟨u,v⟩:=bz g;have e:=ZU l;subst e;refine XH A.hu ((o.sound A C u B).mono λ x k q=>?_) ?_ (aX t [] _) s;{cases x<;>first | exact q.elim | exact%[_,rfl|a.sound A E v q]};{exact iU n}};{exact ff f}
end
abbrev Ko:=List (Option Int×D)
def cN(kv:Option Int×D):D:=.tup [oD kv.1,kv.2]
def aaQ(h:oD a=oD b):a=b:=by cases a<;>cases b;{rfl};{exact nomatch h};{exact nomatch h};{exact eC some (D.int.inj h)}
def fO(h:isO k v=true):(∃i t,k=some i/\v=.int i t)\/(k=none/\v=.none):=by unfold isO at h;split at h;{exact .inl %[_,_,by rw[cE h]|rfl]};{exact .inr %[rfl|rfl]};{exact nomatch h}
section
variable{prog:Program}{w:World}{A:Around}{E:%[|26]}{s:Shared}
def Ry(h:Q 4238894112 {s with toks:=s.toks+1}):wpAny %[|4] A (pyHash .none) Q E s:=by
 have a:∀x:String,¬(some (Value.builtin x)==some Value.none)=true:=λ x=>by rw[beq_builtin_none];exact y6
 show wpAny _ _ (pyHashByItsType .none) Q E s;unfold pyHashByItsType;refine b0 ?_;rw[cRoomFor,c8 %[|1]];refine b9 (b0 (gv (typeIs_none s) lS.lookup ?_));dsimp only;rw[c8 (a _)];refine b0 (gv (typeIs_none s) lS.lookup ?_);refine(show wpAny _ _ (callSpecialIfBoundUnlessNone? .none "__hash__" _>>=_) Q E s from b0 (wpAny_callSpecialIfBoundUnlessNone?_slot (typeIs_none s) lS ?_));refine dQ lS (typeIs_none s) F.entry_NoneType_hash ?_ (F.args_NoneType_hash_1 _);refine(show wpAny _ _ (do ret (<-mkInt 4238894112)) _ _ s from wpAny_ret_mkInt ?_);show wpAny _ _ (if(decide (-(2:Int) ^ 63<=4238894112)&&decide ((4238894112:Int)<2 ^ 63))=true then _ else _) Q E _;rw[ci %[|1]];exact b9 h
end
def fY(prog:ag4)(w:World):PySem.KeyKind prog w (Option Int) where
 is:=isO
 hash:=hO0
 inj v a b ha hb:=by rcases fO ha with⟨i,t,rfl,rfl⟩ | ⟨rfl,rfl⟩<;>rcases fO hb with⟨j,u,rfl,e⟩ | ⟨rfl,e⟩;{injection e with e;rw[e]};{exact nomatch e};{exact nomatch e};{rfl}
 byValue k v h:=by rcases fO h with⟨i,t,rfl,rfl⟩ | ⟨rfl,rfl⟩<;>rfl
 pyHash hv h:=by rcases fO hv with⟨i,t,rfl,rfl⟩ | ⟨rfl,rfl⟩;{exact wpAny_pyHash_int h};{exact Ry h}
 eqBool hu hv h:=by
  rcases fO hu with⟨i,t,rfl,rfl⟩ | ⟨rfl,rfl⟩<;>rcases fO hv with⟨j,u,rfl,rfl⟩ | ⟨rfl,rfl⟩
  . refine nI ?_;have e:decide (some i=some j)=(i==j):=by by_cases q:i=j<;>simp[q]
    rw[e]at h;exact h
  {exact SeqAt.EqAt.int_none i t _ _ _ _ h};{exact SeqAt.EqAt.none_int j u _ _ _ _ h};{exact mn _ _ _ _ _ h}
 «strs» k x t v h:=by rcases fO h with⟨i,u,_,e⟩ | ⟨_,e⟩<;>exact nomatch e
def Tz(h:OEs es ys):Pairs (fY P w) es ys/\∀e∈es,∃k,(fY P w).is k e.key=true/\e.hash=(fY P w).hash k:=by
 induction h with
 | nil=>exact%[.nil|λ e h=>nomatch h]
 | cons i h q t ih=>refine%[.cons i q ih.1|λ e a=>?_];rcases cK.mp a with rfl | a;{exact%[_,i|h]};{exact ih.2 e a}
def aa0{ys:Oy}(p:Pairs (fY P w) es ys):(∀e∈es,∃k,(fY P w).is k e.key=true/\e.hash=(fY P w).hash k)->OEs es ys:=by
 induction p with
 | nil=>exact λ _=>.nil
 | cons i q t f=>intro h;obtain⟨k,b,c⟩:=h _ x6;have a:=(fY P w).inj _ _ _ b i;subst a;exact .cons i c q (f λ e d=>h e (x4 _ d))
section
variable{K:PySem.W.Frag}{O:Own}{H:Hp}
def _root_.DL.Kos.inv{a:Ko}(r:Kos K O H ys ((kv::a).map cN)):∃u v ys',ys=(kv.1,u)::ys'/\RelV v u/\Rep K O H v kv.2/\Kos K O H ys' (a.map cN):=by have r:Kos K O H ys (.tup [oD kv.1,kv.2]::a.map cN):=r;generalize hx:oD kv.1=x at r;cases r with| @cons c u v _ _ ys' _ e d b t=>rw[<-hx]at e;have e:=aaQ e;rw[e];exact%[u,v,ys',rfl,d,b|t]
def _root_.DL.Kos.length{a:Ko}(r:Kos K O H ys (a.map cN)):ys.length=a.length:=by
 induction a generalizing ys with
 | nil=>cases r;rfl
 | cons d a b=>obtain⟨u,v,c,rfl,_,_,t⟩:=r.inv;rw[dS,dS,b t]
def _root_.DL.Kos.any{a:Ko}(r:Kos K O H ys (a.map cN))(c:ag3):(ys.any %[|48])=a.any %[|48]:=by
 induction a generalizing ys with
 | nil=>cases r;rfl
 | cons kv a b=>obtain⟨u,v,d,rfl,f,e,t⟩:=r.inv;rw[nB,nB,b t]
def _root_.DL.Kos.put{a:Ko}(r:Kos K O H ys (a.map cN))(k:RelV v u)(j:%[|33]):Kos K O H (stored ys c u) ((putD a c d).map cN):=by
 unfold putD stored;rw[r.any c];split
 . rename_i h;clear h
   induction a generalizing ys with
   | nil=>cases r;exact .nil
   | cons kv a g=>obtain⟨l,m,i,rfl,f,b,t⟩:=r.inv;rw[cw,cw,cw];by_cases e:kv.1=c;{rw[ci e,ci e];exact .cons rfl k j (g t)};{rw[c8 e,c8 e];exact .cons rfl f b (g t)}
 . rename_i h;clear h
   induction a generalizing ys with
   | nil=>cases r;exact .cons rfl k j .nil
   | cons kv a g=>obtain⟨l,m,i,rfl,f,b,t⟩:=r.inv;exact .cons rfl f b (g t)
def Uy{ys:Oy}:stored ys c u≠[]:=by
 unfold stored;split
 . rename_i h
   cases ys with
   | nil=>cases h
   | cons y ys=>exact %[|59]
 {exact λ z=>by have:=eC List.length z;simp at this}
def Gm{pins:Pins}{σ:DL.St}(I:%[|3]){d:Ko}(b:DOb X.K O H a (d.map cN)):
 %[|74]/\Mut (H a)/\∃ys,Kos X.K O H ys (d.map cN)/\s.heap.DictOf (fY X.prog X.w) a ys/\ys.length<=sizeLine:=by
 cases b with
 | t j e r=>
   have C:d=[]/\j=[]:=by
    cases d with
    | nil=>cases r;exact%[rfl|rfl]
    | cons kv d=>have r:Kps X.K O H j (.tup [oD kv.1,kv.2]::d.map cN):=r;generalize hx:oD kv.1=x at r;cases r with| cons r t=>rcases kv with⟨_ | _,_⟩<;>exact nomatch hx
   obtain⟨rfl,rfl⟩:=C;obtain⟨z,f,N,D,o,u,v,y,A,B,h,J⟩:=(show aU X.prog X.w H s.heap a (.dT [])from I.hok a _ e);cases D;have h:u.toList=[]:=h;have i:u=#[]:=Array.toList_eq_nil_iff.mp h;subst i;exact%[f,by rw[e];trivial,[],.nil,%[o,#[],v,y,A,B,(λ e i=>by simp at i),.nil|g9]|dk _]
 | c ys n e r=>
   cases d with
   | nil=>cases r;exact absurd rfl n
   | cons kv d=>have r:Kcs X.K O H ys (.tup [oD kv.1,kv.2]::d.map cN):=r;generalize hx:oD kv.1=x at r;cases r with| cons E L M r t=>rw[<-hx]at E;rcases kv with⟨_ | _,_⟩<;>exact nomatch E
 | o ys n e r=>obtain⟨⟨F,f,C,o,u,v,y,A,B,h⟩,_,_⟩:=(show aU X.prog X.w H s.heap a (.ext (mV a ys))from I.hok a _ e);have pk:=Tz (P:=X.prog) (w:=X.w) h;exact%[f,by rw[e];trivial,ys,r,%[o,u,v,y,A,B,λ e i=>pk.2 e (by simpa using i),pk.1|C]|F]
 | m ys G f e r=>
   cases d with
   | nil=>cases f
   | cons kv d=>cases f
 | p K n b l c z q k e f g=>
   cases d with
   | nil=>cases f
   | cons kv d=>cases f
def aao(d:h.DictOf (fY P w) a ys)(hz:ys.length<=sizeLine)(m:%[|74]):mV a ys h:=by obtain⟨o,c,b,f,g,i,j,k,l⟩:=d;exact%[hz,m,l,o,c,b,f,g,i|aa0 k λ e n=>j e (by simpa using n)]
def aaV(d:mV a ys h):aU P w H h a (.ext (mV a ys)):=by refine%[d,?_|λ f g q k=>?_];{obtain⟨_,_,_,o,_,_,e,_⟩:=d;exact%[o|e]};{obtain⟨z,y,n,o,c,b,e,r⟩:=q;exact%[z,y,n,o,c,b,k o e|r]}
def Nk(r:Rep K O H v (oD c))(a:RelV v u):isO c u=true:=by
 cases c with
 | none=>cases r;cases a;rfl
 | some i=>cases r;obtain⟨t,rfl⟩:=a;simp[isO]
end
section
variable{X:Cx}{Γ:Gam}{S:Store}{W:WD}{pos:Pos}
def acC{W}(hs:swapsWith e (some (.Subscript o i n)) pos.line X.env=pure false)
 (h:Ev X Γ S e λ d S1=>Ev X Γ S1 o λ x S2=>Ev X Γ S2 i λ y S3=>∃k c kvs,x=.dlo k/\y=oD c/\S3[k]? =some (List.map cN kvs)/\kvs.length<1000000/\W.nx Γ (S3.set k ((putD kvs c d).map cN))):Rn X Γ S (.Assign [.Subscript o i n] e pos) W:=by intro f s C H O I g st;refine wpAny_Assign_Subscript (thn (h f s C H O I g st) λ r s1 b=>?_) hs;obtain⟨v,Q,T,rv,q⟩:=b;obtain⟨V,d,S1,h1,j,G,t⟩:=q;refine thn (h1 f s1 C Q V T (g.mono j) G) λ u s2 b=>?_;obtain⟨x,R,U,rx,q⟩:=b;obtain⟨Y,dx,S2,h2,l,J,z⟩:=q;refine thn (h2 f s2 C R Y U ((g.mono j).mono l) J) λ iv s3 b=>?_;obtain⟨y,H3,M,ry,q⟩:=b;obtain⟨O3,dy,S3,⟨k,c,kvs,rfl,rfl,hk,hz,w⟩,m,p,A⟩:=q;have K:=z.mono m;obtain⟨a,rfl,E,_⟩:=fK K;obtain rfl:u=Value.ref a:=rx;obtain⟨hd,mu,B,P,Z,hz'⟩:=Gm M (p.dob k a _ E hk);have rd:=(t.mono l).mono m;have hl:=stored_length_le B c r;have aa:=P.length;refine wpAny_setItem_pairs (hsz:=hz') (Nk A ry) Z λ h' D F=>?_;have N:mV a (stored B c r) h':=aao D (by rw[ja];omega) hd;obtain⟨_,_,_,q,_,_,hq,_⟩:=id N;have L:=Step.put (O:=O3) (H:=H3) (dD E) (.ext (mV a (stored B c r)));refine%[C,upd H3 a (.ext (mV a (stored B c r))),Bj M mu F %[q|hq] (aaV N),O3,Γ,_,w,((j.trans l).trans m).trans L,p.putO E (.o _ Uy aR ((P.put rv rd).conv L.conv))|(((g.mono j).mono l).mono m).mono L]
end
section
variable{Ω:Wd}
def X5(y:D)(S:Store)(k:Nat)(W:Ko->Option Int->Prop):Prop:=∃c a,y=oD c/\S[k]? =some (List.map cN a)/\W a c
def afa(o i a:Ex Ω):Sm Ω where
 lev:=max a.lev (max o.lev i.lev)
 chk f N h u:=ixB u λ x y e=>noC e&&(okE y&&(a.chk f N h e&&(o.chk f N h x&&i.chk f N h y)))
 wp g S W:=a.wp g S λ d n=>o.wp g n λ x s=>i.wp g s λ y j=>onD x λ k=>X5 y j k λ b c=>b.length<1000000/\W.nx g (j.set k ((putD b c d).map cN))
 sound:=by intro X r f N h u g S W A G l H;obtain⟨I,m⟩:=lv2 G;obtain⟨m,J⟩:=lv2 m;refine BX l λ x y p e t l=>?_;refine an5 l λ C L D E F=>?_;refine acC ?_ ((a.sound A I D H).mono λ d n q=>(o.sound A m E q).mono λ x s q=>(i.sound A J F q).mono λ y j q=>?_);{exact jZ C _ _ _};{refine jT q λ k q=>?_;obtain⟨K,b,v,z,B,w⟩:=q;exact%[k,K,b,rfl,v,z,B|w]}
end
theorem N5:∀(l:af5)(ns:af1),l.length=ns.length->(∀(j:Nat)(v:Value),l[j]? =some v->∃(n:Int) (t:Tok),ns[j]? =some n/\v=Value.int n t)->IntsAre l ns
 | [],[],_,_=>.nil
 | [],_::_,h,_=>nomatch h
 | _::_,[],h,_=>nomatch h
 | v::l,n::ns,h,k=>by obtain⟨m,t,e,rfl⟩:=k 0 v rfl;cases e;exact .cons n t (N5 l ns (iA h) λ j v e=>k (j+1) v e)
def upI(n:Nat):List Int:=%[|31].map λ(i:Nat)=>(0:Int)+(i:Int)
def adg(n:Nat):DL.upTo 0 n=(upI n).map D.int:=by unfold DL.upTo upI;rw[dr];rfl
def De(j:Int)(h:0<=j):Builtin.Range.rangeSize 0 j 1=(j.toNat:Nat):=by rw[rangeSize_one];split<;>omega
def Py(h:0<=j)(h':j<1000000):Builtin.Range.small 0 j 1=true:=by
 unfold Builtin.Range.small;rw[De j h];by_cases a:j<=0
 . have:j=0:=%[|0]
   subst this;rfl
 {simp only[Builtin.Range.rangeFitsLong,fk,ky,hV,beq_iff_eq,a,en,show((1:Int)>0)from %[|1],h9];omega}
section
variable{X:Cx}{Γ:Gam}{S:Store}{W:WD}{pos:Pos}
def Y7(A:%[|32])(h:Ev X Γ S a λ d S1=>∃j:Int,d=.int j/\0<=j/\j<1000000/\(W (.lst (DL.upTo 0 j.toNat)) S1\/W (.loc S1.length) (S1++[DL.upTo 0 j.toNat])))(hm:X.mg "range"=none)(C:X.mg "list"=none)(Z:Gl X "range")(B:Gl X "list")(hs:starEach [a] X.env=[(false,eval a X.env)])
 (l:starEach [.Call (.Name "range" p) [a] [] pos] X.env=[(false,eval (.Call (.Name "range" p) [a] [] pos) X.env)]):Ev X Γ S (.Call (.Name "list" p2) [.Call (.Name "range" p) [a] [] pos] [] f) W:=by
 intro c s N H O I y st;refine Call_ (cV I B C (show bootBuiltins "list"=some %[|23]from %[|11]) (eu ?_ l rfl));rw[show backTo f (starEach [.Call (.Name "range" p) [a] [] pos] X.env)=[(false,eval (.Call (.Name "range" p) [a] [] pos) X.env)]from by rw[l];rfl];refine f8 ?_;have U:EvA X Γ S [a] λ J S1=>∃j:Int,J=[.int j]/\0<=j/\j<1000000/\(W (.lst (DL.upTo 0 j.toNat)) S1\/W (.loc S1.length) (S1++[DL.upTo 0 j.toNat])):=
  fH (h.mono λ d S1 ⟨j,e,u,z,w⟩=>nq %[j,by rw[e],u,z|w]) hs;refine Call_ (cV I Z hm boot_range (eu (thn (U pos c s N H O I y st) λ us n D=>?_) hs rfl));obtain⟨vs,G,P,r1,q1⟩:=D;obtain⟨R,J,S1,⟨j,rfl,u,z,w⟩,F,m,E⟩:=q1
 cases E with
 | cons ra rb=>
   cases rb;cases ra
   cases r1 with
   | cons r rr=>
     cases rr;obtain⟨t,rfl⟩:=r;refine call_range_1 (fF ?_);have x:Inv X c N G {n with heap:=n.heap.push {cls:=.type "range",data:=.fields #[.int 0 n.toks,.int j t,.int 1 (n.toks+1)]},toks:=n.toks+1+1}:=P.kept λ b o e=>bX _ e;refine call_list_range (x.ok.hd A) (IsRange.new ..) (Py u z) (De j u) %[|0] λ h' tk g T kp k its=>?_;have L:=x.hok.fresh (y9 _);have Y:IntsAre g.toList (upI j.toNat):=N5 _ _ (by have:=its.1;simp[upI];exact this) λ i v e=>by
      have K:g[i]? =some v:=by simpa using e
      obtain⟨t,rfl⟩:=its.2 i v K;have hi:i<j.toNat:=by rw[<-its.1];exact(Array.getElem?_eq_some_iff.mp K).1
      exact%[_,t,by unfold upI;rw[y8,List.getElem?_range hi];rfl|by rw[Int.mul_one]]
     have zl:((upI j.toNat).map V.int).length<=sizeLine:=by simp[upI,ja];omega
     have Q:=x.laid (t':=tk) (o:=.lst ((upI j.toNat).map V.int)) (λ b ob q=>kp b ob q) (y9 _) %[zl,g.toList,T,jr Y|by simpa using k];have M:Reps X.K R G ((upI j.toNat).map V.int) (DL.upTo 0 j.toNat):=by rw[adg];exact aeG _
     refine gH F %[.ref _,_,Q,rfl|?_];rcases w with w | w;{exact j8 w m L M};{exact JP w m L M}
end
section
variable{Ω:Wd}
def afb(hm:Ω.mg "range"=none)(hm2:Ω.mg "list"=none)(a:Ex Ω):Ex Ω where
 lev:=a.lev
 chk h N k e:=cX e λ z t=>(z==("list":Str))&&dX t λ s=>cX s λ y c=>(y==("range":Str))&&dX c λ b=>(glb k "list"&&(glb k "range"&&(okE b&&a.chk h N k b)))
 wp v S W:=a.wp v S λ d i=>onI d λ j=>(0<=j/\j<1000000)/\(W (.lst (DL.upTo 0 j.toNat)) i\/W (.loc i.length) (i++[DL.upTo 0 j.toNat]))
 sound:=by intro X r h N k e v S W A G m H;refine bB m λ z J t I f=>?_;refine an2 f λ B n=>?_;clear f;refine dq n λ s o=>?_;refine bB o λ y p c u g=>?_;refine an2 g λ C m=>?_;clear g;refine dq m λ b x=>?_;refine an4 x λ l D E F=>?_;have e:=ZU B;subst e;have w:=ZU C;subst w;refine Y7 A.calm ((a.sound A G F H).mono λ d i q=>?_) %[|76] (by rw[A.g];exact hm2) (A.glb D) (A.glb l) (aX E [] _) rfl;exact uD q λ _ q=>%[_,rfl,q.1.1,q.1.2|q.2]
end
section
variable{X:Cx}{Γ:Gam}{S:Store}{W:WD}{pos:Pos}
def _root_.DL.Kos.val{K}{a:Ko}(r:Kos K O H ys (a.map cN))(h:aK a c=some d):∃u v,valueAt ys c=some u/\RelV v u/\%[|33]:=by
 induction a generalizing ys with
 | nil=>cases h
 | cons kv a i=>
   obtain⟨u,v,b,rfl,k,j,t⟩:=r.inv;by_cases e:kv.1=c
   . have f:aK (kv::a) c=some kv.2:=by simp[aK,e]
     rw[f]at h;cases h;exact%[u,v,by simp[valueAt,e],k|j]
   . have f:aK (kv::a) c=aK a c:=by simp[aK,eM,e]
     have g:valueAt ((kv.1,u)::b) c=valueAt b c:=by simp[valueAt,eM,e]
     rw[f]at h;rw[g];exact i t h
def abV(hs:Xv e)
 (h:Ev X Γ S o λ x S1=>∃k,x=.dlo k/\Ev X Γ S1 e λ y S2=>∃c kvs d,y=oD c/\S2[k]? =some (List.map cN kvs)/\aK kvs c=some d/\W d S2):Ev X Γ S (.Subscript o e pos) W:=by intro b s B H O I g Y;refine Oz PySem.F.slot_dict_getitem.lookup hs (thn (h b s B H O I g Y) λ u V f=>?_);obtain⟨x,C,E,T,q⟩:=f;obtain⟨F,xd,S1,⟨k,rfl,M⟩,m,r,j⟩:=q;obtain⟨a,rfl,J,_⟩:=fK j;obtain rfl:u=Value.ref a:=T;refine thn (M b V B C F E (g.mono m) r) λ iv s2 f=>?_;obtain⟨y,D,t,U,P⟩:=f;obtain⟨z,yd,S2,⟨c,kvs,d,rfl,hs,K,w⟩,n,i,l⟩:=P;have p:z.A[k]? =some (a,true):=n.conv.lc k _ J;obtain⟨L,mu,ys,N,A,Z⟩:=Gm t (i.dob k a _ p hs);obtain⟨u',v,G,R,Q⟩:=N.val K;exact%[A.typeIs|wpAny_getItem_of (Nk l U) A.mapOf G %[v,D,t.tok _,R,z,_,S2,w,m.trans n,i|Q]]
end
section
variable{Ω:Wd}
def ae3(o a:Ex Ω):Ex Ω where
 lev:=max o.lev a.lev
 chk f N h e:=match e with | .Subscript l r _=>okE r&&(o.chk f N h l&&a.chk f N h r) | _=>false
 wp i S W:=o.wp i S λ x j=>onD x λ k=>a.wp i j λ y g=>X5 y g k λ b c=>∃d,aK b c=some d/\W d g
 sound:=by
  intro X r f N h e i S W A t m u;obtain⟨v,z⟩:=lv2 t
  cases e with
  | Subscript l C B=>refine an3 m λ n p s=>?_;refine abV (wy n) ((o.sound A v p u).mono λ x j q=>?_);refine jT q λ k q=>?_;exact%[k,rfl|(a.sound A z s q).mono λ y g ⟨ns,b,e1,e2,d,e3,w⟩=>%[ns,b,d,e1,e2,e3|w]]
  | _=>exact fE m
end
def lq:Bool->Nat->D
 | true,k=>.dlo k
 | false,k=>.loc k
def OwQ(n:Nat)(W:WD):WD:=λ d b=>W d b\/∃(q:Bool) (J:List (List D)) (a:Store) (k:Nat) (c:List D),d=lq q k/\b=a++J/\n<=a.length/\a.length<=k/\b[k]? =some c/\aa c=true/\flat a/\W (lq q a.length) (a++[c])
def QG.owq{K}(hn:O.A.length=n)(q:QG K O H (OwQ n W) v S):QG K O H W v S:=by
 obtain⟨f,d,Y,w,R,o,r⟩:=q;rcases w with w | ⟨q,J,c,k,E,rfl,rfl,hl,hk,U,T,L,w⟩;{exact%[f,d,Y,w,R,o|r]}
 . obtain⟨a,rfl,u,hq⟩:∃a,v=.ref a/\f.A[k]? =some (a,q)/\(q=true->Abv K a):=by cases q;{cases r;exact%[_,rfl,by assumption|%[|59]]};{cases r;exact%[_,rfl,by assumption|λ _=>by assumption]}
   . obtain⟨s,_,_,na⟩:=j9 R o %[|0] L;have M:=na k a %[|0] u;have X:(f.A.take c.length).length=c.length:=by have:=o.len;simp at this ⊢;omega
     have t:∀b,¬f.has b->¬(%[%[|79]|f.B]:Own).has b:=λ b i z=>i (z.imp (λ z=>by rw[cY]at z;rcases cn.mp z with z | z;{exact lJ z};{rw[show b=a from by simpa using z];exact dD u}) id);have B:∀(j:Nat),j<c.length->%[|79][j]? =f.A[j]?:=λ j A=>by rw[x9 %[|0],fT,ci A]
     have m:%[|79][c.length]? =some (a,q):=by rw[dt %[|0],X];simp
     have C:∀(j:Nat)(l:List D),(c++[E])[j]? =some l->(j<c.length/\c[j]? =some l)\/(j=c.length/\l=E):=λ j l e=>by rcases Nat.lt_trichotomy j c.length with h | h | h;{rw[x9 h]at e;exact .inl %[h|e]};{subst h;rw[dt (y9 _)]at e;simp at e;exact .inr %[rfl|e.symm]};{rw[iS %[|16]]at e;cases e}
     refine%[%[%[|79]|f.B],lq q c.length,c++[E],w,%[s.kept,s.dom,?_|s.hid],%[?_,by simp[X],λ j b l g p=>?_,λ j b l g p=>?_,λ b i=>?_|o.hidden]|by cases q with | false=>exact .loc m | true=>exact .dlo m (hq rfl)];{obtain⟨N,F,Z⟩:=s.ext;obtain⟨N',G,I⟩:=R.ext;have F:f.A.take c.length=O.A++N:=F;refine%[N++[(a,q)],by show %[|79]=_;rw[F,ck]|λ b i=>?_];rw[cY]at i;rcases cn.mp i with i | i;{exact Z b i};{rw[show b=a from by simpa using i];rw[G,dt %[|0]]at u;exact I a (dD u)}};{show(adr %[|79]).Nodup;rw[cY,ke];refine%[?_,by simp[adr]|λ x P y Q=>?_];{show(List.map _ (List.take _ _)).Nodup;rw[pj];exact o.nd.sublist (kS _ _)};{rw[show y=a from by simpa using Q];exact λ z=>M (.inl (z▸P))}};{rcases C j l p with⟨A,p⟩ | ⟨rfl,rfl⟩;{have g:%[|79][j]? =some (b,false):=g;rw[B j A]at g;obtain⟨ys,Q,r'⟩:=o.obj j b l g (by rw[x9 A];exact p);exact%[ys,Q|gR t (L l (y4 p)) r']};{have g:%[|79][c.length]? =some (b,false):=g;rw[m]at g;cases g;obtain⟨xs,P,q1⟩:=o.obj k a l u U;exact%[xs,P|gR t T q1]}};{rcases C j l p with⟨A,p⟩ | ⟨rfl,rfl⟩;{have g:%[|79][j]? =some (b,true):=g;rw[B j A]at g;exact vR t (L l (y4 p)) (o.dob j b l g (by rw[x9 A];exact p))};{have g:%[|79][c.length]? =some (b,true):=g;rw[m]at g;cases g;exact vR t T (o.dob k a l u U)}};{have i:b∈adr %[|79]:=i;rw[cY]at i;rcases cn.mp i with i | i;{exact o.apart b (lJ i)};{rw[show b=a from by simpa using i];exact o.apart a (dD u)}}
section
variable{Ω:Wd}
def Bl.owq(b:Bl Ω):Bl Ω where
 lev:=b.lev
 chk:=b.chk
 wp g S W:=b.wp g S {W with rt:=OwQ S.length W.rt}
 sound:=by
  intro X r n N p m g S W A k j l a s o H O I c e;refine thn (b.sound A k j l a s o H O I c e) λ f t q=>?_
  cases f with
  | next=>exact q
  | brk=>exact q
  | cont=>exact q
  | ret u=>obtain⟨v,d,h,i,r,q⟩:=q;exact%[v,d,h,i,r|QG.owq e.len q]
end
open PySem PySem.W PyProof.Rows
section
variable{N:Nat}{lt:Nat -> Nat -> Bool}
def bO(N:Nat)(lt:ah5){α:Type}:KasT α->(α->Prop)->Prop
 | .ret a,R=>R a
 | .ask i j k,R=>i<N/\j<N/\bO N lt (k (lt i j)) R
theorem bO.bind{R:c->Prop}:∀t:KasT b,bO N lt t (λ a=>bO N lt (f a) R)->bO N lt (t.bind f) R
 | .ret _,h=>h
 | .ask i j k,h=>%[h.1,h.2.1|bO.bind (k (lt i j)) h.2.2]
theorem bO.wp{I:Shared->Prop}(d:∀i j C s,i<N->j<N->I s->(∀s',I s'->C (lt i j) s')->b i j C s):
 ∀(t:KasT c){R:c->Prop}{Q:c->Shared->Prop}(s:af3),bO N lt t R->I s->(∀a s',R a->I s'->Q a s')->t.kasWp b Q s
 | .ret a,_,_,s,h,i,q=>q a s h i
 | .ask x y k,_,_,s,h,i,q=>d x y _ s h.1 h.2.1 i λ s' e=>bO.wp d (k (lt x y)) s' h.2.2 e q
structure LtOk(N:Nat)(lt:ah5):Prop where
 tot:∀i j,i<N->j<N->i≠j->lt i j=false->lt j i=true
 tr:∀i j k,i<N->j<N->k<N->lt i j=true->lt j k=true->lt i k=true
structure Pm(N:Nat)(p:Array Nat):Prop where
 sz:p.size=N
 lt:∀a,a<N->p.getD a 0<N
 inj:∀a b,a<N->b<N->p.getD a 0=p.getD b 0->a=b
def Srt(lt:ah5)(p:Array Nat)(m:Nat):Prop:=∀a b,a<b->b<m->lt (p.getD a 0) (p.getD b 0)=true
def Dsc(lt:ah5)(p:Array Nat)(m:Nat):Prop:=∀a b,a<b->b<m->lt (p.getD b 0) (p.getD a 0)=true
theorem J6(L:LtOk N lt)(P:Pm N p):∀(f n:Nat),1<=n->n+f=N->Srt lt p n->∀{R:Nat->Prop},(∀m,n<=m->m<=N->Srt lt p m->(m<N->lt (p.getD m 0) (p.getD (m-1) 0)=true)->R m)->bO N lt (kas_asc p f n) R
 | 0,n,h1,h2,h3,R,q=>q n (y9 _) %[|0] h3 λ z=>by omega
 | f + 1,n,h1,h2,h3,R,q=>by
   refine%[P.lt n %[|0],P.lt (n-1) %[|0]|?_];show bO N lt (if lt (p.getD n 0) (p.getD (n-1) 0)=true then .ret n else kas_asc p f (n+1)) R;split;{rename_i g;exact q n (y9 _) %[|0] h3 λ _=>g}
   . rename_i g;have h:lt (p.getD (n-1) 0) (p.getD n 0)=true:=L.tot _ _ (P.lt n %[|0]) (P.lt (n-1) %[|0]) (λ e=>by have:=P.inj _ _ %[|0] %[|0] e;omega) (by simpa using g);refine J6 L P f (n+1) %[|0] %[|0] (λ a b c r=>?_) λ m o i j k=>q m %[|0] i j k;by_cases d:b<n;{exact h3 a b c d}
     . obtain rfl:b=n:=%[|0]
       by_cases l:a=b-1;{rw[l];exact h};{exact L.tr _ _ _ (P.lt a %[|0]) (P.lt _ %[|0]) (P.lt b %[|0]) (h3 a (b-1) %[|0] %[|0]) h}
theorem Nr(L:LtOk N lt)(P:Pm N p):∀(f n:Nat),2<=n->n+f=N->Dsc lt p n->∀{R:Array Nat×Nat×Nat->Prop},(∀m,2<=m->m<=N->Dsc lt p m->R (p,m,0))->bO N lt (kas_desc f p n 0) R
 | 0,n,h1,h2,h3,R,q=>q n h1 %[|0] h3
 | f + 1,n,h1,h2,h3,R,q=>by
   refine%[P.lt n %[|0],P.lt (n-1) %[|0]|?_];show bO N lt (if lt (p.getD n 0) (p.getD (n-1) 0)=true then(if 0>0 then kas_desc f (kas_rev p (n-(0+1)) n) (n+1) 0 else kas_desc f p (n+1) 0)else .ask (p.getD (n-1) 0) (p.getD n 0) λ d=>if d=true then .ret (p,n,0)else kas_desc f p (n+1) (0+1)) R;split
   . rename_i c;rw[c8 %[|0]];refine Nr L P f (n+1) %[|0] %[|0] (λ a b g k=>?_) q;by_cases h:b<n;{exact h3 a b g h}
     . obtain rfl:b=n:=%[|0]
       by_cases i:a=b-1;{rw[i];exact c};{exact L.tr _ _ _ (P.lt b %[|0]) (P.lt _ %[|0]) (P.lt a %[|0]) c (h3 a (b-1) %[|0] %[|0])}
   {rename_i j;have c:lt (p.getD (n-1) 0) (p.getD n 0)=true:=L.tot _ _ (P.lt n %[|0]) (P.lt (n-1) %[|0]) (λ e=>by have:=P.inj _ _ %[|0] %[|0] e;omega) (by simpa using j);refine%[P.lt (n-1) %[|0],P.lt n %[|0]|?_];show bO N lt (if lt (p.getD (n-1) 0) (p.getD n 0)=true then .ret (p,n,0)else kas_desc f p (n+1) (0+1)) R;rw[ci c];exact q n h1 %[|0] h3}
def tu(h:m<=p.size)(a:Nat):(kas_rev p 0 m).getD a 0=if a<m then p.getD (m-1-a) 0 else p.getD a 0:=by rw[fw,fw,fw];unfold kas_rev;rw[getElem?_mirror_all h];by_cases b:a<m;{rw[ci %[dk _|b],ci b,mM]};{rw[c8 (λ z=>b z.2),c8 b]}
def Pm.rev(P:Pm N p)(h:m<=N):Pm N (kas_rev p 0 m):=by
 have d:m<=p.size:=by rw[P.sz];exact h
 refine%[by unfold kas_rev;rw[mirror_size,P.sz],λ a c=>?_|λ a b c f e=>?_];{rw[tu d];split;{exact P.lt _ %[|0]};{exact P.lt _ c}};{rw[tu d,tu d]at e;split at e<;>split at e;{have:=P.inj _ _ %[|0] %[|0] e;omega};{have:=P.inj _ _ %[|0] %[|0] e;omega};{have:=P.inj _ _ %[|0] %[|0] e;omega};{exact P.inj _ _ c f e}}
def Dsc.rev(P:Pm N p)(h:m<=N)(d:Dsc lt p m):Srt lt (kas_rev p 0 m) m:=λ a b e f=>by
 have c:m<=p.size:=by rw[P.sz];exact h
 rw[tu c,tu c,ci %[|0],ci f];exact d _ _ %[|0] %[|0]
def Vm(L:LtOk N lt)(h2:2<=N)(P:Pm N p)(q:∀m p',1<=m->m<=N->Pm N p'->Srt lt p' m->R (m,p')):bO N lt (kas_count N p) R:=by
 refine bO.bind _ (J6 L P (N-1) 1 (y9 _) %[|0] (λ a b h v=>by omega) λ n i j d l=>?_);show bO N lt (if(n==N)=true then .ret (n,p)else if n>1 then .ask (p.getD 0 0) (p.getD (n-1) 0) λ c=>if c=true then .ret (n,p)else kas_descPart n N (kas_rev p 0 n)else kas_descPart n N p) R;split;{exact q n p i j P d}
 . rename_i f;have e:n<N:=by
    have:n≠N:=by simpa using f
    omega
   split;{refine%[P.lt 0 %[|0],P.lt (n-1) %[|0]|?_];show bO N lt (if lt (p.getD 0 0) (p.getD (n-1) 0)=true then .ret (n,p)else kas_descPart n N (kas_rev p 0 n)) R;rw[ci (d 0 (n-1) %[|0] %[|0])];exact q n p i j P d}
   . obtain rfl:n=1:=%[|0]
     have k:Dsc lt p 2:=λ a b o w=>by
      obtain rfl:b=1:=%[|0]
      obtain rfl:a=0:=%[|0]
      exact l e
     refine bO.bind _ (Nr L P (N-(1+1)) (1+1) %[|0] %[|0] k λ m y g t=>?_);show bO N lt (if 0>0 then _ else kas_tail3 m N p) R;rw[c8 %[|0]];refine bO.bind _ (J6 L (P.rev g) (N-m) m %[|0] %[|0] (Dsc.rev P g t) λ u x r s _=>?_);exact q u _ %[|0] r (P.rev g) s
theorem wR(L:LtOk N lt)(P:Pm N p)(b:k<N)(hs:Srt lt p k):∀(f l r:Nat),l<=r->r<=k->r-l<=f->(∀a,a<l->lt (p.getD a 0) (p.getD k 0)=true)->(∀a,r<=a->a<k->lt (p.getD k 0) (p.getD a 0)=true)->
 ∀{R:Nat->Prop},(∀l',l'<=k->(∀a,a<l'->lt (p.getD a 0) (p.getD k 0)=true)->(∀a,l'<=a->a<k->lt (p.getD k 0) (p.getD a 0)=true)->R l')->bO N lt (kas_place p k f l r) R
 | 0,l,r,h1,h2,h3,h4,h5,R,q=>q l %[|0] h4 λ a h d=>h5 a %[|0] d
 | f + 1,l,r,h1,h2,h3,h4,h5,R,q=>by show bO N lt (if l≥r then .ret l else .ask (p.getD k 0) (p.getD ((l+r)/2) 0) λ c=>if c=true then kas_place p k f l ((l+r)/2)else kas_place p k f ((l+r)/2+1) r) R;split;{exact q l %[|0] h4 λ a h d=>h5 a %[|0] d};{refine%[P.lt k b,P.lt ((l+r)/2) %[|0]|?_];show bO N lt (if lt (p.getD k 0) (p.getD ((l+r)/2) 0)=true then kas_place p k f l ((l+r)/2)else kas_place p k f ((l+r)/2+1) r) R;split;{rename_i g;refine wR L P b hs f l ((l+r)/2) %[|0] %[|0] %[|0] h4 (λ a h d=>?_) q;by_cases e:a=(l+r)/2;{rw[e];exact g};{exact L.tr _ _ _ (P.lt k b) (P.lt _ %[|0]) (P.lt a %[|0]) g (hs _ _ %[|0] d)}};{rename_i g;have i:lt (p.getD ((l+r)/2) 0) (p.getD k 0)=true:=L.tot _ _ (P.lt k b) (P.lt _ %[|0]) (λ e=>by have:=P.inj _ _ b %[|0] e;omega) (by simpa using g);refine wR L P b hs f ((l+r)/2+1) r %[|0] %[|0] %[|0] (λ a h=>?_) h5 q;by_cases e:a=(l+r)/2;{rw[e];exact i};{exact L.tr _ _ _ (P.lt a %[|0]) (P.lt _ %[|0]) (P.lt k b) (hs _ _ %[|0] %[|0]) i}}}
def abi(c:k<p.size)(d:l<=k)(a:Nat):(a=l/\(bubble p k (k-l)).getD a 0=p.getD k 0)\/(l<a/\a<=k/\(bubble p k (k-l)).getD a 0=p.getD (a-1) 0)\/((a<l\/k<a)/\(bubble p k (k-l)).getD a 0=p.getD a 0):=by rw[fw,fw,fw,fw,getElem?_bubble c (k-l) %[|0]];by_cases b:a=l;{exact .inl %[b|by rw[ci %[|0]]]};{by_cases h2:l<a/\a<=k;{exact .inr (.inl %[h2.1,h2.2|by rw[c8 %[|0],ci %[|0]]])};{exact .inr (.inr %[%[|0]|by rw[c8 %[|0],c8 %[|0]]])}}
theorem RQ(L:LtOk N lt):∀(f:Nat)(p:Array Nat)(k:Nat),Pm N p->1<=k->k+f=N->Srt lt p k->∀{R:Array Nat->Prop},(∀p',Pm N p'->Srt lt p' N->R p')->bO N lt (kas_bin f p k) R
 | 0,p,k,P,h1,h2,h3,R,q=>q p P (by rw[<-h2];exact h3)
 | f+1,p,k,P,h1,h2,h3,R,q=>by
   have i:k<N:=%[|0]
   refine bO.bind _ (wR L P i h3 k 0 k (dk _) (y9 _) %[|0] (λ a z=>by omega) (λ a z y=>by omega) λ l o r s=>?_);have h:k<p.size:=by rw[P.sz];exact i
   have c:=abi h o;have n:Pm N (bubble p k (k-l)):=by refine%[by rw[bubble_size,P.sz],λ a t=>?_|λ a b t v e=>?_];{rcases c a with⟨_,e⟩ | ⟨_,_,e⟩ | ⟨_,e⟩<;>rw[e]<;>exact P.lt _ %[|0]};{rcases c a with⟨_,d⟩ | ⟨_,_,d⟩ | ⟨_,d⟩<;>rcases c b with⟨_,g⟩ | ⟨_,_,g⟩ | ⟨_,g⟩<;>(rw[d,g]at e;have:=P.inj _ _ %[|0] %[|0] e;omega)}
   refine RQ L f (bubble p k (k-l)) (k+1) n %[|0] %[|0] (λ a b u v=>?_) q;rcases c a with⟨j,d⟩ | ⟨j,w,d⟩ | ⟨j,d⟩<;>rcases c b with⟨m,g⟩ | ⟨m,x,g⟩ | ⟨m,g⟩<;>rw[d,g]<;>
    first | (exfalso;omega) | exact s _ %[|0] %[|0] | exact r _ %[|0] | exact h3 _ _ %[|0] %[|0]
def W9:Pm N (List.toArray (List.range N)):=by
 have c:∀a,a<N->(List.toArray (List.range N)).getD a 0=a:=λ a d=>by rw[fw];simp[d]
 exact%[by simp,λ a d=>by rw[c a d];exact d|λ a b d f e=>by rw[c a d,c b f]at e;exact e]
def YG(L:LtOk N lt)(h2:2<=N):bO N lt (kas_sort N) λ p=>Pm N p/\Srt lt p N:=by
 refine bO.bind _ (Vm L h2 W9 λ m a d g P b=>?_);show bO N lt (if m<N then kas_bin (N-max m 1) a (max m 1)else .ret a) _;have e:max m 1=m:=%[|0]
 rw[e];split;{exact RQ L _ _ _ P d %[|0] b λ a c f=>%[c|f]}
 . obtain rfl:m=N:=%[|0]
   exact%[P|b]
end
end RF
namespace XE
open PySem PySem.Spec L2 DL RF
open PyProof.Rows
variable{Ω:Wd}
end XE
set_option maxHeartbeats 4000000
namespace XE
open PySem PySem.Spec L2 DL RF
open PyProof.Rows
variable{Ω:Wd}
end XE
namespace RF
open PySem PySem.Spec L2 DL
open PyProof.Rows
section
variable{P:Program}{w:World}{A:Around}{E:%[|26]}{s:Shared}{d a:Addr}{ys:Cy}{c:Int × List Int}
inductive CelM(P:ag4)(w:World)(h:Heap)(d:Addr)(ys:Cy):Prop
 | mk(o:Obj)(es:Array DictEntry)(g1:h.get? d=some o)(g2:o.ExactDict)(g3:o.data=.dict es ys.length)(g4:es.toList=ys.map (entryOfKey (cO P w)))(g5:∀x∈ys,cG h (.ref x.2.1) x.1)(g6:(ys.map (·.1)).Nodup):CelM P w h d ys
def CelM.of(x:CelM P w h d ys):h.DictOfH (cO P w) d ys:=by obtain⟨o,a,b,c,e,f,g,i⟩:=x;exact%[o,a,_,b,c,e,f,g|i]
def Bq(K:A.units+5<cLine)(q:cG s.heap (.ref a) c)(J:CelM P w s.heap d ys)(hz:ys.length<=sizeLine)
 (t:∀h' tk,CelM P w h' d (storedH ys c a v)->Heap.SameBut d s.heap h'->Q () %[|54]):wpAny (model P w) A (dictSet d (.ref a) v) Q E s:=by
 obtain⟨o,H,h,C,f,r,I,n⟩:=J;have room:(cO P w).room A:=K;have k:(cO P w).is s.heap c a:=q;have i:∀x∈ys,(cO P w).is s.heap x.1 x.2.1:=I;unfold dictSet;try with_reducible refine eD ?_
 refine b0 ((cO P w).pyHash room k ?_);unfold dictSetHashed;try with_reducible refine eD ?_
 refine b0 (wpAny_dictFind_heap (knd:=cO P w) (s:={s with toks:=s.toks+(cO P w).draws c}) room k h f r i n (λ b=>?_) λ j p m=>?_)
 . have G:=atKey_none_of_get b;have B:storedH ys c a v=ys++[(c,a,v)]:=storedH_new G a v;have F:c∉ys.map (·.1):=not_mem_keys_of_get b;rw[B]at t;have z:(ys++[(c,a,v)]).length=ys.length+1:=by simp
   refine b0 (kt (wpAny_updateDictKeys (hz:=by have e:=size_of_entries r;omega) (s:={s with toks:=s.toks+(cO P w).draws c}) h f (t _ _ %[_,_,fx _ h (Obj.isFreed_of_dict (oI f _)),C.mapDictKeys _,by rw[z];exact oI f _,?_,λ x g=>?_|?_] (eI ..))));{simp[r,entryOfKey]};{rcases cn.mp g with g | g;{exact(cO P w).keeps (i x g) h f (eI ..)};{rw[cf.mp g];exact(cO P w).keeps k h f (eI ..)}};{rw[da,ke];refine%[n,by simp|λ x g y u e=>?_];rw[cw,l9,cf]at u;rw[e,u]at g;exact F g}
 . have D:=atKey_of_get n m;have B:storedH ys c a v=ys.map (putAt c v):=storedH_old D a v;rw[B]at t;have z:(ys.map (putAt c v)).length=ys.length:=by simp
   refine b0 (kt (b0 (wpAny_updateDict (s:={s with toks:=s.toks+(cO P w).draws c}) h f (wpAny_point (t _ _ %[_,_,fx _ h (Obj.isFreed_of_dict (Obj.data_mapDict f _)),C.mapDict _,by rw[z];exact Obj.data_mapDict f _,?_,λ x g=>?_|?_] (eI ..))))));{have:=modify_map_putAt (entryOfKey (cO P w)) (λ e:DictEntry=>{e with val:=v}) c v (λ _ _=>rfl) n m;rw[<-r]at this;obtain⟨l⟩:=H;simpa using this};{obtain⟨y,u,rfl⟩:=c9.mp g;unfold putAt;split<;>exact(cO P w).keeps (i y u) h f (eI ..)};{rw[keys_map_putAt];exact n}
def ZG(g:A.in1.units+5<cLine)(b:cG s.heap (.ref a) c)(e:CelM P w s.heap d ys)(hz:ys.length<=sizeLine)
 (f:∀h' tk,CelM P w h' d (storedH ys c a v)->Heap.SameBut d s.heap h'->Q () %[|54]):wpAny (model P w) A (setItem (.ref d) (.ref a) v) Q E s:=by
 have T:=e.of.typeIs;unfold setItem;try with_reducible refine eD ?_
 refine b0 (wpAny_sequenceKey T %[|1] (b0 (wpAny_callSpecial?_slot (name:=Str.ofString "__setitem__") T slot_dict_setitem (dQ slot_dict_setitem T entry_dict_setitem ?_ (args_dict_setitem _ _ _)))));show wpAny _ _ (Builtin.Dict.notOrdered "__setitem__" %[[.ref d,.ref a,v]|[]]>>=_) _ _ s;refine b0 (kz T ?_);show wpAny _ _ (dictSet d (.ref a) v>>=_) _ _ s;exact b0 (Bq g b e hz λ h' tk x y=>b9 %[.none,rfl|b9 (f h' tk x y)])
variable{it:Addr}{i ep:Nat}{ok ov:Value}{es:Array DictEntry}{od:Obj}{e:DictEntry}
def ZP(q:s.heap.get? d=some od)(p:od.data=.dict es ep)(f:IsItemIter s.heap it d i es.size ep ok ov)(J:es[i]? =some e)
 (M:∀h',IsItemIterOut h' it d (i+1) es.size ep e.key e.val s.heap.objs.size->%[|84]=some {cls:=%[|9],data:=.seq #[e.key,e.val]}->h'.objs.size=%[|28]->
  (∀b o,b≠it->%[|38])->Q (some %[|8]) %[|19]):
 wpAny (model P w) A (pyNext (.ref it)) Q E s:=by
 obtain⟨a,g,j,l,k⟩:=s;have T:Shared.TypeIs %[a,g,j,l|k] (.ref it) "dict_itemiterator":=%[_,f|rfl];have N:i<es.size:=(Array.getElem?_eq_some_iff.mp J).1;have r:Builtin.Dict_items.ownsTuple "dict_itemiterator"=true:=%[|1]
 unfold pyNext;refine b0 (kB (wpAny_callSpecial?_slot (name:=%[|85]) T gI (dQ gI T F.entry_dict_itemiterator_next ?_ (F.args_dict_itemiterator_next_1 _))));refine b0 (b9 (b0 (b0 ?_)));refine b0 (jI T (b9 (b0 (ll f rfl ?_))));simp only[r,h9];show wpAny _ _ (if(Value.ref d==Value.none)=true then _ else _) _ _ %[a,g,j,l|k];rw[c8 (show ¬((Value.ref d==Value.none)=true)from y6)];refine b0 (b9 (b0 (fo q p ?_)));rw[c8 (by simp)];refine b0 (b9 (b0 (jS q p ?_)));rw[c8 (by simp)];refine b9 ?_;simp only[show ¬((i:Int)<0)from %[|0],en,f7,J];refine b0 ?_;refine b0 (jI T (b9 (b0 (nw T ?_))));show wpAny _ _ (setField (.ref it) 3 (rawInt ((i:Int)+1))>>=_) _ _ %[a,g,j,l|k];refine b0 (fS f (by simp) λ h t s1=>?_);have s1:Heap.SameBut it a h:=s1;have t:IsItemIter h it d (i+1) es.size ep ok ov:=by
  have L:((i+1:Nat):Int)=(i:Int)+1:=%[|0]
  unfold IsItemIter;rw[L];simpa[rawInt]using t
 have I:Shared.TypeIs %[h,g,j,l|k] (.ref it) "dict_itemiterator":=%[_,t|rfl];refine b0 (eD (b0 (nw I (b0 (nw I ?_)))));show wpAny _ _ (Builtin.Dict_items.pairFromOwner (.ref it) 6 e.key e.val) _ _ %[h,g,j,l|k];unfold Builtin.Dict_items.pairFromOwner;refine b0 (wpAny_newTuple ?_);have m:IsItemIter (h.push {cls:=%[|9],data:=.seq #[e.key,e.val]}) it d (i+1) es.size ep ok ov:=bX _ t;generalize q2:h.push {cls:=%[|9],data:=.seq #[e.key,e.val]}=h2 at m;have H:h.objs.size=a.objs.size:=s1.1;have G:it<a.objs.size:=ca f;have R:h2.get? a.objs.size=some {cls:=%[|9],data:=.seq #[e.key,e.val]}:=by rw[<-q2,<-H];exact cb _ rfl
 have S:h2.objs.size=a.objs.size+1:=by rw[<-q2,gc,H]
 have O:∀b o,b≠it->a.get? b=some o->h2.get? b=some o:=λ b o c x=>by rw[<-q2];exact bX _ (s1.extBut b o c x)
 show wpAny _ _ (Builtin.Dict_items.ownedTupleIsFree (.ref it)>>=_) _ _ %[h2,g,j,l|k];rw[H];unfold Builtin.Dict_items.ownedTupleIsFree;refine b0 (b0 (fA m rfl (x:=.none) rfl (b9 ?_)));simp only[h9];refine b0 (fA m rfl (x:=ok) rfl (b0 (fA m rfl (x:=ov) rfl ?_)));refine b0 (fS m (by simp) λ B u s3=>?_);have s3:Heap.SameBut it h2 B:=s3;have u:IsItemIter B it d (i+1) es.size ep e.key ov:=u;refine b0 (fS u (by simp) λ C v s4=>?_);have s4:Heap.SameBut it B C:=s4;have v:IsItemIter C it d (i+1) es.size ep e.key e.val:=v;refine b0 (fS v (by simp) λ D y s5=>?_);have s5:Heap.SameBut it C D:=s5;have y:IsItemIterOut D it d (i+1) es.size ep e.key e.val a.objs.size:=y;refine b0 (fS y (by simp) λ n z s6=>?_);have s6:Heap.SameBut it D n:=s6;have z:IsItemIterOut n it d (i+1) es.size ep e.key e.val a.objs.size:=z;have K:∀b o,b≠it->h2.get? b=some o->n.get? b=some o:=λ b o c x=>s6.extBut b o c (s5.extBut b o c (s4.extBut b o c (s3.extBut b o c x)));refine b0 (wpAny_letGo (b9 (b9 %[_,rfl|b9 (M n z (K _ _ (ft G) R) ?_ λ b o c x=>K b o c (O b o c x))])));show n.objs.size=a.objs.size+1;rw[s6.1,s5.1,s4.1,s3.1,S]
def abX(hh:%[|50])(f:s.heap.get? d=some od)(e:od.data=.dict es ep)(c:IsItemIter s.heap it d i es.size ep ok ov)(j:es.size<=i)
 (h:∀h',Heap.ExtBut it s.heap h'->Q none %[|19]):wpAny (model P w) A (pyNext (.ref it)) Q E s:=by
 have T:s.TypeIs (.ref it) "dict_itemiterator":=%[_,c|rfl];have g:Builtin.Dict_items.ownsTuple "dict_itemiterator"=true:=%[|1]
 unfold pyNext;refine b0 (kB (wpAny_callSpecial?_slot (name:=%[|85]) T gI (dQ gI T F.entry_dict_itemiterator_next ?_ (F.args_dict_itemiterator_next_1 _))));refine b0 (b9 (b0 (b0 ?_)));refine b0 (jI T (b9 (b0 (ll c rfl ?_))));simp only[g,h9];show wpAny _ _ (if(Value.ref d==Value.none)=true then _ else _) _ _ s;rw[c8 (show ¬((Value.ref d==Value.none)=true)from y6)];refine b0 (b9 (b0 (fo f e ?_)));rw[c8 (by simp)];refine b0 (b9 (b0 (jS f e ?_)));rw[c8 (by simp)];refine b9 ?_;simp only[show ¬((i:Int)<0)from %[|0],en,f7,g7 j];refine b0 ?_;refine b0 (jI T (b9 ?_));show wpAny _ _ (setField (.ref it) 2 .none>>=_) _ _ s;refine b0 (kr c rfl (by simp) ?_);show wpAny _ _ (newExc (.type "StopIteration") []>>=_) _ _ _;refine b0 ?_;simp only[newExc,newTuple];refine b0 (dV (b0 (m:=firstArgMember _ _) (wpAny_of_eq (a:=Value.none) (by first | rfl | (simp only[firstArgMember];rfl)) (dV ?_ (by size_fits)))) (by size_fits));simp only[raiseNew];refine b0 (wpAny_handled ?_);rw[show A.in1.handled=none from hh];refine b0 (b9 (wpAny_throw ?_));refine b0 (gz (T:="StopIteration") (b:=true) %[_,cb _ rfl|rfl] isSubtype_stop ?_);exact b9 (h _ (((eI ..).extBut.push _).push _))
end
variable{o:Expr}
def Bb:entryFor table "dict_itemiterator.__iter__"=some Builtin.«dict_keyiterator.__iter__»:=entryFor_alias (id':="dict_keyiterator.__iter__") (by kernel_rfl) rfl %[|11] (by kernel_rfl)
def bkV:Value->V
 | .bool b=>.bl b
 | .int i _=>.int i
 | .str x _=>.str x
 | .bytes b _=>.byt b
 | .float b _=>.flt b
 | .ref a=>.ref a
 | .type n=>.ty n
 | _=>.non
def Om(h:L2.RelV v u):v=bkV u:=by cases v<;>first | (have h:u=_:=h;subst h;rfl) | (obtain⟨t,rfl⟩:=h;rfl)
def V3(h:L2.RelV v u)(h':L2.RelV a u):v=a:=(Om h).trans (Om h').symm
section
variable{P:Program}{w:World}{A:Around}{E:%[|26]}{s:Shared}{d v:Addr}{ep:Nat}{es:Array DictEntry}{od:Obj}
def Mh(a:(d==sysModules)=false):MeetsIn P w (Builtin.«dict.items» %[[.ref d]|[]]) (λ _ R s=>s.TypeIs (.ref d) "dict"/\R (.ok (.ret %[|8])) {s with heap:=s.heap.push {cls:=.type "dict_items",data:=.fields #[.ref d]}}):=
 .of_wp λ A R s ⟨T,h⟩=>by unfold Builtin.«dict.items»;refine b0 ?_;unfold Builtin.Dict.noArgs;refine b0 (kz T ?_);show wpAny _ _ (pure d) _ _ s;refine b9 ?_;show wpAny _ _ (Builtin.Dict.showsAll d>>=_) _ _ s;unfold Builtin.Dict.showsAll;rw[c8 (by rw[a];exact y6)];exact b0 (b9 (b0 (dV (b9 %[_,rfl|h]))))
def QB(g:s.heap.IsItemsView v d)(b:s.heap.get? d=some od)(a:od.data=.dict es ep)
 (h:Q %[|8] {s with heap:=s.heap.push {cls:=.type "dict_itemiterator",data:=.fields #[.none,.bool false,.ref d,.int 0 0,.int es.size 0,.int ep 0,.none,.none]}}):
 wpAny (model P w) A (pyIter (.ref v)) Q E s:=by
 obtain⟨j,f,i,e⟩:=id g;have c:Builtin.Dict_items.ownsTuple "dict_itemiterator"=true:=%[|1]
 refine kU g.typeIs F.slot_dict_items_iter (dQ F.slot_dict_items_iter g.typeIs F.entry_dict_items_iter ?_ (F.args_dict_items_iter_1 _));unfold Builtin.«dict_items.__iter__»;refine b0 (b9 (b0 ?_));unfold Builtin.Dict_items.dictOf;refine b0 (fA f e (x:=.ref d) rfl (b9 (b0 ?_)));unfold Builtin.Dict_items.newIterator;refine b0 (fo b a (b0 (jS b a ?_)));simp only[c,h9];refine dV (b9 %[_,rfl,"dict_itemiterator",_,%[_,cb _ rfl|rfl],gI.lookup|?_]) (by simp only[sizeOk,Builtin.Dict_items.ownedTupleFields,x5,x8,dS,List.length_nil,ja];omega);simpa[rawInt,Builtin.Dict_items.ownedTupleFields]using h
end
section
variable{P:Program}{w:World}{K:PySem.W.Frag}
def Itm(a:Addr)(n:Nat):It:=
 %[λ i H=>∃d c b u v,H a=some (.ext (bI a d))/\d.length=n/\d[i]? =some (c,b,u)/\RelV v u,
  λ i H x e=>∃p b u v,H p=none/\(∀d,H a=some (.ext (bI a d))->∃c,d[i]? =some (c,b,u))/\RelV v u/\e=upd H p (.tup [.ref b,v])/\x=.ref p|
  λ i H=>∃d,H a=some (.ext (bI a d))/\d.length=n/\n<=i]
theorem QQ{aa}(a l:Addr)(n:Nat):Turn P w K (.Tuple A k aa) (Itm a n) [l] l (λ i h=>∃ok ov,IsItemIter h l a i n n ok ov) where
 mem:=by simp
 obj:=λ i h m b p=>by obtain⟨ok,ov,V⟩:=m;rw[cf.mp p];exact%[_,V|λ v z=>nomatch z]
 keep:=λ i h h' m k=>let ⟨ok,ov,V⟩:=m;%[ok,ov|k l (by simp) _ V]
 item:=by
  intro X S Z hK hc i g s σ H E I M m W;obtain⟨ys,c,b,u,v,Q,D,Y,ru⟩:=W;obtain⟨⟨_,_,_,o,G,J,B,r,L⟩,_,_⟩:=(show aU X.prog X.w H s.heap a (.ext (bI a ys))from I.hok a _ Q);obtain⟨ok,ov,d⟩:=m;have f:G.size=n:=by rw[<-e7,L,y7,D]
  have q:G[i]? =some %[hC0 c,.ref b|u]:=by rw[<-fg,L,y8,Y];rfl
  have uq:∀j,H a=some (.ext (bI a j))->∃O,j[i]? =some (O,b,u):=λ j R=>by
   obtain⟨⟨_,_,_,o',ab,k1,_,N,k4⟩,_,_⟩:=(show aU X.prog X.w H s.heap a (.ext (bI a j))from I.hok a _ R);obtain rfl:o=o':=cq (J.symm.trans k1);rw[r]at N;injection N with N _;subst N;rw[<-fg,k4,y8]at q
   cases e:j[i]? with
   | none=>rw[e]at q;cases q
   | some y=>rw[e]at q;obtain⟨O,b',u'⟩:=y;have q:=cq q;injection q with _ hx1 hx2;injection hx1 with hx1;subst hx1 hx2;exact%[O|rfl]
  rw[D]at r;subst S Z;refine ZP (ok:=ok) (ov:=ov) J r (by rw[f];exact d) q λ h' ho hT hz hk=>%[_,rfl|wpAny_letOwnedTupleGo_items ho λ B C sb=>?_];have I1:Inv X g σ H {s with heap:=B}:=uv (ch:=[l]) (t:=s.toks) I M λ b o p q'=>(sb.2 b (λ z=>p (by simp[z]))).trans (hk b o (λ z=>p (by simp[z])) q');have hp:H s.heap.objs.size=none:=I.hok.fresh (y9 _);have x:l<s.heap.objs.size:=ca d;have U:B.get? s.heap.objs.size=some {cls:=%[|9],data:=.seq #[.ref b,u]}:=(sb.2 _ (ft x)).trans hT;have I2:Inv X g σ (upd H s.heap.objs.size (.tup [.ref b,v])) {s with heap:=B}:=wz I I1 (y9 _) %[by show 2<=sizeLine;decide,[.ref b,u],.cons rfl (.cons ru .nil),_,U,rfl,_|rfl];refine%[%[|8],_,I2,rfl,%[_,b,u,v,hp,uq,ru,rfl|rfl],%[_,_|by rw[f]at C;exact C]|λ b' p=>?_];rw[cf.mp p,aA (cr x)];exact(M l (by simp)).1
 done:=by
  intro X S Z hK hc i g s σ H E I M m W;obtain⟨ys,Q,D,Y⟩:=W;obtain⟨⟨_,_,_,o,G,J,B,r,L⟩,_,_⟩:=(show aU X.prog X.w H s.heap a (.ext (bI a ys))from I.hok a _ Q);obtain⟨ok,ov,d⟩:=m;have f:G.size=n:=by rw[<-e7,L,y7,D]
  rw[D]at r;subst S Z;obtain⟨f0,f1,f2,f3,f4,f5⟩:=M l (by simp);exact abX (ok:=ok) (ov:=ov) (I.ok.hd hc) J r (by rw[f];exact d) (by rw[f];exact Y) λ h' ext=>%[rfl|I.turned (t':=s.toks) (λ b o p e=>ext b o p e) f0 f1 f3 f4 f5]
 self:=λ _ _ _ _ _ m h=>by obtain⟨ok,ov,d⟩:=m;have T:Shared.TypeIs _ (.ref l) "dict_itemiterator":=%[_,d|rfl];refine kU T F.slot_dict_itemiterator_iter (dQ F.slot_dict_itemiterator_iter T Bb ?_ (F.args_dict_itemiterator_iter_1 _));show wpAny _ _ (ret (.ref l)) _ _ _;exact b9 %[_,rfl,"dict_itemiterator",_,T,gI.lookup|h]
end
section
variable{K:PySem.W.Frag}{O:Own}{H:Hp}
inductive CelG(X:Cx)(O:Own)(H:Hp)(s:af3)(a:Addr)(kcs:Kc):Prop
 | mk(lo:%[|74])(mu:Mut (H a))(ys:Cy)(eH:H a=some (.ext (bI a ys)))(kc:Kcs X.K O H ys (kcs.map encC))(m:CelM X.prog X.w s.heap a ys)(hz:ys.length<=sizeLine):CelG X O H s a kcs
def jh{pins:Pins}{σ:DL.St}(I:%[|3])(b:DOb X.K O H a (.non::kcs.map encC)):
 CelG X O H s a kcs:=by
 cases b with
 | t y e r=>cases r
 | c f n e r=>cases r
 | o f n e r=>cases r
 | m f A d e r=>obtain⟨_,rfl⟩:=iE d;obtain⟨⟨x,d,w,o,h,i,j,u,v⟩,_,_⟩:=(show aU X.prog X.w H s.heap a (.ext (bI a f))from I.hok a _ e);exact%[d,by rw[e];trivial,f,e,r,%[o,h,i,j,u,v,Yu I r|w]|x]
 | p B n b l c z q k e d g=>cases d
def jR(d:bI a ys h):aU P w H h a (.ext (bI a ys)):=by refine%[d,?_|λ c f q k=>?_];{obtain⟨_,_,_,o,_,e,_⟩:=d;exact%[o|e]};{obtain⟨z,y,n,o,b,e,r⟩:=q;exact%[z,y,n,o,b,k o e|r]}
def Jf{k:Nat}{kcs:Kc}(h:O.A[k]? =some (a,true)):nM K (Itm a kcs.length) O H (λ S=>S[k]? =some (.non::kcs.map encC)) (kcs.map encC):=by
 intro j s S' P M T i;have R:j.A[k]? =some (a,true):=P.lc k _ h;have U:=M.dob k a _ R T;obtain⟨f,e,r⟩:∃f,s a=some (.ext (bI a f))/\Kcs K j s f (kcs.map encC):=by
  cases U with
  | t Y e r=>cases r
  | c f n e r=>cases r
  | o f n e r=>cases r
  | m f d' w e r=>obtain⟨_,rfl⟩:=iE w;exact%[f,e|r]
  | p ps n b l c z q k e w g=>cases w
 have J:=r.length;have C:∀(kcs:Kc)(f:Cy),Kcs K j s f (kcs.map encC)->∀(i:Nat)(kv:%[|14]×D),kcs[i]? =some kv->∃b u v,f[i]? =some (kv.1,b,u)/\Rep K j s (.ref b) (cD kv.1)/\RelV v u/\Rep K j s v kv.2:=by
  intro kcs
  induction kcs with
  | nil=>intro f r i kv h;simp at h
  | cons X kcs W=>
    intro f r i kv h;obtain⟨b,u,v,G,rfl,rk,rv,rd,t⟩:=r.inv
    cases i with
    | zero=>cases h;exact%[b,u,v,rfl,rk,rv|rd]
    | succ i=>obtain⟨b,u,v,A,E⟩:=W G t i kv (by simpa using h);exact%[b,u,v,by simpa using A|E]
 refine%[λ d w=>?_|λ V=>%[f,e,J|by rw[V,y7];exact y9 _]];obtain⟨kv,F,rfl⟩:=bA w;obtain⟨b,u,v,A,E,I,Q⟩:=C kcs f r i kv F;refine%[%[f,kv.1,b,u,v,e,J,A|I]|λ x N y=>?_];obtain⟨p,b2,u2,v2,B,uq,r2,rfl,rfl⟩:=y;obtain⟨c2,L⟩:=uq f e;rw[A]at L;cases L;obtain rfl:=V3 I r2;have Z:¬j.has p:=λ z=>M.tracked z B;exact%[fB.fresh B _|.tup %[Z|aR] (.cons (E.mono (Step.fresh B _)) (.cons (Q.mono (Step.fresh B _)) .nil))]
end
section
variable{X:Cx}{Γ:Gam}{S:Store}{W:WD}{pos:Pos}
def Kg(hu:%[|56])(m:M2 X o "get" r e f t)
 (h:Ev X Γ S o λ x S1=>∃k,x=.dlo k/\k<S1.length/\Ev X Γ S1 e λ y S2=>Ev X Γ S2 f λ z S3=>∃c kvs,y=cD c/\S3[k]? =some (.non::List.map encC kvs)/\W ((aK kvs c).getD z) S3):Ev X Γ S (.Call (.Attribute o "get" r) [e,f] [] t) W:=by intro j s Q H O I A st;refine wpAny_Call_method m.base m.few m.line PySem.F.plainAttrs_dict PySem.F.slot_dict_get PySem.F.type_dict_get (thn (h j s Q H O I A st) λ u s1 i=>?_);obtain⟨x,Y,T,rx,q⟩:=i;obtain⟨O1,xd,S1,⟨k,rfl,hk,he⟩,l,C,D⟩:=q;obtain⟨a,rfl,V,N⟩:=fK D;obtain rfl:u=Value.ref a:=rx;obtain⟨t1,t2,_⟩:=(C.dob k a S1[k] V (y3 hk)).typ N T;refine%[t1,t2|?_];rw[m.trees];refine Calls.callWith_builtin rfl (Calls.evalArgs_plain (f8 (thn (he j s1 Q Y O1 T (A.mono l) C) λ iv s2 i=>?_)));obtain⟨y,Z,I2,ry,q2⟩:=i;obtain⟨O2,yd,S2,M,n,P,g⟩:=q2;refine f8 (thn (M j s2 Q Z O2 I2 ((A.mono l).mono n) P) λ fv s3 i=>fF ?_);obtain⟨z,R,F,rz,q3⟩:=i;obtain⟨G,zd,S3,⟨c,kvs,rfl,hs,w⟩,p,B,E⟩:=q3;have L:G.A[k]? =some (a,true):=p.conv.lc k _ (n.conv.lc k _ V);obtain⟨hd,mu,ys,_,kc,dm,hz⟩:=jh F (B.dob k a _ L hs);have U:=dm.of;have g:=g.mono p;obtain⟨b,rfl⟩:=iW g;obtain rfl:iv=Value.ref b:=ry;refine call_meetsIn PySem.F.slot_dict_get U.typeIs PySem.F.entry_dict_get (PySem.F.args_dict_get_3 _ _ _) (meetsH_dict_get_default (cO X.prog X.w) a b hd fv) %[by show X.A.units+1+5<cLine;omega,c,ys,gD F g rfl,U|?_];rcases kc.look c with⟨J,K⟩ | ⟨d,b',u',v,J,K,rv,rd⟩;{rw[J]at w;rw[K];exact%[z,R,F.tok _,rz,G,zd,S3,w,(l.trans n).trans p,B|E]};{rw[J]at w;rw[K];exact%[v,R,F.tok _,rv,G,d,S3,w,(l.trans n).trans p,B|rd]}
def abu(hu:%[|56])(hs:Xv e)
 (h:Ev X Γ S o λ x S1=>∃k,x=.dlo k/\Ev X Γ S1 e λ y S2=>∃c kvs d,y=cD c/\S2[k]? =some (.non::List.map encC kvs)/\aK kvs c=some d/\W d S2):Ev X Γ S (.Subscript o e pos) W:=by intro f s F H O I j st;refine Oz PySem.F.slot_dict_getitem.lookup hs (thn (h f s F H O I j st) λ u s1 i=>?_);obtain⟨x,G,K,Z,q⟩:=i;obtain⟨L,xd,S1,⟨k,rfl,Q⟩,n,B,m⟩:=q;obtain⟨a,rfl,N,_⟩:=fK m;obtain rfl:u=Value.ref a:=Z;refine thn (Q f s1 F G L K (j.mono n) B) λ R s2 i=>?_;obtain⟨y,J,t,ry,U⟩:=i;obtain⟨C,yd,S2,⟨c,kvs,d,rfl,hs,r,w⟩,p,l,g⟩:=U;have A:C.A[k]? =some (a,true):=p.conv.lc k _ N;obtain⟨P,mu,ys,_,T,M,hz⟩:=jh t (l.dob k a _ A hs);have D:=M.of;obtain⟨b,rfl⟩:=iW g;obtain rfl:R=Value.ref b:=ry;rcases T.look c with⟨z,E⟩ | ⟨d',b',u',v,z,E,Y,V⟩;{rw[z]at r;cases r};{rw[z]at r;cases r;exact%[D.typeIs|wpAny_getItem_heap (by show X.A.units+1+5<cLine;omega) (gD t g rfl) D E %[v,J,t.tok _,Y,C,_,S2,w,n.trans p,l|V]]}
def abT{W}(hu:%[|56])(hs:swapsWith e (some (.Subscript o i z)) pos.line X.env=pure false)
 (h:Ev X Γ S e λ d S1=>Ev X Γ S1 o λ x S2=>Ev X Γ S2 i λ y S3=>∃k c kvs,x=.dlo k/\y=cD c/\S3[k]? =some (.non::List.map encC kvs)/\kvs.length<1000000/\W.nx Γ (S3.set k (.non::(putD kvs c d).map encC))):Rn X Γ S (.Assign [.Subscript o i z] e pos) W:=by intro g s E H O I l st;refine wpAny_Assign_Subscript (thn (h g s E H O I l st) λ r s1 f=>?_) hs;obtain⟨v,V,Z,rv,q⟩:=f;obtain⟨O1,d,S1,h1,n,M,B⟩:=q;refine thn (h1 g s1 E V O1 Z (l.mono n) M) λ u s2 f=>?_;obtain⟨x,Y,I2,rx,q⟩:=f;obtain⟨O2,dx,S2,h2,p,N,C⟩:=q;refine thn (h2 g s2 E Y O2 I2 ((l.mono n).mono p) N) λ iv s3 f=>?_;obtain⟨y,H3,F,ry,q⟩:=f;obtain⟨O3,dy,S3,⟨k,c,kvs,rfl,rfl,hk,hz,w⟩,t,A,j⟩:=q;have P:=C.mono t;obtain⟨a,rfl,J,_⟩:=fK P;obtain rfl:u=Value.ref a:=rx;obtain⟨b,rfl⟩:=iW j;obtain rfl:iv=Value.ref b:=ry;obtain⟨hd,mu,D,_,U,R,L⟩:=jh F (A.dob k a _ J hk);have dd:=R.of;have rd:=(B.mono p).mono t;have hl:=Pu D c b r;have aa:=U.length;refine ZG (by show X.A.units+1+5<cLine;omega) (gD F j rfl) R L λ h' tk G K=>?_;obtain⟨q,es,T,g2,g3,g4,_,g5⟩:=G;have cd:bI a (storedH D c b r) h':=%[by rw[ja];omega,hd,g5,q,es,T,g2,g3|g4];have Q:=Step.put (O:=O3) (H:=H3) (dD J) (.ext (bI a (storedH D c b r)));refine%[E,upd H3 a (.ext (bI a (storedH D c b r))),Bj F mu K %[q|T] (jR cd),O3,Γ,_,w,((n.trans p).trans t).trans Q,A.putO J (.m _ _ rfl aR ((U.put j rv rd).conv Q.conv))|(((l.mono n).mono p).mono t).mono Q]
end
section
variable{Ω:Wd}
def yt(y:D)(S:Store)(k:Nat)(W:Kc->%[|14]->Prop):Prop:=∃c a,y=cD c/\S[k]? =some (.non::List.map encC a)/\W a c
def aeI(o a:Ex Ω):Ex Ω where
 lev:=max o.lev a.lev
 chk f N h e:=match e with | .Subscript l r _=>okE r&&(o.chk f N h l&&a.chk f N h r) | _=>false
 wp i S W:=o.wp i S λ x j=>onD x λ k=>a.wp i j λ y g=>yt y g k λ b c=>∃d,aK b c=some d/\W d g
 sound:=by
  intro X r f N h e i S W A t m u;obtain⟨v,z⟩:=lv2 t
  cases e with
  | Subscript l C B=>refine an3 m λ n p s=>?_;refine abu A.hu (wy n) ((o.sound A v p u).mono λ x j q=>?_);refine jT q λ k q=>?_;exact%[k,rfl|(a.sound A z s q).mono λ y g ⟨ns,b,e1,e2,d,e3,w⟩=>%[ns,b,d,e1,e2,e3|w]]
  | _=>exact fE m
def aeC(o i a:Ex Ω):Sm Ω where
 lev:=max a.lev (max o.lev i.lev)
 chk f N h u:=ixB u λ x y e=>noC e&&(okE y&&(a.chk f N h e&&(o.chk f N h x&&i.chk f N h y)))
 wp g S W:=a.wp g S λ d n=>o.wp g n λ x s=>i.wp g s λ y j=>onD x λ k=>yt y j k λ b c=>b.length<1000000/\W.nx g (j.set k (.non::(putD b c d).map encC))
 sound:=by intro X r f N h u g S W A G l H;obtain⟨I,m⟩:=lv2 G;obtain⟨m,J⟩:=lv2 m;refine BX l λ x y p e t l=>?_;{refine an5 l λ C L D E F=>?_;refine abT A.hu ?_ ((a.sound A I D H).mono λ d n q=>(o.sound A m E q).mono λ x s q=>(i.sound A J F q).mono λ y j q=>?_);{exact jZ C _ _ _};{refine jT q λ k q=>?_;obtain⟨K,b,v,z,B,w⟩:=q;exact%[k,K,b,rfl,v,z,B|w]}}
def aex(o a b:Ex Ω):Ex Ω where
 lev:=max o.lev %[|52]
 chk d N h e:=zA e λ x m p B q=>two2 B λ y z=>(m==("get":Str))&&(nameE x&&((p.endLine==q.line)&&(okE y&&(okE z&&(o.chk d N h x&&(a.chk d N h y&&b.chk d N h z))))))
 wp i S W:=o.wp i S λ x j=>onD x λ k=>k<j.length/\a.wp i j λ y v=>b.wp i v λ z l=>yt y l k λ f c=>W ((aK f c).getD z) l
 sound:=by intro X r d N h e i S W A K s L;obtain⟨M,u⟩:=lv2 K;obtain⟨u,O⟩:=lv2 u;refine oU s λ x m p B q t=>?_;refine two2_ind t λ y z s=>?_;{refine an8 s λ D E F G n H I J=>?_;have e:=ZU D;subst e;have C:=aX G;have g:=aX n;refine Kg A.hu %[?_,by rw[C,g];rfl,F|by rw[C,g];rfl] ((o.sound A M H L).mono λ x j q=>?_);{exact iU E};{refine jT q λ k q=>?_;exact%[k,rfl,q.1|(a.sound A u I q.2).mono λ y v q=>(b.sound A O J q).mono λ z l ⟨ns,f,e1,e2,w⟩=>%[ns,f,e1,e2|w]]}}
end
def Qs{K}(s:%[|37])(h:H p=none){o}(r:DOb K (O.more p true) (upd H p o) p ds):
 StOk K (O.more p true) (upd H p o) (S++[ds]):=by have i:=Step.own (O:=O) h o true;have l:=s.fresh_not h;refine%[yH s.nd λ z=>l (.inl z),by simp[s.len],λ k a f c d=>?_,λ k a f c d=>?_,λ a j=>?_|λ b m=>i.dom b (s.hidden b m)];{rcases jw c with c | ⟨rfl,e⟩;{have g:=(z0.mp c).1;rw[x9 (by rw[<-s.len];exact g)]at d;obtain⟨t,q,n⟩:=s.obj k a f c d;exact%[t,by rw[aA (aP q h)];exact q|n.mono i]};{cases e}};{rcases jw c with c | ⟨rfl,e⟩;{have g:=(z0.mp c).1;rw[x9 (by rw[<-s.len];exact g)]at d;exact(s.dob k a f c d).move i.conv λ o q=>by rw[aA (aP q h)];exact q};{cases e;rw[dt (by rw[s.len];exact y9 _),s.len,ox]at d;cases d;exact r}};{rw[cY]at j;rcases cn.mp j with z | z;{exact s.apart a z};{rw[cf.mp z];exact λ q=>l (.inr q)}}
def uB{h:Heap}(a:sysModules<h.objs.size):bI h.objs.size [] (h.push %[|89]):=
 %[dk _,mh.mpr (i5 (cr a)),g9,_,#[],cb _ rfl,%[rfl,rfl|rfl],rfl|rfl]
section
variable{X:Cx}{Γ:Gam}{S:Store}{W:WD}{pos:Pos}
def aav(h:W %[|13] (S++[[.non]])):Ev X Γ S (.Dict [] [] pos) W:=by intro d s g H O I f e;have b:=I.hok.fresh (y9 s.heap.objs.size);refine wpAny_Dict_empty %[%[|8],_,I.laid (a:=s.heap.objs.size) (o:=.ext (bI s.heap.objs.size [])) (t':=s.toks) (λ _ _ q=>bX _ q) (y9 _) (jR (uB I.big)),rfl|?_];exact%[O.more s.heap.objs.size true,%[|13],S++[[.non]],h,Step.own b _ true,Qs e b (.m [] [] rfl aR .nil)|.dlo (by show(O.A++[%[|80]])[S.length]? =some %[|80];rw[<-e.len];simp) λ c o q=>ca (I.kIn c o q)]
def Yy(hu:%[|56])(h:Ev X Γ (S++[[.non]]) L λ y S1=>Ev X Γ S1 P λ z S2=>∃c,y=cD c/\S2[S.length]? =some [.non]/\W %[|13] (S2.set S.length (.non::[((c,z):%[|14]×D)].map encC))):Ev X Γ S (.Dict [some L] [P] pos) W:=by
 intro e s G H O I l N;have J:=I.hok.fresh (y9 s.heap.objs.size);have R:Inv X e G (upd H s.heap.objs.size (.ext (bI s.heap.objs.size []))) {s with heap:=%[|44]}:=I.laid (a:=s.heap.objs.size) (o:=.ext (bI s.heap.objs.size [])) (t':=s.toks) (λ _ _ q=>bX _ q) (y9 _) (jR (uB I.big));have i:=Step.own (O:=O) J (.ext (bI s.heap.objs.size [])) true;have E:StOk X.K (O.more s.heap.objs.size true) (upd H s.heap.objs.size (.ext (bI s.heap.objs.size []))) (S++[[.non]]):=Qs N J (.m [] [] rfl aR .nil);have r:(O.more s.heap.objs.size true).A[S.length]? =some %[|80]:=by show(O.A++[%[|80]])[S.length]? =some %[|80];rw[<-N.len];simp
 have w:Abv X.K s.heap.objs.size:=λ c o q=>ca (I.kIn c o q);refine wpAny_Dict_any rfl rfl (by simp) (show 1<=15 by decide) ?_;generalize s.heap.objs.size=p at*;refine evalPairs_cons (thn (h e _ G _ _ R (l.mono i) E) λ ku s1 f=>?_);obtain⟨kx,Q,T,rk,U,kd,S1,h1,j,C,t⟩:=f;refine b0 (thn (h1 e s1 G Q U T ((l.mono i).mono j) C) λ F s2 f=>?_);obtain⟨vx,H2,v,rv,O2,vd,S2,⟨c,rfl,hS,hw⟩,k,n,u⟩:=f;refine b0 (wpAny_standAt (b9 (evalPairs_nil ?_)));have d:O2.A[S.length]? =some (p,true):=k.conv.lc _ _ (j.conv.lc _ _ r);obtain⟨hd,mu,ys,eH,kc,Y,hz⟩:=jh (kcs:=[]) v (n.dob _ _ _ d hS);cases kc;have g:=t.mono k;obtain⟨b,rfl⟩:=iW g;obtain rfl:ku=Value.ref b:=rk;unfold storeAll;rw[mm];refine b0 (b0 (Bq (c:=c) %[|0] (gD v g rfl) Y hz λ h' tk x B=>b9 ?_));show wpAny _ _ (forIn [] _ _) _ _ _;rw[lh];refine b9 ?_;obtain⟨q,Z,K,g2,g3,g4,_,g5⟩:=x;have V:bI p (storedH [] c b F) h':=%[by rw[ja];show 1<=_;omega,hd,g5,q,Z,K,g2,g3|g4];have M:=Step.put (O:=O2) (H:=H2) (dD d) (.ext (bI p (storedH [] c b F)));exact%[.ref p,upd H2 p (.ext (bI p (storedH [] c b F))),Bj v mu B %[q|K] (jR V),rfl,O2,%[|13],_,hw,((i.trans j).trans k).trans M,n.putO d (.m _ _ rfl aR ((Kcs.put (kcs:=[]) .nil g rv u).conv M.conv))|.dlo d w]
def Xd{W}(r:attributeBase o "items" X.env (eval o X.env)=eval o X.env)(N:(f.endLine==c.line)=true)
 (h:Ev X Γ S o λ d S1=>∃k kvs,d=.dlo k/\S1[k]? =some (.non::List.map encC kvs)/\W (kvs.map encC) (λ S=>S[k]? =%[|78]) S1):ItC X Γ S (.Tuple i n Z) (.Call (.Attribute o "items" f) [] [] c) W:=by
 intro m s σ H O I q U;refine wpAny_Call_method (T:="dict") (id:="dict.items") r rfl N F.plainAttrs_dict F.slot_dict_items F.type_dict_items (thn (h m s σ H O I q U) λ u s1 v=>?_);obtain⟨x,C,g,R,E,xd,S1,⟨k,kvs,rfl,M,w⟩,y,l,p⟩:=v;obtain⟨a,rfl,B,t⟩:=fK p;obtain rfl:u=Value.ref a:=R;have A:=l.dob k a _ B M;obtain⟨z,V,Y⟩:=A.typ t g;obtain⟨_,mu,ys,eH,Q,⟨oo,es,J,g2,K,L,_,_⟩,hz⟩:=jh g A;refine%[z,V|?_];show wpAny _ _ (callWith c (.builtin "dict.items") [.ref a] [] []) _ _ s1;refine method_meetsIn F.slot_dict_items F.entry_dict_items rfl (PySem.evalArgs_none %[rfl,z,F.args_dict_items_1 _,_,Mh Y,z|?_]);have G:es.size=ys.length:=by rw[<-e7,L,y7]
 refine QB (d:=a) (es:=es) (ep:=ys.length) (od:=oo) %[|73] (bX _ J) K ?_;have P:=Q.length;rw[G,P];have j:s1.heap.objs.size<=(s1.heap.push {cls:=.type "dict_items",data:=.fields #[.ref a]}).objs.size:=by rw[gc];exact jp _
 refine%[_,[(s1.heap.push {cls:=.type "dict_items",data:=.fields #[.ref a]}).objs.size],_,_,C,rfl,g.kept (t':=s1.toks) (λ b o e=>bX _ (bX _ e)),QQ a _ kvs.length,%[.none,.none|cb _ rfl],λ b r=>?_,E,kvs.map encC,_,S1,w,y,l|Jf B];rw[cf.mp r];exact g.fpOk j (g.hok.fresh j)
end
section
variable{Ω:Wd}
def aeD:Ex Ω where
 lev:=0
 chk f N i e:=anB (W7 e) λ z=>wQ z.1 (wQ z.2 true)
 wp l S W:=W %[|13] (S++[[.non]])
 sound:=by intro X r f N i e l S W A m d g;obtain⟨⟨h,k⟩,a,b⟩:=bU d;clear d;obtain⟨j,a⟩:=Nf a;subst a;obtain⟨a,c⟩:=jU b;clear b;have a:h=[]:=a;subst a;obtain⟨a,d⟩:=jU c;clear c;have a:k=[]:=a;subst a;{exact aav g}
def aeS(a b:Ex Ω):Ex Ω where
 lev:=%[|52]
 chk f N k e:=anB (W7 e) λ z=>dX z.1 λ o=>anB o λ x=>dX z.2 λ y=>a.chk f N k x&&b.chk f N k y
 wp l S W:=a.wp l (S++[[.non]]) λ y m=>b.wp l m λ z n=>∃c,y=cD c/\n[S.length]? =some [.non]/\W %[|13] (n.set S.length (.non::[((c,z):%[|14]×D)].map encC))
 sound:=by intro X r f N k e l S W A t j u;obtain⟨w,B⟩:=lv2 t;obtain⟨⟨v,E⟩,d,g⟩:=bU j;clear j;obtain⟨C,d⟩:=Nf d;subst d;obtain⟨o,d,h⟩:=gh g;clear g;have d:v=[o]:=d;subst d;obtain⟨x,d,i⟩:=bU h;clear h;subst d;obtain⟨y,d,j⟩:=gh i;clear i;have d:E=[y]:=d;subst d;{refine an2 j λ p s=>?_;exact Yy A.hu ((a.sound A w p u).mono λ y m q=>b.sound A B s q)}
@[irreducible] noncomputable def Qt(Γ:Gam)(tg:Tg)(body:Bl Ω)(W:DL.Fin)(k:Nat)(kvs:Kc)(S1:Store):Prop:=
  ∃c:%[|53],c 0 Γ S1/\(∀i a b,c i a b->b[k]? =%[|78])/\(∀i e a b,kvs[i]? =some e->c i a b->tg.wp (encC e) a λ d=>body.wp d b {W with nx:=c (i+1),ct:=c (i+1),bk:=W.nx})/\(∀a b,c kvs.length a b->W.nx a b)
def Oe{a:Bl Ω}(h:∃Pv:%[|53],Pv 0 d b/\(∀i Γ' S',Pv i Γ' S'->S'[k]? =%[|78])/\(∀i kv Γ' S',kvs[i]? =some kv->Pv i Γ' S'->c.wp (encC kv) Γ' λ Γ2=>a.wp Γ2 S' %[|93])/\(∀Γ' S',Pv kvs.length Γ' S'->W.nx Γ' S')):Qt d c a W k kvs b:=by unfold Qt;exact h
def aeZ(tg:Tg)(o:Ex Ω)(body:Bl Ω):Sm Ω where
 lev:=max o.lev body.lev
 chk c N s H:=frB H λ t G b=>zA G λ x m p z q=>wQ z (zN t&&((m==("items":Str))&&(nameE x&&((p.endLine==q.line)&&(tg.chk c N s t&&(o.chk c N s x&&body.chk c N s b))))))
 wp E S W:=o.wp E S λ d w=>match d with
  | .dlo k=>∃a,w[k]? =some (.non::List.map encC a)/\Qt E tg body W k a w
  | _=>False
 sound:=by
  intro X r c N s H E S W A R B U;obtain⟨Y,Z⟩:=lv2 R;refine uE B λ t G b aa C=>?_;refine oU C λ x m p z q g=>?_;obtain⟨y,h⟩:=jU g;clear g;subst y;refine an2 h λ T B=>?_;clear h;obtain⟨z,n,tp,y⟩:=nR T;subst y
  . refine an6 B λ I J K L M O=>?_;have e:=ZU I;subst e;refine Kh (Xd (iU J) K (Ev.mono (o.sound A Y M U) λ d w q=>?_)) (by rw[A.xe];exact ml) A.calm (λ _=>rfl)
    cases d with
    | dlo k=>obtain⟨a,Q,q⟩:=q;unfold Qt at q;obtain⟨u,p0,pC,pt,pe⟩:=q;refine%[k,a,rfl,Q,u,p0,pC,λ i d f v P l=>?_|λ f v l=>pe f v (by rw[y7]at l;exact l)];obtain⟨V,D,rfl⟩:=bA P;exact BdW.mono (Tg.sound A (W:=λ j F=>body.wp j F {W with nx:=u (i+1),ct:=u (i+1),bk:=W.nx}) L (pt i V f v D l)) λ j F q=>body.sound A Z O q
    | _=>exact(show False from q).elim
end
end RF
namespace RF
open PySem PySem.Spec L2 DL
open PyProof.Rows
section
variable{P:Program}{w:World}{A:Around}{E:%[|26]}{s:Shared}{d it:Addr}{i ep:Nat}{es:Array DictEntry}{od:Obj}{e:DictEntry}
def HD(f:s.heap.get? d=some od)(b:od.data=.dict es ep)(c:s.heap.IsKeyIter it d i es.size ep)(m:es[i]? =some e)
 (k:∀h',h'.IsKeyIter it d (i+1) es.size ep->Heap.SameBut it s.heap h'->Q (some e.key) %[|19]):wpAny (model P w) A (pyNext (.ref it)) Q E s:=by
 obtain⟨o,j,l,h⟩:=id c;have T:=c.typeIs;have g:Builtin.Dict_items.ownsTuple "dict_keyiterator"=false:=%[|1]
 unfold pyNext;refine b0 (kB (wpAny_callSpecial?_slot (name:=%[|85]) T io (dQ io T F.entry_dict_keyiterator_next ?_ (F.args_dict_keyiterator_next_1 _))));refine b0 (b9 (b0 (b0 ?_)));refine b0 (ko T (b9 (b0 (ll j h ?_))));simp only[g,de,en];show wpAny _ _ (if(Value.ref d==Value.none)=true then _ else _) _ _ s;rw[c8 (show ¬((Value.ref d==Value.none)=true)from y6)];refine b0 (b9 (b0 (fo f b ?_)));rw[c8 (by simp)];refine b0 (b9 (b0 (jS f b ?_)));rw[c8 (by simp)];refine b9 ?_;simp only[show ¬((i:Int)<0)from %[|0],en,f7,m];refine b0 ?_;refine b0 (ko T (b9 (b0 (wpAny_isOneOf_keyiter T ?_))));show wpAny _ _ (setField (.ref it) 1 (rawInt ((i:Int)+1))>>=_) _ _ s;refine b0 (kr j h (by simp) ?_);have a:(s.heap.update it (Obj.mapFields (·.setIfInBounds 1 (rawInt ((i:Int)+1))))).IsKeyIter it d (i+1) es.size ep:=
  %[_,fx _ j (Obj.isFreed_of_fields (mB h _)),(Obj.cls_mapFields ..).trans l|by rw[mB h];simp[rawInt]];refine b0 (eD (b0 (wpAny_isOneOf_keyiter (s:={s with heap:=s.heap.update it (Obj.mapFields (·.setIfInBounds 1 (rawInt ((i:Int)+1))))}) a.typeIs ?_)));show wpAny _ _ (pure e.key) _ _ _;exact b9 (b9 %[_,rfl|b9 (k _ a (eI ..))])
def Nb(hh:%[|50])(f:s.heap.get? d=some od)(c:od.data=.dict es ep)(e:s.heap.IsKeyIter it d i es.size ep)(l:es.size<=i)
 (k:∀h',Heap.ExtBut it s.heap h'->Q none %[|19]):wpAny (model P w) A (pyNext (.ref it)) Q E s:=by
 obtain⟨o,j,n,h⟩:=id e;have T:=e.typeIs;have g:Builtin.Dict_items.ownsTuple "dict_keyiterator"=false:=%[|1]
 unfold pyNext;refine b0 (kB (wpAny_callSpecial?_slot (name:=%[|85]) T io (dQ io T F.entry_dict_keyiterator_next ?_ (F.args_dict_keyiterator_next_1 _))));refine b0 (b9 (b0 (b0 ?_)));refine b0 (ko T (b9 (b0 (ll j h ?_))));simp only[g,de,en];show wpAny _ _ (if(Value.ref d==Value.none)=true then _ else _) _ _ s;rw[c8 (show ¬((Value.ref d==Value.none)=true)from y6)];refine b0 (b9 (b0 (fo f c ?_)));rw[c8 (by simp)];refine b0 (b9 (b0 (jS f c ?_)));rw[c8 (by simp)];refine b9 ?_;simp only[show ¬((i:Int)<0)from %[|0],en,f7,g7 l];refine b0 ?_;refine b0 (ko T (b9 ?_));show wpAny _ _ (setField (.ref it) 0 .none>>=_) _ _ s;refine b0 (kr j h (by simp) ?_);show wpAny _ _ (newExc (.type "StopIteration") []>>=_) _ _ _;refine b0 ?_;simp only[newExc,newTuple];refine b0 (dV (b0 (m:=firstArgMember _ _) (wpAny_of_eq (a:=Value.none) (by first | rfl | (simp only[firstArgMember];rfl)) (dV ?_ (by size_fits)))) (by size_fits));simp only[raiseNew];refine b0 (wpAny_handled ?_);rw[show A.in1.handled=none from hh];refine b0 (b9 (wpAny_throw ?_));refine b0 (gz (T:="StopIteration") (b:=true) %[_,cb _ rfl|rfl] isSubtype_stop ?_);exact b9 (k _ (((eI ..).extBut.push _).push _))
def Dt(lo:(d==sysModules)=false)(a:s.heap.get? d=some od)(hc:od.ExactDict)(b:od.data=.dict es ep)
 (c:Q %[|8] {s with heap:=s.heap.push {cls:=.type "dict_keyiterator",data:=.fields #[.ref d,.int 0 0,.int es.size 0,.int ep 0]}}):wpAny (model P w) A (pyIter (.ref d)) Q E s:=by have T:s.TypeIs (.ref d) "dict":=%[od,a|hc.1];refine kU T F.slot_dict_iter (dQ F.slot_dict_iter T F.entry_dict_iter ?_ (F.args_dict_iter_1 _));unfold Builtin.«dict.__iter__»;refine b0 ?_;unfold Builtin.Dict.dictSlotNone;refine b0 (kz T ?_);show wpAny _ _ (pure (Value.ref d)) _ _ s;refine b9 ?_;show wpAny _ _ (Builtin.Dict.showsAll d>>=_) _ _ s;unfold Builtin.Dict.showsAll;rw[c8 (by rw[lo];exact y6)];refine b0 (b9 (b0 (fo a b (b0 (jS a b ?_)))));refine b0 (dV (b9 %[_,rfl,"dict_keyiterator",_,%[_,cb _ rfl|rfl],io.lookup|?_]));simpa[rawInt]using c
def DEs(d:Addr)(es:Array DictEntry)(ep:Nat)(h:Heap):Prop:=∃o,h.get? d=some o/\o.ExactDict/\o.data=.dict es ep
theorem U9(hh:%[|50])(I:Addr)(p:d≠I):Walks P w A I [I,d] [I] es.size (λ i v=>∃e,es[i]? =some e/\v=e.key) (λ i h=>h.IsKeyIter I d i es.size ep/\DEs d es ep h) where
 sub:=λ b c=>by simp at c;simp[c]
 frame:=λ _ _ _ st q=>%[st.1.at λ o e=>q I (by simp) o e|let ⟨o,a,k⟩:=st.2;%[o,q d (by simp) o a|k]]
 item:=λ i s Q E t st f=>by obtain⟨o,a,k,l⟩:=st.2;obtain⟨e,r⟩:∃e,es[i]? =some e:=%[es[i]|by simp[t]];exact HD a l st.1 r λ m g j=>f e.key m s.toks %[e,r|rfl] %[g,o,j.extBut d o p a,k|l] λ b o c e=>j.extBut b o (λ h=>c (by simp[h])) e
 done:=λ s Q E st f=>by obtain⟨o,a,k,l⟩:=st.2;exact Nb hh a l st.1 (y9 _) λ m n=>f m s.toks λ b o c e=>n b o (λ h=>c (by simp[h])) e
 self:=λ _ _ _ _ st f=>wpAny_pyIter_keyiter st.1 f
theorem HJ(lo:(d==sysModules)=false):PySem.W.KdlSrc P w "dict" d d es.size (λ i v=>∃e,es[i]? =some e/\v=e.key) (DEs d es ep) where
 type:=λ _ ⟨o,g1,g2,_⟩=>%[o,g1|g2.1]
 there:=λ _ ⟨o,g1,_⟩=>%[ca g1|ca g1]
 keep:=λ _ _ ⟨o,g1,g2⟩ c=>%[o,c d (.inl rfl) o g1|g2]
 notList:=%[|1]
 notTuple:=%[|1]
 hint:=λ _ _ _ _ ⟨o,g1,g2,_⟩ a=>PySem.W.kdl_hint_dict %[o,g1|g2.1] a
 iter:=λ _ _ b ⟨o,g1,g2,g3⟩=>%[_,_,(λ _ _ a=>Dt lo g1 g2 g3 a),U9 b _ (cr (ca g1))|%[%[|73]|%[o,bX _ g1,g2|g3]]]
def GP(hh:%[|50])(lo:(d==sysModules)=false)(p:DEs d es ep s.heap)(G:es.size<=sizeLine)
 (z:∀h' tk,(∀b o,%[|38])->s.heap.objs.size<=h'.objs.size->Q (es.toList.map (·.key)) %[|54]):wpAny (model P w) A (collect (.ref d)) Q E s:=by
 have m:d<s.heap.objs.size:=let ⟨_,g,_⟩:=p;ca g;have h:s.heap.objs.size≠d:=ft m;unfold collect;refine b0 (wpAny_runValue (gN F.entry_proto_collect ?_));rw[gx F.plain_proto_collect _];show wpAny _ A.in1 (newList []>>=λ l=>again (.builtin "list.__iadd__" %[[l,.ref d]|[]])) _ _ s;refine b0 (dV ?_);refine b9 %[kM nh _|gN F.entry_list_iadd ?_];rw[gx nh _];have B:%[|60].get? s.heap.objs.size=some %[|100]:=cb _ rfl;show wpAny _ A.in1 (Builtin.List.listExtendWith %[|8] (.ref d) %[|8]) _ _ _;have k:DEs d es ep %[|60]:=let ⟨o,g1,g2⟩:=p;%[o,bX _ g1|g2];let R:Result->Shared->Prop:=λ r t=>match r with
  | Except.ok (Flow.ret v)=>wpAny (model P w) A (match v with | Value.ref a=>(do let o <-load a;match o.data with | Data.seq xs _=>pure xs.toList | _=>unsupported "internal:collect") | _=>unsupported "internal:collect") Q E t
  | Except.ok _=>False
  | Except.error e=>E e t;refine PySem.W.kdl_extend (R:=R) (s:={s with heap:=%[|60]}) (HJ lo) hh k s.heap.objs.size h h _ 0 B (λ h' tk c H D f hacc=>?_) G;show wpAny (model P w) A (load s.heap.objs.size>>=_) Q E _;refine b0 (wpAny_load f ?_);have y:c.toList=es.toList.map (·.key):=by
  refine kg λ j=>?_;rw[y8,fg,fg];by_cases C:j<es.size
  . have n:j<c.size:=by rw[hacc.1];exact C
    obtain⟨e,u,x⟩:=hacc.2 j c[j] (by simp[n]);rw[u,i4 n,x];rfl
  {rw[g7 (by rw[hacc.1];omega),g7 %[|0]];rfl}
 have i:∀b o,%[|38]:=λ b o q=>D b o (cr (ca q)) (bX _ q);have:=z h' tk i (eR (ca f));rw[<-y]at this;exact b9 this
end
def VJ(x y:Int)(xs ys:af1):ltI (x::xs) (y::ys)=if x=y then ltI xs ys else decide (x<y):=by unfold ltI;rw[show decide ((x::xs).length<(y::ys).length)=decide (xs.length<ys.length) by simp];rfl
def Bd(xs:af1):ltI xs []=false:=by unfold ltI;rw[cm (by simp)];cases xs<;>rfl
def aaO(h1:ltI a b=true)(h2:ltI b c=true):ltI a c=true:=by
 induction a generalizing b c with
 | nil=>
   cases c with
   | nil=>rw[Bd]at h2;cases h2
   | cons z c=>rfl
 | cons x a f=>
   cases b with
   | nil=>rw[Bd]at h1;cases h1
   | cons y b=>
     cases c with
     | nil=>rw[Bd]at h2;cases h2
     | cons z c=>rw[VJ]at h1 h2 ⊢;by_cases e:x=y;{subst e;rw[ci rfl]at h1;by_cases d:x=z;{subst d;rw[ci rfl]at h2 ⊢;exact f h1 h2};{rw[c8 d]at h2 ⊢;exact h2}};{rw[c8 e]at h1;have h1:=cE h1;by_cases d:y=z;{subst d;rw[c8 e];exact cc h1};{rw[c8 d]at h2;have h2:=cE h2;rw[c8 %[|0]];exact cc %[|0]}}
def G5(h1:ltC a b=true)(h2:ltC b c=true):ltC a c=true:=by unfold ltC at*;by_cases e:a.1=b.1;{rw[ci e]at h1;by_cases d:b.1=c.1;{rw[ci d]at h2;rw[ci (e.trans d)];exact aaO h1 h2};{rw[c8 d]at h2;rw[c8 (by rw[e];exact d),e];exact h2}};{rw[c8 e]at h1;have h1:=cE h1;by_cases d:b.1=c.1;{rw[c8 (by rw[<-d];exact e),<-d];exact cc h1};{rw[c8 d]at h2;have h2:=cE h2;rw[c8 %[|0]];exact cc %[|0]}}
def zT(n:a≠b)(h:ltC a b=false):ltC b a=true:=by
 unfold ltC at*;by_cases c:a.1=b.1
 . rw[ci c]at h;rw[ci c.symm]
   cases q:ltI b.2 a.2 with
   | true=>rfl
   | false=>exact absurd (lI c (CQ h q)) n
 {rw[c8 c]at h;have h:=iP h;rw[c8 (λ z=>c z.symm)];exact cc %[|0]}
structure OdrL(N:Nat)(lt:ah5)(p:af4):Prop where
 len:p.length=N
 lt_:∀i∈p,i<N
 nd:p.Nodup
 srt:p.Pairwise λ i j=>lt i j=true
def aaw(P:Pm N p)(h:Srt n p N):OdrL N n p.toList:=by
 have c:∀a,a<N->p.toList[a]? =some (p.getD a 0):=λ a d=>by
  have:a<p.size:=by rw[P.sz];exact d
  simp[this]
 have m:p.toList.length=N:=by rw[e7,P.sz]
 refine%[m,λ i o=>?_,?_|?_]
 . obtain⟨a,d⟩:=db o;have k:a<N:=by rw[<-m];exact(z0.mp d).1
   rw[c a k]at d;cases d;exact P.lt a k
 {refine fI.mpr λ a b d l j e=>?_;have f:=c a %[|0];have g:=c b %[|0];rw[y3 d]at f;rw[y3 l,<-e]at g;have:=P.inj a b %[|0] %[|0] (cq (f.symm.trans g));omega};{refine fI.mpr λ a b d l j=>?_;have f:=c a %[|0];have g:=c b %[|0];rw[y3 d]at f;rw[y3 l]at g;rw[cq f,cq g];exact h a b j %[|0]}
def Xl(n:Nat):∀(q:af4),q.Nodup->(∀i∈q,i<n)->q.length<=n:=by
 induction n with
 | zero=>
   intro q _ h
   cases q with
   | nil=>exact y9 _
   | cons a q=>exact absurd (h a x6) %[|0]
 | succ n f=>
   intro q d h;by_cases c:n∈q
   . have:=f (q.erase n) (d.erase n) λ i b=>by
      have:=h i (List.mem_of_mem_erase b);have:i≠n:=λ e=>by rw[e]at b;exact d.not_mem_erase b
      omega
     rw[kH c]at this;omega
   . have:=f q d λ i b=>by have:=h i b;have:i≠n:=λ e=>c (e▸b);omega
     omega
def RM(n:Nat):∀(q:af4),q.Nodup->(∀i∈q,i<n)->q.length=n->q.Perm %[|31]:=by
 induction n with
 | zero=>intro q _ _ f;obtain rfl:=fb f;exact .nil
 | succ n b=>
   intro q d h f;by_cases c:n∈q
   . have b:=b (q.erase n) (d.erase n) (λ i a=>by
      have:=h i (List.mem_of_mem_erase a);have:i≠n:=λ e=>by rw[e]at a;exact d.not_mem_erase a
      omega) (by rw[kH c];omega);rw[kQ];exact(List.perm_cons_erase c).trans ((List.Perm.cons n b).trans (List.perm_append_singleton _ _).symm)
   . have:=Xl n q d λ i a=>by have:=h i a;have:i≠n:=λ e=>c (e▸a);omega
     omega
def OdrL.perm(h:OdrL N a p):p.Perm (List.range N):=RM N p h.nd h.lt_ h.len
def range_getD{a:Type}(l:List a)(z:a):((List.range l.length).map λ i=>l.getD i z)=l:=by refine kg λ i=>?_;rw[y8];by_cases b:i<l.length;{simp[b]};{rw[iS (by rw[fq];omega),iS %[|0]];rfl}
section
variable{K:PySem.W.Frag}{O:Own}{H:Hp}
def wM{kcs:Kc}(r:Kcs K O H ys (kcs.map encC)):ys.map (·.1)=kcs.map (·.1):=by
 induction kcs generalizing ys with
 | nil=>cases r;rfl
 | cons d kcs a=>obtain⟨b,u,v,c,rfl,_,_,_,t⟩:=r.inv;rw[cw,cw,a t]
def Be{kcs:Kc}(r:Kcs K O H ys (kcs.map encC)):∀(i:Nat)(y:%[|14]×Addr×Value),ys[i]? =some y->Rep K O H (.ref y.2.1) (cD y.1):=by
 induction kcs generalizing ys with
 | nil=>cases r;intro i y h;simp at h
 | cons e kcs a=>
   obtain⟨b,u,v,d,rfl,c,_,_,t⟩:=r.inv;intro i y h
   cases i with
   | zero=>cases h;exact c
   | succ i=>exact a t i y (by simpa using h)
def WM(b:a.length=ds.length)(h:∀(i:Nat)(v:V)(d:D),a[i]? =some v->%[|25]->%[|33]):Reps K O H a ds:=by
 induction a generalizing ds with
 | nil=>
   cases ds with
   | nil=>exact .nil
   | cons=>cases b
 | cons v a g=>
   cases ds with
   | nil=>cases b
   | cons d ds=>exact .cons (h 0 v d rfl rfl) (g (by simpa using b) λ i j c e f=>h (i+1) j c (by simpa using e) (by simpa using f))
def Y0(c:b.length=a.length)(h:∀(i:Nat)(v:V)(u:Value),b[i]? =some v->a[i]? =some u->L2.RelV v u):Vals b a:=by
 induction b generalizing a with
 | nil=>
   cases a with
   | nil=>exact .nil
   | cons=>cases c
 | cons v b g=>
   cases a with
   | nil=>cases c
   | cons u a=>exact .cons (h 0 v u rfl rfl) (g (by simpa using c) λ i j d e f=>h (i+1) j d (by simpa using e) (by simpa using f))
end
def aeb(ka:Kc):Prop:=∀kv∈ka,okD kv.2=true/\deep kv.2<=50
variable{Ω:Wd}
def Grt(i:Int):Prop:=i.natAbs<2 ^ 100000
def JL(h:Grt i):Builtin.Int.intBits i<=100000:=by
 unfold Grt at h;unfold Builtin.Int.intBits;split;{exact dk _}
 . have:i.natAbs.log2<100000:=by rcases Nat.eq_zero_or_pos i.natAbs with a | b;{rw[a];decide};{exact(Nat.log2_lt (ft b)).mpr h}
   omega
def aeF(a b:Ex Ω):Ex Ω where
 lev:=%[|52]
 chk c N d e:=match e with | .BinOp l o r _=>(o==.Mult)&&(a.chk c N d l&&b.chk c N d r) | _=>false
 wp f S W:=a.wp f S λ x h=>b.wp f h λ y k=>match x,y with
  | .int i,.int j=>(Grt i/\Grt j)/\W (.int (i*j)) k
  | _,_=>False
 sound:=by
  intro X r c N d e f S W A s hc t;obtain⟨u,v⟩:=lv2 s
  cases e with
  | BinOp l o z w=>refine an3 hc λ m n p=>?_;have e:o=.Mult:=ZU m;subst e;refine xU ((a.sound A u n t).mono λ x h q=>(b.sound A v p q).mono λ y k q=>?_);split at q;{exact jQ (C:=λ i j=>Grt i/\Grt j) (g:=λ i j=>i*j) (opI λ i j _ _ _ _ _ hc q=>mul_int q (mulOk_of_bits (JL hc.1) (JL hc.2) %[|1])) q.1 q.2};{exact(show False from q).elim}
  | _=>exact fE hc
end RF
namespace RF
open PySem PySem.Spec L2 DL
section
open SetTable
def adv(m:Nat)(p:Probe):Probe:=if p.more>0 then{p with j:=p.j+1,more:=p.more-1}else{p with j:=%[|46],more:=runEnd m %[|46]-%[|46],i:=%[|46],perturb:=%[|98].2}
def adN(m:Nat):Nat->Probe->Probe
 | 0,p=>p
 | n+1,p=>adN m n (adv m p)
def jc(m a b:Nat)(p:Probe):adN m (a+b) p=adN m b (adN m a p):=by
 induction a generalizing p with
 | zero=>rw[mM];rfl
 | succ a c=>rw[Nat.succ_add];exact c _
def VP(m a:Nat)(p:Probe):adN m (a+1) p=adv m (adN m a p):=jc m a 1 p
def qQ(m n:Nat)(p:Probe):(adN m n p).dummy=p.dummy:=by
 induction n generalizing p with
 | zero=>rfl
 | succ n a=>show(adN m n (adv m p)).dummy=_;rw[a];unfold adv;split<;>rfl
def lpN(m:Nat):Nat->Nat×Nat->Nat×Nat
 | 0,q=>q
 | n+1,q=>lpN m n (leap m q.1 q.2)
def Pa(m a b:Nat)(q:Nat×Nat):lpN m (a+b) q=lpN m b (lpN m a q):=by
 induction a generalizing q with
 | zero=>rw[mM];rfl
 | succ a c=>rw[Nat.succ_add];exact c _
def Kp(m i:Nat):runEnd m i-i<=9:=by unfold runEnd;split<;>omega
def Ii(m:Nat):∀(r:Nat)(p:Probe),p.more=r->(adN m (r+1) p).j=%[|46]/\(adN m (r+1) p).i=%[|46]/\(adN m (r+1) p).perturb=%[|98].2/\(adN m (r+1) p).more<=9:=by
 intro r
 induction r with
 | zero=>
   intro p h;have e:adN m 1 p=adv m p:=rfl;have b:adv m p={p with j:=%[|46],more:=runEnd m %[|46]-%[|46],i:=%[|46],perturb:=%[|98].2}:=by unfold adv;rw[c8 %[|0]]
   rw[mM,e,b];exact%[rfl,rfl,rfl|Kp _ _]
 | succ r c=>
   intro p h;have e:adv m p={p with j:=p.j+1,more:=p.more-1}:=by unfold adv;rw[ci %[|0]]
   have:=c (adv m p) (by rw[e];show p.more-1=r;omega);rw[e]at this;have a:adN m (r+1+1) p=adN m (r+1) (adv m p):=rfl;rw[a,e];exact this
def U5(m:Nat):∀(k:Nat)(p:Probe),p.more<=9->∃n,n<=10*(k+1)/\(adN m n p).j=(lpN m (k+1) (p.i,p.perturb)).1:=by
 intro k
 induction k with
 | zero=>intro p h;exact%[p.more+1,%[|0]|(Ii m _ p rfl).1]
 | succ k d=>intro p h;obtain⟨f,a,b,c⟩:=Ii m _ p rfl;obtain⟨n,g,e⟩:=d (adN m (p.more+1) p) c;refine%[p.more+1+n,%[|0]|?_];rw[jc,e,a,b];rfl
def lc(m i:Nat):Nat:=(i*5+1) % (m+1)
def lcN(m:Nat):Nat->Nat->Nat
 | 0,i=>i
 | n+1,i=>lcN m n (lc m i)
def zP(m a b i:Nat):lcN m (a+b) i=lcN m b (lcN m a i):=by
 induction a generalizing i with
 | zero=>rw[mM];rfl
 | succ a c=>rw[Nat.succ_add];exact c _
def Nq(m:Nat):∀(n i:Nat),lpN m n (i,0)=(lcN m n i,0):=by
 intro n
 induction n with
 | zero=>intro i;rfl
 | succ n a=>intro i;show lpN m n ((i*5+1+0/32) % (m+1),0/32)=_;rw[Nat.zero_div,Nat.add_zero];exact a _
def Yr(m:Nat):∀(n:Nat)(q:Nat×Nat),(lpN m n q).2=q.2/32 ^ n:=by
 intro n
 induction n with
 | zero=>intro q;rw[Nat.pow_zero,Nat.div_one];rfl
 | succ n a=>intro q;show(lpN m n (leap m q.1 q.2)).2=_;rw[a];show q.2/32/32 ^ n=_;rw[Nat.div_div_eq_div_mul,Nat.pow_succ,mE]
def XR(m:Nat):∀(n:Nat)(q:Nat×Nat),(lpN m (n+1) q).1<=m:=by
 intro n
 induction n with
 | zero=>intro q;exact kX (oP _ %[|0])
 | succ n a=>intro q;exact a _
def orb(m:Nat):Nat->Nat->List Nat
 | 0,_=>[]
 | n+1,i=>i::orb m n (lc m i)
def abt(m:Nat):∀(n i k:Nat),k<n->(orb m n i)[k]? =some (lcN m k i):=by
 intro n
 induction n with
 | zero=>intro i k h;omega
 | succ n a=>
   intro i k h
   cases k with
   | zero=>rfl
   | succ k=>exact a _ k %[|0]
def Zv(m:Nat):∀(n i:Nat),(orb m n i).length=n:=by
 intro n
 induction n with
 | zero=>intro i;rfl
 | succ n a=>intro i;show(orb m n _).length+1=_;rw[a]
def du(m:Nat):Bool:=((List.range (m+1)).all λ e=>(orb m (m+1) 0).elem e)&&(lcN m (m+1) 0==0)
def KN(h:du m=true)(o:x<=m)(n:e<=m):∃k,k<=m/\lcN m k x=e:=by
 unfold du at h;rw[fk,gT]at h;obtain⟨j,f⟩:=h;have f:lcN m (m+1) 0=0:=by simpa using f
 have c:∀y,y<=m->∃a,a<=m/\lcN m a 0=y:=λ y q=>by have g:=j y (dA.mpr %[|0]);have g:y∈orb m (m+1) 0:=List.elem_iff.mp g;obtain⟨a,d⟩:=db g;have i:=(z0.mp d).1;rw[Zv]at i;rw[abt m _ _ _ i]at d;exact%[a,%[|0]|cq d]
 obtain⟨a,d,rfl⟩:=c x o;obtain⟨b,p,rfl⟩:=c e n;by_cases l:a<=b;{refine%[b-a,%[|0]|?_];rw[<-zP,show a+(b-a)=b from %[|0]]};{refine%[m+1-a+b,%[|0]|?_];rw[<-zP,show a+(m+1-a+b)=m+1+b from %[|0],zP,f]}
def ad8:du 7=true:=%[|11]
def adu:du 15=true:=%[|11]
def XQ:du 31=true:=%[|11]
def X6:du 63=true:=%[|11]
def Rp:du 127=true:=%[|11]
def Sv:du 255=true:=%[|11]
def XJ(h:du m=true)(f:p.more<=9)(i:p.perturb<2 ^ 64)(g:e<=m):∃n,n<10*turns m/\(adN m n p).j=e:=by
 have a:(lpN m 13 (p.i,p.perturb)).2=0:=by rw[Yr];exact Nat.div_eq_of_lt (ot i %[|1])
 have l:=XR m 12 (p.i,p.perturb);obtain⟨k,o,c⟩:=KN h l g;obtain⟨n,q,d⟩:=U5 m (12+k) p f;refine%[n,by unfold turns;omega|?_];rw[d,show 12+k+1=13+k from %[|0],Pa];have b:lpN m 13 (p.i,p.perturb)=((lpN m 13 (p.i,p.perturb)).1,0):=lI rfl a;rw[b,Nq];exact c
def V6{ps:af4}(o:ps.Pairwise (· <·)):∀(c lo hi:Nat),hi<=ps.length->lo<=hi->hi-lo<=c->(∀k x,ps[k]? =some x->k<lo->x<j)->(∀k x,ps[k]? =some x->hi<=k->j<=x)->below.go ps.toArray j c lo hi<=ps.length/\(∀k x,ps[k]? =some x->k<below.go ps.toArray j c lo hi->x<j)/\(∀k x,ps[k]? =some x->below.go ps.toArray j c lo hi<=k->j<=x):=by
 intro c
 induction c with
 | zero=>
   intro lo hi f q r a b;have:lo=hi:=%[|0]
   subst this;exact%[f,a|b]
 | succ c n=>
   intro lo hi f q r a b;by_cases e:lo<hi
   . have g:(lo+hi)/2<ps.length:=%[|0]
     have m:ps[(lo+hi)/2]? =some ps[(lo+hi)/2]:=y3 g;have p:ps.toArray.getD ((lo+hi)/2) j=ps[(lo+hi)/2]:=by simp[Array.getD,g]
     have i:below.go ps.toArray j (c+1) lo hi=if ps[(lo+hi)/2]<j then below.go ps.toArray j c ((lo+hi)/2+1) hi else below.go ps.toArray j c lo ((lo+hi)/2):=by
      conv=>lhs;unfold below.go
      rw[ci e];show(if ps.toArray.getD ((lo+hi)/2) j<j then _ else _)=_;rw[p]
     rw[i];by_cases l:ps[(lo+hi)/2]<j;{rw[ci l];refine n ((lo+hi)/2+1) hi f %[|0] %[|0] (λ k x d s=>?_) b;by_cases h:k=(lo+hi)/2;{subst h;rw[m]at d;rw[<-cq d];exact l};{have hk2:=(z0.mp d);have:=fI.mp o k ((lo+hi)/2) hk2.1 g %[|0];have:=hk2.2;omega}};{rw[c8 l];refine n lo ((lo+hi)/2) %[|0] %[|0] %[|0] a (λ k x d s=>?_);by_cases h:k=(lo+hi)/2;{subst h;rw[m]at d;rw[<-cq d];omega};{have hk2:=(z0.mp d);have:=fI.mp o ((lo+hi)/2) k g hk2.1 %[|0];have:=hk2.2;omega}}
   . have:lo=hi:=%[|0]
     subst this;have i:below.go ps.toArray j (c+1) lo lo=lo:=by unfold below.go;rw[c8 e]
     rw[i];exact%[f,a|b]
def xj{ps:af4}(b:ps.Pairwise (· <·))(j:Nat):below ps.toArray j<=ps.length/\(∀k x,ps[k]? =some x->k<below ps.toArray j->x<j)/\(∀k x,ps[k]? =some x->below ps.toArray j<=k->j<=x):=by unfold below;have e:ps.toArray.size=ps.length:=rfl;rw[e];refine V6 b _ 0 _ (y9 _) %[|0] %[|0] (λ k x _ h=>by omega) (λ k x a h=>?_);have:=(z0.mp a).1;omega
def below_at{ps:af4}(b:ps.Pairwise (· <·))(h:ps[i]? =some j):below ps.toArray j=i:=by
 obtain⟨f,c,d⟩:=xj b j;generalize below ps.toArray j=r at*;have hi:=z0.mp h;have g:¬i<r:=λ z=>by have:=c i j h z;omega
 by_cases e:r=i;{exact e}
 . have a:r<ps.length:=by have:=hi.1;omega
   have:=fI.mp b r i a hi.1 %[|0];have:=d r _ (y3 a) (y9 _);have:=hi.2;omega
def aq(m:Nat)(ps:af4)(f:Nat)(led:Bool)(mv:Nat)(pl:Bool):SetTable:={mask:=m,place:=ps.toArray,dummies:=#[],finger:=f,led:=led,moves:=mv,plain:=pl}
section
variable{m f mv:Nat}{ps:List Nat}{led pl:Bool}
def zF(a:ps.Pairwise (· <·))(h:ps[i]? =some j):%[|20].slot j=.live i:=by
 unfold slot aq;simp only[below_at a h];have:ps.toArray[i]? =some j:=by simpa using h
 rw[this];simp
def Pb(h:j∉ps):%[|20].slot j=.empty:=by
 unfold slot aq;have n:¬(ps.toArray[below ps.toArray j]? =some j):=λ e=>h (by
  have e:ps[below ps.toArray j]? =some j:=by simpa using e
  exact y4 e);have a:((ps.toArray[below ps.toArray j]?)==some j)=false:=by simpa using n
 simp only[a];rfl
def aaM:∀(c N:Nat)(p:Probe),p.dummy=none->N<c->t.slot (adN t.mask N p).j=.empty->(∀k,t.slot (adN t.mask k p).j≠.dummy)->
 ∃ n,n<=N/\(∀k,k<n->∃i,t.slot (adN t.mask k p).j=.live i/\hs i≠h)/\
   ((t.slot (adN t.mask n p).j=.empty/\probe.go t hs h c p=some (.empty (adN t.mask n p).j none))\/∃i,t.slot (adN t.mask n p).j=.live i/\hs i=h/\probe.go t hs h c p=some (.candidate (adN t.mask n p).j i (adN t.mask (n+1) p))):=by
 intro c
 induction c with
 | zero=>intro N p _ h;omega
 | succ c r=>
   intro N p l s g d
   cases q:t.slot p.j with
   | empty=>refine%[0,%[|0],λ k m=>by omega|.inl %[q|?_]];unfold probe.go;rw[q,l];rfl
   | dummy=>exact absurd q (d 0)
   | live i=>
     by_cases e:hs i=h;{refine%[0,%[|0],λ k m=>by omega|.inr %[i,q,e|?_]];unfold probe.go;rw[q];simp only[e,ge,h9];rfl}
     . cases N with
       | zero=>rw[show adN t.mask 0 p=p from rfl,q]at g;cases g
       | succ N=>
         have f:(adv t.mask p).dummy=none:=by rw[<-l];exact qQ t.mask 1 p
         obtain⟨n,u,a,b⟩:=r N (adv t.mask p) f %[|0] g λ k=>d (k+1);have o:probe.go t hs h (c+1) p=probe.go t hs h c (adv t.mask p):=by
          conv=>lhs;unfold probe.go
          rw[q];simp only[show(hs i==h)=false from by simpa using e];rfl
         refine%[n+1,%[|0],λ k m=>?_|?_]
         . cases k with
           | zero=>exact%[i,q|e]
           | succ k=>exact a k %[|0]
         {rw[o];exact b}
end
end
variable{m:Nat}
section
open SetTable
def stP(m:Nat)(h:Int):Probe:={j:=bits h % (m+1),more:=runEnd m (bits h % (m+1))-bits h % (m+1),i:=bits h % (m+1),perturb:=bits h,dummy:=none}
def Rq(t:SetTable)(h:Int):t.probeStart h=stP t.mask h:=rfl
def aG(m:Nat)(h:Int)(n:Nat):Nat:=%[|69].j
def Nh(h:Int):bits h<2 ^ 64:=by unfold bits;have a:=oQ h (b:=2 ^ 64) %[|1];have c:=mN h (b:=2 ^ 64) %[|1];omega
def rm(h:i<=m):i<=runEnd m i/\runEnd m i<=m:=by unfold runEnd;split<;>omega
structure PIn(m:Nat)(p:Probe):Prop where
 jm:p.j+p.more<=m
 m9:p.more<=9
 pt:p.perturb<2 ^ 64
def Rw(m:Nat)(h:Int):PIn m (stP m h):=by have a:bits h % (m+1)<=m:=kX (oP _ %[|0]);have:=rm a;exact%[by show bits h % (m+1)+(runEnd m (bits h % (m+1))-bits h % (m+1))<=m;omega,Kp _ _|Nh h]
def abW(h:PIn m p):PIn m (adv m p):=by unfold adv;split;{exact%[by show p.j+1+(p.more-1)<=m;have:=h.jm;omega,by show p.more-1<=9;have:=h.m9;omega|h.pt]};{have a:%[|46]<=m:=kX (oP _ %[|0]);have:=rm a;exact%[by show%[|46]+(runEnd m %[|46]-%[|46])<=m;omega,Kp _ _|kP (mr _ _) h.pt]}
def abQ:∀(n:Nat){p:Probe},PIn m p->PIn m (adN m n p):=by
 intro n
 induction n with
 | zero=>intro p h;exact h
 | succ n a=>intro p h;exact a (abW h)
def RC(m:Nat)(h:Int)(n:Nat):aG m h n<=m:=by have:=(abQ n (Rw m h)).jm;unfold aG;omega
def TQ{l:af4}(nd:l.Nodup):∀{U:af4},(∀x∈l,x∈U)->l.length<=U.length:=by
 induction l with
 | nil=>intro U _;exact dk _
 | cons a l d=>intro U h;rw[fh]at nd;have b:=h a x6;have:=d nd.2 (U:=U.erase a) λ x c=>(List.mem_erase_of_ne (λ e:x=a=>nd.1 (e▸c))).mpr (h x (x4 _ c));rw[kH b]at this;have:0<U.length:=List.length_pos_of_mem b;rw[dS];omega
def Cq{ps:af4}(b:ps.length<=m):∃e,e<=m/\e∉ps:=by
 by_cases h:∃e,e<=m/\e∉ps;{exact h}
 . have:=TQ (ma (n:=m+1)) (U:=ps) λ x a=>by have a:=dA.mp a;by_cases e:x∈ps;{exact e};{exact absurd %[x,%[|0]|e] h}
   rw[fq]at this;omega
def Wt(g:du m=true){ps:af4}(f:ps.length<=m)(a:PIn m p):∃N,N<10*turns m/\(adN m N p).j∉ps:=by obtain⟨e,d,h⟩:=Cq f;obtain⟨N,b,c⟩:=XJ g a.m9 a.pt d;exact%[N,b|by rw[c];exact h]
structure Tab(m:Nat)(hs:af1)(ps:af4):Prop where
 len:hs.length=ps.length
 up:ps.Pairwise (· <·)
 le:∀j∈ps,j<=m
 way:∀q∈hs.zip ps,∃n,aG m q.1 n=q.2/\∀k,k<n->aG m q.1 k∈ps
def Tab.nil(m:Nat):Tab m [] []:=%[rfl,List.Pairwise.nil,%[|41]|%[|41]]
def ins{α:Type}(p:Nat)(x:α)(l:List α):List α:=l.take p++x::l.drop p
def rn(p:Nat)(x:a)(l:List a):(ins p x l).Perm (x::l):=by unfold ins;refine List.perm_middle.trans ?_;rw[iX]
def uw{l:List a}:y∈ins p x l↔y=x\/y∈l:=by rw[(rn p x l).mem_iff,cK]
def ut(p:Nat)(x:a)(l:List a):(ins p x l).length=l.length+1:=(rn p x l).length_eq
def YK(p:Nat)(a:c)(b:d)(l:List c)(k:List d)(h:l.length=k.length):(ins p a l).zip (ins p b k)=ins p (a,b) (l.zip k):=by
 unfold ins;have e:(l.zip k).take p=(l.take p).zip (k.take p):=by unfold List.zip;exact List.take_zipWith ..
 have f:(l.zip k).drop p=(l.drop p).zip (k.drop p):=by unfold List.zip;exact List.drop_zipWith ..
 rw[List.zip_append (by rw[ej,ej,h]),oT,e,f]
def Tab.put(T:Tab m hs ps)(x:aG m h n∉ps)(w:∀k,k<n->aG m h k∈ps):Tab m (ins (below ps.toArray (aG m h n)) h hs) (ins (below ps.toArray (aG m h n)) (aG m h n) ps):=by obtain⟨z,t,s⟩:=xj T.up (aG m h n);refine%[by rw[ut,ut,T.len],?_,λ j p=>?_|λ q l=>?_];{generalize below ps.toArray (aG m h n)=r at*;unfold ins;rw[List.pairwise_append];refine%[List.Pairwise.sublist (kS _ _) T.up,?_|λ a v b f=>?_];{rw[List.pairwise_cons];refine%[λ b f=>?_|List.Pairwise.sublist (po _ _) T.up];obtain⟨i,c⟩:=db f;rw[pb]at c;have:=s _ _ c %[|0];have:b≠aG m h n:=λ e=>x (e▸y4 c);omega};{obtain⟨i,c⟩:=db v;rw[fT]at c;split at c;{rename_i o;have u:=t _ _ c o;rw[cK]at f;rcases f with rfl | f;{exact u};{obtain⟨A,g⟩:=db f;rw[pb]at g;have:=s _ _ g %[|0];omega}};{cases c}}};{rcases uw.mp p with rfl | p;{exact RC _ _ _};{exact T.le j p}};{rw[YK _ _ _ _ _ T.len]at l;rcases uw.mp l with rfl | l;{exact%[n,rfl|λ k d=>uw.mpr (.inr (w k d))]};{obtain⟨y,e,a⟩:=T.way q l;exact%[y,e|λ k d=>uw.mpr (.inr (a k d))]}}
def zU(m:Nat):∀(r:Nat)(p:Probe),r<=p.more->(adN m r p).j=p.j+r/\(adN m r p).more=p.more-r/\(adN m r p).i=p.i/\(adN m r p).perturb=p.perturb:=by
 intro r
 induction r with
 | zero=>intro p _;exact%[rfl,rfl,rfl|rfl]
 | succ r g=>
   intro p h;have e:adv m p={p with j:=p.j+1,more:=p.more-1}:=by unfold adv;rw[ci %[|0]]
   have f:adN m (r+1) p=adN m r (adv m p):=rfl;obtain⟨a,b,c,d⟩:=g (adv m p) (by rw[e];show r<=p.more-1;omega);rw[f,a,b,c,d,e];exact%[by show p.j+1+r=_;omega,by show p.more-1-r=_;omega,rfl|rfl]
def V2:adN m (p.more+1) p={j:=%[|46],more:=runEnd m %[|46]-%[|46],i:=%[|46],perturb:=%[|98].2,dummy:=p.dummy}:=by obtain⟨a,b,c,d⟩:=zU m p.more p (y9 _);have e:=qQ m p.more p;rw[VP];unfold adv;rw[c8 (by rw[b];omega),c,d,e]
def Qk:(∀k,%[|31].find? q=some k->k<n/\q k=true/\∀i,i<k->q i=false)/\(%[|31].find? q=none->∀i,i<n->q i=false):=by
 constructor
 . intro k h;obtain⟨g,d,f,e,j⟩:=List.find?_eq_some_iff_append.mp h;have c:k∈%[|31]:=by rw[e];simp
   refine%[dA.mp c,g|λ i b=>?_];have a:i∈%[|31]:=dA.mpr (by have:=dA.mp c;omega);have pw:(d++k::f).Pairwise (· <·):=by rw[<-e];exact List.pairwise_lt_range
   rw[e]at a;rcases cn.mp a with a | a;{have:=j i a;simpa using this};{rw[List.pairwise_append,List.pairwise_cons]at pw;rcases cK.mp a with rfl | a;{omega};{have:=pw.2.1.1 i a;omega}}
 {intro h i b;have:=gy.mp h i (dA.mpr b);simpa using this}
def aaB{J:af4}(t:∀j,j<=m->((f.getD j (some 0)).isNone=true↔j∉J)):∀(c k i d:Nat),i<=m->k<c->(lpN m k (i,d)).1∉J->∃n,layClean.free m f c i d=some (adN m n %[|91]).j/\(adN m n %[|91]).j∉J/\∀a,a<n->(adN m a %[|91]).j∈J:=by
 intro c
 induction c with
 | zero=>intro k i d _ h;omega
 | succ c H=>
   intro k i d y K w;have L:=rm y;obtain⟨C,D⟩:=Qk (n:=runEnd m i+1-i) (q:=λ k=>(f.getD (i+k) (some 0)).isNone);have l:∀a,a<runEnd m i+1-i->(f.getD (i+a) (some 0)).isNone=false->(adN m a %[|91]).j∈J:=by intro a G x;have:=(zU m a %[|91] (by show a<=runEnd m i-i;omega)).1;rw[this];show i+a∈J;by_cases e:i+a∈J;{exact e};{rw[(t (i+a) %[|0]).mpr e]at x;cases x}
   unfold layClean.free
   cases q:(List.range (runEnd m i+1-i)).find? λ k=>(f.getD (i+k) (some 0)).isNone with
   | some a=>obtain⟨I,E,F⟩:=C a q;have v:=(zU m a %[|91] (by show a<=runEnd m i-i;omega)).1;refine%[a,by rw[v],?_|λ b r=>l b %[|0] (F b r)];rw[v];exact(t (i+a) %[|0]).mp E
   | none=>
     have g:=D q
     cases k with
     | zero=>have o:=g 0 %[|0];have o:(f.getD i (some 0)).isNone=false:=o;have:=(t i y).mpr w;rw[this]at o;cases o
     | succ k=>have u:(leap m i d).1<=m:=kX (oP _ %[|0]);obtain⟨n,z,A,B⟩:=H k (leap m i d).1 (leap m i d).2 u %[|0] w;have s:=V2 (m:=m) (p:=%[|91]);refine%[runEnd m i-i+1+n,?_,?_|λ a G=>?_];{rw[jc,s];exact z};{rw[jc,s];exact A};{by_cases r:a<runEnd m i+1-i;{exact l a r (g a r)};{have:=B (a-(runEnd m i-i+1)) %[|0];rw[show a=runEnd m i-i+1+(a-(runEnd m i-i+1))from %[|0],jc,s];exact this}}
end
end RF
namespace RF
open PySem PySem.Spec L2 DL
variable{m:Nat}
section
open SetTable
def Wo(h:du m=true)(g:a<2 ^ 64)(f:e<=m):∃k,k<turns m/\(lpN m k (i,a)).1=e:=by
 have b:(lpN m 13 (i,a)).2=0:=by rw[Yr];exact Nat.div_eq_of_lt (ot g %[|1])
 have j:=XR m 12 (i,a);obtain⟨k,l,d⟩:=KN h j f;refine%[13+k,by unfold turns;omega|?_];rw[Pa];have c:lpN m 13 (i,a)=((lpN m 13 (i,a)).1,0):=lI rfl b;rw[c,Nq];exact d
structure Ow(m:Nat)(hs:af1)(ow:ah4)(J:af4):Prop where
 size:ow.size=m+1
 len:J.length=hs.length
 nd:J.Nodup
 le:∀j∈J,j<=m
 own:∀j q,ow.getD j none=some q↔J[q]? =some j
 way:∀z∈hs.zip J,∃n,aG m z.1 n=z.2/\∀k,k<n->aG m z.1 k∈J
def Ow.nil(m:Nat):Ow m [] (Array.replicate (m+1) none) []:=by refine%[by simp,rfl,g9,%[|41],λ j q=>?_|%[|41]];constructor;{intro h;by_cases e:j<m+1;{simp[Array.getD,e]at h};{simp[Array.getD,e]at h}};{intro h;simp at h}
def Ow.none_iff(O:Ow m hs b J):b.getD j none=none↔j∉J:=by
 constructor;{intro h c;obtain⟨q,d⟩:=db c;rw[(O.own j q).mpr d]at h;cases h}
 . intro h
   cases q:b.getD j none with
   | none=>rfl
   | some a=>exact absurd (y4 ((O.own j a).mp q)) h
def Ow.isNone(O:Ow m hs a J)(j:Nat)(b:j<=m):(a.getD j (some 0)).isNone=true↔j∉J:=by
 have e:a.getD j (some 0)=a.getD j none:=by
  have:j<a.size:=by rw[O.size];omega
  simp[Array.getD,this]
 rw[e,Option.isNone_iff_eq_none];exact O.none_iff
def Ow.step(C:du m=true)(O:Ow m hs d J)(B:hs.length<=m)(h:Int):∃j,layClean.free m d (turns m) (bits h % (m+1)) (bits h)=some j/\Ow m (hs++[h]) (d.setIfInBounds j (some hs.length)) (J++[j]):=by
 obtain⟨e,A,D⟩:=Cq (m:=m) (ps:=J) (by rw[O.len];exact B);obtain⟨k,o,x⟩:=Wo C (i:=bits h % (m+1)) (Nh h) A;obtain⟨n,s,p,t⟩:=aaB O.isNone (turns m) k (bits h % (m+1)) (bits h) (kX (oP _ %[|0])) o (by rw[x];exact D);have s:layClean.free m d (turns m) (bits h % (m+1)) (bits h)=some (aG m h n):=s;have p:aG m h n∉J:=p;have t:∀a,a<n->aG m h a∈J:=t;have G:=RC m h n;refine%[_,s,by rw[mP];exact O.size,by rw[x8,x8,O.len];rfl,?_,λ j c=>?_,λ j q=>?_|λ z l=>?_];{rw[ke];refine%[O.nd,by simp|λ a y b w e=>?_];rw[cf]at w;exact p (w▸e▸y)};{rcases cn.mp c with c | c;{exact O.le j c};{rw[cf.mp c];exact G}}
 . have E:=O.size;by_cases v:j=aG m h n
   . subst v;have u:(d.setIfInBounds (aG m h n) (some hs.length)).getD (aG m h n) none=some hs.length:=by
      have:aG m h n<d.size:=%[|0]
      simp[Array.getD,this]
     rw[u];constructor;{intro e;rw[<-cq e,<-O.len];simp}
     . intro e;by_cases r:q<J.length;{rw[x9 r]at e;exact absurd (y4 e) p}
       . have g:=(z0.mp e).1;rw[x8,i6]at g;have:q=J.length:=%[|0]
         rw[this,O.len]
   . have u:(d.setIfInBounds (aG m h n) (some hs.length)).getD j none=d.getD j none:=by
      unfold Array.getD;by_cases c:j<d.size
      . have f:j<(d.setIfInBounds (aG m h n) (some hs.length)).size:=by rw[mP];exact c
        rw[dif_pos f,dif_pos c];exact Array.getElem_setIfInBounds_ne c (λ e=>v e.symm)
      . have f:¬j<(d.setIfInBounds (aG m h n) (some hs.length)).size:=by rw[mP];exact c
        rw[dif_neg f,dif_neg c]
     rw[u,O.own];by_cases r:q<J.length;{rw[x9 r]};{constructor;{intro e;exact absurd (z0.mp e).1 r};{intro e;have g:=(z0.mp e).1;rw[x8,i6]at g;rw[show q=J.length from %[|0]]at e;simp at e;exact absurd e.symm v}}
 {rw[List.zip_append O.len.symm]at l;rcases cn.mp l with l | l;{obtain⟨F,a,b⟩:=O.way z l;exact%[F,a|λ k o=>ij _ (b k o)]};{rw[oT,List.zip_nil_right,cf]at l;subst l;exact%[n,rfl|λ k o=>ij _ (t k o)]}}
def GR(m:Nat)(acc:Option (Array (Option Nat)×Nat))(h:Int):Option (Array (Option Nat)×Nat):=do
 let (owner,k) <-acc
 let j <-layClean.free m owner (turns m) (bits h % (m+1)) (bits h)
 pure (owner.setIfInBounds j (some k),k+1)
def Xg(k:du m=true):∀(a hs:af1)(b:ah4)(J:af4),Ow m hs b J->hs.length+a.length<=m->∃ow' J',a.foldl (GR m) (some (b,hs.length))=some (ow',(hs++a).length)/\Ow m (hs++a) ow' J':=by
 intro a
 induction a with
 | nil=>intro hs b J O _;exact%[b,J,by rw[gt];rfl|by rw[gt];exact O]
 | cons h a l=>
   intro hs b J O i;rw[dS]at i;obtain⟨j,e,d⟩:=O.step k %[|0] h;obtain⟨ow',J',f,c⟩:=l (hs++[h]) _ _ d (by rw[x8,i6];omega);refine%[ow',J',?_|by rw[ck]at c;exact c];rw[List.foldl_cons];have g:GR m (some (b,hs.length)) h=some (b.setIfInBounds j (some hs.length),(hs++[h]).length):=by unfold GR;show((layClean.free m b (turns m) (bits h % (m+1)) (bits h)).bind λ j=>some (b.setIfInBounds j (some hs.length),hs.length+1))=_;rw[e,x8];rfl
   rw[g,f,ck];rfl
def abr(a:du m=true)(b:hs.length<=m):∃ow J,layClean m hs.toArray=some ow/\Ow m hs ow J:=by obtain⟨ow,J,e,O⟩:=Xg a hs [] _ _ (Ow.nil m) (by rw[List.length_nil];omega);refine%[ow,J,?_|O];unfold layClean;show(hs.toArray.foldl (GR m) (some (Array.replicate (m+1) none,0))).map (·.1)=_;rw[List.foldl_toArray];have e:hs.foldl (GR m) (some (Array.replicate (m+1) none,0))=some (ow,([]++hs).length):=e;rw[e];rfl
def ur(m:Nat)(ow:ah4):List (Nat×Nat):=(List.range (m+1)).filterMap λ j=>(ow.getD j none).map (j,·)
def kO(h:z∈ur m b):z.1<=m/\b.getD z.1 none=some z.2:=by
 obtain⟨j,c,e⟩:=i7.mp h
 cases q:b.getD j none with
 | none=>rw[q]at e;cases e
 | some a=>rw[q]at e;have e:(j,a)=z:=cq e;subst e;exact%[by have:=dA.mp c;omega|q]
def Oo(m:Nat)(g:ah4):(ur m g).Pairwise λ a b=>a.1<b.1:=by
 unfold ur;rw[List.pairwise_filterMap];refine List.Pairwise.imp ?_ (List.pairwise_lt_range (n:=m+1));intro a b f x d y e;have h:x.1=a:=by
  cases q:g.getD a none with
  | none=>rw[q]at d;cases d
  | some c=>rw[q]at d;have d:(a,c)=x:=cq d;rw[<-d]
 have i:y.1=b:=by
  cases q:g.getD b none with
  | none=>rw[q]at e;cases e
  | some c=>rw[q]at e;have e:(b,c)=y:=cq e;rw[<-e]
 rw[h,i];exact f
def NT(D:du m=true){hs:af1}(C:hs.length<=m)(f mv:Nat)(led pl:Bool):∃(ps order:af4),SetTable.laid m f mv led pl hs.toArray=some (%[|20],order.toArray)/\order.Perm (List.range hs.length)/\Tab m (order.map λ q=>hs.getD q 0) ps:=by
 obtain⟨l,J,e,O⟩:=abr D C;refine%[(ur m l).map (·.1),(ur m l).map (·.2),?_,?_|?_];{unfold SetTable.laid;rw[e];rfl}
 . refine(kC ?_ ma).mpr λ q=>?_;{rw[List.Nodup,kF];refine List.Pairwise.imp_of_mem (λ{a b} u w v e=>?_) (Oo m l);have r:=(O.own _ _).mp (kO u).2;have t:=(O.own _ _).mp (kO w).2;rw[e,t]at r;have:=cq r;omega}
   . rw[dA];constructor;{intro h;obtain⟨z,c,rfl⟩:=c9.mp h;have:=(z0.mp ((O.own _ _).mp (kO c).2)).1;rw[O.len]at this;exact this}
     . intro h;have p:q<J.length:=by rw[O.len];exact h
       have o:J[q]? =some J[q]:=y3 p;have E:=(O.own _ _).mpr o;refine c9.mpr %[(J[q],q),i7.mpr %[J[q],dA.mpr ?_|by rw[E];rfl]|rfl];have:=O.le _ (y4 o);omega
 . have g:∀j,j∈(ur m l).map (·.1)↔j∈J:=by intro j;constructor;{intro h;obtain⟨z,c,rfl⟩:=c9.mp h;exact y4 ((O.own _ _).mp (kO c).2)};{intro h;obtain⟨q,o⟩:=db h;refine c9.mpr %[(j,q),i7.mpr %[j,dA.mpr (by have:=O.le j h;omega)|by rw[(O.own _ _).mpr o];rfl]|rfl]}
   refine%[by simp,by rw[kF];exact Oo m l,λ j A=>O.le j ((g j).mp A)|λ z c=>?_];rw[dr,List.zip_map']at c;obtain⟨y,F,rfl⟩:=c9.mp c;have s:=(O.own _ _).mp (kO F).2;have d:=(z0.mp s).1;rw[O.len]at d;have x:hs[y.2]? =some (hs.getD y.2 0):=by rw[eW,y3 d];rfl
   obtain⟨n,a,b⟩:=O.way (hs.getD y.2 0,y.1) (y4 (i:=y.2) (fN.mpr %[x|s]));exact%[n,a|λ k B=>(g _).mpr (b k B)]
end
end RF
namespace RF
open PySem PySem.Spec L2 DL
open PyProof.Rows
variable{m:Nat}{ps:List Nat}
section
open SetTable
structure HK(prog:ag4)(w:World)(α:Type)[DecidableEq α] where
 h:α->Int
 I:Heap->Value->α->Prop
 keep:∀{h h':Heap}{v:Value}{c:α},(∀b o,%[|43]->o.cls=%[|9]->h'.get? b=some o)->I h v c->I h' v c
 ref:∀{h:Heap}{v:Value}{c:α},I h v c->∃b,v=.ref b
 eq:∀{A:ah0}{s:af3}{u v:Value}{c d:α},A.units+2<cLine->I s.heap u c->I s.heap v d->SeqAt.EqAt A s u v (decide (c=d))
 seen:∀{A:ah0}{E:af2}{s:af3}{x:Value}{c:α}{ys:af5}{Q:ah1},I s.heap x c->(∀y∈ys,∃d,I s.heap y d)->Q false s->wpAny %[|4] A (searchCouldBeSeen x ys) Q E s
 hbv:∀{A:ah0}{E:af2}{s:af3}{b:Addr}{c:α}{Q:ah1},I s.heap (.ref b) c->Q true s->wpAny %[|4] A (hashByValue 8 (.ref b)) Q E s
 hash:∀{A:ah0}{E:af2}{s:af3}{v:Value}{c:α}{Q:Int->Shared->Prop},A.units+5<cLine->I s.heap v c->(∀n,Q (h c) {s with toks:=s.toks+n})->wpAny %[|4] A (pyHash v) Q E s
variable{prog:Program}{w:World}{α:Type}[DecidableEq α]{K:HK prog w α}
abbrev Cv(α:Type):=List (α×Value)
def aN(K:HK prog w α)(xs:Cv α):List Int:=xs.map λ x=>K.h x.1
def ao(K:HK prog w α)(xs:Cv α):List (Int×Value):=xs.map λ x=>(K.h x.1,x.2)
def Gz{led pl}(T:Tab m hs ps)(j:Nat):(j∉ps/\%[|20].slot j=.empty)\/∃i,ps[i]? =some j/\%[|20].slot j=.live i:=by by_cases h:j∈ps;{obtain⟨i,a⟩:=db h;exact .inr %[i,a|zF T.up a]};{exact .inl %[h|Pb h]}
def acs(T:%[|34]){i j:Nat}(h:ps[i]? =some j):∃x,xs[i]? =some x:=by have:=(z0.mp h).1;have l:=T.len;unfold aN at l;rw[y7]at l;exact%[xs[i]|y3 %[|0]]
def RX{led pl}(T:%[|34])(g:∀(i:Nat)(x:α×Value),xs[i]? =some x->hs i=K.h x.1)(B:n<=N)(A:N<10*turns m)(u:aG m h N∉ps):
 ∃ k,n+k<=N/\(∀a,n<=a->a<n+k->∃(i:Nat) (x:α×Value),ps[i]? =some (aG m h a)/\xs[i]? =some x/\K.h x.1≠h)/\
   ((aG m h (n+k)∉ps/\%[|20].probe hs h %[|69]=some (.empty (aG m h (n+k)) none))\/∃(i:Nat) (x:α×Value),ps[i]? =some (aG m h (n+k))/\xs[i]? =some x/\K.h x.1=h/\%[|20].probe hs h %[|69]=some (.candidate (aG m h (n+k)) i (adN m (n+k+1) (stP m h)))):=by
 have d:∀a,(adN m a %[|69]).j=aG m h (n+a):=λ a=>by unfold aG;rw[jc]
 obtain⟨k,y,p,q⟩:=aaM (t:=%[|20]) (hs:=hs) (h:=h) (10*turns m) (N-n) %[|69] (by rw[qQ];rfl) %[|0] (by show%[|20].slot (adN m (N-n) %[|69]).j=.empty;rw[d,show n+(N-n)=N from %[|0]];exact Pb u) (λ a=>by rcases Gz (f:=f) (mv:=mv) (led:=led) (pl:=pl) T (adN m a %[|69]).j with⟨_,e⟩ | ⟨i,_,e⟩;{intro z;rw[show%[|20].mask=m from rfl,e]at z;cases z};{intro z;rw[show%[|20].mask=m from rfl,e]at z;cases z});have live:∀a i,%[|20].slot (adN m a %[|69]).j=.live i->ps[i]? =some (aG m h (n+a)):=by intro a i e;rw[d]at e;rcases Gz (f:=f) (mv:=mv) (led:=led) (pl:=pl) T (aG m h (n+a))with⟨_,c⟩ | ⟨C,b,c⟩;{rw[c]at e;cases e};{rw[c]at e;cases e;exact b}
 refine%[k,%[|0],λ a r s=>?_|?_];{obtain⟨i,b,c⟩:=p (a-n) %[|0];have b:=live _ _ b;rw[show n+(a-n)=a from %[|0]]at b;obtain⟨x,l⟩:=acs T b;exact%[i,x,b,l|by rw[<-g i x l];exact c]};{rcases q with⟨b,c⟩ | ⟨i,b,c,o⟩;{refine .inl %[λ w=>?_|?_];{obtain⟨i,v⟩:=db w;have b:%[|20].slot (adN m k %[|69]).j=.empty:=b;rw[d,zF T.up v]at b;cases b};{show probe.go _ hs h (10*turns m) _=_;rw[c];show some (Met.empty (adN m k %[|69]).j none)=_;rw[d]}};{have b:=live _ _ b;obtain⟨x,l⟩:=acs T b;refine .inr %[i,x,b,l,by rw[<-g i x l];exact c|?_];show probe.go _ hs h (10*turns m) _=_;rw[o];show some (Met.candidate (adN m k %[|69]).j i (adN m (k+1) %[|69]))=_;rw[d,<-jc,show n+(k+1)=n+k+1 from %[|0]]}}
def ab3(T:%[|34]){i:Nat}(d:xs[i]? =some x):∃j n,ps[i]? =some j/\aG m (K.h x.1) n=j/\∀k,k<n->aG m (K.h x.1) k∈ps:=by
 have f:=(z0.mp d).1;have l:=T.len;unfold aN at l;rw[y7]at l;have c:ps[i]? =some (ps[i]'%[|0]):=y3 %[|0];have e:(aN K xs)[i]? =some (K.h x.1):=by unfold aN;rw[y8,d];rfl
 obtain⟨n,a,b⟩:=T.way (K.h x.1,ps[i]'%[|0]) (y4 (i:=i) (fN.mpr %[e|c]));exact%[_,n,c,a|b]
end
end RF
namespace RF
open PySem PySem.Spec L2 DL
open PyProof.Rows
section
variable{prog:Program}{w:World}{α:Type}[DecidableEq α]{K:HK prog w α}{A:Around}{E:%[|26]}{s:Shared}{m f mv ep:Nat}{led pl:Bool}{xs:Cv α}{ps:List Nat}{a:Addr}
abbrev bG(t:SetTable)(es:List (Int×Value))(ep:Nat):Obj:={cls:=.type "set",dict:=none,data:=.set es.toArray ep t,slots:=#[]}
def km(T:%[|34])(a:xs.length<=m):%[|20].fits (ao K xs).toArray.size=true:=by have l:=T.len;unfold aN at l;rw[y7]at l;unfold SetTable.fits SetTable.fill aq ao;simp[l];omega
def cZ(T:%[|34])(b:xs.length<=m)(c:s.heap.get? a=some (bG %[|20] (ao K xs) ep))(d:Q ((ao K xs).toArray,ep,%[|20]) s):wpAny %[|4] A (setState a) Q E s:=
 wpAny_setState_of c rfl (km T b) d
def XS{i:Nat}(h:xs[i]? =some x):(ao K xs).toArray[i]? =some (K.h x.1,x.2):=by unfold ao;simp[h]
def Mu(hu:A.units+2<cLine)(ho:s.heap.get? a=some (bG %[|20] (ao K xs) ep))(T:%[|34])(C:xs.length<=m)(aa:m % 2=1)(hv:K.I s.heap v c)(B:∀x∈xs,K.I s.heap x.2 x.1)(hh:h=K.h c)(hN:N<10*SetTable.turns m)(M:aG m h N∉ps)
 (h1:(∃x∈xs,x.1=c)->Q (.there none) s)(h2:(∀x∈xs,x.1≠c)->∀n,aG m h n∉ps->(∀k,k<n->aG m h k∈ps)->Q (.free (aG m h n) false) s):
 ∀(g n:Nat)(st:Option SetTable.Probe),st.getD (stP m h)=%[|69]->n<=N->N-n<g->(∀k,k<n->∃(i:Nat) (x:α×Value),ps[i]? =some (aG m h k)/\xs[i]? =some x/\x.1≠c)->wpAny %[|4] A (setSearchFrom a v h true g st) Q E s:=by
 intro g
 induction g with
 | zero=>intro n st _ _ h;omega
 | succ g ih=>
   intro n st Z hn hf o;have X:∀(i:Nat)(x:α×Value),xs[i]? =some x->(λ i=>(((ao K xs).toArray[i]?).map (·.1)).getD 0) i=K.h x.1:=λ i x B=>by show(((ao K xs).toArray[i]?).map (·.1)).getD 0=_;rw[XS B,Option.map_some,Option.getD_some]
   obtain⟨k,k1,k2,k3⟩:=RX (f:=f) (mv:=mv) (led:=led) (pl:=pl) T X (h:=h) hn hN M;unfold setSearchFrom;refine b0 (cZ T C ho ?_);dsimp only;rw[c8 (show ¬(SetTable.gaveWay %[|20]=true)from by simp[SetTable.gaveWay,aq,aa])];rw[Rq,show%[|20].mask=m from rfl,Z];rcases k3 with⟨S,U⟩ | ⟨i,x,O,l,i3,U⟩
   . generalize t:SetTable.probe %[|20] _ h _=pr;have t:pr=some (.empty (aG m h (n+k)) none):=t.symm.trans U;subst t;dsimp only;have no:∀x∈xs,x.1≠c:=by
      intro x B e;obtain⟨i,Y⟩:=db B;obtain⟨j,u,P,j2,j3⟩:=ab3 T Y;rw[e,<-hh]at j2 j3;have lt:u<n+k:=by by_cases z:u<n+k;{exact z};{by_cases z2:u=n+k;{exact absurd (by rw[<-z2,j2];exact y4 P) S};{exact absurd (j3 (n+k) %[|0]) S}}
      have H:∀l,ps[l]? =some (aG m h u)->l=i:=by intro l h2;have h2:=below_at T.up h2;have P:=below_at T.up P;rw[<-h2,<-P,j2]
      by_cases z:u<n;{obtain⟨l,x2,p,r,D⟩:=o u z;rw[H l p,Y]at r;exact D (by rw[<-cq r];exact e)};{obtain⟨l,x2,p,r,D⟩:=k2 u %[|0] lt;rw[H l p,Y]at r;exact D (by rw[<-cq r,e,hh])}
     refine b9 (h2 no _ S λ b hb=>?_);by_cases z:b<n;{obtain⟨l,x2,p,_⟩:=o b z;exact y4 p};{obtain⟨l,x2,p,_⟩:=k2 b %[|0] hb;exact y4 p}
   . generalize t:SetTable.probe %[|20] _ h _=pr;have t:pr=some (.candidate (aG m h (n+k)) i (adN m (n+k+1) (stP m h))):=t.symm.trans U;subst t;dsimp only;have G:=y4 l;have F:=B x G;have R:=XS (K:=K) l;have hs:∀y∈List.map (λ x:Int×Value=>x.2) (Array.filter (λ x=>x.fst==h) (ao K xs).toArray).toList,∃d,K.I s.heap y d:=by
      intro y hy;rw[c9]at hy;obtain⟨e,M,rfl⟩:=hy;have:e∈(ao K xs).toArray:=(Array.mem_filter.mp (Array.mem_toList_iff.mp M)).1;have:e∈ao K xs:=by simpa using this
      unfold ao at this;obtain⟨z,hz,rfl⟩:=c9.mp this;exact%[z.1|B z hz]
     have W:SeqAt.EqAt A s x.2 v (decide (x.1=c)):=K.eq hu F hv;have ab:%[|20].slot (aG m h (n+k))=.live i:=zF T.up O;have I:x.1≠c->wpAny %[|4] A (setSearchFrom a v h true g (some (adN m (n+k+1) (stP m h)))) Q E s:=by
      intro nc;have lt:n+k<N:=by
       by_cases z:n+k<N;{exact z}
       . have:n+k=N:=%[|0]
         rw[this]at O;exact absurd (y4 O) M
      refine ih (n+k+1) _ rfl %[|0] %[|0] λ b hb=>?_;by_cases z:b<n;{exact o b z};{by_cases z2:b=n+k;{subst z2;exact%[i,x,O,l|nc]};{obtain⟨i3,x3,p,r,D⟩:=k2 b %[|0] %[|0];exact%[i3,x3,p,r|λ e=>D (by rw[e,hh])]}}
     obtain⟨cx,vx⟩:=x;obtain⟨J,V⟩:=K.ref F;have V:vx=.ref J:=V;subst V;have q:wpAny %[|4] A (do
      let equal <-holding [Value.ref J] (eqBool (Value.ref J) v)
      let (es',_,t') <-setState a
      if true&&equal then return SetFound.there none
      let some same:=t'.sameMemory mv m | unsupported "set.changed-during-lookup:is-the-new-block-at-the-old-address"
      let still <-match (if same then t'.slot (aG m h (n+k))else .empty)with
       | .live i'=>match es'[i']? with
         | some (_,y')=>do pure (if <-isSame y' (Value.ref J)then some i' else none)
         | none=>pure none
       | _=>pure none
      match still with
      | none=>rule "set.search.anew";setSearchFrom a v h true g none
      | some i'=>if equal then return .there (some i')else setSearchFrom a v h true g (some (adN m (n+k+1) (stP m h)))) Q E s:=by
      refine b0 (eD (W prog w E _ ?_));refine b0 (cZ T C ho ?_);by_cases L:cx=c;{rw[cc L];exact b9 (h1 %[_,G|L])}
      . rw[cm L];dsimp only;rw[c8 (show ¬((true&&false)=true)from y6)];have em:SetTable.sameMemory %[|20] mv m=some true:=by unfold SetTable.sameMemory;rw[ci (by show(mv==mv)=true;exact ge mv)]
        rw[em];dsimp only;rw[ci rfl,ab];dsimp only;rw[R];dsimp only;refine b0 (XN ?_);refine b0 (b9 ?_);exact I L
     cases led;{rw[ci (show(!(aq m ps f false mv pl).led)=true from rfl)];refine b0 (K.seen hv hs ?_);rw[c8 y6,R];exact q};{rw[c8 (show ¬(!(aq m ps f true mv pl).led)=true from y6),R];exact q}
def sr{a}(p:Nat)(x:a)(l:List a):SetTable.insertAt l.toArray p x=(ins p x l).toArray:=by apply nN.mp;rw[SetTable.toList_insertAt];rfl
def ado(j:Nat):%[|20].put j=(aq m (ins (SetTable.below ps.toArray j) j ps) f led mv pl,SetTable.below ps.toArray j):=by unfold SetTable.put;show((%[m,SetTable.insertAt ps.toArray (SetTable.below ps.toArray j) j,if SetTable.has #[] j=true then _ else #[],f,led,mv|pl]:SetTable),SetTable.below ps.toArray j)=_;rw[c8 (show ¬SetTable.has #[] j=true from y6),sr];rfl
def Od{a b}(g:a->b)(p:Nat)(x:a)(l:List a):(ins p x l).map g=ins p (g x) (l.map g):=by unfold ins;rw[da,cw,pj,List.map_drop]
def um(c:s.heap.get? a=some (bG t es ep))(hz:b.length<=1000)
 (h:∀h',Heap.SameBut a s.heap h'->h'.get? a=some (bG t' b (ep+1))->Q () %[|19]):wpAny %[|4] A (storeSet a b.toArray t') Q E s:=by refine wpAny_storeSet_of c rfl (h _ (eI s.heap a _) ?_) (d6 (by rw[x5];exact hz) (%[|1]:1000<=sizeLine));have:=fx (Obj.putSet b.toArray t') c (by rw[putSet_of _ _ rfl];rfl);rw[putSet_of _ _ rfl]at this;exact this
end
variable{n:Nat}
section
variable{prog:Program}{w:World}{α:Type}[DecidableEq α]{K:HK prog w α}{A:Around}{E:%[|26]}{s:Shared}{m f mv ep:Nat}{led pl:Bool}{xs:Cv α}{ps:List Nat}{a:Addr}
def Cj{b:Type}{xs:List b}{a:af4}(h:a.Perm (List.range xs.length)):(a.filterMap (xs[·]?)).Perm xs:=by have:=h.filterMap (xs[·]?);rw[List.filterMap_getElem?_range_length]at this;exact this
def oJ{b c:Type}{g:b->c}{xs:List b}{a:af4}:(a.filterMap (xs[·]?)).map g=a.filterMap ((xs.map g)[·]?):=by rw[List.map_filterMap];congr 1;funext q;rw[y8]
def CG{hs:af1}:∀{a:af4},(∀q∈a,q<hs.length)->a.filterMap (hs[·]?)=a.map λ q=>hs.getD q 0:=by
 intro a
 induction a with
 | nil=>intro _;rfl
 | cons q a d=>intro h;have b:=h q x6;rw[gL,y3 b,cw,d λ z c=>h z (x4 _ c)];simp[b]
def Dr(p:s.heap.get? a=some (bG %[|20] (ao K xs) ep))(T:%[|34])(k:xs.length<=m)(z:du (SetTable.sizeAbove b-1)=true)(d:xs.length<=SetTable.sizeAbove b-1)(y:xs.length<=1000)(hz:SetTable.sizeAbove b<=sizeLine)
 (h:∀h' xs' ps' mv',Heap.SameBut a s.heap h'->h'.get? a=some (bG (aq (SetTable.sizeAbove b-1) ps' f led mv' pl) (ao K xs') (ep+1))->Tab (SetTable.sizeAbove b-1) (aN K xs') ps'->xs'.Perm xs->Q () %[|19]):wpAny %[|4] A (setRelay a b) Q E s:=by
 unfold setRelay;refine b0 (cZ T k p ?_);dsimp only;rw[c8 %[|0]];have i:(aN K xs).length=xs.length:=by unfold aN;exact y7 _
 obtain⟨ps',c,e,l,g⟩:=NT z (hs:=aN K xs) (by rw[i];exact d) f (%[|20].movedTo (SetTable.sizeAbove b-1)) led pl;have u:(ao K xs).toArray.map (·.1)=(aN K xs).toArray:=by unfold ao aN;simp
 rw[i]at l;have F:∀q∈c,q<(aN K xs).length:=λ q B=>by rw[i];exact dA.mp (l.mem_iff.mp B)
 rw[<-CG F]at g;have t:c.filterMap ((aN K xs)[·]?)=aN K (c.filterMap (xs[·]?)):=by unfold aN;rw[oJ]
 rw[t]at g;have o:c.toArray.filterMap ((ao K xs).toArray[·]?)=(ao K (c.filterMap (xs[·]?))).toArray:=by
  have r:ao K (c.filterMap (xs[·]?))=c.filterMap ((ao K xs)[·]?):=by unfold ao;rw[oJ]
  rw[r];simp
 have n:=Cj (xs:=xs) l;have v:SetTable.relaid %[|20] (Array.map (λ x=>x.1) (ao K xs).toArray) b=some (aq (SetTable.sizeAbove b-1) ps' f led (%[|20].movedTo (SetTable.sizeAbove b-1)) pl,c.toArray):=by rw[u];exact e
 rw[v];refine b0 ?_;have j:(c.toArray.filterMap ((ao K xs).toArray[·]?)).size=(ao K xs).toArray.size:=by rw[o];unfold ao;rw[x5,x5,y7,y7,n.length_eq]
 show wpAny _ _ (if((c.toArray.filterMap ((ao K xs).toArray[·]?)).size !=(ao K xs).toArray.size)=true then _ else _) _ _ _;rw[c8 (by rw[j];simp),o];refine b9 ?_;exact um p (by unfold ao;rw[y7,n.length_eq];exact y) λ h' C D=>h h' _ ps' _ C D g n
def cA(m n:Nat):Prop:=(m=7\/m=15\/m=31\/m=63\/m=127\/m=255)/\n*5<m*3
def cA.all(h:cA m n):du m=true:=by rcases h.1 with rfl | rfl | rfl | rfl | rfl | rfl;{exact ad8};{exact adu};{exact XQ};{exact X6};{exact Rp};{exact Sv}
def cA.odd(h:cA m n):m % 2=1:=by rcases h.1 with rfl | rfl | rfl | rfl | rfl | rfl<;>rfl
def cA.le(h:cA m n):m<=255:=by rcases h.1 with rfl | rfl | rfl | rfl | rfl | rfl<;>decide
def cA.few(h:cA m n):n<m:=by have:=h.2;rcases h.1 with rfl | rfl | rfl | rfl | rfl | rfl<;>omega
def Br(hu:A.units+5<cLine)(j:s.heap.get? a=some (bG (aq m ps f led mv true) (ao K xs) ep))(T:%[|34])(F:cA m xs.length)(lt:xs.length<76)(t:K.I s.heap v c)(hx:∀x∈xs,K.I s.heap x.2 x.1)
 (h1:(∃x∈xs,x.1=c)->∀b,Q b s)
 (h2:(∀x∈xs,x.1≠c)->∀h' b m' xs' ps' mv' ep',Heap.SameBut a s.heap h'->h'.get? a=some (bG (aq m' ps' f led mv' true) (ao K xs') ep')->Tab m' (aN K xs') ps'->cA m' xs'.length->xs'.Perm ((c,v)::xs)->Q b %[|19]):
 wpAny %[|4] A (setAddHashed a v (K.h c)) Q E s:=by
 have hm:=F.all;have y:=F.odd;have Y:=F.few;have m1:=F.le;have l:=T.len;unfold aN at l;rw[y7]at l;obtain⟨N,D,he⟩:=Wt hm (ps:=ps) %[|0] (Rw m (K.h c));have aa:N<100000:=v3 D (by unfold SetTable.turns;omega);unfold setAddHashed;refine eD ?_;generalize hf:(100000:Nat)=fuel;obtain⟨J,rfl⟩:∃J,fuel=J+1:=%[fuel-1|%[|0]];unfold setAddHashedIn;refine b0 (cZ T %[|0] j ?_);have u:=t;obtain⟨g,rfl⟩:=K.ref u;dsimp only;rw[c8 (show ¬(byScan (.ref g) _=true)from y6)];unfold setSearch;refine b0 (Mu %[|0] j T %[|0] y t hx rfl D he (λ e=>?_) (λ L n S U=>?_) 100000 0 none rfl (dk _) %[|0] (λ k hk=>by omega));{exact b9 (h1 e false)};dsimp only;refine b0 (cZ T %[|0] j ?_);dsimp only;rw[ado];dsimp only;rw[ci (show(aq m (ins %[|82] (aG m (K.h c) n) ps) f led mv true).plain=true from rfl)];refine b0 (K.hbv t ?_);rw[ci rfl];have p:=T.put S U;have V:SetTable.insertAt (ao K xs).toArray %[|82] (K.h c,Value.ref g)=(ao K (ins %[|82] (c,Value.ref g) xs)).toArray:=by rw[sr];unfold ao;rw[Od]
 have W:ins %[|82] (K.h c) (aN K xs)=aN K (ins %[|82] (c,Value.ref g) xs):=by unfold aN;rw[Od]
 rw[W]at p;rw[V];have o:(ins %[|82] (c,Value.ref g) xs).length=xs.length+1:=ut _ _ _;have O:=rn %[|82] (c,Value.ref g) xs;have I:(ins %[|82] (aG m (K.h c) n) ps).length=ps.length+1:=ut _ _ _;have q:(ao K xs).toArray.size=xs.length:=by unfold ao;rw[x5,y7]
 generalize ins %[|82] (c,Value.ref g) xs=xs2 at*;generalize ins %[|82] (aG m (K.h c) n) ps=ps2 at*;refine b0 (um j (by unfold ao;rw[y7,o];omega) λ h' G H=>?_);by_cases tf:(xs.length+1)*5<m*3;{rw[c8 (by unfold SetTable.tooFull SetTable.fill aq;simp only[x5,I];simp;omega)];refine b9 (h2 L h' true m xs2 ps2 mv (ep+1) G H p ?_ O);rw[o];exact%[F.1|tf]}
 . rw[ci (by unfold SetTable.tooFull SetTable.fill aq;simp only[x5,I];simp;omega)];rw[q];have d:∀M,SetTable.sizeAbove (SetTable.grown (xs.length+1))=M+1->du M=true->xs.length+1<=M->cA M (xs.length+1)->M<=1000->wpAny %[|4] A (setRelay a (SetTable.grown (xs.length+1))>>=λ _=>pure true) Q E %[|19]:=by intro M i R lM X bM;refine b0 (Dr (s:=%[|19]) (K:=K) (xs:=xs2) H p %[|0] (by rw[i];exact R) (by rw[i,o];omega) %[|0] (by rw[i];exact d6 (%[|0]:M+1<=1001) %[|1]) λ r xs' ps' mv' Z z B C=>?_);rw[i]at z B;exact b9 (h2 L r true M xs' ps' mv' _ (G.trans Z) z B (by rw[C.length_eq,o];exact X) (C.trans O))
   obtain⟨P,F2⟩:=F;rcases P with rfl | rfl | rfl | rfl | rfl | rfl
   . obtain h:xs.length=4:=%[|0]
     exact d 31 (by rw[h];decide+kernel) XQ %[|0] %[.inr (.inr (.inl rfl))|%[|0]] %[|0]
   . obtain h:xs.length=8:=%[|0]
     exact d 63 (by rw[h];decide+kernel) X6 %[|0] %[.inr (.inr (.inr (.inl rfl)))|%[|0]] %[|0]
   . obtain h:xs.length=18:=%[|0]
     exact d 127 (by rw[h];decide+kernel) Rp %[|0] %[.inr (.inr (.inr (.inr (.inl rfl))))|%[|0]] %[|0]
   . obtain h:xs.length=37:=%[|0]
     exact d 255 (by rw[h];decide+kernel) Sv %[|0] %[.inr (.inr (.inr (.inr (.inr rfl))))|%[|0]] %[|0]
   {omega};{omega}
end
end RF
namespace RF
open PySem PySem.Spec L2 DL
open PyProof.Rows
variable{its:List Value}
section
variable{prog:Program}{w:World}{α:Type}[DecidableEq α]{K:HK prog w α}{A:Around}{E:%[|26]}{s:Shared}
def ZS(d:A.units+5<cLine)(o:s.heap.get? a=some (bG (aq m ps f led mv true) (ao K xs) ep))(T:%[|34])(F:cA m xs.length)(q:xs.length<76)(g:K.I s.heap v c)(p:∀x∈xs,K.I s.heap x.2 x.1)
 (h1:(∃x∈xs,x.1=c)->∀b tk,Q b {s with toks:=s.toks+tk})
 (h2:(∀x∈xs,x.1≠c)->∀h' b m' xs' ps' mv' ep' tk,Heap.SameBut a s.heap h'->h'.get? a=some (bG (aq m' ps' f led mv' true) (ao K xs') ep')->Tab m' (aN K xs') ps'->cA m' xs'.length->xs'.Perm ((c,v)::xs)->Q b {s with heap:=h',toks:=s.toks+tk}):
 wpAny %[|4] A (setAdd a v) Q E s:=by unfold setAdd;refine eD (b0 (K.hash d g λ n=>?_));exact Br (s:={s with toks:=s.toks+n}) d o T F q g p (λ e b=>h1 e b n) λ r h' b m' xs' ps' mv' ep' h i j k l=>h2 r h' b m' xs' ps' mv' ep' n h i j k l
structure LiesM(K:HK prog w α)(its:af5)(cs:List α)(i:Nat)(xs:Cv α)(m:Nat)(ps:af4):Prop where
 tab:%[|34]
 fill:cA m xs.length
 nd:%[|47].Nodup
 inn:∀x∈xs,x.1∈cs.take i
 its:∀x∈xs,(x.2,x.1)∈its.zip cs
 all:∀c∈cs.take i,∃x∈xs,x.1=c
def LiesM.nil:LiesM K its cs 0 [] 7 []:=
 %[%[rfl,List.Pairwise.nil,%[|41]|%[|41]],%[.inl rfl|(%[|1]:0*5<7*3)],List.Pairwise.nil,%[|41],%[|41]|λ c h=>by simp at h]
def lZ{cs:List α}(h:cs[i]? =some c):cs.take (i+1)=cs.take i++[c]:=by rw[List.take_succ,h];rfl
def LiesM.same(L:LiesM K its cs i xs m ps)(h:cs[i]? =some c)(ex:∃x∈xs,x.1=c):LiesM K its cs (i+1) xs m ps:=by refine%[L.tab,L.fill,L.nd,λ x b=>?_,L.its|λ d a=>?_];{rw[lZ h];exact ij _ (L.inn x b)};{rw[lZ h]at a;rcases cn.mp a with a | a;{exact L.all d a};{rw[cf.mp a];exact ex}}
def LiesM.more(L:LiesM K its cs i xs m ps)(n:its[i]? =some v)(h:cs[i]? =some c)(o:∀x∈xs,x.1≠c)(T:Tab k (aN K b) j)(F:cA k b.length)(g:b.Perm ((c,v)::xs)):LiesM K its cs (i+1) b k j:=by refine%[T,F,?_,λ x a=>?_,λ x a=>?_|λ d f=>?_];{refine(g.map (·.1)).nodup_iff.mpr ?_;rw[cw,fh];refine%[λ l=>?_|L.nd];obtain⟨x,a,e⟩:=c9.mp l;exact o x a e};{rw[lZ h];rcases cK.mp (g.mem_iff.mp a)with rfl | a;{exact fe _ (cf.mpr rfl)};{exact ij _ (L.inn x a)}};{rcases cK.mp (g.mem_iff.mp a)with rfl | a;{exact y4 (i:=i) (fN.mpr %[n|h])};{exact L.its x a}};{rw[lZ h]at f;rcases cn.mp f with f | f;{obtain⟨x,a,e⟩:=L.all d f;exact%[x,g.mem_iff.mpr (x4 _ a)|e]};{rw[cf.mp f];exact%[(c,v),g.mem_iff.mpr x6|rfl]}}
set_option maxHeartbeats 8000000 in
theorem Ew {l:Addr}{cs:List α}{Q:af2}
 (hh:%[|50])(hu:A.units+12<cLine)(hl:s.heap.IsList l its.toArray)(hlen:its.length=cs.length)(hc:∀(i:Nat)(v:Value)(c:α),its[i]? =some v->cs[i]? =some c->K.I s.heap v c)(hb:∀l:List α,l.Nodup->(∀x∈l,x∈cs)->l.length<=63)
 (h:∀(h':Heap)(tk:Nat)(xs:Cv α)(m:Nat)(ps:af4)(mv ep:Nat),%[|84]=some (bG (aq m ps 0 (aO w) mv true) (ao K xs) ep)->LiesM K its cs its.length xs m ps->
  (∀b o,%[|49]->%[|38])->Q %[|8] %[|54]):
 wpAny %[|4] A (call (.type "set") [.ref l]) Q E s:=by
 obtain⟨c,tl,hmro⟩:=gi.mro;have hmade:=gi.made;have hsub:=gi.sub;refine wpAny_call (codeAny_of_tree ?_);show wpAny _ _ (callAny (.type "set") _) _ _ _;refine b9 %[Code.quiet_builtin _ %[|11]|gN F.entry_type_call ?_];rw[Around.under_plain (weight_type_call_type "set" [.ref l] []) rfl];have h1:=gi.notType;have h2:=gi.canCreate;have hct:=F.typeCall_set_1 (.ref l);repeat(any_goals (first | assumption | wp_step))
 refine l8 (sY (.ref l) (E:=E) (Q₁:=λ obj s₁=>∃led:Bool,led=aO w/\obj=%[|8]/\s₁={s with heap:=%[|66]}) %[_,rfl,rfl|rfl]) λ r s₁ hr=>?_
 cases r with
 | error e=>exact hr
 | ok fl =>
   cases fl with
   | next=>exact hr.elim
   | brk=>exact hr.elim
   | cont=>exact hr.elim
   | ret obj=>
     obtain⟨led,hled,rfl,rfl⟩:=hr;have hS:%[|66].get? s.heap.objs.size=some %[|99]:=cb _ rfl;have hT:Shared.TypeIs {s with heap:=%[|66]} %[|8] "set":=%[_,hS|rfl];have hli:=gi.init.lookup;have hbi:=gi.init.bind %[|8];repeat(any_goals (first | assumption | wp_step))
     refine l8 (codeAny_call_builtin (R:=wants (λ r s₂=>r=.none/\∃h' tk xs m ps mv ep,s₂=%[|54]/\
      %[|84]=some (bG (aq m ps 0 led mv true) (ao K xs) ep)/\LiesM K its cs its.length xs m ps/\
      (∀b o,%[|49]->%[|38])) E) gi.init.plain F.entry_set_init (check_set_init_1 hT ?_)) λ r₂ s₂ hr₂=>?_
     . obtain⟨ol,hol,hcl,nl,hdl⟩:=hl;obtain⟨ocls,odict,odata,oslots⟩:=ol;simp only at hcl hdl;subst hcl;subst hdl;have hol':%[|66].get? l=some {cls:=%[|23],dict:=odict,data:=.seq its.toArray nl,slots:=oslots}:=bX _ hol;have hsls:=F.sub_list_set;have hslf:=F.sub_list_frozenset;have hne:(Value.type "list"==Value.type "dict")=false:=%[|1]
       have hl1:%[|66].IsList l its.toArray:=%[_,hol',rfl,nl|rfl];unfold Builtin.«set.__init__» noKeywords Builtin.Frozenset.updateFrom;generalize hPI:pyIter=PI;wp_walk;subst hPI;refine kf hl1 ?_;refine b0 (wpAny_runValue ?_);have hlS:l<s.heap.objs.size:=ca hol;have hh3:A.in1.in1.in1.handled=none:=by simp[hh]
       have hneI:l≠%[|66].objs.size:=by rw[gc];exact cr (hH hlS)
       have hSf:s.heap.objs.size∉[%[|66].objs.size,l]:=by rw[gc];simp only[cK,cf,iN,nL,not_or];exact%[cr (iL _)|ft hlS]
       have hI:%[|66].objs.size=%[|28]:=by rw[gc]
       refine WR ((Walks.list hh3 _ l hneI its.toArray).toS) s.heap.objs.size hSf
        (λ i h'=>(∀b o,%[|49]->%[|38])/\∃xs m ps mv ep,%[|84]=some (bG (aq m ps 0 led mv true) (ao K xs) ep)/\LiesM K its cs i xs m ps)
        ?hfr ?hadd (its.toArray.size-0) 0 _ %[|0] (dk _)
        %[%[|73]|(hl1.push _)] ?hS0 ?hR;case hfr=>rintro i h1 h2 ⟨k1,xs,m,ps,mv,ep,k2,k3⟩ k;refine%[λ b o hb e=>k b o ?_ (k1 b o hb e),xs,m,ps,mv,ep,k _ _ ?_ k2|k3];{intro z;have:=cf.mp z;rw[hI]at this;exact absurd this (cr (hH hb))};{intro z;have:=cf.mp z;rw[hI]at this;exact absurd this (cr (iL _))}
       case hadd=>
        rintro i v s1 Q1 E1 hi hv ⟨k1,xs,m,ps,mv,ep,k2,k3⟩ hq;have hi':i<its.length:=by simpa using hi
        have hv':its[i]? =some v:=by simpa using hv
        obtain⟨c,hci⟩:∃c,cs[i]? =some c:=%[_|y3 %[|0]];have cel:∀(i:Nat)(v:Value)(c:α),its[i]? =some v->cs[i]? =some c->K.I s1.heap v c:=λ i v c e1 e2=>K.keep (λ b o e _=>k1 b o (ca e) e) (hc i v c e1 e2);have hu1:A.in1.in1.in1.in1.units+5<cLine:=by show A.units+1+1+1+1+5<cLine;omega
        refine ZS (K:=K) (by first | exact hu1 | (show A.units+1+1+1+5<cLine;omega)) k2 k3.tab k3.fill (by
         have:=hb %[|47] k3.nd λ x hx=>by obtain⟨y,hy,rfl⟩:=c9.mp hx;exact im (k3.inn y hy)
         rw[y7]at this;omega) (cel i v c hv' hci) (λ x hx=>by obtain⟨j,hj⟩:=db (k3.its x hx);rw[fN]at hj;exact cel j _ _ hj.1 hj.2) (λ ex b tk=>?_) λ no h' b m' xs' ps' mv' ep' tk sb g T' F' pm=>?_;{refine hq b s1.heap tk (Heap.SameBut.refl _ _) %[k1,xs,m,ps,mv,ep,k2|k3.same hci ex]};{refine hq b h' tk sb %[λ b' o' hb' e'=>?_,xs',m',ps',mv',ep',g|k3.more hv' hci no T' F' pm];rw[sb.2 b' (cr hb')];exact k1 b' o' hb' e'}
       case hS0=>refine%[λ b o hb e=>bX _ (bX _ e),[],7,[],0,0,bX _ hS|LiesM.nil]
       case hR=>intro s' hm hS';obtain⟨h',g',d',tk',os'⟩:=s';have eg:g'=s.gens:=hm.gens;have ed:d'=s.drawn:=hm.drawn;have eo:os'=s.os:=hm.os;subst eg;subst ed;subst eo;obtain⟨k1,xs,m,ps,mv,ep,k2,k3⟩:=hS';show wpAny _ _ _ _ _ _;refine b9 ?_;show wpAny _ _ (ret Value.none) _ _ _;refine b9 %[rfl,h',tk',xs,m,ps,mv,ep,rfl,k2,by simpa using k3|k1]
     . cases r₂ with
       | error e=>exact hr₂
       | ok fl₂=>
         cases fl₂ with
         | next=>exact hr₂.elim
         | brk=>exact hr₂.elim
         | cont=>exact hr₂.elim
         | ret r=>
           obtain⟨rfl,h',tk,xs,m,ps,mv,ep,rfl,k2,k3,k1⟩:=hr₂;repeat(any_goals (first | assumption | wp_step))
           exact h _ _ _ _ _ _ _ (hled▸k2) k3 k1
end
end RF
namespace RF
open PySem PySem.Spec L2 DL
open PyProof.Rows
variable{ps:List Nat}{S:Addr}{ep m f mv:Nat}
def Ma(d:ps.Pairwise (· <·))(hi:i<=ps.length):SetTable.below ps.toArray (slotAt ps i)=i:=by
 obtain⟨g,a,b⟩:=xj d (slotAt ps i);generalize SetTable.below ps.toArray (slotAt ps i)=r at*
 cases i with
 | zero=>
   cases r with
   | zero=>rfl
   | succ r=>have:=a 0 _ (y3 %[|0]) %[|0];exact absurd this (Nat.not_lt_zero _)
 | succ i=>
   have f:slotAt ps (i+1)=ps[i]+1:=by show ps.getD i 0+1=_;rw[eW,y3 %[|0]];rfl
   rw[f]at a b;have h:¬r<=i:=λ z=>by have:=b i _ (y3 %[|0]) z;omega
   by_cases e:r=i+1;{exact e}
   . have c:i+1<ps.length:=%[|0]
     have:=a (i+1) _ (y3 c) %[|0];have:=fI.mp d i (i+1) %[|0] c %[|0];omega
theorem xK{a:Type}:∀{l:List a}{i:Nat}(h:i<l.length),([l[i]]++l.eraseIdx i).Perm l
 | x::l,0,_=>.refl _
 | x::l,i+1,h=>(List.Perm.swap x _ _).trans ((xK (l:=l) (i:=i) (by simpa using h)).cons x)
def aaz{f}(c:Nat->Nat):∀(b k:Nat)(a:List f)(out:Array f),a.length=b->(pickOrder.go c b k a out).toList.Perm (out.toList++a):=by
 intro b
 induction b with
 | zero=>intro k a out h;have:a=[]:=fb h;subst this;rw[gt];exact .refl _
 | succ b g=>
   intro k a out h;have d:c k % a.length<a.length:=oP _ %[|0];have e:pickOrder.go c (b+1) k a out=pickOrder.go c b (k+1) (a.eraseIdx (c k % a.length)) (out.push a[c k % a.length]):=by
    conv=>lhs;unfold pickOrder.go
    rw[y3 d]
   rw[e];refine(g (k+1) _ _ (by rw[List.length_eraseIdx_of_lt d];omega)).trans ?_;rw[Array.toList_push,ck];refine List.Perm.append_left _ ?_;exact xK d
def vW(w:World)(S:Addr)(ep:Nat)(es:List (Int×Value)):(fZ w S ep es).toList.Perm es:=by unfold fZ;split;{have:=aaz (w.params.setOrder S ep) es.toArray.size 0 es.toArray.toList #[] (by simp);simpa[pickOrder]using this};{exact .refl _}
def rQ:(fZ w S ep es).size=es.length:=by have:=(vW w S ep es).length_eq;rwa[e7]at this
section
variable{prog:Program}{w:World}{α:Type}[DecidableEq α]{K:HK prog w α}{A:Around}{E:%[|26]}{s:Shared}
def Ny(r:%[|34]):ps.length=%[|30]:=by have:=r.len;unfold aN at this;unfold ao;rw[y7]at this ⊢;exact this.symm
def Cm(r:%[|34])(b:xs.length<=m)(l:xs.length<=1000)(hi:i<=%[|30])(j:s.heap.get? S=%[|77])
 (h:Q (((fZ w S ep (ao K xs))[i]?).map λ e=>(e.2,if %[|62]=true then 0 else slotAt ps (i+1))) s):
 wpAny %[|4] A (setNext S (if %[|62]=true then 0 else slotAt ps i) i ep) Q E s:=by
 unfold setNext;refine b0 (cZ r b j ?_);unfold setsByText;dsimp only;refine b0 (b0 (ia (b9 ?_)));show wpAny _ _ (if %[|62]=true then _ else _) _ _ _;unfold fZ at h;by_cases a:%[|62]=true;{rw[ci a];rw[ci a]at h;simp only[ci a]at h;rw[c8 (by simp)];unfold setWalk;refine b0 (b0 (cZ r b j ?_));unfold setsByText;dsimp only;refine b0 (b0 (ia (b9 ?_)));show wpAny _ _ (if %[|62]=true then _ else _) _ _ _;rw[ci a];refine b0 (ia (b9 (b9 ?_)));simp only[ci a];exact h}
 . rw [c8 a];rw[c8 a]at h;simp only[c8 a]at h ⊢;have c:aO w=true:=by simp[aO,a]
   split;{exact absurd (by assumption) y6}
   . refine b0 ?_;show wpAny _ _ (if(!(aO w)&& !((ao K xs).toArray.isEmpty))=true then _ else pure PUnit.unit) _ _ _;rw[c,c8 (show ¬((!true&& !((ao K xs).toArray.isEmpty))=true)from y6)];refine b9 ?_;rw[show(aq m ps f true mv true).place=ps.toArray from rfl,Ma r.up (by rw[Ny r];exact hi)];refine b9 ?_;have k:slotAt ps (i+1)=ps.getD i 0+1:=rfl;rw[k]at h;rw[og]at h;rw[og,og]
     cases g:(ao K xs)[i]? with
     | none=>rw[g]at h;exact h
     | some e=>
       rw[g]at h;have d:i<ps.length:=by rw[Ny r];exact(z0.mp g).1
       rw[y3 d];rw[eW,y3 d]at h;exact h
def Q3(l:S≠I)(r:%[|34])(a:xs.length<=m)(j:xs.length<=1000)(hi:i<%[|30])(b:s.heap.get? I=some (dM w ps S %[|30] ep i))(d:s.heap.get? S=%[|77])
 (g:(fZ w S ep (ao K xs))[i]? =some e)(h:∀h',Heap.SameBut I s.heap h'->h'.get? I=some (dM w ps S %[|30] ep (i+1))->Q (some e.2) %[|19]):
 wpAny %[|4] A (pyNext (.ref I)) Q E s:=by
 have c:=pD b;unfold pyNext;refine b0 (kB (wpAny_callSpecial?_slot (name:=%[|85]) c bQ
  (dQ bQ c gm ?_ (fP _))));unfold Builtin.«set_iterator.__next__»;refine b0 (b9 ?_);refine b0 (ll b rfl ?_);dsimp only;refine b0 (wpAny_setEntries_of d rfl (km r a) ?_);rw[c8 (by simp)];refine b0 ?_;simp only[rawInt,f7];refine Cm r a j (eR hi) d ?_;rw[g];dsimp only[Option.map];refine b0 (kr b rfl (by simp) ?_);refine b0 (kr (s:={s with heap:=_}) (pM b) rfl (by simp) ?_);exact b9 %[_,rfl|b9 (h _ ((eI ..).trans (eI ..)) (by have:=pM (k:=1) (x:=rawInt (i+1)) (pM (k:=0) (x:=rawInt (if %[|62]=true then 0 else slotAt ps (i+1):Nat)) b);exact this))]
def Qa(hh:%[|50])(k:S≠I)(r:%[|34])(c:xs.length<=m)(j:xs.length<=1000)(d:s.heap.get? I=some (dM w ps S %[|30] ep %[|30]))(g:s.heap.get? S=%[|77])
 (i:(fZ w S ep (ao K xs))[%[|30]]? =none)(h:∀h',Heap.ExtBut I s.heap h'->Q none %[|19]):
 wpAny %[|4] A (pyNext (.ref I)) Q E s:=by
 have e:=pD d;unfold pyNext;refine b0 (kB (wpAny_callSpecial?_slot (name:=%[|85]) e bQ
  (dQ bQ e gm ?_ (fP _))));unfold Builtin.«set_iterator.__next__»;refine b0 (b9 ?_);refine b0 (ll d rfl ?_);dsimp only;refine b0 (wpAny_setEntries_of g rfl (km r c) ?_);rw[c8 (by simp)];refine b0 ?_;simp only[rawInt,f7];refine Cm r c j (y9 _) g ?_;rw[i];dsimp only[Option.map];refine b0 (kr d rfl (by simp) ?_);show wpAny _ _ (newExc (.type "StopIteration") []>>=_) _ _ _;refine b0 ?_;simp only[newExc,newTuple];refine b0 (dV ?_ (by size_fits));refine b0 (m:=firstArgMember _ _) (wpAny_of_eq (a:=Value.none) (by first | rfl | (simp only[firstArgMember];rfl)) ?_);refine dV ?_ (by size_fits);simp only[raiseNew];refine b0 (wpAny_handled ?_);rw[show A.in1.handled=none from hh];refine b0 (b9 (wpAny_throw ?_));refine b0 (gz (T:="StopIteration") (b:=true) %[_,cb _ rfl|rfl] isSubtype_stop ?_);exact b9 (h _ (((eI ..).extBut.push _).push _))
theorem PT(hh:%[|50])(I S:Addr)(a:S≠I)(xs:Cv α)(m f mv:Nat)(ps:af4)(ep:Nat)(r:%[|34])(d:xs.length<=m)(k:xs.length<=1000):
 Walks prog w A I [I,S] [I] %[|30] (λ i v=>∃e,(fZ w S ep (ao K xs))[i]? =some e/\e.2=v) (λ i h=>h.get? I=some (dM w ps S %[|30] ep i)/\h.get? S=%[|77]) where
 sub:=λ b c=>by simp at c;simp[c]
 frame:=λ _ _ _ st k=>%[k I (by simp) _ st.1|k S (by simp) _ st.2]
 item:=λ i s Q E t st j=>by obtain⟨e,q⟩:∃e,(fZ w S ep (ao K xs))[i]? =some e:=%[_|i4 (by rw[rQ];exact t)];refine Q3 a r d k t st.1 st.2 q λ l sb g=>j e.2 l s.toks %[e,q|rfl] %[g|?_] λ b o c e=>sb.extBut b o (λ h=>c (by simp[h])) e;rw[sb.2 S a];exact st.2
 done:=λ s Q E st j=>Qa hh a r d k st.1 st.2 (g7 (by rw[rQ];exact y9 _)) λ l p=>j l s.toks λ b o c e=>p b o (λ h=>c (by simp[h])) e
 self:=λ _ s Q E st j=>by have n:=pD (s:=s) st.1;refine kU n gw (dQ gw n lL ?_ (lC _));show wpAny _ _ (ret (.ref I)) _ _ s;exact b9 %[_,rfl,"set_iterator",_,n,bQ.lookup|j]
def U8(r:%[|34])(a:xs.length<=m)(i:xs.length<=1000)(b:s.heap.get? S=%[|77])
 (h:Q %[|8] {s with heap:=s.heap.push (dM w ps S %[|30] ep 0)}):wpAny %[|4] A (pyIter (.ref S)) Q E s:=by
 have d:s.TypeIs (.ref S) "set":=%[_,b|rfl];refine kU d F.slot_set_iter (dQ F.slot_set_iter d zB ?_ (F.args_set_iter_1 _));unfold Builtin.«frozenset.__iter__» Builtin.Frozenset.slot0 Builtin.Frozenset.sizeOf setDrawn;refine b0 (b0 (b9 (b9 ?_)));refine b0 (b0 (wpAny_setEntries_of b rfl (km r a) (b9 ?_)));refine b0 (b0 (cZ r a b ?_));unfold setsByText;dsimp only;refine b0 (b0 (ia (b9 (b9 ?_))));split;{rename_i hx;rw[fk]at hx;exact absurd hx.2 y6}
 . refine b0 (b9 ?_);refine b0 (wpAny_setEpoch_of b rfl (km r a) ?_);refine b0 (dV ?_ (by size_fits));have g:(ao K xs).toArray.size=%[|30]:=x5;have e:((if %[|62]=true then 0 else slotAt ps 0:Nat))=0:=by split<;>rfl
   have c:dM w ps S %[|30] ep 0={cls:=.type "set_iterator",dict:=none,data:=.fields [rawInt 0,rawInt 0,.ref S,rawInt ((ao K xs).toArray.size:Nat),rawInt (ep:Nat)].toArray,slots:=#[]}:=by unfold dM;rw[e,g];rfl
   rw[c]at h;exact b9 %[_,rfl,"set_iterator",_,%[_,cb _ rfl|rfl],bQ.lookup|h]
def J4(hh:%[|50])(r:%[|34])(u:xs.length<=m)(J:xs.length<=1000)(P:s.heap.get? S=%[|77])
 (h:∀h' tk,(∀b o,%[|49]->%[|38])->s.heap.objs.size<=h'.objs.size->Q ((fZ w S ep (ao K xs)).toList.map (·.2)) %[|54]):wpAny %[|4] A (collect (.ref S)) Q E s:=by
 have O:S<s.heap.objs.size:=ca P;have g:s.heap.objs.size≠S:=ft O;unfold collect;refine b0 (wpAny_runValue (gN F.entry_proto_collect ?_));rw[gx F.plain_proto_collect _];show wpAny _ A.in1 (newList []>>=λ l=>again (.builtin "list.__iadd__" %[[l,.ref S]|[]])) _ _ s;refine b0 (dV ?_);refine b9 %[kM nh _|gN F.entry_list_iadd ?_];rw[gx nh _];have n:%[|60].get? S=%[|77]:=bX _ P;have I:Shared.TypeIs {s with heap:=%[|60]} (.ref S) "set":=%[_,n|rfl];show wpAny _ A.in1 (Builtin.List.listExtendWith %[|8] (.ref S) %[|8]) _ _ _;unfold Builtin.List.listExtendWith;refine b0 (iq I ?_);have Y:Builtin.List.listSameRef %[|8] (.ref S)=false:=by simp[Builtin.List.listSameRef,g]
 have Z:(Value.type "set"==Value.type "list")=false:=%[|1]
 have h3:(Value.type "set"==Value.type "tuple")=false:=%[|1]
 simp only[Y,Z,h3,Bool.or_false,de,en];refine b0 (U8 (s:={s with heap:=%[|60]}) r u J n ?_);refine b0 (eD ?_);have B:%[|60].objs.size=%[|28]:=size_push' _ _;have y:(%[|60].push (dM w ps S %[|30] ep 0)).get? S=%[|77]:=bX _ n;have D:(%[|60].push (dM w ps S %[|30] ep 0)).get? %[|28]=some (dM w ps S %[|30] ep 0):=by rw[<-B];exact cb _ rfl
 have k:Shared.TypeIs {s with heap:=%[|60].push (dM w ps S %[|30] ep 0)} (.ref S) "set":=%[_,y|rfl];have c:(%[|60].push (dM w ps S %[|30] ep 0)).get? s.heap.objs.size=some %[|100]:=bX _ (cb _ rfl);show wpAny %[|4] A.in1 (Builtin.List.listLengthHint (.ref S)) _ _ {s with heap:=%[|60].push (dM w ps S %[|30] ep 0)};unfold Builtin.List.listLengthHint;refine b0 (gv k F.slot_set_len.lookup ?_);have L:splitId "set.__len__"=some ("set","__len__"):=by kernel_rfl
 dsimp only;rw[L];dsimp only;refine b0 (gz k sub_set_self ?_);rw[c8 (show ¬((!true)=true)from y6)];rw[ci]
 . refine b0 (iq k ?_);dsimp only;refine b9 ?_;rw[ci]
   . refine b0 (kt ?_);refine b0 ?_;show wpAny _ A.in1 (updateSeq s.heap.objs.size (·.push .none)>>=λ _=>updateSeq s.heap.objs.size (·.pop)) _ _ _;refine b0 (wpAny_updateSeq c rfl ?_);have d:=fx (Obj.mapSeq (·.push Value.none)) c rfl;refine wpAny_updateSeq d rfl ?_;have i:=fx (Obj.mapSeq (·.pop)) d rfl;have p:∀b o,b≠s.heap.objs.size->(%[|60].push (dM w ps S %[|30] ep 0)).get? b=some o->
      (((%[|60].push (dM w ps S %[|30] ep 0)).update s.heap.objs.size (Obj.mapSeq (·.push Value.none))).update s.heap.objs.size (Obj.mapSeq (·.pop))).get? b=some o:=
      λ b o q e=>(kR _ _ (i5 q)).trans ((kR _ _ (i5 q)).trans e);have H:S≠%[|28]:=cr (hH O);have G:s.heap.objs.size∉[%[|28],S]:=by intro z;rcases cK.mp z with z | z;{exact absurd z (cr (iL _))};{exact g (cf.mp z)}
     have hn:%[|30]<=sizeLine:=by unfold ao;rw[y7];exact d6 J %[|1]
     rw[B];refine b9 %[kM F.plain_extend_loop _|codeAny_extend_loopS (PT (prog:=prog) (A:=A.in1) (by simpa using hh) %[|28] S H xs m f mv ps ep r u J).toS hn _ G _ %[|30] 0 _ _ _ rfl (Nat.zero_le _)
      %[p _ _ (ft (iL _)) D|p _ _ g.symm y] i (ItemsOf.nil _) λ R a c' C v hacc=>?_];show wpAny _ A (load s.heap.objs.size>>=_) _ _ R;refine b0 (wpAny_load v ?_);obtain⟨h',X,T,N,M⟩:=R;have V:X=s.gens:=C.gens;have U:T=s.drawn:=C.drawn;have W:M=s.os:=C.os;subst V;subst U;subst W;have t:a.toList=(fZ w S ep (ao K xs)).toList.map (·.2):=by
      apply kg;intro j;rw[y8,fg,fg];by_cases hj:j<%[|30]
      . have x:j<a.size:=by rw[hacc.1];exact hj
        obtain⟨e,he,hv⟩:=hacc.2 j a[j] (i4 x);rw[i4 x,he,<-hv];rfl
      {rw[g7 (by rw[hacc.1];omega),g7 (by rw[rQ];omega)];rfl}
     refine b9 ?_;show Q a.toList _;rw[t];refine h h' N (λ b o q e=>?_) ?_;{refine C.heap b o ?_ (p b o (cr q) (bX _ (bX _ e)));intro z;rcases cK.mp z with z | z;{exact absurd z (cr q)};{exact absurd (cf.mp z) (cr (hH q))}};{exact eR (ca v)}
   {decide}
 {decide}
end
end RF
namespace RF
open PySem PySem.Spec L2 DL
open PyProof.Rows
structure SK(prog:ag4)(w:World)(α:Type)[DecidableEq α](lt:α->α->Bool)(good:α->Prop)(enc:α->D) extends HK prog w α where
 tot:∀{a b:α},a≠b->lt a b=false->lt b a=true
 tr:∀{a b c:α},lt a b=true->lt b c=true->lt a c=true
 irr:∀a:α,lt a a=false
 inj:∀{h:Heap}{v:Value}{c d:α},I h v c->I h v d->c=d
 first:∀{h:Heap}{v:Value}{c:α},I h v c->good c->∃a o xs n f,v=.ref a/\h.get? a=some o/\o.cls=%[|9]/\o.data=.seq xs n/\xs[0]? =some f/\∃k t,f=Value.int k t
 ask:∀{A:ah0}{E:af2}{s:af3}{b:Bool}{u v:Value}{c d:α}{Q:ah1},A.units+2<cLine->I s.heap u c->I s.heap v d->Q (lt c d) s->wpAny %[|4] A (keyLt' (tuples' b) u v) Q E s
 of:∀{X:Cx}{pins:af6}{σ:DL.St}{H:Hp}{s:af3}{O:Own},X.prog=prog->X.w=w->%[|3]->∀{y:V}{u:Value}{c:α},Rep X.K O H y (enc c)->RelV y u->I s.heap u c
abbrev Bm{α:Type}[Inhabited α](lt:α->α->Bool)(cs:List α)(i j:Nat):Bool:=lt (cs.getD i default) (cs.getD j default)
section
variable{prog:Program}{w:World}{α:Type}[DecidableEq α][Inhabited α]{lt:α -> α -> Bool}{good:α -> Prop}{enc:α -> D}
def aca(K:SK prog w α lt good enc)(nd:cs.Nodup):LtOk cs.length (Bm lt cs):=by refine%[λ i j c d f h=>K.tot (λ e=>f ?_) h|λ i j k _ _ _ a b=>K.tr a b];rw[eW,eW,y3 c,y3 d]at e;exact(List.getElem_inj nd).mp e
end
section
variable{prog:Program}{w:World}{α:Type}[DecidableEq α][Inhabited α]{lt:α -> α -> Bool}{good:α -> Prop}{enc:α -> D}{K:SK prog w α lt good enc}{A:Around}{E:%[|26]}{s:Shared}
def Xr{cs:List α}(g:a.length=cs.length)(e:∀c∈cs,good c)(j:∀(i:Nat)(v:Value)(c:α),a[i]? =some v->cs[i]? =some c->K.I h v c):
 ∃fs:List Value,PySem.W.KatTups h a fs/\fs.length=a.length/\∀v∈fs,∃n t,v=Value.int n t:=by
 induction a generalizing cs with
 | nil=>exact%[[],.nil,rfl|λ _ z=>nomatch z]
 | cons v a y=>
   cases cs with
   | nil=>cases g
   | cons c cs=>obtain⟨fs,t,o,b⟩:=y (cs:=cs) (by simpa using g) (λ c x=>e c (x4 _ x)) λ i u k l m=>j (i+1) u k (by simpa using l) (by simpa using m);obtain⟨A,B,C,n,f,rfl,p,q,r,s,w⟩:=K.first (j 0 v c rfl rfl) (e c x6);refine%[f::fs,PySem.W.KatTups.cons p q r s t,by simp[o]|λ v d=>?_];rcases cK.mp d with rfl | d;{exact w};{exact b v d}
def Az(hu:A.units+2<cLine)(F:s.heap.get? a=some (seqObj "list" d.toArray n))
 (z:d.length=cs.length)(hr:∀(i:Nat)(v:Value)(c:α),d[i]? =some v->cs[i]? =some c->K.I s.heap v c)(hg:∀c∈cs,good c)(nd:cs.Nodup)(y:d.length<64)
 (h:∀p:List Nat,OdrL cs.length (Bm lt cs) p->R (.done (.ret .none)) {s with heap:=sortedHeap s.heap a d (List.toArray (p.map λ i=>d.getD i Value.none))}):
 wpAny %[|4] A (Builtin.«list.sort» %[[.ref a]|[]]) R E s:=by
 rw[list_sort_plain];have B:a<s.heap.objs.size:=ca F;have r:d.length<=sizeLine:=d6 (eR y) %[|1];refine b0 (listItems_at F rfl ?_);refine b0 (listUpdate_at F rfl ?_ (by rw[x5];exact r) (dk _));obtain⟨N,H⟩:∃N,(s.heap.update a (Obj.mapSeq λ _=>#[])).get? a=some (seqObj "list" #[] N):=%[_|get?_update_seq F (λ _=>#[])];refine b0 (seqEpoch_at H rfl ?_);refine b0 (wpAny_newTuple ?_ (by show d.length<=_;exact r));refine b0 (wpAny_newList ?_ (dk _));refine eD ?_;have g:(((s.heap.update a (Obj.mapSeq λ _=>#[])).push (seqObj "tuple" d.toArray 0)).push (seqObj "list" #[] 0)).get? a=some (seqObj "list" #[] N):=by rw[l0 _ _ _ (by rw[size_push',md];exact cr (hH B)),l0 _ _ _ (by rw[md];exact cr B)];exact H
 show wpAny %[|4] A _ R E {s with heap:=((s.heap.update a (Obj.mapSeq λ _=>#[])).push (seqObj "tuple" d.toArray 0)).push (seqObj "list" #[] 0)};dsimp only;have J:(d.toArray.zip d.toArray).map (·.2)=d.toArray:=by apply nN.mp;simp[List.map_snd_zip]
 have M:∀(i:Nat)(v:Value)(c:α),d[i]? =some v->cs[i]? =some c->K.I (((s.heap.update a (Obj.mapSeq λ _=>#[])).push (seqObj "tuple" d.toArray 0)).push (seqObj "list" #[] 0)) v c:=λ i v c q1 q2=>K.keep (λ b o e c=>by
  have S:b≠a:=by rintro rfl;rw[F]at e;cases e;exact absurd (show Value.type "list"=Value.type "tuple" from c) %[|1]
  have D:%[|49]:=ca e;rw[l0 _ _ _ (by rw[size_push',md];exact cr (hH D)),l0 _ _ _ (by rw[md];exact cr D),Heap.get?_update_ne _ _ _ _ S];exact e) (hr i v c q1 q2);by_cases u:d.toArray.size<2
 . rw[ci u,ci u];refine b0 (b9 ?_);rw[StateT.run_pure];refine b0 (b9 ?_);dsimp only;refine b0 (seqEpoch_at g rfl ?_);rw[show arrOf (SortSt.mk' general' (d.toArray.zip d.toArray) #[] 7 none)=d.toArray.zip d.toArray from rfl,J];refine b0 (listUpdate_at g rfl ?_ (dk _) (by rw[x5];omega));simp only[pu,de,en];have L:OdrL cs.length (Bm lt cs) (List.range cs.length):=by refine%[by simp,λ i m=>dA.mp m,ma|?_];rw[x5]at u;rcases cs with _ | ⟨k1,_ | ⟨k2,cs⟩⟩;{exact List.Pairwise.nil};{simp[kQ]};{exfalso;simp at z;omega}
   have Z:((List.range cs.length).map λ i=>d.getD i Value.none)=d:=by rw[<-z];refine kg λ i=>?_;rw[y8];by_cases m:i<d.length;{simp[m]};{rw[iS (by rw[fq];omega),iS %[|0]];rfl}
   have h:=h _ L;rw[Z]at h;exact b9 h
 . rw[c8 u,c8 u];rw[x5]at u;obtain⟨fs,tp,fl,fi⟩:=Xr z hg M;refine b0 (PySem.W.kat_kind (T:=.type "int") tp %[|0] (λ v hv=>?_) rfl ?_);{obtain⟨n,t,rfl⟩:=fi v hv;exact PySem.W.Looks.of_pure rfl};have W:=YG (aca K nd) %[|0];generalize hs1:({s with heap:=((s.heap.update a (Obj.mapSeq λ _=>#[])).push (seqObj "tuple" d.toArray 0)).push (seqObj "list" #[] 0)}:Shared)=s1;have V:∀(i:Nat)(v:Value)(c:α),d[i]? =some v->cs[i]? =some c->K.I s1.heap v c:=by rw[<-hs1];exact M
   refine b0 (gS (PySem.W.kat_run (Q:=λ l f=>f=s1/\∃p:List Nat,(arrOf l).map (·.2)=List.toArray (p.map λ i=>d.getD i Value.none)/\failedOf l=none/\OdrL cs.length (Bm lt cs) p) (G:=λ p f=>f=s1/\Pm cs.length p/\Srt (Bm lt cs) p cs.length) rfl %[|0] y ?_ ?_) ?_ λ _ _ x=>x);{rintro p l f L O U ⟨rfl,P,X⟩;exact%[rfl,p.toList,PySem.W.kat_snds rfl O,U|aaw P X]};{rw[z];refine bO.wp (I:=λ f=>f=s1) (λ i j C f m hj e k=>?_) _ s1 W rfl λ p f q e=>%[e|q];subst e;have Y:∀i,i<cs.length->K.I f.heap (d.getD i Value.none) (cs.getD i default):=λ i m=>V i _ _ (by rw[eW];simp[show i<d.length by omega]) (by rw[eW];simp[m]);unfold PySem.W.kas_ask;exact K.ask hu (Y i m) (Y j hj) (k _ rfl)}
   . rintro⟨⟨⟩,l⟩ f ⟨rfl,p,h1,U,L⟩;subst hs1;dsimp only;refine b0 (seqEpoch_at g rfl ?_);rw[h1];have hz:(p.map λ i=>d.getD i Value.none).length=d.length:=by rw[y7,L.len,z]
     refine b0 (listUpdate_at g rfl ?_ (dk _) (by rw[x5,hz];exact Nat.le_succ_of_le r));rw[U];simp only[pu,de,en];exact b9 (h p L)
def xN{k n:Type}{f}:∀{l m:List n},l.Perm m->∀{xs:List k},m=xs.map f->∃ys:List k,ys.Perm xs/\l=ys.map f:=by
 intro l m h
 induction h with
 | nil=>
   intro xs e;have:xs=[]:=by cases xs with | nil=>rfl | cons=>cases e
   subst this;exact%[[],.refl _|rfl]
 | cons x _ o=>
   intro xs e
   cases xs with
   | nil=>cases e
   | cons y xs=>injection e with d c;obtain⟨ys,p,g⟩:=o c;exact%[y::ys,p.cons y|by rw[d,g];rfl]
 | swap x y l=>
   intro xs e
   cases xs with
   | nil=>cases e
   | cons a xs=>
     cases xs with
     | nil=>cases e
     | cons b xs=>injection e with d c;injection c with c g;exact%[b::a::xs,.swap ..|by rw[d,c,g];rfl]
 | trans _ _ i j=>intro xs e;obtain⟨ys,p,d⟩:=j e;obtain⟨r,q,c⟩:=i d;exact%[r,q.trans p|c]
end
def pL(c:ag7):ltC c c=false:=by unfold ltC;rw[ci rfl];exact Jg _
def lG(prog:ag4)(w:World):SK prog w %[|14] ltC (λ _=>True) cD where
 h:=hC prog w
 I:=cG
 keep:=cG.keep
 ref:=λ⟨b,_,_,_,_,e,_⟩=>%[b|e]
 eq:=λ d a f=>Ho d a f
 seen:=Xp
 hbv:=λ a h=>Y5 (n:=6) a h
 hash:=λ d a h=>WT d a h
 tot:=zT
 tr:=G5
 irr:=pL
 inj:=JQ
 first:=by rintro h v c ⟨b,o,k,q,u,i,j,l,m,t⟩ _;exact%[b,o,_,k,_,i,j,l,m,rfl,_,q|rfl]
 ask:=λ d a f h=>abk d a f h
 of:=by rintro X g x H s O rfl rfl I y u c r p;exact gD I r p
def abB{kvs:Kc}(Q:%[|32])(T:S[k]? =%[|78])
 (w:W (.lst ((kvs.map (·.1)).map cD)) S):fQ X %[|23] [.dlo k] S W:=by
 intro D s σ H O vs us I A r ru;obtain⟨v,rfl,r'⟩:=d8 r;obtain⟨u,rfl,z⟩:=vals1 ru;obtain⟨a,rfl,P,U⟩:=fK r';cases z;obtain⟨Y,mu,f,eH,x,⟨oo,es,J,K,L,B,g5,g6⟩,hz⟩:=jh I (A.dob k a _ P T);have t:=x.length;have p:=wM x;have G:es.size=f.length:=by rw[<-e7,B,y7]
 refine PySem.W.kdl_call (HJ (es:=es) Y) (I.ok.hd Q) %[oo,J,K|L] %[|0] λ M tk g c n N hacc=>?_;have l:H s.heap.objs.size=none:=I.hok.fresh (y9 _);have F:g.toList=f.map λ y=>Value.ref y.2.1:=by
  refine kg λ j=>?_;rw[y8,fg];by_cases R:j<es.size
  . have C:j<g.size:=by rw[hacc.1];exact R
    obtain⟨e,b,h⟩:=hacc.2 j g[j] (by simp[C]);have m:es.toList[j]? =some e:=by rw[fg];exact b
    rw[B,y8]at m
    cases q:f[j]? with
    | none=>rw[q]at m;cases m
    | some y=>rw[q]at m;cases m;rw[i4 C,h];rfl
  {rw[g7 (by rw[hacc.1];omega),iS %[|0]];rfl}
 have E:g=(f.map λ y=>Value.ref y.2.1).toArray:=by rw[<-F]
 have Z:aU X.prog X.w (upd H s.heap.objs.size (.lst (f.map λ y=>V.ref y.2.1))) M s.heap.objs.size (.lst (f.map λ y=>V.ref y.2.1)):=
  ⟨by rw[y7];omega,f.map λ y=>Value.ref y.2.1,c,Y0 (by simp) (λ i v u b h=>by
   rw[y8]at b h
   cases q:f[i]? with
   | none=>rw[q]at b;cases b
   | some j=>rw[q]at b h;cases b;cases h;rfl),by rw[<-E];exact N⟩;have rk:=Be x;have o:Reps X.K O H (f.map λ y=>V.ref y.2.1) ((kvs.map (·.1)).map cD):=WM (by simp[t]) λ i v d b h=>by
  rw[y8]at b;rw[<-p,y8,y8]at h
  cases q:f[i]? with
  | none=>rw[q]at b;cases b
  | some y=>rw[q]at b h;cases b;cases h;exact rk i y q
 refine%[%[|8],_,I.laid (t':=tk) n (y9 _) Z,rfl|?_];exact%[O,_,S,w,Step.fresh l _,A.fresh l _|.lst (Ve A l) (o.mono (Step.fresh l _))]
def Gn:Bc where
 x:="list"
 id:="list"
 boot:=%[|11]
 wp b S W:=∃(k:Nat) (a:Kc),b=[.dlo k]/\S[k]? =some %[|61]/\W (.lst ((a.map (·.1)).map cD)) S
 sound:=by rintro X b S W e f ⟨k,a,rfl,c,d⟩;exact abB e c d
section
variable{P:Program}{w:World}{K:PySem.W.Frag}
def acp(a:Addr)(n:Nat):It:=
 %[λ i H=>∃d c b u,H a=some (.ext (bI a d))/\d.length=n/\d[i]? =some (c,b,u),
  λ i H x e=>e=H/\∀d,H a=some (.ext (bI a d))->∃c b u,d[i]? =some (c,b,u)/\x=.ref b|
  λ i H=>∃d,H a=some (.ext (bI a d))/\d.length=n/\n<=i]
theorem UW(a r:Addr)(n:Nat):Turn P w K tg (acp a n) [r] r (λ i h=>h.IsKeyIter r a i n n) where
 mem:=by simp
 obj:=λ i h A b m=>by obtain⟨o,ho,W,hd⟩:=A;rw[cf.mp m];exact%[o,ho|λ v z=>by rw[hd]at z;cases z]
 keep:=λ i h C A k=>A.at λ o e=>k r (by simp) o e
 item:=by
  intro X U hw hK W i l s σ H E I G p Y;obtain⟨ys,c,b,u,S,x,Z⟩:=Y;obtain⟨⟨_,_,_,o,B,D,h2,q,F⟩,_,_⟩:=(show aU X.prog X.w H s.heap a (.ext (bI a ys))from I.hok a _ S);have d:B.size=n:=by rw[<-e7,F,y7,x]
  have j:B[i]? =some %[hC0 c,.ref b|u]:=by rw[<-fg,F,y8,Z];rfl
  have uq:∀g,H a=some (.ext (bI a g))->∃t L u',g[i]? =some (t,L,u')/\V.ref b=.ref L:=λ g T=>by
   obtain⟨⟨_,_,_,o',aa,k1,_,J,k4⟩,_,_⟩:=(show aU X.prog X.w H s.heap a (.ext (bI a g))from I.hok a _ T);obtain rfl:o=o':=cq (D.symm.trans k1);rw[q]at J;injection J with J _;subst J;rw[<-fg,k4,y8]at j
   cases e:g[i]? with
   | none=>rw[e]at j;cases j
   | some y=>rw[e]at j;obtain⟨t,L,u'⟩:=y;have j:=cq j;injection j with _ hx1 hx2;injection hx1 with hx1;subst hx1;exact%[t,_,u',rfl|rfl]
  rw[x]at q;subst U hw;obtain⟨M,N,f2,O,Q,R⟩:=G r (by simp);refine HD D q (by rw[d];exact p) j λ C f sb=>?_;have I1:Inv X l σ H {s with heap:=C}:=I.turned (t':=s.toks) (λ b o m e=>(sb.2 b m).trans e) M N O Q R;rw[d]at f;obtain⟨o',e,t,d'⟩:=id f;exact%[.ref b,rfl|FW (s:={s with heap:=C}) e t d' %[|1] %[.ref b,H,I1,rfl,%[rfl|uq],f|λ b m=>(G b m).1]]
 done:=by
  intro X U hw hK W i l s σ H E I G p Y;obtain⟨ys,S,x,Z⟩:=Y;obtain⟨⟨_,_,_,o,B,D,h2,q,F⟩,_,_⟩:=(show aU X.prog X.w H s.heap a (.ext (bI a ys))from I.hok a _ S);have d:B.size=n:=by rw[<-e7,F,y7,x]
  rw[x]at q;subst U hw;obtain⟨M,N,f2,O,Q,R⟩:=G r (by simp);exact Nb (I.ok.hd W) D q (by rw[d];exact p) (by rw[d];exact Z) λ C ext=>%[rfl|I.turned (t':=s.toks) (λ b o m e=>ext b o m e) M N O Q R]
 self:=λ _ _ _ _ _ A h=>wpAny_pyIter_keyiter A h
end
section
variable{K:PySem.W.Frag}{O:Own}{H:Hp}
def Lf{k:Nat}{kcs:Kc}(h:O.A[k]? =some (a,true)):nM K (acp a kcs.length) O H (λ S=>S[k]? =some (.non::kcs.map encC)) (kcs.map λ kv=>cD kv.1):=by
 intro w s Y L V N i;have M:w.A[k]? =some (a,true):=L.lc k _ h;have P:=V.dob k a _ M N;obtain⟨f,e,r⟩:∃f,s a=some (.ext (bI a f))/\Kcs K w s f (kcs.map encC):=by
  cases P with
  | t U e r=>cases r
  | c f n e r=>cases r
  | o f n e r=>cases r
  | m f d' j e r=>obtain⟨_,rfl⟩:=iE j;exact%[f,e|r]
  | p ps n b l c z q k e j g=>cases j
 have G:=r.length;have B:∀(kcs:Kc)(f:Cy),Kcs K w s f (kcs.map encC)->∀(i:Nat)(kv:%[|14]×D),kcs[i]? =some kv->∃b u,f[i]? =some (kv.1,b,u)/\Rep K w s (.ref b) (cD kv.1):=by
  intro kcs
  induction kcs with
  | nil=>intro f r i kv h;simp at h
  | cons T kcs R=>
    intro f r i kv h;obtain⟨b,u,v,F,rfl,W,rv,rd,t⟩:=r.inv
    cases i with
    | zero=>cases h;exact%[b,u,rfl|W]
    | succ i=>obtain⟨b,u,A,C⟩:=R F t i kv (by simpa using h);exact%[b,u,by simpa using A|C]
 refine%[λ d j=>?_|λ Q=>%[f,e,G|by rw[Q,y7];exact y9 _]];obtain⟨kv,E,rfl⟩:=bA j;obtain⟨b,u,A,C⟩:=B kcs f r i kv E;refine%[%[f,kv.1,b,u,e,G|A]|λ x J y=>?_];obtain⟨rfl,X⟩:=y;obtain⟨c2,Z,u2,I,rfl⟩:=X f e;rw[A]at I;cases I;exact%[fB.refl _|C]
end
section
variable{X:Cx}{Γ:Gam}{S:Store}
def Z9
 (h:Ev X Γ S o λ d S1=>∃k kvs,d=.dlo k/\S1[k]? =some (.non::List.map encC kvs)/\W (kvs.map λ kv=>cD kv.1) (λ S=>S[k]? =%[|78]) S1):ItC X Γ S N o W:=by
 intro f s Q H O I j M;refine thn (h f s Q H O I j M) λ u s1 l=>?_;obtain⟨x,p,i,L,q,Y,S1,⟨k,kvs,rfl,E,w⟩,m,c,g⟩:=l;obtain⟨a,rfl,n,G⟩:=fK g;obtain rfl:u=Value.ref a:=L;have B:=c.dob k a _ n E;obtain⟨K,U,P,R,J,⟨V,r,v,y,z,A,_,_⟩,T⟩:=jh i B;have t:r.size=P.length:=by rw[<-e7,A,y7]
 refine Dt K v y z ?_;have F:=J.length;rw[t,F];refine%[_,[s1.heap.objs.size],_,_,p,rfl,i.kept (t':=s1.toks) (λ b o e=>bX _ e),UW a _ kvs.length,%[|73],λ b C=>?_,q,kvs.map λ kv=>cD kv.1,_,S1,w,m,c|Lf n];rw[cf.mp C];exact i.fpOk (y9 _) (i.hok.fresh (y9 _))
end
section
variable{Ω:Wd}
@[irreducible] noncomputable def JB(Γ:Gam)(tg:Tg)(body:Bl Ω)(W:DL.Fin)(k:Nat)(kvs:Kc)(S1:Store):Prop:=
  ∃c:%[|53],c 0 Γ S1/\(∀i a b,c i a b->b[k]? =%[|78])/\(∀i kv a b,kvs[i]? =some kv->c i a b->tg.wp (cD kv.1) a λ d=>body.wp d b {W with nx:=c (i+1),ct:=c (i+1),bk:=W.nx})/\(∀a b,c kvs.length a b->W.nx a b)
def aax{a:Bl Ω}(h:∃Pv:%[|53],Pv 0 d b/\(∀i Γ' S',Pv i Γ' S'->S'[k]? =%[|78])/\(∀i kv Γ' S',kvs[i]? =some kv->Pv i Γ' S'->c.wp (cD kv.1) Γ' λ Γ2=>a.wp Γ2 S' %[|93])/\(∀Γ' S',Pv kvs.length Γ' S'->W.nx Γ' S')):JB d c a W k kvs b:=by unfold JB;exact h
def ae0(tg:Tg)(o:Ex Ω)(body:Bl Ω):Sm Ω where
 lev:=max o.lev body.lev
 chk c N h v:=frB v λ t x b=>nameE x&&(tg.chk c N h t&&(o.chk c N h x&&body.chk c N h b))
 wp s S W:=o.wp s S λ d m=>match d with
  | .dlo k=>∃a,m[k]? =some (.non::List.map encC a)/\JB s tg body W k a m
  | _=>False
 sound:=by
  intro X r c N h v s S W A E n F;obtain⟨H,I⟩:=lv2 E;refine uE n λ t x b M n=>?_
  . refine an4 n λ w y z B=>?_;refine Kh (Z9 (Ev.mono (o.sound A H z F) λ d m q=>?_)) (by rw[A.xe];exact ml) A.calm (λ _=>by cases x<;>first | rfl | exact ff w)
    cases d with
    | dlo k=>obtain⟨a,D,q⟩:=q;unfold JB at q;obtain⟨j,J,K,O,L⟩:=q;refine%[k,a,rfl,D,j,J,K,λ i d e l C g=>?_|λ e l g=>L e l (by rw[y7]at g;exact g)];obtain⟨G,p,rfl⟩:=bA C;exact BdW.mono (Tg.sound A (W:=λ f u=>body.wp f u {W with nx:=j (i+1),ct:=j (i+1),bk:=W.nx}) y (O i G e l p g)) λ f u q=>body.sound A I B q
    | _=>exact(show False from q).elim
end
section
variable{prog:Program}{w:World}{α:Type}[DecidableEq α]{K:HK prog w α}{A:Around}{E:%[|26]}{s:Shared}
def cA.mono(h:cA m n)(a:k<=n):cA m k:=%[h.1|by have:=h.2;omega]
def XM:∀n,n<253->n<SetTable.sizeAbove n/\(SetTable.sizeAbove n-1=7\/SetTable.sizeAbove n-1=15\/SetTable.sizeAbove n-1=31\/SetTable.sizeAbove n-1=63\/SetTable.sizeAbove n-1=127\/SetTable.sizeAbove n-1=255):=%[|11]
def Hj(d:s.heap.get? a=some (bG %[|20] (ao K xs) ep))(T:%[|34])(F:cA m xs.length)(q:xs.length+more<=126)
 (h:∀h' m' xs' ps' mv' ep',Heap.SameBut a s.heap h'->h'.get? a=some (bG (aq m' ps' f led mv' pl) (ao K xs') ep')->Tab m' (aN K xs') ps'->cA m' (xs.length+more)->xs'.Perm xs->Q () %[|19]):
 wpAny %[|4] A (setRoomFor a more) Q E s:=by
 unfold setRoomFor;refine b0 (cZ T (eR F.few) d ?_);have l:=T.len;unfold aN at l;rw[y7]at l;have i:%[|20].roomFor more=if(xs.length+more)*5≥m*3 then some ((xs.length+more)*2)else none:=by unfold SetTable.roomFor SetTable.fill aq;simp only[x5,<-l];rfl
 rw[i];by_cases c:(xs.length+more)*5≥m*3;{rw[ci c];obtain⟨p,g⟩:=XM ((xs.length+more)*2) %[|0];have e:cA (SetTable.sizeAbove ((xs.length+more)*2)-1) (xs.length+more):=%[g|by generalize SetTable.sizeAbove ((xs.length+more)*2)=M at p g;omega];have b:=e.mono (gg xs.length more);refine Dr d T (eR F.few) b.all (eR b.few) %[|0] (d6 (by have:=b.le;omega:_<=256) %[|1]) λ h' xs' ps' mv' j k n o=>?_;exact h h' _ xs' ps' mv' _ j k n e o};{rw[c8 c];exact b9 (h s.heap m xs ps mv ep (Heap.SameBut.refl _ _) d T %[F.1|%[|0]] (.refl _))}
def ae1(T:%[|34])(F:cA m xs.length)(e:xs=[]):LiesM K its cs 0 xs m ps:=by subst e;exact%[T,F,List.Pairwise.nil,%[|41],%[|41]|λ c h=>by simp at h]
def mY(n:Nat)(b:a)(f:Nat->a->Sem (ForInStep a)):forIn [:n] b f=forIn (List.range' 0 n 1) b f:=by rw[Std.Legacy.Range.forIn_eq_forIn_range'];simp[Std.Legacy.Range.size]
inductive CsI(K:HK prog w α)(s:af3)(vs:af5)(cs:List α)(n:Nat)(led:Bool)(rest:af4)(s1:af3):Prop
 | mk(i:Nat)(h':Heap)(xs:Cv α)(m:Nat)(ps:af4)(mv ep:Nat)(e1:rest=List.range' i (n-i))(e2:i<=n)(e3:s1=%[|19])(g:%[|84]=some (bG (aq m ps 0 led mv true) (ao K xs) ep))(L:LiesM K vs cs i xs m ps)(k:∀b o,%[|49]->%[|38]):CsI K s vs cs n led rest s1
set_option maxHeartbeats 8000000 in
theorem FT {d:Addr}{es:Array DictEntry}{epd:Nat}{cs:List α}{Q:af2}
 (hu:A.units+12<cLine)(lo:(d==sysModules)=false)(hD:DEs d es epd s.heap)(hlen:es.size=cs.length)(h63:cs.length<=63)(hc:∀(i:Nat)(e:DictEntry)(c:α),es.toList[i]? =some e->cs[i]? =some c->K.I s.heap e.key c/\e.hash=K.h c)
 (h:∀(h':Heap)(xs:Cv α)(m:Nat)(ps:af4)(mv ep:Nat),%[|84]=some (bG (aq m ps 0 (aO w) mv true) (ao K xs) ep)->LiesM K (es.toList.map (·.key)) cs cs.length xs m ps->
  (∀b o,%[|49]->%[|38])->Q %[|8] %[|19]):
 wpAny %[|4] A (call (.type "set") [.ref d]) Q E s:=by
 obtain⟨c,tl,hmro⟩:=gi.mro;have hmade:=gi.made;have hsub:=gi.sub;refine wpAny_call (codeAny_of_tree ?_);show wpAny _ _ (callAny (.type "set") _) _ _ _;refine b9 %[Code.quiet_builtin _ %[|11]|gN F.entry_type_call ?_];rw[Around.under_plain (weight_type_call_type "set" [.ref d] []) rfl];have h1:=gi.notType;have h2:=gi.canCreate;have hct:=F.typeCall_set_1 (.ref d);repeat(any_goals (first | assumption | wp_step))
 refine l8 (sY (.ref d) (E:=E) (Q₁:=λ obj s₁=>∃led:Bool,led=aO w/\obj=%[|8]/\s₁={s with heap:=%[|66]}) %[_,rfl,rfl|rfl]) λ r s₁ hr=>?_
 cases r with
 | error e=>exact hr
 | ok fl =>
   cases fl with
   | next=>exact hr.elim
   | brk=>exact hr.elim
   | cont=>exact hr.elim
   | ret obj =>
     obtain⟨led,hled,rfl,rfl⟩:=hr;have hS:%[|66].get? s.heap.objs.size=some %[|99]:=cb _ rfl;have hT:Shared.TypeIs {s with heap:=%[|66]} %[|8] "set":=%[_,hS|rfl];have hli:=gi.init.lookup;have hbi:=gi.init.bind %[|8];repeat(any_goals (first | assumption | wp_step))
     refine l8 (codeAny_call_builtin (R:=wants (λ r s₂=>r=.none/\∃h' xs m ps mv ep,s₂=%[|19]/\
      %[|84]=some (bG (aq m ps 0 led mv true) (ao K xs) ep)/\LiesM K (es.toList.map (·.key)) cs cs.length xs m ps/\
      (∀b o,%[|49]->%[|38])) E) gi.init.plain F.entry_set_init (check_set_init_1 hT ?_)) λ r₂ s₂ hr₂=>?_
     . obtain⟨od,hod,hcl,hdd⟩:=hD;have hod':%[|66].get? d=some od:=bX _ hod;have hsls:=F.sub_dict_set;have hslf:=F.sub_dict_frozenset;have hTd:Shared.TypeIs {s with heap:=%[|66]} (.ref d) "dict":=%[_,hod'|hcl.1];unfold Builtin.«set.__init__» noKeywords Builtin.Frozenset.updateFrom;generalize hPI:setRoomFor=PI;wp_walk;rw[hdd];refine b9 ?_;refine b0 (fo hod' hdd ?_);subst hPI;have hdS:d<s.heap.objs.size:=ca hod;refine b0 (Hj (K:=K) (m:=7) (f:=0) (mv:=0) (ep:=0) (led:=led) (pl:=true) (xs:=[]) (ps:=[]) hS (Tab.nil 7) %[.inl rfl|(%[|1]:0*5<7*3)] (show 0+es.size<=126 by omega) λ h0 m0 xs0 ps0 mv0 ep0 sb0 g0 T0 F0 p0=>?_);have k0:∀b o,%[|49]->%[|39]->h0.get? b=some o:=λ b o hb e=>by rw[sb0.2 b (cr hb)];exact bX _ e
       refine b0 (fo (k0 d od hdS hod) hdd ?_);rw[mY];refine b0 (gX _ (λ rest _ s1=>CsI K s (es.toList.map (·.key)) cs es.size led rest s1) _ ?turn ?fin _ _ %[0,h0,xs0,m0,ps0,mv0,ep0,rfl,dk _,rfl,g0,ae1 T0 (F0.mono (by rw[List.Perm.eq_nil p0];exact dk _)) (List.Perm.eq_nil p0)|k0]);case turn=>
        rintro x rest _ s1 ⟨i,h',xs,m,ps,mv,ep,e1,e2,rfl,g,L,k1⟩;have hi:i<es.size:=by by_cases z:i<es.size;{exact z};{rw[show es.size-i=0 from %[|0]]at e1;cases e1}
        rw[show es.size-i=(es.size-(i+1))+1 from %[|0],List.range'_succ]at e1;obtain⟨rfl,rfl⟩:=iE e1;have hod1:=k1 d od hdS hod;refine b0 (fo (s:=%[|19]) hod1 hdd ?_);obtain⟨e,he⟩:∃e,es[x]? =some e:=%[_|i4 hi];have he':es.toList[x]? =some e:=by rw[fg];exact he
        obtain⟨c,hcx⟩:∃c,cs[x]? =some c:=%[_|y3 %[|0]];rw[he];dsimp only;obtain⟨q1,q2⟩:=hc x e c he' hcx;have kp:∀{v:Value}{c:α},K.I s.heap v c->K.I h' v c:=λ z=>K.keep (λ b o e _=>k1 b o (ca e) e) z;have hxs:∀z∈xs,K.I h' z.2 z.1:=λ z hz=>by
         obtain⟨j,hj⟩:=db (L.its z hz);rw[fN,y8]at hj;obtain⟨j1,j2⟩:=hj
         cases q:es.toList[j]? with
         | none=>rw[q]at j1;cases j1
         | some e'=>rw[q]at j1;have ez:e'.key=z.2:=cq j1;rw[<-ez];exact kp (hc j e' _ q j2).1
        have lt:xs.length<76:=by have:=k6 L.nd (λ z hz=>by obtain⟨y,hy,rfl⟩:=c9.mp hz;exact im (L.inn y hy):∀z∈%[|47],z∈cs);rw[y7]at this;omega
        have back:∀h2(Q1:ForInStep PUnit->Shared->Prop)(E1:af2),h2.get? d=some od->Q1 (.yield PUnit.unit) {s with heap:=h2}->wpAny %[|4] A.in1.in1 (do
         let __do_lift <-dictEpoch d
         if (__do_lift !=epd)=true then do
             unsupported (toString "set.__init__"++toString ":changed-during-callback")
             pure (ForInStep.yield PUnit.unit)
          else pure (ForInStep.yield PUnit.unit)) Q1 E1 {s with heap:=h2}:=by intro h2 Q1 E1 q hq;refine b0 (jS (s:={s with heap:=h2}) q hdd ?_);rw[c8 (by simp)];exact b9 hq
        refine b0 (eD ?_);rw[q2];refine Br (s:=%[|19]) (by show A.units+1+1+5<cLine;omega) g L.tab L.fill lt (kp q1) hxs (λ ex b=>?_) λ no h2 b m' xs' ps' mv' ep' sb g2 T' F' pm=>?_;{exact back h' _ _ hod1 %[x+1,h',xs,m,ps,mv,ep,rfl,hi,rfl,g,L.same hcx ex|k1]}
        . have k2:∀b o,%[|49]->%[|39]->h2.get? b=some o:=λ b' o' hb' e'=>by rw[sb.2 b' (cr hb')];exact k1 b' o' hb' e'
          exact back h2 _ _ (k2 d od hdS hod) %[x+1,h2,xs',m',ps',mv',ep',rfl,hi,rfl,g2,L.more (by rw[y8,he'];rfl) hcx no T' F' pm|k2]
       case fin=>
        rintro _ s1 ⟨i,h',xs,m,ps,mv,ep,e1,e2,rfl,g,L,k1⟩;have hi:i=es.size:=by by_cases z:i<es.size;{rw[show es.size-i=(es.size-(i+1))+1 from %[|0],List.range'_succ]at e1;cases e1};{omega}
        subst hi;rw[hlen]at L;exact b9 (b9 %[rfl,h',xs,m,ps,mv,ep,rfl,g,L|k1])
     . cases r₂ with
       | error e=>exact hr₂
       | ok fl₂=>
         cases fl₂ with
         | next=>exact hr₂.elim
         | brk=>exact hr₂.elim
         | cont=>exact hr₂.elim
         | ret r=>
           obtain⟨rfl,h',xs,m,ps,mv,ep,rfl,k2,k3,k1⟩:=hr₂;repeat(any_goals (first | assumption | wp_step))
           exact h _ _ _ _ _ _ (hled▸k2) k3 k1
end
section
variable{prog:Program}{w:World}{α:Type}[DecidableEq α]{K:HK prog w α}{A:Around}{E:%[|26]}{s:Shared}
def Mr(T:%[|34])(a:xs.length<=m)(d:s.heap.get? S=%[|77])
 (h:Q (fZ w S ep (ao K xs)) s):wpAny %[|4] A (setWalkUnseen S [r] (some r)) Q E s:=by
 unfold setWalkUnseen;refine b0 (cZ T a d ?_);unfold setsByText;dsimp only;refine b0 (b0 (ia (b9 ?_)));unfold fZ at h;have e:(%[|62]||((aq m ps f (aO w) mv true).led&&(aq m ps f (aO w) mv true).plain)||decide ((ao K xs).toArray.size<=1))=true:=by show(%[|62]||(aO w&&true)||_)=true;simp only[aO];cases w.params.followText "set-order"<;>rfl
 refine(ci e)▸?_;unfold setWalk;refine b0 (cZ T a d ?_);unfold setsByText;dsimp only;refine b0 (b0 (ia (b9 ?_)));show wpAny _ _ (if %[|62]=true then _ else _) _ _ _;by_cases c:%[|62]=true;{rw[ci c]at h ⊢;exact b0 (ia (b9 h))}
 . rw[c8 c]at h ⊢;have b:aO w=true:=by simp[aO,c]
   split;{exact absurd (by assumption) y6};{refine b0 ?_;show wpAny _ _ (if(!(aO w)&&_)=true then _ else pure PUnit.unit) _ _ _;rw[b,c8 (show ¬((!true&&_)=true)from y6)];exact b9 (b9 h)}
def ZL:∀{l:Cv α},(z.2,z.1)∈(l.map (·.2)).zip (l.map (·.1))->z∈l:=by
 intro l h
 induction l with
 | nil=>cases h
 | cons a l b=>rcases cK.mp h with e | h;{exact cK.mpr (.inl (lI (eC Prod.snd e) (eC Prod.fst e)))};{exact .tail _ (b h)}
def QD{xs:Cv α}{U:List α}(nx:%[|47].Nodup)(c:∀x∈xs,x.1∈U)(h:U.length<=n):xs.length<=n:=by have:=k6 nx (λ z b=>by obtain⟨y,a,rfl⟩:=c9.mp b;exact c y a:∀z∈%[|47],z∈U);rw[y7]at this;omega
inductive MgI(K:HK prog w α)(s:af3)(r:Addr)(f:Nat)(ys:Cv α)(n:Nat)(vs:af5)(cs:List α)(rest:List (Int×Value))(s1:af3):Prop
 | mk(i:Nat)(h':Heap)(xs':Cv α)(m':Nat)(ps':af4)(mv' ep':Nat)(e1:rest=(ys.drop i).map (λ x=>(K.h x.1,x.2)))(e2:i<=ys.length)(e3:s1=%[|19])(sb:Heap.SameBut r s.heap h')(g:h'.get? r=some (bG (aq m' ps' f (aO w) mv' true) (ao K xs') ep'))(L:LiesM K vs cs (n+i) xs' m' ps'):MgI K s r f ys n vs cs rest s1
def CJ{U:List α}(hu:A.units+8<cLine)(V:r≠o)
 (hr:s.heap.get? r=%[|77])(T:%[|34])(F:cA m xs.length)
 (ho:s.heap.get? o=some (bG (aq M n O (aO w) u true) (ao K zs) J))(T2:Tab M (aN K zs) n)(F2:cA M zs.length)
 (W:∀x∈xs,K.I s.heap x.2 x.1)(hz:∀x∈zs,K.I s.heap x.2 x.1)(nx:%[|47].Nodup)(nz:(zs.map (·.1)).Nodup)
 (hU:U.length<=63)(ux:∀x∈xs,x.1∈U)(uz:∀x∈zs,x.1∈U)
 (he:∀(h':Heap)(X:Unit->Shared->Prop)(E1:af2),h'.get? o=s.heap.get? o->X () %[|19]->wpAny %[|4] A H X E1 %[|19])
 (h:∀h' m' xs' ps' mv' ep',Heap.SameBut r s.heap h'->h'.get? r=some (bG (aq m' ps' f (aO w) mv' true) (ao K xs') ep')->Tab m' (aN K xs') ps'->cA m' xs'.length->(xs'.map (·.1)).Nodup->(∀x∈xs',x∈xs\/x∈zs)->(∀c,c∈%[|47]\/c∈zs.map (·.1)->c∈xs'.map (·.1))->Q () %[|19]):
 wpAny %[|4] A (setMerge r o H) Q E s:=by
 have lx:=QD nx ux hU;have lz:=QD nz uz hU;unfold setMerge;rw[c8 (by simpa using V)];refine b0 (cZ T2 (eR F2.few) ho ?_);dsimp only;have ab:(ao K zs).toArray.size=zs.length:=by unfold ao;rw[x5,y7]
 by_cases ez:zs=[];{subst ez;rw[ci (by rfl)];exact b9 (h s.heap m xs ps mv ep (Heap.SameBut.refl _ _) hr T F nx (λ x W=>.inl W) λ c C=>C.elim id λ C=>nomatch C)};rw[c8 (by intro e;rw[Array.isEmpty_iff_size_eq_zero,ab]at e;exact ez (fb e))];rw[ab];refine b0 (Hj hr T F %[|0] λ S p k l d aj sb1 g1 T1 F1 p1=>?_);have l1:=p1.length_eq;have an:=eR F1.few;refine b0 (cZ (s:={s with heap:=S}) T1 %[|0] g1 ?_);dsimp only;have af:=T1.len;unfold aN at af;rw[y7]at af;have ak:S.get? o=some (bG (aq M n O (aO w) u true) (ao K zs) J):=by rw[sb1.2 o (i5 V)];exact ho
 have er:(aq p l f (aO w) d true).road (aq M n O (aO w) u true)=if l.length≠0 then .oneByOne else if p=M then .slotForSlot else .clean:=by unfold SetTable.road SetTable.fill aq;simp
 rw[er];by_cases n0:l.length≠0
 . rw [ci n0];dsimp only;refine b0 (Mr (s:={s with heap:=S}) T2 (eR F2.few) ak ?_);obtain⟨B,py,ey⟩:=xN (vW w o J (ao K zs)) (xs:=zs) (f:=λ x=>(K.h x.1,x.2)) rfl;have P:∀{z:α×Value},(z.2,z.1)∈((k++B).map (·.2)).zip ((k++B).map (·.1))->z∈xs\/z∈zs:=λ h=>(cn.mp (ZL h)).imp p1.mem_iff.mp py.mem_iff.mp;refine b0 (wpAny_forIn_array' _ (λ R _ s1=>MgI K s r f B k.length ((k++B).map (·.2)) ((k++B).map (·.1)) R s1) _ ?turn ?fin _ _ %[0,S,k,p,l,d,aj,ey,dk _,rfl,sb1,g1|?_]);case turn=>
    rintro e R _ s1 ⟨i,h',xs',m',ps',mv',ep',I,e2,rfl,sb,g,L⟩;have Y:i<B.length:=by by_cases z:i<B.length;{exact z};{rw[List.drop_eq_nil_of_le %[|0]]at I;cases I}
    rw[List.drop_eq_getElem_cons Y,cw]at I;obtain⟨rfl,rfl⟩:=iE I;have Z:B[i]? =some B[i]:=y3 Y;generalize B[i]=y at Z;have al:=y4 Z;have hk:∀{v:Value}{c:α},K.I s.heap v c->K.I h' v c:=λ z=>K.keep (λ b o e c=>by
     have:b≠r:=by rintro rfl;rw[hr]at e;cases e;exact absurd (show Value.type "set"=Value.type "tuple" from c) %[|1]
     rw[sb.2 b this];exact e) z;have ag:((k++B).map (·.2))[k.length+i]? =some y.2:=by rw[y8,dt (gg _ _),Nat.add_sub_cancel_left,Z];rfl
    have aa:((k++B).map (·.1))[k.length+i]? =some y.1:=by rw[y8,dt (gg _ _),Nat.add_sub_cancel_left,Z];rfl
    have ad:∀z∈xs',z∈xs\/z∈zs:=λ z hz=>P (L.its z hz);have lt:=kP (QD L.nd (λ y Z=>(ad y Z).elim (ux y) (uz y)) hU) (%[|1]:63<76);have ac:∀D,Heap.SameBut r s.heap D->D.get? o=s.heap.get? o:=λ D q=>q.2 o (i5 V);have N:∀D(X:ForInStep PUnit->Shared->Prop)(E1:af2),Heap.SameBut r s.heap D->X (.yield PUnit.unit) {s with heap:=D}->wpAny %[|4] A (do
     H
     let __do_lift <-setState o
     if (__do_lift.2.1 !=J)=true then do
         unsupported "set.changed-during-merge"
         pure (ForInStep.yield PUnit.unit)
      else pure (ForInStep.yield PUnit.unit)) X E1 {s with heap:=D}:=by intro D X E1 q hq;refine b0 (he D _ _ (ac D q) ?_);refine b0 (cZ (s:={s with heap:=D}) T2 (eR F2.few) (by rw[ac D q];exact ho) ?_);rw[c8 (by simp)];exact b9 hq
    refine b0 (eD ?_);refine Br (s:=%[|19]) %[|0] g L.tab L.fill lt (hk (hz y (py.mem_iff.mp al))) (λ z am=>hk ((ad z am).elim (W z) (hz z))) (λ ex b=>?_) λ no D b m' xs' ps' mv' ep' ae g2 T' F' pm=>?_;{exact N h' _ _ sb %[i+1,h',xs',m',ps',mv',ep',rfl,Y,rfl,sb,g|L.same aa ex]};{exact N D _ _ (sb.trans ae) %[i+1,D,xs',m',ps',mv',ep',rfl,Y,rfl,sb.trans ae,g2|L.more ag aa no T' F' pm]}
   case fin=>
    rintro _ s1 ⟨i,h',xs',m',ps',mv',ep',I,e2,rfl,sb,g,L⟩;have Y:i=B.length:=by by_cases z:i<B.length;{rw[List.drop_eq_getElem_cons z]at I;cases I};{omega}
    subst Y;have tk:(((k++B).map (·.1)).take (k.length+B.length))=(k++B).map (·.1):=cS (by simp);refine b9 (h h' m' xs' ps' mv' ep' sb g L.tab L.fill L.nd (λ z hz=>?_) λ c C=>?_);{exact P (L.its z hz)};{obtain⟨x,G,e⟩:=L.all c (by rw[tk,da,cn];rcases C with C | C;{exact .inl ((p1.map (·.1)).mem_iff.mpr C)};{exact .inr ((py.map (·.1)).mem_iff.mpr C)});exact c9.mpr %[x,G|e]}
   {refine%[T1,F1.mono %[|0],(p1.map (·.1)).nodup_iff.mpr nx,λ x G=>?_,λ x G=>?_|λ c C=>?_];{rw[Nat.add_zero,da,List.take_append_of_le_length (by simp),cS (by simp)];exact c9.mpr %[x,G|rfl]};{obtain⟨j,hj⟩:=db G;refine y4 (i:=j) (fN.mpr %[?_|?_]);{rw[y8,x9 (z0.mp hj).1,hj];rfl};{rw[y8,x9 (z0.mp hj).1,hj];rfl}};{rw[Nat.add_zero,da,List.take_append_of_le_length (by simp),cS (by simp)]at C;obtain⟨x,G,e⟩:=c9.mp C;exact%[x,G|e]}}
 . have n1:k=[]:=fb %[|0];subst n1;have e0:xs=[]:=List.Perm.eq_nil p1.symm;subst e0;rw[c8 n0];have Fz:cA p zs.length:=F1.mono %[|0];by_cases em:p=M
   . subst em;rw[ci rfl];dsimp only;have et:({aq p n O (aO w) u true with finger:=(aq p l f (aO w) d true).finger,led:=(aq p l f (aO w) d true).led&&(aq p n O (aO w) u true).led,moves:=(aq p l f (aO w) d true).moves,plain:=(aq p l f (aO w) d true).plain&&(aq p n O (aO w) u true).plain}:SetTable)=aq p n f (aO w) d true:=by show(%[p,n.toArray,#[],f,aO w&&aO w,d|true&&true]:SetTable)=%[p,n.toArray,#[],f,aO w,d|true];rw[Bool.and_self];rfl
     refine(eC (λ t=>wpAny %[|4] A (storeSet r (ao K zs).toArray t) Q E {s with heap:=S}) et).mpr ?_;refine um (s:={s with heap:=S}) g1 (by unfold ao;rw[y7];omega) λ h' k1 k2=>?_;exact h h' p zs n d _ (sb1.trans k1) k2 T2 Fz nz (λ x W=>.inr W) λ c C=>C.elim (λ h=>nomatch h) id
   . rw[c8 em];dsimp only;have el:(aN K zs).length=zs.length:=by unfold aN;exact y7 _
     obtain⟨ps',a,e,pm,T'⟩:=NT Fz.all (hs:=aN K zs) (by rw[el];exact eR Fz.few) f d (aO w) true;have ai:(ao K zs).toArray.map (·.1)=(aN K zs).toArray:=by unfold ao aN;simp
     rw[el]at pm;have lt:∀q∈a,q<(aN K zs).length:=λ q hq=>by rw[el];exact dA.mp (pm.mem_iff.mp hq)
     rw[<-CG lt]at T';have eh:a.filterMap ((aN K zs)[·]?)=aN K (a.filterMap (zs[·]?)):=by unfold aN;rw[oJ]
     rw[eh]at T';have ee:a.toArray.filterMap ((ao K zs).toArray[·]?)=(ao K (a.filterMap (zs[·]?))).toArray:=by
      have I:ao K (a.filterMap (zs[·]?))=a.filterMap ((ao K zs)[·]?):=by unfold ao;rw[oJ]
      rw[I];simp
     have pp:=Cj (xs:=zs) pm;have er:SetTable.laid (aq p l f (aO w) d true).mask (aq p l f (aO w) d true).finger (aq p l f (aO w) d true).moves ((aq p l f (aO w) d true).led&&(aq M n O (aO w) u true).led) ((aq p l f (aO w) d true).plain&&(aq M n O (aO w) u true).plain) (Array.map (λ x=>x.1) (ao K zs).toArray)=some (aq p ps' f (aO w) d true,a.toArray):=by rw[ai];show SetTable.laid p f d (aO w&&aO w) (true&&true) _=_;rw[Bool.and_self];exact e
     rw[er];refine b0 ?_;have ah:(a.toArray.filterMap ((ao K zs).toArray[·]?)).size=(ao K zs).toArray.size:=by rw[ee];unfold ao;rw[x5,x5,y7,y7,pp.length_eq]
     show wpAny _ _ (if((a.toArray.filterMap ((ao K zs).toArray[·]?)).size !=(ao K zs).toArray.size)=true then _ else _) _ _ _;rw[c8 (by rw[ah];simp),ee];refine b9 ?_;refine um (s:={s with heap:=S}) g1 (by unfold ao;rw[y7,pp.length_eq];omega) λ h' k1 k2=>?_;exact h h' p _ ps' d _ (sb1.trans k1) k2 T' (by rw[pp.length_eq];exact Fz) ((pp.map (·.1)).nodup_iff.mpr nz) (λ x W=>.inr (pp.mem_iff.mp W)) λ c C=>C.elim (λ h=>nomatch h) ((pp.map (·.1)).mem_iff.mpr)
def Ge:entryFor table "set.__or__"=some Builtin.«frozenset.__or__»:=
 entryFor_alias (id':="frozenset.__or__") (by kernel_rfl) rfl %[|11] (by kernel_rfl)
def Za(h:Q %[|8] {s with heap:=s.heap.push (bG (aq 7 [] 0 (aO w) 0 true) (ao K ([]:Cv α)) 0)}):wpAny %[|4] A (newSet (.type "set")) Q E s:=by unfold newSet setsByText;refine b0 (b0 (ia (b9 ?_)));exact dV h (by size_fits)
def ZM{U:List α}(hu:A.units+12<cLine)(I:a≠b)
 (G:s.heap.get? a=%[|77])(T:%[|34])(V:cA m xs.length)
 (d:s.heap.get? b=some (bG (aq y g f2 (aO w) p true) (ao K zs) j))(t:Tab y (aN K zs) g)(r:cA y zs.length)
 (C:∀x∈xs,K.I s.heap x.2 x.1)(hz:∀x∈zs,K.I s.heap x.2 x.1)(nx:%[|47].Nodup)(nz:(zs.map (·.1)).Nodup)
 (N:U.length<=63)(P:∀x∈xs,x.1∈U)(uz:∀x∈zs,x.1∈U)
 (h:∀h' m' xs' ps' mv' ep',(∀b o,%[|49]->%[|38])->%[|84]=some (bG (aq m' ps' 0 (aO w) mv' true) (ao K xs') ep')->Tab m' (aN K xs') ps'->cA m' xs'.length->(xs'.map (·.1)).Nodup->(∀x∈xs',x∈xs\/x∈zs)->(∀c,c∈%[|47]\/c∈zs.map (·.1)->c∈xs'.map (·.1))->Q %[|8] %[|19]):
 wpAny %[|4] A (binaryOp .BitOr (.ref a) (.ref b)) Q E s:=by
 have D:s.TypeIs (.ref a) "set":=%[_,G|rfl];have O:s.TypeIs (.ref b) "set":=%[_,d|rfl];have la:a<s.heap.objs.size:=ca G;have lb:%[|49]:=ca d;refine wpAny_binaryOp_same (op:=.BitOr) D O F.fills_set_or F.slot_set_or (dQ F.slot_set_or D Ge ?_ (F.args_set_or_2 _ _));have i:=F.sub_set_set;have l:∀{A:ah0}{E:af2}{s:af3}{v:Value}{Q:ah1},s.TypeIs v "set"->Q true s->wpAny %[|4] A (Builtin.Frozenset.isAnySet v) Q E s:=λ T h=>by unfold Builtin.Frozenset.isAnySet;exact b0 (gz T i (b9 h))
 show wpAny _ _ (Builtin.Frozenset.slot1 "__or__" %[[.ref a,.ref b]|[]]>>=_) _ _ _;refine b0 (b0 (m:=slotArgs "__or__" 1 %[[.ref a,.ref b]|[]]) (b9 (b9 ?_)));refine b0 (b0 (l D (l O ?_)));rw[c8 %[|1]];refine b0 (b9 ?_);refine b0 ?_;show wpAny _ _ (Builtin.Frozenset.copyOf a>>=_) _ _ _;refine b0 ?_;unfold Builtin.Frozenset.copyOf Builtin.Frozenset.baseOf;refine b0 (b0 (gz D i (b9 ?_)));rw[ci rfl];refine b0 (Za (K:=K) ?_);refine b0 (b9 ?_);have L:∀b o,%[|39]->(s.heap.push (bG (aq 7 [] 0 (aO w) 0 true) (ao K ([]:Cv α)) 0)).get? b=some o:=λ b o e=>bX _ e;have J:∀{h:Heap}{v:Value}{c:α},(∀b o,%[|39]->%[|43])->K.I s.heap v c->K.I h v c:=λ k z=>K.keep (λ b o e _=>k b o e) z;refine b0 (CJ (s:={s with heap:=s.heap.push (bG (aq 7 [] 0 (aO w) 0 true) (ao K ([]:Cv α)) 0)}) (xs:=[]) (U:=U) (by show A.units+1+8<cLine;omega) (ft la) (cb _ rfl) (Tab.nil 7) %[.inl rfl|(%[|1]:0*5<7*3)] (L _ _ G) T V %[|41] (λ x h=>J L (C x h)) g9 nx N %[|41] P (λ h' W R _ q=>b9 q) λ B m1 xs1 ac ab aa sb1 g1 X S n1 u Y=>?_);refine b9 ?_;have u:∀x∈xs1,x∈xs:=λ x h=>(u x h).elim (λ h=>nomatch h) id;have n:∀b o,%[|39]->B.get? b=some o:=λ b o e=>by have d:%[|49]:=ca e;exact(sb1.2 b (cr d)).trans (L b o e)
 dsimp only;rw[ci (by simpa using Ne.symm I)];refine b0 (b9 ?_);refine b0 (eD ?_);unfold Builtin.Frozenset.updateFrom;refine b0 (l (s:={s with heap:=B}) %[_,n _ _ d|rfl] ?_);rw[ci rfl];refine b0 (b9 ?_);unfold Builtin.Frozenset.merge;refine b0 (wpAny_setEpoch_of (s:={s with heap:=B}) (n _ _ d) rfl (km t (eR r.few)) ?_);refine CJ (s:={s with heap:=B}) (xs:=xs1) (zs:=zs) (U:=U) (by show A.units+1+8<cLine;omega) (ft lb) g1 X S (n _ _ d) t r (λ x h=>J n (C x (u x h))) (λ x h=>J n (hz x h)) n1 nz N (λ x h=>P x (u x h)) uz (λ h' W R e q=>?_) λ h2 y M g p j sb2 g2 t r n2 i2 Z=>?_;{unfold Builtin.Frozenset.unchanged;refine b0 (wpAny_setEpoch_of (s:=%[|19]) (e.trans (n _ _ d)) rfl (km t (eR r.few)) ?_);rw[c8 (by simp)];exact b9 q};{refine b9 (b9 %[_,rfl,%[|59]|h h2 y M g p j (λ b o d e=>(sb2.2 b (cr d)).trans (n b o e)) g2 t r n2 (λ x C=>(i2 x C).imp (u x) id) λ c H=>Z c (H.imp (λ H=>Y c (.inr H)) id)])}
end
def Hv:typeLookup %[|23] "keys"=pure none:=by rw[typeLookup_type,oe];kernel_rfl
def RV
 (p:s.heap.get? a=some o)(m:o.cls=%[|23])(f:o.data=.seq xs k)(n:o.dict=none)(t:%[|50])
 (h:∀h' tk,(∀b ob,s.heap.get? b=some ob->h'.get? b=some ob)->Q none %[|54]):
 wpAny %[|4] A (getAttr? (.ref a) "keys") Q E s:=by
 obtain⟨c,r,q,x⟩:=o;simp only at m f n;subst m f n;obtain⟨u,g,d,tk,v⟩:=s;have l:∀j,(%[u,g,d,j|v]:Shared).TypeIs (.ref a) "list":=λ _=>%[_,p|rfl];have y:=sub_AttributeError;have z:=mS.lookup;have B:=F.slot_list_getattribute.bind (.ref a);have C:=am_list_getattr_none;unfold getAttr? getAttrBy? getAttrBy;repeat(any_goals (first | assumption | exact l _ | ((with_reducible show wpAny _ _ (call (Value.builtin "list.__getattribute__") _ _) _ _ _);refine kN mS (l _) am_entry_list_getattribute (F.args_list_getattribute_2 _ _) (meets_getattribute_miss_list a xs k x "keys" _ Hv %[|1] %[|1]) %[p,t|λ h' j e i=>?_]) | wp_step))
 obtain⟨G,H,D⟩:=i.there;show wpAny _ _ (getattributeRaised _ _ _ _ _ _ _) _ _ _;unfold getattributeRaised;repeat(any_goals (first | assumption | wp_step))
 exact h _ _ i.keeps
def lX:entryFor table "dict.update.loop"=some Builtin.«dict.update.loop»:=entryFor_of_tree (by kernel_rfl)
def fj:plainId "dict.update.loop"=true:=%[|11]
section
variable{prog:Program}{w:World}{A:Around}{E:%[|26]}{R:Result -> Shared -> Prop}{d I l:Addr}{ys:Cy}
def kI(h:Heap)(v:Value)(y:%[|14]×Addr×Value):Prop:=∃p o n,v=.ref p/\h.get? p=some o/\o.cls=%[|9]/\o.data=.seq #[.ref y.2.1,y.2.2] n/\cG h (.ref y.2.1) y.1
def kI.keep(k:∀b o,%[|43]->o.cls=%[|9]->h'.get? b=some o)(x:kI h v y):kI h' v y:=by obtain⟨p,o,n,c,d,a,e,f⟩:=x;exact%[p,o,n,c,k p o d a,a,e|f.keep k]
def CelM.on(x:CelM prog w h d ys)(l:∀o,h.get? d=some o->h'.get? d=some o)(k:∀b o,%[|43]->o.cls=%[|9]->h'.get? b=some o):CelM prog w h' d ys:=by obtain⟨o,a,c,e,f,g,i,j⟩:=x;exact%[o,a,l o c,e,f,g,λ y m=>(i y m).keep k|j]
def Ur(P:l≠I)(q:d≠I)(K:d≠l)(hh:%[|50])(hu:A.units+7<cLine)(hl:its.size=ys.length)(nd:(ys.map (·.1)).Nodup)(hz:ys.length<=1000):
 ∀(k i:Nat)(s:af3),its.size-i=k->i<=its.size->s.heap.IsListIter I l i->s.heap.IsList l its->CelM prog w s.heap d (ys.take i)->
 (∀(j:Nat)(v:Value) y,its[j]? =some v->ys[j]? =some y->kI s.heap v y)->
 (∀h' tk,CelM prog w h' d ys->(∀b o,b≠I->b≠d->%[|38])->R (.ok (.ret .none)) %[|54])->
 codeAny %[|4] A (.builtin "dict.update.loop" %[[.ref d,.ref I,rawInt i,.none]|[]]) R s:=by
 intro k
 induction k with
 | zero=>
   intro i s hk hi a E G W J;refine gN lX ?_;rw[gx fj _];show wpAny _ A.in1 (pyNext (.ref I)>>=_) _ _ s;have ei:i=ys.length:=%[|0]
   have M:its[i]? =none:=g7 %[|0];refine b0 (wpAny_pyNext_list_end (show A.in1.handled=none from hh) a E M λ h' m=>?_);show wpAny _ _ (Builtin.Dict.addKeywords d []>>=_) _ _ _;refine b0 (b9 (b9 ?_));have U:∀b o,%[|39]->o.cls=%[|9]->b≠I:=by rintro b o e c rfl;obtain⟨Z,h,c',_⟩:=a;rw[e]at h;cases h;rw[c]at c';exact absurd c' %[|1]
   rw[ei,cy]at G;exact J h' s.toks (G.on (λ o e=>m d o q e) λ b o e c=>m b o (U b o e c) e) λ b o F _ e=>m b o F e
 | succ k ih=>
   intro i s hk hi a E G W J;refine gN lX ?_;rw[gx fj _];show wpAny _ A.in1 (pyNext (.ref I)>>=_) _ _ s;have O:i<its.size:=%[|0]
   have Q:its[i]? =some its[i]:=by simp[O]
   generalize its[i]=v at Q;obtain⟨y,S⟩:∃y,ys[i]? =some y:=%[_|y3 %[|0]];have U:∀b o,%[|39]->o.cls=%[|9]->b≠I:=by rintro b o e c rfl;obtain⟨Z,h,c',_⟩:=a;rw[e]at h;cases h;rw[c]at c';exact absurd c' %[|1]
   refine b0 (wpAny_pyNext_list_item a E Q λ f B g=>?_);have X:∀b o,%[|39]->o.cls=%[|9]->f.get? b=some o:=λ b o e c=>g.extBut b o (U b o e c) e;have D:∀(j:Nat)(v:Value) y,its[j]? =some v->ys[j]? =some y->kI f v y:=λ j v y r t=>(W j v y r t).keep X;have C:CelM prog w f d (ys.take i):=G.on (λ o e=>g.extBut d o q e) X;have H:f.IsList l its:=E.extBut g.extBut P;obtain⟨p,o,n,rfl,q1,q2,q3,q4⟩:=D i v y Q S;obtain⟨c,b,u⟩:=y;have nk:∀(j:Nat)(z:Addr×Value),(ys.take i)[j]?≠some (c,z):=by intro j z e;rw[fT]at e;split at e;{rename_i N;have:=(fI.mp nd) j i (by rw[y7];omega) (by rw[y7];omega) N;have r:=(z0.mp e).2;have t:=(z0.mp S).2;rw[h8,h8,r,t]at this;exact this rfl};{cases e}
   have eS:storedH (ys.take i) c b u=ys.take (i+1):=by rw[storedH_new (atKey_none_of_get nk),List.take_succ,S];rfl
   refine b0 (eD (b0 (wpAny_tryCatch ?_)));unfold Builtin.Dict.pairItems;refine b0 (iq (s:={s with heap:=f}) (T:="tuple") %[o,q1|q2] ?_);rw[ci %[|1]];refine b0 (fy (s:={s with heap:=f}) q1 q3 (b9 ?_));show wpAny _ _ (holding [Value.ref b,u] (dictSet d (.ref b) u)) _ _ _;refine eD (Bq (s:={s with heap:=f}) (c:=c) (by show A.units+1+5<cLine;omega) q4 C (by rw[ej,ja];omega) λ h2 tk Y sb2=>?_);rw[eS]at Y;have L:∀b o,f.get? b=some o->o.cls=%[|9]->b≠d:=by rintro b o e c rfl;obtain⟨Z,_,h,c',_⟩:=C;rw[e]at h;cases h;exact absurd (c.symm.trans c'.1) %[|1]
   have k2:∀b o,f.get? b=some o->o.cls=%[|9]->h2.get? b=some o:=λ b o e c=>(sb2.2 b (L b o e c)).trans e;have ri:(rawInt ((i:Int)+1))=rawInt ((i+1:Nat):Int):=by congr 1
   show wpAny _ _ (again (.builtin "dict.update.loop" %[[.ref d,.ref I,rawInt ((i:Int)+1),.none]|[]])) _ _ _;rw[ri];refine b9 %[kM fj _|ih (i+1) _ %[|0] %[|0] (B.at λ o e=>(sb2.2 I (i5 q)).trans e) (H.at λ o e=>(sb2.2 l (i5 K)).trans e) Y (λ j v y r t=>(D j v y r t).keep k2) λ h' V m' kk=>?_];exact J h' V m' λ b o F x e=>kk b o F x ((sb2.2 b x).trans (g.extBut b o F e))
def yV(hh:%[|50])(N:A.units+12<cLine)(B:s.heap.get? l=some o)(t:o.cls=%[|23])(a:o.data=.seq its k)(I:o.dict=none)
 (J:its.size=ys.length)(nd:(ys.map (·.1)).Nodup)(hz:ys.length<=1000)(K:∀(j:Nat)(v:Value) y,its[j]? =some v->ys[j]? =some y->kI s.heap v y)
 (h:∀h' tk,CelM prog w h' s.heap.objs.size ys->(∀b ob,s.heap.get? b=some ob->h'.get? b=some ob)->Q %[|8] %[|54]):
 wpAny %[|4] A (call (.type "dict") [.ref l]) Q E s:=by
 refine callType_codes (Q₁:=λ q c=>q=%[|8]/\c={s with heap:=%[|44]}) F.kt_called_dict (F.kt_typeCall_dict_1 _) F.entry_dict_init (kt_code_dict_new _ %[rfl|rfl]) ?_;rintro q c ⟨rfl,rfl⟩;have m:l<s.heap.objs.size:=ca B;have n:CelM prog w %[|44] s.heap.objs.size []:=%[_,#[],cb _ rfl,%[rfl,rfl|rfl],rfl,rfl,%[|41]|g9];have x:=n.of.typeIs (s:={s with heap:=%[|44]});refine%[x,F.args_dict_init_2 _ _|?_];unfold Builtin.«dict.__init__»;refine b0 ?_;unfold Builtin.Dict.selfAndRest;refine b0 (kz x ?_);show wpAny _ _ (pure (s.heap.objs.size,[Value.ref l])) _ _ _;refine b9 ?_;show wpAny _ _ (Builtin.Dict.updateFrom "dict.__init__" s.heap.objs.size (.ref l) [] .none) _ _ _;unfold Builtin.Dict.updateFrom;have f:%[|44].get? l=some o:=bX _ B;refine b0 (iq (T:="list") %[o,f|t] ?_);rw[ci %[|1]];refine b0 (RV (s:={s with heap:=%[|44]}) f t a I hh λ g tk r=>?_);rw[ci (show(none:Option Value).isNone=true from rfl)];have i:g.IsList l its:=%[o,r l o f,t,k|a];have C:∀b ob,s.heap.get? b=some ob->g.get? b=some ob:=λ b ob e=>r b ob (bX _ e);have p:CelM prog w g s.heap.objs.size []:=n.on (λ o e=>r _ o e) λ b o e _=>r b o e;have d:s.heap.objs.size<g.objs.size:=by obtain⟨_,_,e,_⟩:=p;exact ca e
 refine b0 (kt (b0 (kf i ?_)));have H:g.objs.size≠s.heap.objs.size:=ft d;refine b9 %[kM fj _|Ur (ys:=ys) (its:=its) (l:=l) (cr (ot m d)) (i5 H) (ft m) (show A.in1.handled=none from hh) (by show A.units+1+7<cLine;omega) J nd hz its.size 0 _ rfl (dk _) ?_ (i.push _) ?_ (λ j v y D G=>(K j v y D G).keep λ b ob e _=>bX _ (C b ob e)) λ h' u M L=>%[rfl|h h' u M λ b ob e=>?_]];{exact%[|73]};{rw[lm];exact p.on (λ o e=>bX _ e) λ b o e _=>bX _ e};{have z:%[|49]:=ca e;exact L b ob (cr (ot z d)) (cr z) (bX _ (C b ob e))}
end
section
variable{prog:Program}{w:World}{A:Around}{E:%[|26]}{R:Result -> Shared -> Prop}{d I l:Addr}{ys:Cy}
def Fq(lo:(l==sysModules)=false)(D:CelM prog w s.heap l ys)(h1:ys.length<=1)
 (h:∀h',CelM prog w h' s.heap.objs.size ys->(∀b ob,s.heap.get? b=some ob->h'.get? b=some ob)->Q %[|8] %[|19]):
 wpAny %[|4] A (call (.type "dict") [.ref l]) Q E s:=by
 refine callType_codes (Q₁:=λ n j=>n=%[|8]/\j={s with heap:=%[|44]}) F.kt_called_dict (F.kt_typeCall_dict_1 _) F.entry_dict_init (kt_code_dict_new _ %[rfl|rfl]) ?_;rintro n j ⟨rfl,rfl⟩;have X:=D.of.typeIs;obtain⟨o,z,I,Z,p,q,J,R⟩:=id D;have C:l<s.heap.objs.size:=ca I;have m:CelM prog w %[|44] s.heap.objs.size []:=%[_,#[],cb _ rfl,%[rfl,rfl|rfl],rfl,rfl,%[|41]|g9];have G:CelM prog w %[|44] l ys:=D.on (λ o e=>bX _ e) λ b o e _=>bX _ e;have H:=m.of.typeIs (s:={s with heap:=%[|44]});have v:=G.of.typeIs (s:={s with heap:=%[|44]});have i:%[|44].get? l=some o:=bX _ I;have B:%[|44].get? s.heap.objs.size=some %[|89]:=cb _ rfl;have O:z.size=ys.length:=by rw[<-e7,q,y7]
 refine%[H,F.args_dict_init_2 _ _|?_];unfold Builtin.«dict.__init__»;refine b0 ?_;unfold Builtin.Dict.selfAndRest;refine b0 (kz H ?_);show wpAny _ _ (pure (s.heap.objs.size,[Value.ref l])) _ _ _;refine b9 ?_;show wpAny _ _ (Builtin.Dict.updateFrom "dict.__init__" s.heap.objs.size (.ref l) [] .none) _ _ _;unfold Builtin.Dict.updateFrom;refine b0 (iq v ?_);rw[c8 %[|1]];refine b0 ?_;unfold Builtin.Dict.merge;refine b0 ?_;unfold Builtin.Dict.readDirectly;refine b0 (gz v isSubtype_dict_dict ?_);simp only[fm,de,en];refine b0 (gv v F.slot_dict_iter.lookup (b9 ?_));simp only[ge,h9];refine b0 (b9 ?_);unfold Builtin.Dict.mergeDict;rw[c8 (by simpa using Nat.ne_of_gt C)];unfold Builtin.Dict.showsAll;rw[c8 (by rw[lo];exact y6)];refine b0 (b9 ?_);refine b0 (fo i p ?_);have g:∀h',CelM prog w h' s.heap.objs.size ys->(∀b ob,s.heap.get? b=some ob->h'.get? b=some ob)->wpAny %[|4] A.in1.in1 (Builtin.Dict.addKeywords s.heap.objs.size []>>=λ _=>ret .none)
  (λ g t=>match g with | .done f=>wants (λ r d=>r=.none/\Q %[|8] d) E (.ok f) t | .again c'=>c'.quiet=true/\codeAny %[|4] A.in1 c' (wants (λ r d=>r=.none/\Q %[|8] d) E) t)
  (λ e t=>wants (λ r d=>r=.none/\Q %[|8] d) E (.error e) t) %[|19]:=λ h' a b=>b0 (b9 (b9 %[rfl|h h' a b]));rcases ys with _ | ⟨⟨c,b,u⟩,_ | ⟨y2,ys⟩⟩;{have y:z=#[]:=nN.mp q;subst y;rw[c8 (by simp)];refine b0 (jS i p ?_);refine b0 (fo i p ?_);refine b0 ?_;rw[mY];exact b9 (b9 (g _ m λ b ob e=>bX _ e))}
 . have y:z=#[%[hC0 c,.ref b|u]]:=nN.mp q;subst y;have S:Shared.TypeIs {s with heap:=%[|44]} (.ref b) "tuple":=by obtain⟨k,V,k',W,u',L,M,N,Y⟩:=J (c,b,u) x6;cases L;exact%[V,bX _ M|N]
   generalize hhc:hC0 c=hc at*;rw[ci (by simp[keyPart])];refine b0 (fo B rfl ?_);rw[ci (by simp)];refine b0 ?_;unfold Builtin.Dict.entriesForEmpty;refine b0 (fo i p ?_);refine b0 ?_;rw[<-i9];show wpAny _ _ (forIn [(%[hc,.ref b|u]:DictEntry)] PUnit.unit _) _ _ _;rw[mm];refine b0 ?_;refine b0 ?_;show wpAny _ _ (Builtin.Dict.quietEq (.ref b)) _ _ _;unfold Builtin.Dict.quietEq;refine b0 (gv S F.slot_tuple_eq.lookup (b9 ?_));rw[ci %[|1]];have P:(Array.filter (λ x:DictEntry=>x.hash==hc) #[%[hc,.ref b|u]]).size=1:=by simp
   rw[c8 (by rw[P];decide)];refine b9 ?_;show wpAny _ _ (forIn [] _ _) _ _ _;rw[lh];refine b9 (b9 ?_);rw[ci (by simp)];have sb:=eI %[|44] s.heap.objs.size (Obj.mapDictKeys λ _=>#[%[hc,.ref b|u]]);have K:∀k ob,s.heap.get? k=some ob->(%[|44].update s.heap.objs.size (Obj.mapDictKeys λ _=>#[%[hc,.ref b|u]])).get? k=some ob:=λ k ob e=>by have T:k<s.heap.objs.size:=ca e;exact(sb.2 k (cr T)).trans (bX _ e)
   refine b0 (wpAny_updateDictKeys B rfl (b9 (g _ %[_,#[%[hc,.ref b|u]],fx _ B (Obj.isFreed_of_dict (oI rfl _)),%[rfl,rfl|rfl],rfl,q,λ x U=>(J x U).keep λ b ob e _=>K b ob e|R] K)) (dk _) (by show 1<=_;decide))
 {simp at h1}
end
section
variable{X:Cx}{S:Store}{W:WD}
def ZW {kvs : Kc}(U:%[|32])(Z:X.A.units+12<cLine)(nd:(kvs.map (·.1)).Nodup)(hz:kvs.length<=1000)(w:W %[|13] (S++[.non::kvs.map encC])):fQ X (.type "dict") [.lst (kvs.map encC)] S W:=by
 intro K s σ H O vs us I M r ru;obtain⟨v,rfl,r'⟩:=d8 r;obtain⟨u,rfl,G⟩:=vals1 ru;obtain⟨a,d,rfl,R,q1⟩:=dW r';cases G;obtain⟨its,f,⟨o,n,p1,p2,p3,p4⟩,aa⟩:=I.list R.sq;have mk : ∀ (kvs :Kc)(d:List V)(its:af5),Reps X.K O H d (kvs.map encC)->Vals d its->∃ys:Cy,Kcs X.K O H ys (kvs.map encC)/\ys.map (·.1)=kvs.map (·.1)/\its.length=ys.length/\∀(j:Nat)(v:Value) y,its[j]? =some v->ys[j]? =some y->kI s.heap v y:=by
  intro kvs
  induction kvs with
  | nil=>intro d its r f;cases r;cases f;exact%[[],.nil,rfl,rfl|λ j v y e=>by simp at e]
  | cons kv kvs ih=>
    intro d its r f
    cases r with
    | cons r t=>
      cases f with
      | cons rx rt=>
        obtain⟨ys,k,l,x,z⟩:=ih _ _ t rt;have r:Rep X.K O H _ (.tup [cD kv.1,kv.2]):=r;obtain⟨p,zs,rfl,T,q2⟩:=dz r;cases rx;obtain⟨js,rj,⟨ob,o1,o2,m,o3⟩,_⟩:=I.tuple T.sq
        cases q2 with
        | cons E t2=>
          cases t2 with
          | cons rd t3=>
            cases t3
            cases rj with
            | cons F C=>
              cases C with
              | cons B D=>
                cases D;obtain⟨b,rfl⟩:=iW E;cases F;refine%[(kv.1,b,_)::ys,.cons rfl E B rd k,by rw[cw,cw,l],by simp[x]|λ j v y g i=>?_]
                cases j with
                | zero=>cases g;cases i;exact%[p,ob,m,rfl,o1,o2,o3|gD I E rfl]
                | succ j=>exact z j v y (by simpa using g) (by simpa using i)
 obtain⟨ys,k,l,x,z⟩:=mk kvs d its q1 f;have ly:ys.length=kvs.length:=k.length;refine yV (ys:=ys) (its:=its.toArray) (I.ok.hd U) Z p1 p2 p4 p3 (by rw[x5,x]) (by rw[l];exact nd) %[|0] (λ j v y g i=>z j v y (by simpa using g) i) λ Q tk m kk=>?_;obtain⟨q,P,Y,m2,m3,m4,_,m5⟩:=m;have J:=I.hok.fresh (y9 s.heap.objs.size);have A:(s.heap.objs.size==sysModules)=false:=by have:=(uB (h:=s.heap) I.big).2.1;exact this
 have N:bI s.heap.objs.size ys Q:=%[by rw[ja];omega,A,m5,q,P,Y,m2,m3|m4];refine%[%[|8],_,I.laid (a:=s.heap.objs.size) (o:=.ext (bI s.heap.objs.size ys)) (t':=tk) kk (y9 _) (jR N),rfl|?_];have L:=Step.own (O:=O) J (.ext (bI s.heap.objs.size ys)) true;exact%[O.more s.heap.objs.size true,%[|13],S++[.non::kvs.map encC],w,L,Qs M J (.m ys _ rfl aR (k.conv L.conv))|.dlo (by show(O.A++[%[|80]])[S.length]? =some %[|80];rw[<-M.len];simp) λ c o q=>ca (I.kIn c o q)]
def Zu{kvs:Kc}(z:S[k]? =%[|78])(h1:kvs.length<=1)(w:W %[|13] (S++[.non::kvs.map encC])):fQ X (.type "dict") [.dlo k] S W:=by
 intro j s U H O T R I f r M;obtain⟨v,rfl,L⟩:=d8 r;obtain⟨u,rfl,e⟩:=vals1 M;obtain⟨a,rfl,y,A⟩:=fK L;cases e;obtain⟨E,Q,b,N,i,p,C⟩:=jh I (f.dob k a _ y z);have P:=i.length;refine Fq E p %[|0] λ x m D=>?_;obtain⟨q,t,B,F,G,J,_,K⟩:=m;have g:=I.hok.fresh (y9 s.heap.objs.size);have d:(s.heap.objs.size==sysModules)=false:=by have:=(uB (h:=s.heap) I.big).2.1;exact this
 have n:bI s.heap.objs.size b x:=%[C,d,K,q,t,B,F,G|J];refine%[%[|8],_,I.laid (a:=s.heap.objs.size) (o:=.ext (bI s.heap.objs.size b)) (t':=s.toks) D (y9 _) (jR n),rfl|?_];have l:=Step.own (O:=O) g (.ext (bI s.heap.objs.size b)) true;exact%[O.more s.heap.objs.size true,%[|13],S++[.non::kvs.map encC],w,l,Qs f g (.m b _ rfl aR (i.conv l.conv))|.dlo (by show(O.A++[%[|80]])[S.length]? =some %[|80];rw[<-f.len];simp) λ c o q=>ca (I.kIn c o q)]
end
def Ug:Bc where
 x:="dict"
 id:="dict"
 boot:=%[|11]
 wp b S W:=∃a:Kc,b=[.lst (a.map encC)]/\(a.map (·.1)).Nodup/\a.length<=1000/\W %[|13] %[|18]
 sound:=by rintro X b S W f g ⟨a,rfl,c,d,e⟩;exact ZW f (by have:=g.un;omega) c d e
def UJ:Bc where
 x:="dict"
 id:="dict"
 boot:=%[|11]
 wp b S W:=∃(k:Nat) (a:Kc),b=[.dlo k]/\S[k]? =some %[|61]/\a.length<=1/\W %[|13] %[|18]
 sound:=by rintro X b S W f g ⟨k,a,rfl,c,d,e⟩;exact Zu c d e
section
variable{prog:Program}{w:World}{α:Type}[DecidableEq α][Inhabited α]{lt:α -> α -> Bool}{good:α -> Prop}{enc:α -> D}{K:SK prog w α lt good enc}{A:Around}{E:%[|26]}{s:Shared}
def Q5{xs:Cv α}(T:A.units+8<cLine)
 (n:∀{E':af2}{G:List Value->Shared->Prop},(∀h' tk,(∀b o,%[|38])->s.heap.objs.size<=h'.objs.size->G (xs.map (·.2)) %[|54])->wpAny %[|4] A.in1 (collect (.ref x)) G E' s)
 (B:xs.length<64)(nd:%[|47].Nodup)(O:∀x∈xs,good x.1)(C:∀x∈xs,K.I s.heap x.2 x.1)
 (h:∀(ys:Cv α) h' tk a e,ys.Perm xs->ys.Pairwise (λ x y=>lt x.1 y.1=true)->(∀b o,%[|38])->s.heap.objs.size<=a->h'.get? a=some (seqObj "list" (ys.map (·.2)).toArray e)->Q (.ref a) %[|54]):
 wpAny %[|4] A (call (.builtin "sorted") [.ref x]) Q E s:=by
 refine Calls.call_function_entry kind_sorted plain_sorted entry_sorted (args_sorted1 _) ?_;unfold Builtin.«sorted»;refine b0 (m:=checkCount "sorted" 1 1 _) (b9 ?_);refine b0 (n λ h' tk S J=>?_);have F:(xs.map (·.2)).length<=sizeLine:=d6 (by rw[y7];omega:_<=64) %[|1];refine b0 (wpAny_newList ?_ F);have k:(h'.push (seqObj "list" (xs.map (·.2)).toArray 0)).get? h'.objs.size=some (seqObj "list" (xs.map (·.2)).toArray 0):=cb _ rfl;have f:∀b o,%[|39]->(h'.push (seqObj "list" (xs.map (·.2)).toArray 0)).get? b=some o:=λ b o q=>bX _ (S b o q);show wpAny _ _ _ _ _ {s with heap:=h'.push (seqObj "list" (xs.map (·.2)).toArray 0),toks:=tk};refine b0 (eD (dQ slot_list_sort %[_,k|rfl] entry_list_sort (Az (K:=K) (cs:=%[|47]) (show A.units+1+1+2<cLine by omega) k (by rw[y7,y7]) (λ i v c l u=>?_) (λ c C=>?_) nd (by rw[y7];exact B) λ p D=>%[_,rfl|?_]) (args_list_sort _)))
 . rw[y8]at l u
   cases q:xs[i]? with
   | none=>rw[q]at l;cases l
   | some z=>rw[q]at l u;cases l;cases u;exact K.keep (λ b o e _=>f b o e) (C z (y4 q))
 {obtain⟨z,R,rfl⟩:=c9.mp C;exact O z R}
 . obtain⟨e,I⟩:=sortedHeap_at (out:=List.toArray (p.map λ i=>(xs.map (·.2)).getD i Value.none)) k;have L:∀i∈p,i<xs.length:=λ i d=>by have:=D.lt_ i d;rwa[y7]at this
   have t:∀i,i<xs.length->xs[i]? =some (xs.getD i (default,.none)):=λ i d=>by rw[eW];simp[d]
   have N:(p.map λ i=>(xs.map (·.2)).getD i Value.none)=(p.map λ i=>xs.getD i (default,.none)).map (·.2):=by rw[dr];refine kL λ i d=>?_;rw[eW,y8,t i (L i d)];rfl
   have M:(seqObj "list" (p.map λ i=>(xs.map (·.2)).getD i Value.none).toArray e)=seqObj "list" ((p.map λ i=>xs.getD i (default,Value.none)).map (·.2)).toArray e:=by rw[N]
   rw[M]at I;refine b9 %[_,rfl|h _ _ tk _ e ?_ ?_ (λ b o q=>?_) J I];{have H:=D.perm;rw[y7]at H;have:=H.map λ i=>xs.getD i (default,Value.none);rw[range_getD]at this;exact this}
   . rw[kF];refine D.srt.imp_of_mem λ{i j} d P h=>?_;have g:∀i∈p,%[|47].getD i default=(xs.getD i (default,Value.none)).1:=λ i d=>by rw[eW,y8,t i (L i d)];rfl
     unfold Bm at h;rw[g i d,g j P]at h;exact h
   {have r:b<h'.objs.size:=v3 (ca q) J;rw[sortedHeap_old (cr r) (by rw[size_push'];exact hH r)];exact f b o q}
def t6(hh:%[|50])(r:Tab m (aN K.toHK xs) ps)(a:xs.length<=m)(e:xs.length<=1000)(g:s.heap.get? S=some (bG (aq m ps f (aO w) mv true) (ao K.toHK xs) ep)):
 ∃ws:Cv α,ws.Perm xs/\∀{E':af2}{c:List Value->Shared->Prop},(∀h' tk,(∀b o,%[|38])->s.heap.objs.size<=h'.objs.size->c (ws.map (·.2)) %[|54])->wpAny %[|4] A (collect (.ref S)) c E' s:=by obtain⟨ws,k,d⟩:=xN (vW w S ep (ao K.toHK xs)) (xs:=xs) (f:=λ x=>(K.h x.1,x.2)) rfl;refine%[ws,k|λ h=>J4 hh r a e g λ h' tk i j=>?_];rw[d,dr];exact h h' tk (λ b o q=>i b o (ca q) q) j
end
section
variable{X:Cx}{S:Store}{W:WD}
def Ss{K}:∀{zs:Cv %[|14]},(∀z∈zs,∃b,z.2=.ref b/\Rep K O H (.ref b) (cD z.1))->∃vs,Vals vs (zs.map (·.2))/\Reps K O H vs ((zs.map (·.1)).map cD):=by
 intro zs
 induction zs with
 | nil=>intro _;exact%[[],.nil|.nil]
 | cons z zs d=>intro h;obtain⟨vs,a,b⟩:=d λ y c=>h y (x4 _ c);obtain⟨p,e,r⟩:=h z x6;exact%[.ref p::vs,.cons (by show L2.RelV (V.ref p) z.2;rw[e];rfl) a|.cons r b]
def je{pins:Pins}{σ:DL.St}{xs:Cv %[|14]}(q:X.A.units+8<cLine)(I:%[|3])(st:%[|15])
 (c:∀{E':af2}{i:List Value->Shared->Prop},(∀h' tk,(∀b o,%[|38])->s.heap.objs.size<=h'.objs.size->i (xs.map (·.2)) %[|54])->wpAny %[|5] X.A.in1 (collect (.ref x)) i E' s)
 (d:xs.length<64)(nd:%[|47].Nodup)(l:∀z∈xs,∃b,z.2=.ref b/\Rep X.K O H (.ref b) (cD z.1))
 (w:∀ks:List %[|14],ks.Perm %[|47]->ks.Pairwise %[|27]->W (.lst (ks.map cD)) S):
 wpAny %[|5] X.A (call (.builtin "sorted") [.ref x]) (EP X pins σ (QG X.K O H W)) X.xe s:=by
 refine Q5 (K:=lG X.prog X.w) q c d nd (λ _ _=>trivial) (λ z f=>?_) λ ys h' tk a e g h k j p=>?_;{obtain⟨b,e,r⟩:=l z f;rw[e];exact gD I r rfl}
 . obtain⟨m,n,u⟩:=Ss (zs:=ys) λ z f=>l z (g.mem_iff.mp f);have t:m.length<=64:=by rw[n.length,y7,g.length_eq];omega
   exact%[.ref a,_,I.laid (t':=tk) k j (show aU X.prog X.w _ _ _ (.lst m)from%[d6 t %[|1],_,e,n|p]),rfl|j8 (w _ (g.map (·.1)) (kF.mpr h)) st (I.hok.fresh j) u]
def aai(Y:%[|32])(M:X.A.units+8<cLine)(h2:cs.length<64)(nd:cs.Nodup)(Z:d=.lst (cs.map cD)\/∃(k:Nat) (kvs:Kc),d=.dlo k/\S[k]? =%[|78]/\cs=kvs.map (·.1))
 (w:∀ks:List %[|14],ks.Perm cs->ks.Pairwise %[|27]->W (.lst (ks.map cD)) S):fQ X (.builtin "sorted") [d] S W:=by
 intro P s σ H O vs us I G r ru;obtain⟨v,rfl,Q⟩:=d8 r;obtain⟨u,rfl,p⟩:=vals1 ru;rcases Z with rfl | ⟨k,kvs,rfl,hk,rfl⟩
 . obtain ⟨a,xs,rfl,T,q1⟩:=dW Q;cases p;obtain⟨f,x,pl,g⟩:=I.list T.sq;have mk:∀(cs:ag2)(xs:List V)(f:af5),Reps X.K O H xs (cs.map cD)->Vals xs f->∃i:Cv %[|14],i.map (·.1)=cs/\i.map (·.2)=f/\∀z∈i,∃b,z.2=.ref b/\Rep X.K O H (.ref b) (cD z.1):=by
    intro cs
    induction cs with
    | nil=>intro xs f r x;cases r;cases x;exact%[[],rfl,rfl|%[|41]]
    | cons c cs ih=>intro xs f r x;cases r with| cons r t=>cases x with| cons rx rt=>obtain⟨i,E,F,l⟩:=ih _ _ t rt;obtain⟨b,rfl⟩:=iW r;cases rx;exact%[(c,.ref b)::i,by rw[cw,E],by rw[cw,F]|λ z g=>(cK.mp g).elim (λ e=>e▸%[b,rfl|r]) (l z)]
   obtain⟨i,rfl,rfl,l⟩:=mk cs xs f q1 x;rw[y7]at h2;exact je M I G (λ A=>collect_list pl.isList (A _ _ (λ b o q=>by have n:%[|49]:=ca q;rw[Heap.get?_update_ne _ _ _ _ (cr n),l0 _ _ _ (cr n)];exact q) (by rw[md,size_push'];exact jp _)) (by rw[y7,ja];omega)) h2 nd l w
 . obtain⟨a,rfl,U,aa⟩:=fK Q;cases p;obtain⟨lo,mu,B,eH,N,⟨oo,K,E,F,l,L,g5,g6⟩,g⟩:=jh I (G.dob k a _ U hk);have m:=wM N;have C:K.size=B.length:=by rw[<-e7,L,y7]
   have R:(B.map λ y=>(y.1,Value.ref y.2.1)).map (·.2)=K.toList.map (·.key):=by rw[L,dr,dr];rfl
   have J:(B.map λ y=>(y.1,Value.ref y.2.1)).map (·.1)=kvs.map (·.1):=by rw[<-m,dr];rfl
   refine je (xs:=B.map λ y=>(y.1,Value.ref y.2.1)) M I G (λ A=>?_) (by rw[<-m,y7]at h2;rw[y7];exact h2) (by rw[J];exact nd) (λ z g=>?_) (by rw[J];exact w);{rw[R]at A;exact GP (by simpa using I.ok.hd Y) lo %[oo,E,F|l] (by rw[C,sizeLine_eq];rw[ja]at g;omega) A};{obtain⟨y,hy,rfl⟩:=c9.mp g;obtain⟨j,hj⟩:=db hy;exact%[y.2.1,rfl|Be N j y hj]}
end
def SJ:Bf where
 x:="sorted"
 id:="sorted"
 boot:=%[|11]
 wp g S W:=∃(c:ag2) (d:D),g=[d]/\c.length<64/\c.Nodup/\(d=.lst (c.map cD)\/∃(k:Nat) (e:Kc),d=.dlo k/\S[k]? =some (.non::List.map encC e)/\c=e.map (·.1))/\∀f:List %[|14],f.Perm c->f.Pairwise %[|27]->W (.lst (f.map cD)) S
 sound:=by rintro X g S W m n ⟨c,d,rfl,h,i,j,l⟩;exact aai m (by have:=n.un;omega) h i j l
section
variable{X:Cx}
def abp{σ:DL.St}{i:Nat}(I:%[|3])(k:X.N[i]? =some x)(q:Vis X.env.scope x)(e:σ[i]? =some (some v))(h:∀u,RelV v u->Q u s)
 (f:%[|67])(d:(x==("__classdict__":Str))=false):wpAny %[|5] X.A (eval (.Name x g) X.env) Q E s:=by obtain⟨m,p,n⟩:=I.loc;obtain⟨u,r,l⟩:=n i x v k e q;rcases l with⟨b,o⟩ | ⟨b,c,j,a⟩;{exact oj (om I.ok.kind b p o (h u r)) f};{rcases b with b | b;{exact oj (wpAny_loadName_cell I.ok.kind b j a (h u r)) f};{exact oj (wpAny_loadName_free I.ok.kind b j a (h u r) d) f}}
def QF{pins:Pins}{σ:DL.St}{k:Nat}{l:Kc}(G:X.A.units+12<cLine)(I:%[|3])(st:%[|15])(C:O.A[k]? =some (a,true))(F:S[k]? =some (.non::l.map encC))(r:l.length<=63)
 (h:∀(h':Heap)(xs:Cv %[|14])(m:Nat)(ps:af4)(mv ep:Nat),%[|84]=some (bG (aq m ps 0 (aO X.w) mv true) (ao (lG X.prog X.w).toHK xs) ep)->Tab m (aN (lG X.prog X.w).toHK xs) ps->cA m xs.length->%[|47].Nodup->
  (∀b o,%[|38])->(∀x∈xs,x.1∈l.map (·.1)/\∃b,x.2=.ref b/\Rep X.K O H (.ref b) (cD x.1))->(∀c∈l.map (·.1),c∈%[|47])->Q %[|8] %[|19]):
 wpAny %[|5] X.A (call (.type "set") [.ref a]) Q E s:=by
 obtain⟨J,W,ys,T,v,⟨M,es,w,z,A,p,B,U⟩,V⟩:=jh I (st.dob k a _ C F);have u:=v.length;have g:=wM v;have R:=Be v;have n:es.size=ys.length:=by rw[<-e7,p,y7]
 refine FT (K:=(lG X.prog X.w).toHK) (es:=es) (epd:=ys.length) (cs:=l.map (·.1)) G J %[M,w,z|A] (by rw[n,u,y7]) (by rw[y7];exact r) (λ i e c f d=>?_) λ h' xs m ps mv ep N L P=>?_
 . rw[p,y8]at f;rw[<-g,y8]at d
   cases q:ys[i]? with
   | none=>rw[q]at f;cases f
   | some y=>rw[q]at f d;cases f;cases d;exact%[B y (y4 q)|rfl]
 . refine h h' xs m ps mv ep N L.tab L.fill L.nd (λ b o e=>P b o (ca e) e) (λ x t=>?_) λ c D=>?_
   . obtain⟨j,hj⟩:=db (L.its x t);rw[fN,y8,p,y8]at hj;have d:=hj.2;rw[<-g,y8]at d
     cases q:ys[j]? with
     | none=>rw[q]at d;cases d
     | some y=>have f:=hj.1;rw[q]at f d;have f:Value.ref y.2.1=x.2:=cq f;have d:y.1=x.1:=cq d;refine%[y4 hj.2,y.2.1,f.symm|?_];rw[<-d];exact R j y q
   {obtain⟨x,t,e⟩:=L.all c (by rw[cS (y9 _)];exact D);exact c9.mpr %[x,t|e]}
end
def aeh(e:Expr):Option {x:Expr×Operator×Expr×Pos // e=.BinOp x.1 x.2.1 x.2.2.1 x.2.2.2}:=match e with
 | .BinOp l o r p=>some %[(l,o,r,p)|rfl]
 | _=>none
def Wi(N:af7)(nm:Nm)(i:Nat)(e:Expr):Bool:=cX e λ z a=>(z=="set")&&dX a λ b=>anB (nameV b) λ x=>(N[i]? ==some x)&&(vis nm x&&okN x)
section
variable{Ω:Wd}
def aeV(hm:Ω.mg "sorted"=none)(hm2:Ω.mg "set"=none)(i j:Nat):Ex Ω where
 lev:=0
 chk af N G e:=cX e λ y es=>(y=="sorted")&&dX es λ J=>anB (aeh J) λ z=>(z.1.2.1==.BitOr)&&(glb G "sorted"&&(glb G "set"&&(Wi N G i z.1.1&&Wi N G j z.1.2.2.1)))
 wp Γ S W:=∃(k q:Nat) (f F:Kc) (U:ag2),Γ[i]? =some (some (.dlo k))/\Γ[j]? =some (some (.dlo q))/\S[k]? =some (.non::List.map encC f)/\S[q]? =some (.non::List.map encC F)/\f.length<=63/\F.length<=63/\U.length<=63/\(∀c∈f.map (·.1),c∈U)/\(∀c∈F.map (·.1),c∈U)/\∀V:List %[|14],V.Pairwise %[|27]->(∀c,c∈V↔c∈f.map (·.1)\/c∈F.map (·.1))->W (.lst (V.map cD)) S
 sound:=by
  intro X r af N G e Γ S W A hl n hw;refine bB n λ y p es ad t=>?_;refine an2 t λ h1 w=>?_;refine dq w λ J B=>?_;obtain⟨⟨⟨el,op,er,bp⟩,eb⟩,_,C⟩:=bU B;have eb:J=.BinOp el op er bp:=eb;subst eb;refine an5 C λ h2 h3 h4 h5 h6=>?_;have e1:=ZU h1;have e2:op=.BitOr:=ZU h2;subst e1 e2;obtain⟨k,q,f,F,U,w1,w2,w3,w4,w5,w6,w7,w8,w9,ag⟩:=hw;have hu:=A.hu;have Y:∀{i:Nat}{e:Expr}{k:Nat}{f:Kc}{d:Pins}{s:af3}{D:DL.St}{H:Hp}{O:Own}{Q:af2}{E:af2},Wi N G i e=true->Γ[i]? =some (some (.dlo k))->S[k]? =some (.non::f.map encC)->f.length<=63->Inv X d D H s->EnvOk X.K O H D Γ->%[|15]->
   (∀(h':Heap)(xs:Cv %[|14])(m:Nat)(ps:af4)(mv ep:Nat),%[|84]=some (bG (aq m ps 0 (aO X.w) mv true) (ao (lG X.prog X.w).toHK xs) ep)->Tab m (aN (lG X.prog X.w).toHK xs) ps->cA m xs.length->%[|47].Nodup->
    (∀b o,%[|38])->(∀x∈xs,x.1∈f.map (·.1)/\∃b,x.2=.ref b/\Rep X.K O H (.ref b) (cD x.1))->(∀c∈f.map (·.1),c∈%[|47])->Q %[|8] %[|19])->
   wpAny %[|5] X.A (eval e X.env) Q E s:=by
   intro i e k f d s D H O Q E n ab hk aa I l st h;refine bB n λ z pz aj Z t=>?_;refine an2 t λ g1 w=>?_;refine dq w λ b B=>?_;obtain⟨x,ex,C⟩:=bU B;obtain⟨px,ee⟩:=jY ex;subst ee;refine an3 C λ g2 g3 g4=>?_;have e1:=ZU g1;subst e1;obtain⟨d1,d2,_⟩:=jo g4;have hN:X.N[i]? =some x:=by rw[A.n];exact ZU g2
   obtain⟨v,ev,ae⟩:=l.at_ i _ ab;refine gu (cV I (A.glb h4) (by rw[A.g];exact hm2) (show bootBuiltins "set"=some (.type "set")from %[|11]) ?_ %[|1] %[|1]);refine eu ?_ rfl rfl;show wpAny _ _ (spliced ((false,eval (.Name x px) X.env)::backTo Z (starEach [] X.env))) _ _ s;refine f8 (abp I hN (A.vis g3) ev (λ u ru=>?_) d1 d2);obtain⟨a,rfl,M,ak⟩:=fK ae;cases ru;refine fF ?_;exact QF %[|0] I st M hk aa h
  intro d s D H O I l st;refine gu (cV I (A.glb h3) %[|76] (show bootBuiltins "sorted"=some (.builtin "sorted")from %[|11]) ?_ %[|1] %[|1]);refine i0 ?_ rfl rfl;show wpAny _ _ (spliced ((false,eval (.BinOp el .BitOr er bp) X.env)::backTo ad (starEach [] X.env))) _ _ s;refine f8 ?_;refine wpAny_BinOp (Y h5 w1 w3 w5 I l st λ M xs m ps mv ep a1 a2 a3 a4 a5 a6 a7=>?_);have Ia:Inv X d D H {s with heap:=M}:=I.kept (t':=s.toks) a5;refine Y (s:={s with heap:=M}) h6 w2 w4 w6 Ia l st λ hb zs m2 ap al ah J b2 b3 b4 b5 b6 b7=>?_;have Ib:Inv X d D H {s with heap:=hb}:=Ia.kept (t':=s.toks) b5;have lt:s.heap.objs.size<M.objs.size:=ca a1;have L:∀{x:%[|14]×Value},(∃b,x.2=.ref b/\Rep X.K O H (.ref b) (cD x.1))->(lG X.prog X.w).I hb x.2 x.1:=by rintro x ⟨b,e,r⟩;rw[e];exact gD Ib r rfl
  refine ZM (K:=(lG X.prog X.w).toHK) (s:={s with heap:=hb}) (U:=U) %[|0] (cr lt) (b5 _ _ a1) a2 a3 J b2 b3 (λ x g=>L (a6 x g).2) (λ x g=>L (b6 x g).2) a4 b4 w7 (λ x g=>w8 _ (a6 x g).1) (λ x g=>w9 _ (b6 x g).1) λ n m3 us ar am ai c1 c2 c3 c4 c5 c6 c7=>?_;have kc:∀b o,hb.get? b=some o->n.get? b=some o:=λ b o e=>c1 b o (ca e) e;have Ic:Inv X d D H {s with heap:=n}:=Ib.kept (t':=s.toks) kc;have ac:∀x∈us,∃b,x.2=.ref b/\Rep X.K O H (.ref b) (cD x.1):=λ x g=>(c6 x g).elim (λ h=>(a6 x h).2) λ h=>(b6 x h).2;have T:∀x∈us,x.1∈f.map (·.1)\/x.1∈F.map (·.1):=λ x g=>(c6 x g).imp (λ h=>(a6 x h).1) λ h=>(b6 x h).1;have an:us.length<=63:=by have:=k6 c5 (λ z R=>by obtain⟨y,hy,rfl⟩:=c9.mp R;exact(T y hy).elim (w8 _) (w9 _):∀z∈us.map (·.1),z∈U);rw[y7]at this;omega
  refine fF ?_;obtain⟨ws,pz,P⟩:=t6 (K:=lG X.prog X.w) (A:=X.A.in1) (s:={s with heap:=n}) (by simpa using I.ok.hd A.calm) c3 (Nat.le_of_lt c4.few) %[|0] c2;refine thn (je (xs:=ws) %[|0] Ic st P (by rw[pz.length_eq];omega) ((pz.map (·.1)).nodup_iff.mpr c5) (λ z R=>ac z (pz.mem_iff.mp R)) λ V k1 k2=>ag V k2 λ c=>(k1.trans (pz.map (·.1))).mem_iff.trans %[λ hm=>by obtain⟨z,R,rfl⟩:=c9.mp hm;exact T z R|λ hm=>c7 c (hm.imp (a7 c) (b7 c))]) λ _ _ q=>q
end
section
variable{Ω:Wd}
def aeU(o a b:Ex Ω):Ex Ω where
 lev:=max o.lev %[|52]
 chk d N l e:=zA e λ x m p j q=>two2 j λ y z=>(m==("get":Str))&&((cX x λ _ j=>Al j λ _ _=>true)&&((p.endLine==q.line)&&(okE y&&(okE z&&(o.chk d N l x&&(a.chk d N l y&&b.chk d N l z))))))
 wp n S W:=o.wp n S λ x s=>onD x λ k=>k<s.length/\a.wp n s λ y C=>b.wp n C λ z t=>yt y t k λ h c=>W ((aK h c).getD z) t
 sound:=by intro X r d N l e n S W A O v P;obtain⟨Q,B⟩:=lv2 O;obtain⟨B,R⟩:=lv2 B;refine oU v λ x m p j q g=>?_;refine two2_ind g λ y z v=>?_;{refine an8 v λ G H I J u K L M=>?_;have e:=ZU G;subst e;have D:=aX J;have i:=aX u;refine Kg A.hu %[?_,by rw[D,i];rfl,I|by rw[D,i];rfl] ((o.sound A Q K P).mono λ x s q=>?_);{refine bB H λ f V E T g=>?_;refine nZ g λ U F _=>?_;rfl};{refine jT q λ k q=>?_;exact%[k,rfl,q.1|(a.sound A B L q.2).mono λ y C q=>(b.sound A R M q).mono λ z t ⟨ns,h,e1,e2,w⟩=>%[ns,h,e1,e2|w]]}}
end
section
variable{X:Cx}
def Li{cs:ag2}(Y:%[|32])(hu:%[|56])(U:∀l:List %[|14],l.Nodup->(∀x∈l,x∈cs)->l.length<=63)(hd:d=.lst (cs.map cD)\/∃k,d=.loc k/\S[k]? =some (cs.map cD))
 (w:∀ks:List %[|14],ks.Pairwise %[|27]->(∀c,c∈ks↔c∈cs)->W (.lst (ks.map cD)) S)
 {pins:Pins}{σ:DL.St}(I:%[|3])(st:%[|15])(r':Rep X.K O H v d)(T:RelV v u):
 wpAny %[|5] X.A (call (.type "set") [u]) (λ u1 s1=>wpAny %[|5] X.A (call (.builtin "sorted") [u1]) (EP X pins σ (QG X.K O H W)) X.xe s1) X.xe s:=by
 have N:∃a h,v=.ref a/\SqL X.K H a h/\Reps X.K O H h (cs.map cD):=by rcases hd with rfl | ⟨k,rfl,hk⟩;{obtain⟨a,h,rfl,n,R⟩:=dW r';exact%[a,h,rfl,n.sq|R]};{obtain⟨p,rfl,n⟩:=eU r';obtain⟨h,g,R⟩:=st.obj k p _ n hk;exact%[p,h,rfl,SqL.of g|R]}
 obtain⟨a,h,rfl,hs,Z⟩:=N;cases T;obtain⟨B,rv,pl,E⟩:=I.list hs;have l2:B.length=cs.length:=by rw[<-rv.length,Z.length,y7]
 have C:∀{i:Nat}{x:Value}{c:ag7},B[i]? =some x->cs[i]? =some c->∃b,x=.ref b/\Rep X.K O H (.ref b) (cD c):=by intro i x c J L;obtain⟨y,P,ry⟩:=Z.get (show(cs.map cD)[i]? =some (cD c) by rw[y8,L];rfl);obtain⟨x',q,rx⟩:=nW rv P;rw[J]at q;cases q;obtain⟨b,rfl⟩:=iW ry;exact%[b,rx|ry]
 refine Ew (K:=(lG X.prog X.w).toHK) (I.ok.hd Y) %[|0] pl.isList l2 (λ i x c J L=>?_) U λ n tk ys m ps mv ep g1 f k1=>?_;{obtain⟨b,rfl,r⟩:=C J L;exact gD I r rfl};rw[l2]at f;have t:∀x∈ys,x.1∈cs:=λ x g=>im (f.inn x g);have Q:=U (ys.map (·.1)) f.nd λ x g=>by obtain⟨y,P,rfl⟩:=c9.mp g;exact t y P
 rw[y7]at Q;obtain⟨ws,F,G⟩:=t6 (K:=lG X.prog X.w) (A:=X.A.in1) (s:={s with heap:=n,toks:=tk}) (I.ok.hd Y) f.tab (eR f.fill.few) %[|0] g1;refine je %[|0] (I.kept (t':=tk) λ b o e=>k1 b o (ca e) e) st G (by rw[F.length_eq];omega) ((F.map _).nodup_iff.mpr f.nd) (λ z E=>?_) λ ks p1 p2=>w ks p2 λ c=>?_;{obtain⟨j,hj⟩:=db (f.its z (F.mem_iff.mp E));rw[fN]at hj;exact C hj.1 hj.2};{rw[(p1.trans (F.map _)).mem_iff];refine%[λ M=>?_|λ M=>?_];{obtain⟨z,E,rfl⟩:=c9.mp M;exact t z E};{obtain⟨x,g,e⟩:=f.all c (by rw[cy];exact M);exact c9.mpr %[x,g|e]}}
end
section
variable{Ω:Wd}
def ae4(hm:Ω.mg "sorted"=none)(hm2:Ω.mg "set"=none)(a:Ex Ω):Ex Ω where
 lev:=a.lev
 chk m N n e:=cX e λ y Q=>(y=="sorted")&&dX Q λ P=>cX P λ z g=>(z=="set")&&dX g λ b=>(glb n "sorted"&&(glb n "set"&&(okE b&&a.chk m N n b)))
 wp T S W:=a.wp T S λ d o=>∃f:List %[|14],(∀l:List %[|14],l.Nodup->(∀x∈l,x∈f)->l.length<=63)/\(d=.lst (f.map cD)\/∃k,d=.loc k/\o[k]? =some (f.map cD))/\∀J:List %[|14],J.Pairwise %[|27]->(∀c,c∈J↔c∈f)->W (.lst (J.map cD)) o
 sound:=by intro X r m N n e T S W A hl hc hw;refine bB hc λ y p Q L w=>?_;refine an2 w λ h1 B=>?_;refine dq B λ P C=>?_;refine bB C λ z p' g i D=>?_;refine an2 D λ h2 E=>?_;refine dq E λ b F=>?_;refine an4 F λ h3 h4 R h6=>?_;have e1:=ZU h1;have e2:=ZU h2;subst e1 e2;intro h s σ H O I t st;refine gu (cV I (A.glb h3) %[|76] (show bootBuiltins "sorted"=some (.builtin "sorted")from %[|11]) ?_ %[|1] %[|1]);refine i0 ?_ rfl rfl;show wpAny _ _ (spliced ((false,eval _ X.env)::backTo L (starEach [] X.env))) _ _ s;refine f8 ?_;refine gu (cV I (A.glb h4) (by rw[A.g];exact hm2) (show bootBuiltins "set"=some (.type "set")from %[|11]) ?_ %[|1] %[|1]);refine eu ?_ (aX R _ _) rfl;rw[aX R [] X.env];show wpAny _ _ (spliced ((false,eval b X.env)::backTo i (starEach [] X.env))) _ _ s;refine f8 (thn (a.sound A hl h6 hw h s σ H O I t st) λ u s1 G=>?_);obtain⟨v,H1,U,r1,O1,x,o,hb,M,K,j⟩:=G;obtain⟨f,V,Y,Z⟩:=hb;refine fF ?_;refine thn (Li A.calm A.hu V Y Z U K j r1) λ u2 s2 q=>?_;refine fF ?_;exact thn q λ _ _ q=>gH M q
end
def Su{l:ag2}(h:l.Pairwise %[|27]):l.Nodup:=h.imp λ{a b} q e=>by subst e;rw[pL]at q;cases q
def V4{a b:ag2}(d:a.Pairwise %[|27])(e:b.Pairwise %[|27])(h:∀c,c∈a↔c∈b):a=b:=by refine kK (le:=%[|27]) (λ x y _ _ p q=>?_) d e ((kC (Su d) (Su e)).mpr h);have:=G5 p q;rw[pL]at this;cases this
end RF
namespace K41
open PySem L2 DL RF
variable{Ω:Wd}{f:Addr}{fd:FuncData}
def top(i:Nat):Stmt:=PySem.Challenge.pw_nestturn_k41_whole_one_pair_the_other_wa.main.body.getD i (.Pass %[0,0,0|0])
structure Bi(mg:af8):Prop where
 MOST_STEPS_:∃t,mg "MOST_STEPS"=some (.int 60 t)
 abs_:mg "abs"=none
 all_:mg "all"=none
 bool_:mg "bool"=none
 dict_:mg "dict"=none
 enumerate_:mg "enumerate"=none
 int_:mg "int"=none
 isinstance_:mg "isinstance"=none
 len_:mg "len"=none
 list_:mg "list"=none
 max_:mg "max"=none
 min_:mg "min"=none
 range_:mg "range"=none
 set_:mg "set"=none
 sorted_:mg "sorted"=none
 sum_:mg "sum"=none
 tuple_:mg "tuple"=none
 zip_:mg "zip"=none
def OkF(Ω:Wd)(x:Str)(t:Stmt)(k:Nat)(ps:af7)(F:Ct):Prop:=∀{f:Addr}{a:FuncData},Fun Ω.K x x t f a->Ω.cd=none->FnOk Ω.P Ω.w Ω.K Ω.mg Ω.base CX0 k f a ps (spC Ω.K ps.length F)
def aJ(b:Bl Ω)(d:Yc N ps t k b=true)(e:∀(ds:List D)(S:Store)(W:WD),F ds S W->ds.length=ps.length->b.wp (ds.map some++List.replicate (N.length-ds.length) none) S {nx:=λ _ S1=>W .non S1,rt:=W}):OkF Ω x t (k+1) ps F:=λ a c=>ac4 c a b d e
abbrev bC(Ω:Wd)(F:Ct):Prop:=Cal Ω "is_whole" 1 1 F
abbrev az(Ω:Wd)(F:Ct):Prop:=Cal Ω "is_tuple_of" 1 3 F
abbrev dH(Ω:Wd)(F:Ct):Prop:=Cal Ω "is_form" 2 2 F
abbrev bL(Ω:Wd)(F:Ct):Prop:=Cal Ω "comes_to" 1 2 F
abbrev rB(Ω:Wd)(F:Ct):Prop:=Cal Ω "is_bound" 3 2 F
abbrev vB(Ω:Wd)(F:Ct):Prop:=Cal Ω "is_loop" 4 2 F
abbrev kE(Ω:Wd)(F:Ct):Prop:=Cal Ω "is_loops" 5 1 F
abbrev eZ(Ω:Wd)(F:Ct):Prop:=Cal Ω "with_next_count" 2 3 F
abbrev eF(Ω:Wd)(F:Ct):Prop:=Cal Ω "counts_of" 3 1 F
abbrev cL(Ω:Wd)(F:Ct):Prop:=Cal Ω "has_few_figures" 1 1 F
abbrev jx(Ω:Wd)(F:Ct):Prop:=Cal Ω "is_widths" 2 1 F
abbrev gr(Ω:Wd)(F:Ct):Prop:=Cal Ω "is_place_form" 3 2 F
abbrev j7(Ω:Wd)(F:Ct):Prop:=Cal Ω "is_start" 3 2 F
abbrev bJ(Ω:Wd)(F:Ct):Prop:=Cal Ω "is_table_with_place" 4 4 F
abbrev vA(Ω:Wd)(F:Ct):Prop:=Cal Ω "is_read" 5 3 F
abbrev lF(Ω:Wd)(F:Ct):Prop:=Cal Ω "is_reads" 6 3 F
abbrev mH(Ω:Wd)(F:Ct):Prop:=Cal Ω "is_deed" 7 3 F
abbrev vO(Ω:Wd)(F:Ct):Prop:=Cal Ω "is_nest" 8 2 F
abbrev j5(Ω:Wd)(F:Ct):Prop:=Cal Ω "is_nests" 9 2 F
abbrev aV(Ω:Wd)(F:Ct):Prop:=Cal Ω "number_of_steps" 4 1 F
abbrev iH(Ω:Wd)(F:Ct):Prop:=Cal Ω "program_of" 10 2 F
abbrev cu(Ω:Wd)(F:Ct):Prop:=Cal Ω "steps_of" 4 1 F
abbrev cj(Ω:Wd)(F:Ct):Prop:=Cal Ω "deed_of" 1 2 F
abbrev mR(Ω:Wd)(F:Ct):Prop:=Cal Ω "cell_at" 2 3 F
abbrev jD(Ω:Wd)(F:Ct):Prop:=Cal Ω "cells_of_step" 3 2 F
abbrev aZ(Ω:Wd)(F:Ct):Prop:=Cal Ω "cells_of" 5 1 F
abbrev tU(Ω:Wd)(F:Ct):Prop:=Cal Ω "plain" 5 1 F
abbrev jL(Ω:Wd)(F:Ct):Prop:=Cal Ω "is_row" 5 2 F
abbrev bR(Ω:Wd)(F:Ct):Prop:=Cal Ω "refuse_no_row" 6 2 F
abbrev ie(Ω:Wd)(F:Ct):Prop:=Cal Ω "worth_of" 2 4 F
abbrev BR(Ω:Wd)(F:Ct):Prop:=Cal Ω "run" 7 3 F
abbrev fW(Ω:Wd)(F:Ct):Prop:=Cal Ω "trace_held" 1 2 F
abbrev gJ(Ω:Wd)(F:Ct):Prop:=Cal Ω "add_times" 1 3 F
abbrev dO(Ω:Wd)(F:Ct):Prop:=Cal Ω "trace_of_step" 2 4 F
abbrev fX(Ω:Wd)(F:Ct):Prop:=Cal Ω "told_trace" 1 1 F
abbrev ig(Ω:Wd)(F:Ct):Prop:=Cal Ω "traced" 7 2 F
abbrev fL(Ω:Wd)(F:Ct):Prop:=Cal Ω "trace_by" 1 2 F
abbrev gK(Ω:Wd)(F:Ct):Prop:=Cal Ω "unlike_parts" 1 2 F
abbrev cM(Ω:Wd)(F:Ct):Prop:=Cal Ω "showing_filling" 2 2 F
abbrev eG(Ω:Wd)(F:Ct):Prop:=Cal Ω "held_from" 1 2 F
abbrev j4(Ω:Wd)(F:Ct):Prop:=Cal Ω "compared" 8 3 F
abbrev bZ(Ω:Wd)(F:Ct):Prop:=Cal Ω "touched_cells" 1 2 F
abbrev mG(Ω:Wd)(F:Ct):Prop:=Cal Ω "touches" 6 3 F
abbrev rG(Ω:Wd)(F:Ct):Prop:=Cal Ω "pairs" 6 1 F
abbrev sU(Ω:Wd)(F:Ct):Prop:=Cal Ω "is_order" 6 2 F
abbrev eY(Ω:Wd)(F:Ct):Prop:=Cal Ω "refuse_no_order" 7 2 F
abbrev jy(Ω:Wd)(F:Ct):Prop:=Cal Ω "places_of" 1 1 F
abbrev gW(Ω:Wd)(F:Ct):Prop:=Cal Ω "broken" 8 2 F
abbrev zQ(Ω:Wd)(F:Ct):Prop:=Cal Ω "led" 9 2 F
abbrev iZ(Ω:Wd)(F:Ct):Prop:=Cal Ω "_law_cell" 1 2 F
abbrev Ak(Ω:Wd)(F:Ct):Prop:=Cal Ω "_law_pen" 2 2 F
abbrev bu(Ω:Wd)(F:Ct):Prop:=Cal Ω "_law_take" 2 2 F
abbrev oN(Ω:Wd)(F:Ct):Prop:=Cal Ω "_law_form" 3 3 F
abbrev mq(Ω:Wd)(F:Ct):Prop:=Cal Ω "_law_loops" 3 2 F
abbrev pA(Ω:Wd)(F:Ct):Prop:=Cal Ω "_law_deed" 4 3 F
abbrev mz(Ω:Wd)(F:Ct):Prop:=Cal Ω "_law_program" 5 2 F
abbrev gC(Ω:Wd)(F:Ct):Prop:=Cal Ω "_law_at" 1 2 F
abbrev jJ(Ω:Wd)(F:Ct):Prop:=Cal Ω "_law_counts" 2 1 F
abbrev oF(Ω:Wd)(F:Ct):Prop:=Cal Ω "_law_spot" 2 3 F
abbrev sI(Ω:Wd)(F:Ct):Prop:=Cal Ω "_law_steps" 3 1 F
abbrev tY(Ω:Wd)(F:Ct):Prop:=Cal Ω "_law_touch" 1 2 F
abbrev jF(Ω:Wd)(F:Ct):Prop:=Cal Ω "_law_traces" 1 2 F
abbrev wO(Ω:Wd)(F:Ct):Prop:=Cal Ω "_law_same" 2 3 F
abbrev iQ(Ω:Wd)(F:Ct):Prop:=Cal Ω "_law_ends_right" 9 4 F
abbrev gO(Ω:Wd)(F:Ct):Prop:=Cal Ω "_law_turned_right" 10 4 F
section
variable{Ω:Wd}
abbrev dl:Ex Ω:=eN 0
abbrev ld:Ex Ω:=eN 1
abbrev lK:Ex Ω:=eN 2
abbrev qd:Ex Ω:=eN 3
abbrev qy:Ex Ω:=eN 4
abbrev qG:Ex Ω:=eN 5
abbrev qH:Ex Ω:=eN 6
abbrev uJ:Ex Ω:=eN 7
abbrev uL:Ex Ω:=eN 8
abbrev uN:Ex Ω:=il 0
abbrev uU:Ex Ω:=il 1
abbrev vm:Ex Ω:=il 2
abbrev xA:Ex Ω:=il 3
abbrev rT:=top 1
abbrev IK:af7:=["thing"]
def Ha(B:%[|2]):Bl Ω:=
 fM (sy (aet (aen (aeN B.isinstance_ dl .int B.int_) (aer (afc (aeN B.isinstance_ dl .bool B.bool_)))))) lO
abbrev mj:=top 2
abbrev yI:af7:=["thing","least","most"]
def xW(B:%[|2]):Bl Ω:=
 fM (sy (aet (aen (aeN B.isinstance_ dl .tuple B.tuple_) (aer (Ex.ch2 ld .LtE (FN dR B.len_ (eO dl gk)) .LtE lK))))) lO
abbrev vI:=top 3
abbrev Le:af7:=["thing","d"]
def La(B:%[|2]){pv:Ct}(pE:bC Ω pv){pS:Ct}(pT:az Ω pS):Bl Ω:=
 fM (sy (aet (aen (qb pT (eO dl (eO (vy .Add ld uU) (eO (vy .Add ld uU) gk)))) (aer (FN iR B.all_ (eO (S9 ["number"] [none] (qb pE (eO dl gk)) (Tg.nm 0) (aek dl) aem) gk)))))) lO
abbrev rH:=top 4
abbrev Jw:af7:=["form","counts"]
def Hr(B:%[|2]):Bl Ω:=
 fM (sy (vy .Add (qi dl uN) (FN xT B.sum_ (eO (S9 ["number","count"] [none,none] (vy .Mult dl ld) (Tg.tup [0,1]) (ae6 B.zip_ (aeJ dl (Po.so uU) Po.no) ld) aem) gk)))) lO
abbrev rR:=top 5
def Ax(B:%[|2]){pV:Ct}(qa:dH Ω pV):Bl Ω:=
 fM (sy (aet (aen (Ex.ch2 (aeE (il 9)) .LtE (qi dl uN) .LtE (il 9)) (aer (FN iR B.all_ (eO (S9 ["number"] [none] (Ex.ch2 (aeE vm) .LtE dl .LtE vm) (Tg.nm 0) (aek (aeJ dl (Po.so uU) Po.no)) aem) gk)))))) lO
def Hg(B:%[|2]){pV:Ct}(qa:dH Ω pV):Bl Ω:=
 fM (Hh (aes (aeq (qb qa %[|42]))) %[|55] lO) (Ax B qa)
abbrev vH:=top 6
def Mj{pS:Ct}(pT:az Ω pS){qc:Ct}(qf:rB Ω qc):Bl Ω:=
 fM (sy (aet (aen (qb pT (eO dl (eO vm (eO vm gk)))) (aen (qb qf (eO (qi dl uN) (eO ld gk))) (aer (qb qf (eO (qi dl uU) (eO ld gk)))))))) lO
abbrev sX:=top 7
def Jm(B:%[|2]){pS:Ct}(pT:az Ω pS){qh:Ct}(qk:vB Ω qh):Bl Ω:=
 fM (sy (aet (aen (qb pT (eO dl (eO uU (eO xA gk)))) (aer (FN iR B.all_ (eO (S9 ["k","loop"] [none,none] (qb qk (eO ld (eO dl gk))) (Tg.tup [0,1]) (aeR B.enumerate_ dl) aem) gk)))))) lO
abbrev iy:=top 8
abbrev qe:af7:=["ahead","low","high","longer","counts","count"]
abbrev qx:af7:=["ahead","low","high"]
section
variable(B:%[|2]){qo:Ct}(qq:bL Ω qo)
def nT(B:%[|2]){qo:Ct}(qq:bL Ω qo):Bl Ω:=
 fM (sy qd) lO
def nD:Bl Ω:=
 fM (aev (Tg.nm 4) dl (fM (aey (Tg.nm 5) (aeK B.range_ (qb qq (eO ld (eO qy gk))) (qb qq (eO lK (eO qy gk)))) (fM (aeo (aej qd (vy .Add qy (Hc (eO qG gk))))) lO)) lO)) (nT B qq)
def qg:Bl Ω:=
 fM (qj 3 (Ex.own gk)) (nD B qq)
end
abbrev pP:=top 9
abbrev Fd:af7:=["loops","told","low","high"]
abbrev El:af7:=["loops"]
section
variable{qr:Ct}(qs:eZ Ω qr)
def xu{qr:Ct}(qs:eZ Ω qr):Bl Ω:=
 fM (sy ld) lO
def xH:Bl Ω:=
 fM (aev (Tg.tup [2,3]) dl (fM (qj 1 (qb qs (eO ld (eO lK (eO qd gk))))) lO)) (xu qs)
def Er:Bl Ω:=
 fM (qj 1 (aep (eO (Hc gk) gk))) (xH qs)
end
abbrev iB:=top 17
abbrev qp:af7:=["number"]
def qK(B:%[|2]):Bl Ω:=
 fM (sy (aeB .Lt (FN aaS B.abs_ (eO dl gk)) (vy .Pow (il 10) (il 30)))) lO
abbrev pW:=top 18
def Fo(B:%[|2]){pv:Ct}(pE:bC Ω pv){pS:Ct}(pT:az Ω pS):Bl Ω:=
 fM (sy (aet (aen (qb pT (eO dl (eO uU (eO xA gk)))) (aer (FN iR B.all_ (eO (S9 ["width"] [none] (aet (aen (qb pE (eO dl gk)) (aer (Ex.ch2 uU .LtE dl .LtE vm)))) (Tg.nm 0) (aek dl) aem) gk)))))) lO
abbrev jC:=top 19
def vg(B:%[|2]){pV:Ct}(qa:dH Ω pV):Bl Ω:=
 fM (sy (aet (aen (qb qa %[|42]) (aer (FN iR B.all_ (eO (S9 ["number"] [none] (Ex.ch2 (aeE (il 99)) .LtE dl .LtE (il 99)) (Tg.nm 0) (aek dl) aem) gk)))))) lO
abbrev sS:=top 20
def Hl(B:%[|2]){pV:Ct}(qa:dH Ω pV){qv:Ct}(qA:cL Ω qv):Bl Ω:=
 fM (sy (aet (aen (qb qa %[|42]) (aer (FN iR B.all_ (eO (S9 ["number"] [none] (qb qA (eO dl gk)) (Tg.nm 0) (aek dl) aem) gk)))))) lO
abbrev gn:=top 21
abbrev lQ:af7:=["table","place","widths","d"]
def jH(B:%[|2]){pv:Ct}(pE:bC Ω pv){pS:Ct}(pT:az Ω pS){qB:Ct}(qE:gr Ω qB):Bl Ω:=
 fM (sy (aet (aen (qb pT (eO ld (eO (qi lK dl) (eO (qi lK dl) gk)))) (aer (FN iR B.all_ (eO (S9 ["form","d"] [none,some 3] (qb qE %[|42]) (Tg.nm 0) (aek ld) aem) gk)))))) lO
def lN(B:%[|2]){pv:Ct}(pE:bC Ω pv){pS:Ct}(pT:az Ω pS){qB:Ct}(qE:gr Ω qB):Bl Ω:=
 fM (Hh (aeH (aew (aes (aeq (qb pE (eO dl gk)))) (aeA (aes (Te.ch2 uN .LtE dl .Lt (FN dR B.len_ (eO lK gk))))))) %[|55] lO) (jH B pE pT qE)
abbrev vM:=top 22
abbrev Ms:af7:=["thing","widths","d"]
section
variable{pv:Ct}(pE:bC Ω pv){pS:Ct}(pT:az Ω pS){qv:Ct}(qA:cL Ω qv){qS:Ct}(qV:bJ Ω qS)
def DR{pv:Ct}(pE:bC Ω pv){pS:Ct}(pT:az Ω pS){qv:Ct}(qA:cL Ω qv){qS:Ct}(qV:bJ Ω qS):Bl Ω:=
 fM (sy (qb qV (eO (qi dl uU) (eO (qi dl vm) (eO ld (eO lK gk)))))) lO
def Fe:Bl Ω:=
 fM (Hh (aeH (aew (aes (aeq (qb pE (eO (qi dl uN) gk)))) (aeA (aes (aeq (qb qA (eO (qi dl uN) gk))))))) %[|55] lO) (DR pE pT qA qV)
def LR:Bl Ω:=
 fM (Hh (aes (aeq (qb pT (eO dl (eO xA (eO xA gk)))))) %[|55] lO) (Fe pE pT qA qV)
end
abbrev tH:=top 23
def Hz(B:%[|2]){pS:Ct}(pT:az Ω pS){r0:Ct}(r6:vA Ω r0):Bl Ω:=
 fM (sy (aet (aen (qb pT (eO dl (eO uN (eO xA gk)))) (aer (FN iR B.all_ (eO (S9 ["read","widths","d"] [none,some 1,some 2] (qb r6 (eO dl (eO ld (eO lK gk)))) (Tg.nm 0) (aek dl) aem) gk)))))) lO
abbrev vK:=top 24
section
variable{pS:Ct}(pT:az Ω pS){r9:Ct}(re:j7 Ω r9){qS:Ct}(qV:bJ Ω qS){rf:Ct}(rg:lF Ω rf)
def Em{pS:Ct}(pT:az Ω pS){r9:Ct}(re:j7 Ω r9){qS:Ct}(qV:bJ Ω qS){rf:Ct}(rg:lF Ω rf):Bl Ω:=
 fM (sy (aet (aen (qb re (eO (qi dl vm) (eO lK gk))) (aer (qb rg (eO (qi dl xA) (eO ld (eO lK gk)))))))) lO
def Ej:Bl Ω:=
 fM (Hh (aes (aeq (qb qV (eO (qi dl uN) (eO (qi dl uU) (eO ld (eO lK gk))))))) %[|55] lO) (Em pT re qV rg)
def Mt:Bl Ω:=
 fM (Hh (aes (aeq (qb pT (eO dl (eO (il 4) (eO (il 4) gk)))))) %[|55] lO) (Ej pT re qV rg)
end
abbrev vG:=top 25
abbrev Mg:af7:=["thing","widths"]
section
variable(B:%[|2]){pS:Ct}(pT:az Ω pS){rh:Ct}(rl:kE Ω rh){ro:Ct}(rp:mH Ω ro)
def Ef(B:%[|2]){pS:Ct}(pT:az Ω pS){rh:Ct}(rl:kE Ω rh){ro:Ct}(rp:mH Ω ro):Bl Ω:=
 fM (sy (aet (aen (qb pT (eO (qi dl uU) (eO uU (eO (il 4) gk)))) (aer (FN iR B.all_ (eO (S9 ["deed","widths","d"] [none,some 1,some 2] (qb rp (eO dl (eO ld (eO lK gk)))) (Tg.nm 0) (aek (qi dl uU)) aem) gk)))))) lO
def DQ:Bl Ω:=
 fM (qj 2 (FN dR B.len_ (eO (qi dl uN) gk))) (Ef B pT rl rp)
def MT:Bl Ω:=
 fM (Hh (aeH (aew (aes (aeq (qb pT (eO dl (eO vm (eO vm gk)))))) (aeA (aes (aeq (qb rl (eO (qi dl uN) gk))))))) %[|55] lO) (DQ B pT rl rp)
end
abbrev rY:=top 26
def JC(B:%[|2]){pS:Ct}(pT:az Ω pS){rq:Ct}(rL:vO Ω rq):Bl Ω:=
 fM (sy (aet (aen (qb pT (eO dl (eO uU (eO xA gk)))) (aer (FN iR B.all_ (eO (S9 ["nest","widths"] [none,some 1] (qb rL %[|42]) (Tg.nm 0) (aek dl) aem) gk)))))) lO
abbrev iu:=top 27
abbrev qC:af7:=["nests"]
def qz(B:%[|2]){rS:Ct}(rV:eF Ω rS):Bl Ω:=
 fM (sy (FN xT B.sum_ (eO (S9 ["loops","deeds"] [none,none] (vy .Mult (FN dR B.len_ (eO (qb rV (eO dl gk)) gk)) (FN dR B.len_ (eO ld gk))) (Tg.tup [0,1]) (aek dl) aem) gk))) lO
abbrev mX:=top 28
abbrev An:af7:=["widths","nests"]
section
variable(B:%[|2]){rX:Ct}(se:jx Ω rX){sf:Ct}(sg:j5 Ω sf){sh:Ct}(sj:aV Ω sh)
def v9(B:%[|2]){rX:Ct}(se:jx Ω rX){sf:Ct}(sg:j5 Ω sf){sh:Ct}(sj:aV Ω sh):Bl Ω:=
 fM (sy (Hc %[|42])) lO
def vY:Bl Ω:=
 fM (Hh (abv .Gt (qb sj (eO ld gk)) (ae5 B.MOST_STEPS_)) (fM Sm.never lO) lO) (v9 B se sg sj)
def v5:Bl Ω:=
 fM (Hh (aes (aeq (qb sg (eO ld (eO dl gk))))) (fM Sm.never lO) lO) (vY B se sg sj)
def Bs:Bl Ω:=
 fM (Hh (aes (aeq (qb se (eO dl gk)))) (fM Sm.never lO) lO) (v5 B se sg sj)
end
abbrev t8:=top 29
abbrev Ji:af7:=["program","steps","nest","loops_and_deeds","counts","deed"]
abbrev Jb:af7:=["program"]
section
variable(B:%[|2]){rS:Ct}(rV:eF Ω rS)
def BP(B:%[|2]){rS:Ct}(rV:eF Ω rS):Bl Ω:=
 fM (sy ld) lO
def zg:Bl Ω:=
 fM (aey (Tg.tup [2,3]) (aeR B.enumerate_ (qi dl uU)) (fM (aev (Tg.nm 4) (qb rV (eO (qi qd uN) gk)) (fM (aey (Tg.nm 5) (aeu B.range_ (FN dR B.len_ (eO (qi qd uU) gk))) (fM (aeo (aej ld (Hc (eO lK (eO qy (eO qG gk)))))) lO)) lO)) lO)) (BP B rV)
def Ku:Bl Ω:=
 fM (qj 1 (Ex.own gk)) (zg B rV)
end
abbrev vo:=top 30
abbrev KZ:af7:=["program","step"]
def K5:Bl Ω:=
 fM (sy (qi (qi (qi (qi dl uU) (qi ld uN)) uU) (qi ld vm))) lO
abbrev vP:=top 31
abbrev MN:af7:=["table","place","counts"]
def Lh(B:%[|2]){qo:Ct}(qq:bL Ω qo):Bl Ω:=
 fM (sy (Hc (eO dl (eO (ael cH B.tuple_ (eO (S9 ["form","counts"] [none,some 2] (qb qq %[|42]) (Tg.nm 0) (aek ld) aem) gk)) gk)))) lO
abbrev jz:=top 32
abbrev uY:af7:=["program","step","counts","deed","reads"]
section
variable{sk:Ct}(sn:cj Ω sk){ss:Ct}(sv:mR Ω ss)
def qm{sk:Ct}(sn:cj Ω sk){ss:Ct}(sv:mR Ω ss):Bl Ω:=
 fM (sy (Hc (eO (qb sv (eO (qi qd uN) (eO (qi qd uU) (eO lK gk)))) (eO qy gk)))) lO
def qO:Bl Ω:=
 fM (aeY 4 ["factor","table","place","counts"] [none,none,none,some 2] (qb sv (eO ld (eO lK (eO qd gk)))) (Tg.tup [0,1,2]) (aek (qi qd xA)) aem) (qm sn sv)
def qw:Bl Ω:=
 fM (qj 3 (qb sn %[|42])) (qO sn sv)
def uQ:Bl Ω:=
 fM (qj 2 (qi ld uU)) (qw sn sv)
end
abbrev rC:=top 33
def GC{sw:Ct}(sx:cu Ω sw){sA:Ct}(sB:jD Ω sA):Bl Ω:=
 fM (sy (S9 ["step","program"] [none,some 0] (qb sB (eO ld (eO dl gk))) (Tg.nm 0) (aek (qb sx (eO dl gk))) aem)) lO
abbrev CN:=top 35
def Up(B:%[|2]){sh:Ct}(sj:aV Ω sh):Bl Ω:=
 fM (sy (afb B.range_ B.list_ (qb sj (eO (qi dl uU) gk)))) lO
abbrev yU:=top 36
abbrev QM:af7:=["program","thing","number"]
abbrev QZ:af7:=["program","thing"]
section
variable(B:%[|2]){pv:Ct}(pE:bC Ω pv){sh:Ct}(sj:aV Ω sh)
def Ke(B:%[|2]){pv:Ct}(pE:bC Ω pv){sh:Ct}(sj:aV Ω sh):Bl Ω:=
 fM (sy (aeB .Eq (Ex.lset B.len_ B.set_ ld) (FN dR B.len_ (eO ld gk)))) lO
def Gk:Bl Ω:=
 fM (Hh (aes (aeq (FN iR B.all_ (eO (S9 ["step","number"] [none,some 2] (aet (aen (qb pE (eO dl gk)) (aer (Ex.ch2 uN .LtE dl .Lt ld)))) (Tg.nm 0) (aek ld) aem) gk)))) %[|55] lO) (Ke B pE sj)
def G6:Bl Ω:=
 fM (qj 2 (qb sj (eO (qi dl uU) gk))) (Gk B pE sj)
def Qo:Bl Ω:=
 fM (Hh (aes (aeq (aeN B.isinstance_ ld .list B.list_))) %[|55] lO) (G6 B pE sj)
end
abbrev jE:=top 37
abbrev uV:af7:=["program","row"]
def vf{sC:Ct}(sD:jL Ω sC):Bl Ω:=
 fM (Hh (aes (aeq (qb sD %[|42]))) (fM Sm.never lO) lO) lO
abbrev rF:=top 38
abbrev GJ:af7:=["deed","counts","cells","held","worth","read","cell"]
abbrev HN:af7:=["deed","counts","cells","held"]
section
variable(B:%[|2]){qo:Ct}(qq:bL Ω qo)
def BJ(B:%[|2]){qo:Ct}(qq:bL Ω qo):Bl Ω:=
 fM (sy qy) lO
def zm:Bl Ω:=
 fM (aey (Tg.tup [5,6]) (aeT B.zip_ (qi dl xA) lK) (fM (ae2 4 .Add (aeF (qi qG uN) (aex qd qH uN))) lO)) (BJ B qq)
def Jh:Bl Ω:=
 fM (qj 4 (qb qq (eO (qi dl vm) (eO ld gk)))) (zm B qq)
end
abbrev M6:=top 39
abbrev Zh:af7:=["program","row","filling","steps","cells","held","ends","number","step","worth"]
abbrev YL:af7:=["program","row","filling"]
section
variable(B:%[|2]){sw:Ct}(sx:cu Ω sw){sk:Ct}(sn:cj Ω sk){sF:Ct}(sK:aZ Ω sF){sL:Ct}(sM:bR Ω sL){sN:Ct}(sP:ie Ω sN)
def Hx(B:%[|2]){sw:Ct}(sx:cu Ω sw){sk:Ct}(sn:cj Ω sk){sF:Ct}(sK:aZ Ω sF){sL:Ct}(sM:bR Ω sL){sN:Ct}(sP:ie Ω sN):Bl Ω:=
 fM (aeC qH (qi (qi qy uJ) uN) (eN 9)) lO
def KD:Bl Ω:=
 fM (aeC qG (qi (qi qy uJ) uN) (eN 9)) (Hx B sx sn sK sM sP)
def Ir:Bl Ω:=
 fM (qj 9 (qb sP (eO (qb sn (eO dl (eO uL gk))) (eO (qi uL uU) (eO (qi (qi qy uJ) uU) (eO qG gk)))))) (KD B sx sn sK sM sP)
def Ql:Bl Ω:=
 fM (qj 8 (qi qd uJ)) (Ir B sx sn sK sM sP)
def RL(B:%[|2]){sw:Ct}(sx:cu Ω sw){sk:Ct}(sn:cj Ω sk){sF:Ct}(sK:aZ Ω sF){sL:Ct}(sM:bR Ω sL){sN:Ct}(sP:ie Ω sN):Bl Ω:=
 fM (sy qH) lO
def Td:Bl Ω:=
 fM (aev (Tg.nm 7) ld (Ql B sx sn sK sM sP)) (RL B sx sn sK sM sP)
def U0:Bl Ω:=
 fM (qj 6 aeD) (Td B sx sn sK sM sP)
def Uc:Bl Ω:=
 fM (qj 5 (ael UJ B.dict_ (eO lK gk))) (U0 B sx sn sK sM sP)
def UV:Bl Ω:=
 fM (qj 4 (qb sK (eO dl gk))) (Uc B sx sn sK sM sP)
def Uu:Bl Ω:=
 fM (qj 3 (qb sx (eO dl gk))) (UV B sx sn sK sM sP)
def ZD:Bl Ω:=
 fM (aeo (qb sM %[|42])) (Uu B sx sn sK sM sP)
end
abbrev m6:=top 41
abbrev Bx:af7:=["cell","held"]
def Ao:Bl Ω:=
 fM (sy (aex ld dl (Hc (eO uN (eO (aeS dl uU) gk))))) lO
abbrev pR:=top 42
abbrev Fp:af7:=["factors","factor","more","cell","number"]
abbrev Ez:af7:=["factors","factor","more"]
def FP:Bl Ω:=
 fM (aeZ (Tg.tup [3,4]) lK (fM (aeC dl qd (vy .Add (aex dl qd uN) (aeF ld qy))) lO)) lO
abbrev jB:=top 43
abbrev uO:af7:=["deed","counts","cells","held","number","factors","read","cell","trace"]
section
variable(B:%[|2]){qo:Ct}(qq:bL Ω qo){sQ:Ct}(sR:fW Ω sQ){sT:Ct}(t4:gJ Ω sT)
def mQ(B:%[|2]){qo:Ct}(qq:bL Ω qo){sQ:Ct}(sR:fW Ω sQ){sT:Ct}(t4:gJ Ω sT):Bl Ω:=
 fM (aeo (qb t4 (eO qG (eO (qi qH uN) (eO (qi uL uU) gk))))) lO
def mD:Bl Ω:=
 fM (ae2 4 .Add (aeF (qi qH uN) (qi uL uN))) (mQ B qq sR t4)
def pq:Bl Ω:=
 fM (qj 8 (qb sR (eO uJ (eO qd gk)))) (mD B qq sR t4)
def qu(B:%[|2]){qo:Ct}(qq:bL Ω qo){sQ:Ct}(sR:fW Ω sQ){sT:Ct}(t4:gJ Ω sT):Bl Ω:=
 fM (sy (Hc (eO qy (eO qG gk)))) lO
def qJ:Bl Ω:=
 fM (aey (Tg.tup [6,7]) (aeT B.zip_ (qi dl xA) lK) (pq B qq sR t4)) (qu B qq sR t4)
def qD:Bl Ω:=
 fM (qj 5 aeD) (qJ B qq sR t4)
def uP:Bl Ω:=
 fM (qj 4 (qb qq (eO (qi dl vm) (eO ld gk)))) (qD B qq sR t4)
end
abbrev nC:=top 44
abbrev Ai:af7:=["trace","factors"]
abbrev Aa:af7:=["trace"]
def wg(B:%[|2]):Bl Ω:=
 fM (sy (Hc (eO (qi dl uN) (eO (S9 ["cell","factors"] [none,some 1] (Hc (eO dl (eO (aeI ld dl) gk))) (Tg.nm 0) (aek (FN SJ B.sorted_ (eO ld gk))) (Cd.so (abv .NotEq (aeI ld dl) uN))) gk)))) lO
def BK(B:%[|2]):Bl Ω:=
 fM (qj 1 (qi dl uU)) (wg B)
abbrev yC:=top 45
abbrev PB:af7:=["program","row","steps","cells","held","number","step","told","cell","trace"]
section
variable{sw:Ct}(sx:cu Ω sw){sk:Ct}(sn:cj Ω sk){sF:Ct}(sK:aZ Ω sF){sL:Ct}(sM:bR Ω sL){t5:Ct}(t9:dO Ω t5){td:Ct}(tj:fX Ω td)
def xY{sw:Ct}(sx:cu Ω sw){sk:Ct}(sn:cj Ω sk){sF:Ct}(sK:aZ Ω sF){sL:Ct}(sM:bR Ω sL){t5:Ct}(t9:dO Ω t5){td:Ct}(tj:fX Ω td):Bl Ω:=
 fM (aeC qy (qi (qi qd qG) uN) (qb t9 (eO (qb sn (eO dl (eO qH gk))) (eO (qi qH uU) (eO (qi (qi qd qG) uU) (eO qy gk)))))) lO
def DP:Bl Ω:=
 fM (qj 6 (qi lK qG)) (xY sx sn sK sM t9 tj)
def Iz{sw:Ct}(sx:cu Ω sw){sk:Ct}(sn:cj Ω sk){sF:Ct}(sK:aZ Ω sF){sL:Ct}(sM:bR Ω sL){t5:Ct}(t9:dO Ω t5){td:Ct}(tj:fX Ω td):Bl Ω:=
 fM (sy uJ) lO
def Kr:Bl Ω:=
 fM (aeZ (Tg.tup [8,9]) qy (fM (aeC uJ uL (qb tj (eO (eN 9) gk))) lO)) (Iz sx sn sK sM t9 tj)
def Kd:Bl Ω:=
 fM (qj 7 aeD) (Kr sx sn sK sM t9 tj)
def Hq:Bl Ω:=
 fM (aev (Tg.nm 5) ld (DP sx sn sK sM t9 tj)) (Kd sx sn sK sM t9 tj)
def Je:Bl Ω:=
 fM (qj 4 aeD) (Hq sx sn sK sM t9 tj)
def Jz:Bl Ω:=
 fM (qj 3 (qb sK (eO dl gk))) (Je sx sn sK sM t9 tj)
def Hk:Bl Ω:=
 fM (qj 2 (qb sx (eO dl gk))) (Jz sx sn sK sM t9 tj)
def QW:Bl Ω:=
 fM (aeo (qb sM %[|42])) (Hk sx sn sK sM t9 tj)
end
abbrev rK:=top 47
abbrev JK:af7:=["traces","cell"]
def HQ:Bl Ω:=
 fM (sy (aex dl ld (Hc (eO uN (eO (aep (eO (Hc (eO ld (eO uU gk))) gk)) gk))))) lO
abbrev kj:=top 48
abbrev wI:af7:=["parts","others","factors","other_factors","cells"]
abbrev vU:af7:=["parts","others"]
section
variable(B:%[|2])
def rW(B:%[|2]):Bl Ω:=
 fM (sy (S9 ["cell","factors","other_factors"] [none,some 2,some 3] dl (Tg.nm 0) (aek qy) (Cd.so (abv .NotEq (aex ld dl uN) (aex lK dl uN))))) lO
def sG:Bl Ω:=
 fM (qj 4 (aeV B.sorted_ B.set_ 2 3)) (rW B)
def qZ:Bl Ω:=
 fM (qj 3 (ael Ug B.dict_ (eO ld gk))) (sG B)
def wB:Bl Ω:=
 fM (qj 2 (ael Ug B.dict_ (eO dl gk))) (qZ B)
end
abbrev iw:=top 49
abbrev pZ:af7:=["trace","other"]
def m8{tm:Ct}(tq:gK Ω tm):Bl Ω:=
 fM (sy (aeS (qi (qb tq (eO (qi dl uU) (eO (qi ld uU) gk))) uN) uU)) lO
def qN{tm:Ct}(tq:gK Ω tm):Bl Ω:=
 fM (Hh (abv .NotEq (qi dl uN) (qi ld uN)) (fM (sy aeD) lO) lO) (m8 tq)
abbrev pY:=top 50
abbrev Fj:af7:=["filling","trace"]
def Eo(B:%[|2]):Bl Ω:=
 fM (sy (vy .Add (qi ld uN) (FN xT B.sum_ (eO (S9 ["cell","factor","filling"] [none,none,some 0] (aeF ld (aex lK dl uN)) (Tg.tup [0,1]) (aek (qi ld uU)) aem) gk)))) lO
abbrev sE:=top 51
abbrev JX:af7:=["program","row","other","traces","other_traces","cell","by_one","by_other","filling"]
abbrev Iv:af7:=["program","row","other"]
section
variable(B:%[|2]){tt:Ct}(tv:ig Ω tt){tw:Ct}(tx:fL Ω tw){tz:Ct}(tF:cM Ω tz){tI:Ct}(tJ:eG Ω tI)
def uT(B:%[|2]){tt:Ct}(tv:ig Ω tt){tw:Ct}(tx:fL Ω tw){tz:Ct}(tF:cM Ω tz){tI:Ct}(tJ:eG Ω tI):Bl Ω:=
 fM (sy (Hc (eO (Ex.str "unlike") (eO uL (eO qG (eO (qb tJ (eO uL (eO qH gk))) (eO (qb tJ (eO uL (eO uJ gk))) gk))))))) lO
def yL:Bl Ω:=
 fM (qj 8 (qb tF (eO qH (eO uJ gk)))) (uT B tv tx tF tJ)
def uM(B:%[|2]){tt:Ct}(tv:ig Ω tt){tw:Ct}(tx:fL Ω tw){tz:Ct}(tF:cM Ω tz){tI:Ct}(tJ:eG Ω tI):Bl Ω:=
 fM (Hh (abv .NotEq qH uJ) (yL B tv tx tF tJ) lO) lO
def uK:Bl Ω:=
 fM (qj 7 (qb tx (eO qy (eO qG gk)))) (uM B tv tx tF tJ)
def yP:Bl Ω:=
 fM (qj 6 (qb tx (eO qd (eO qG gk)))) (uK B tv tx tF tJ)
def zG(B:%[|2]){tt:Ct}(tv:ig Ω tt){tw:Ct}(tx:fL Ω tw){tz:Ct}(tF:cM Ω tz){tI:Ct}(tJ:eG Ω tI):Bl Ω:=
 fM (sy (Hc (eO (Ex.str "alike") gk))) lO
def Aj:Bl Ω:=
 fM (aev (Tg.nm 5) (aeV B.sorted_ B.set_ 3 4) (yP B tv tx tF tJ)) (zG B tv tx tF tJ)
def zO:Bl Ω:=
 fM (qj 4 (qb tv (eO dl (eO lK gk)))) (Aj B tv tx tF tJ)
def Gy:Bl Ω:=
 fM (qj 3 (qb tv %[|42])) (zO B tv tx tF tJ)
end
abbrev jA:=top 53
abbrev vh:af7:=["one","other","told"]
abbrev uR:af7:=["one","other"]
section
variable(B:%[|2])
def iD(B:%[|2]):Bl Ω:=
 fM (sy (ae4 B.sorted_ B.set_ lK)) lO
def iC:Bl Ω:=
 fM (Hh (abv .In (qi ld uN) (qi dl uU)) (fM (aeo (aej lK (qi ld uN))) lO) lO) (iD B)
def qI:Bl Ω:=
 fM (Hh (aeH (aew (abv .Eq (qi dl uN) (qi ld uN)) (aeA (abv .In (qi dl uN) (qi ld uU))))) (fM (aeo (aej lK (qi dl uN))) lO) lO) (iC B)
def uZ:Bl Ω:=
 fM (qj 2 (Ex.own gk)) (qI B)
end
abbrev vN:=top 54
abbrev Mf:af7:=["program","i","j","cells"]
abbrev Mi:af7:=["program","i","j"]
def Fl{sF:Ct}(sK:aZ Ω sF){tN:Ct}(tP:bZ Ω tN):Bl Ω:=
 fM (sy (aet (aen (aeB .NotEq ld lK) (aer (aeB .NotEq (qb tP (eO (qi qd ld) (eO (qi qd lK) gk))) (aep gk)))))) lO
def LK{sF:Ct}(sK:aZ Ω sF){tN:Ct}(tP:bZ Ω tN):Bl Ω:=
 fM (qj 3 (qb sK (eO dl gk))) (Fl sK tP)
abbrev Dl:=top 55
abbrev Uz:af7:=["program","cells","told","i","j","touched"]
section
variable(B:%[|2]){sF:Ct}(sK:aZ Ω sF){tN:Ct}(tP:bZ Ω tN)
def Bp(B:%[|2]){sF:Ct}(sK:aZ Ω sF){tN:Ct}(tP:bZ Ω tN):Bl Ω:=
 fM (Hh (ae8 qG) (fM (aeo (aej lK (Hc (eO qd (eO qy (eO qG gk)))))) lO) lO) lO
def KH:Bl Ω:=
 fM (qj 5 (qb tP (eO (qi ld qd) (eO (qi ld qy) gk)))) (Bp B sK tP)
def Mq(B:%[|2]){sF:Ct}(sK:aZ Ω sF){tN:Ct}(tP:bZ Ω tN):Bl Ω:=
 fM (sy lK) lO
def MF:Bl Ω:=
 fM (aey (Tg.nm 3) (aeu B.range_ (FN dR B.len_ (eO ld gk))) (fM (aey (Tg.nm 4) (aeK B.range_ (vy .Add qd uU) (FN dR B.len_ (eO ld gk))) (KH B sK tP)) lO)) (Mq B sK tP)
def K7:Bl Ω:=
 fM (qj 2 (Ex.own gk)) (MF B sK tP)
def RB:Bl Ω:=
 fM (qj 1 (qb sK (eO dl gk))) (K7 B sK tP)
end
abbrev rP:=top 57
def HX(B:%[|2]){sh:Ct}(sj:aV Ω sh){sC:Ct}(sD:jL Ω sC):Bl Ω:=
 fM (sy (aet (aen (qb sD %[|42]) (aer (aeB .Eq (FN dR B.len_ (eO ld gk)) (qb sj (eO (qi dl uU) gk))))))) lO
abbrev iz:=top 58
abbrev qM:af7:=["program","order"]
def qL{tS:Ct}(tT:sU Ω tS):Bl Ω:=
 fM (Hh (aes (aeq (qb tT %[|42]))) (fM Sm.never lO) lO) lO
abbrev pU:=top 59
abbrev DG:af7:=["order","places","place","step"]
abbrev Ei:af7:=["order"]
section
variable(B:%[|2])
def xZ(B:%[|2]):Bl Ω:=
 fM (sy ld) lO
def yr:Bl Ω:=
 fM (aey (Tg.tup [2,3]) (aeR B.enumerate_ dl) (fM (afa ld qd lK) lO)) (xZ B)
def Es:Bl Ω:=
 fM (qj 1 ae9) (yr B)
end
abbrev xM:=top 60
abbrev Px:af7:=["program","order","places","i","j","cells"]
section
variable{u8:Ct}(ua:rG Ω u8){ub:Ct}(ui:eY Ω ub){uj:Ct}(uk:jy Ω uj)
def Io{u8:Ct}(ua:rG Ω u8){ub:Ct}(ui:eY Ω ub){uj:Ct}(uk:jy Ω uj):Bl Ω:=
 fM (sy Ex.non) lO
def Jk:Bl Ω:=
 fM (aev (Tg.tup [3,4,5]) (qb ua (eO dl gk)) (fM (Hh (abv .Gt (ae3 lK qd) (ae3 lK qy)) (fM (sy (Hc (eO qd (eO qy gk)))) lO) lO) lO)) (Io ua ui uk)
def Ig:Bl Ω:=
 fM (qj 2 (qb uk (eO ld gk))) (Jk ua ui uk)
def QL:Bl Ω:=
 fM (aeo (qb ui %[|42])) (Ig ua ui uk)
end
abbrev Oj:=top 61
abbrev Zy:af7:=["program","order","rest","exchanges","place","step","far"]
def aaq{uu:Ct}(uS:gW Ω uu):Bl Ω:=
 fM (Hh (abv .IsNot (qb uS %[|42]) Ex.non) (fM (sy Ex.non) lO) lO) Bl.never
abbrev Jl:=top 63
abbrev Xq:af7:=["_law_script","_law_k","_law_cell_here"]
abbrev Wh:af7:=["_law_script","_law_k"]
section
variable(B:%[|2])
def PL(B:%[|2]):Bl Ω:=
 fM (sy (vy .Mod (vy .Mult lK (vy .Add (vy .Add (vy .Mod lK (il 65519)) ld) vm)) (il 2147483629))) lO
def xG:Bl Ω:=
 fM (qj 2 (vy .Mod (vy .Mult (vy .Add (vy .Add (vy .Mod lK (il 2147483629)) (vy .Mult (il 6151) ld)) uU) (il 48271)) (il 2147483647))) (PL B)
def xx:Bl Ω:=
 fM (Hh (aeM (aew (abv .Lt ld (FN dR B.len_ (eO dl gk))) (aeA (abv .Eq (vy .Mod (qi dl uN) vm) uN)))) (fM (sy (FN aaS B.abs_ (eO lK gk))) lO) lO) (xG B)
def Ri:Bl Ω:=
 fM (Hh (abv .Gt (FN dR B.len_ (eO dl gk)) uN) (fM (qj 2 (qi dl (vy .Mod ld (FN dR B.len_ (eO dl gk))))) lO) lO) (xx B)
def VG:Bl Ω:=
 fM (qj 2 (il 7)) (Ri B)
end
abbrev Oc:=top 64
def aaD{vc:Ct}(ve:iZ Ω vc):Bl Ω:=
 fM (sy (Ex.own (eO (qb ve %[|42]) (eO ld (eO dl gk))))) lO
abbrev HH:=top 65
abbrev Wq:af7:=["_law_pen_here","_law_many","_law_digit"]
abbrev VF:af7:=["_law_pen_here","_law_many"]
section
variable{vc:Ct}(ve:iZ Ω vc)
def Dz{vc:Ct}(ve:iZ Ω vc):Bl Ω:=
 fM (aeL dl uN (qb ve (eO (qi dl vm) (eO (qi dl uU) gk)))) lO
def Mv:Bl Ω:=
 fM (aeL dl uU (vy .Add (qi dl uU) uU)) (Dz ve)
def Qc{vc:Ct}(ve:iZ Ω vc):Bl Ω:=
 fM (sy lK) lO
def Rc:Bl Ω:=
 fM (Hh (abv .Eq (qi dl uN) uN) (Mv ve) lO) (Qc ve)
def PN:Bl Ω:=
 fM (aeL dl uN (aeP (qi dl uN) ld)) (Rc ve)
def W0:Bl Ω:=
 fM (qj 2 (vy .Mod (qi dl uN) ld)) (PN ve)
end
abbrev HR:=top 66
abbrev We:af7:=["_law_pen_here","_law_many","_law_wide","_law_found","_law_k"]
abbrev Xw:af7:=["_law_pen_here","_law_many","_law_wide"]
section
variable(B:%[|2]){vi:Ct}(vj:bu Ω vi)
def Qv(B:%[|2]){vi:Ct}(vj:bu Ω vi):Bl Ω:=
 fM (sy (ael cH B.tuple_ (eO qd gk))) lO
def Rj:Bl Ω:=
 fM (aey (Tg.nm 4) (aeu B.range_ ld) (fM (aeo (aej qd (qi (aep (eO uN (eO uU (eO uU (eO uN (eO (aeE uU) (eO vm (eO uN (eO uU gk))))))))) (qb vj (eO dl (eO (il 8) gk)))))) lO)) (Qv B vj)
def yh:Bl Ω:=
 fM (qj 3 (Ex.own (eO (vy .Sub (qb vj (eO dl (eO (vy .Add (vy .Mult vm lK) uU) gk))) lK) gk))) (Rj B vj)
def Wj:Bl Ω:=
 fM (Hh (aeM (aew (abv .Eq lK uU) (aeA (abv .Eq (qb vj (eO dl (eO (il 16) gk))) (il 9))))) (fM (sy (ael cH B.tuple_ (eO (S9 ["_law_k","_law_pen_here"] [none,some 0] (vy .Sub (qb vj (eO ld (eO (il 199) gk))) (il 99)) (Tg.nm 0) (aeu B.range_ (vy .Add ld uU)) aem) gk))) lO) lO) (yh B vj)
end
abbrev Dh:=top 67
abbrev Um:af7:=["_law_pen_here","_law_most","_law_loops_here","_law_room","_law_before","_law_k","_law_size","_law_low","_law_way","_law_none","_law_ahead","_law_stairs"]
abbrev SM:af7:=["_law_pen_here","_law_most"]
section
variable(B:%[|2]){vi:Ct}(vj:bu Ω vi)
def Aw(B:%[|2]){vi:Ct}(vj:bu Ω vi):Bl Ω:=
 fM (qj 4 Ex.non) lO
def zZ:Bl Ω:=
 fM (qj 6 (qi qy uU)) (Aw B vj)
def z7:Bl Ω:=
 fM (aeo (aej lK (qi (eN 11) uL))) (zZ B vj)
def zx:Bl Ω:=
 fM (aeo (aej (eN 11) (Hc (eO (ael cH B.tuple_ (eO (aez false .Add (aep (eO uN gk)) (eN 10)) gk)) (eO (ael cH B.tuple_ (eO (aez false .Add (aep (eO (FN xT B.sum_ (eO qy gk)) gk)) (eN 9)) gk)) gk))))) (z7 B vj)
def BW:Bl Ω:=
 fM (qj 11 (Ex.own (eO (Hc (eO (ael cH B.tuple_ (eO (aez false .Add (aep (eO (qi qy uN) gk)) (eN 9)) gk)) (eO (ael cH B.tuple_ (eO (aez false .Add (aep (eO uU gk)) (eN 10)) gk)) gk))) gk))) (zx B vj)
def qR:Bl Ω:=
 fM (qj 10 (aez true .Add (aez false .Mult (aep (eO uN gk)) (vy .Sub qG uU)) (aep (eO uU gk)))) (BW B vj)
def Ag(B:%[|2]){vi:Ct}(vj:bu Ω vi):Bl Ω:=
 fM (qj 4 Ex.non) lO
def zX:Bl Ω:=
 fM (aeo (aej lK (Hc (eO (ael cH B.tuple_ (eO (aez false .Add (aep (eO uJ gk)) (eN 10)) gk)) (eO (ael cH B.tuple_ (eO (aez false .Add (aep (eO (vy .Add uJ qH) gk)) (eN 10)) gk)) gk))))) (Ag B vj)
def Ad:Bl Ω:=
 fM (aeL (eN 10) (qb vj (eO dl (eO qG gk))) (qi (aep (eO uU (eO (aeE uU) (eO vm (eO (aeE vm) gk))))) (qb vj (eO dl (eO (il 4) gk))))) (zX B vj)
def lu:Bl Ω:=
 fM (qj 10 (aez true .Mult (aep (eO uN gk)) qG)) (Ad B vj)
def zr(B:%[|2]){vi:Ct}(vj:bu Ω vi):Bl Ω:=
 fM (qj 4 (Hc (eO uJ (eO qH gk)))) lO
def lD:Bl Ω:=
 fM (aeo (aej lK (Hc (eO (ael cH B.tuple_ (eO (aez false .Add (aep (eO uJ gk)) (eN 9)) gk)) (eO (ael cH B.tuple_ (eO (aez false .Add (aep (eO (vy .Add uJ (vy .Mult qH (ael ad9 B.int_ (eO (afe (aen (aeB .Lt uL (il 7)) (aer (aeB .Lt uJ xA)))) gk)))) gk)) (eN 9)) gk)) gk))))) (zr B vj)
def di(B:%[|2]){vi:Ct}(vj:bu Ω vi):Bl Ω:=
 fM (qj 3 (aeP qd qH)) lO
def zE:Bl Ω:=
 fM (Hh (aeM (aew (abv .Lt uL vm) (aew (abv .IsNot qy Ex.non) (aeA (abv .LtE (qi qy uU) qd))))) (qR B vj) (fM (Hh (aeM (aew (abv .Lt uL (il 4)) (aeA (abv .Gt qG uN)))) (lu B vj) (lD B vj)) lO)) (di B vj)
def zz:Bl Ω:=
 fM (qj 9 (aez false .Mult (aep (eO uN gk)) qG)) (zE B vj)
def Ab:Bl Ω:=
 fM (qj 8 (qb vj (eO dl (eO (il 8) gk)))) (zz B vj)
def zu:Bl Ω:=
 fM (qj 7 (vy .Sub (qb vj (eO dl (eO (il 7) gk))) xA)) (Ab B vj)
def tO:Bl Ω:=
 fM (qj 6 (vy .Add uU (qb vj (eO dl (eO (FN ad7 B.min_ (eO (il 4) (eO qd gk))) gk))))) (zu B vj)
def K9(B:%[|2]){vi:Ct}(vj:bu Ω vi):Bl Ω:=
 fM (sy (ael cH B.tuple_ (eO lK gk))) lO
def Ld:Bl Ω:=
 fM (aey (Tg.nm 5) (aeu B.range_ (vy .Add uU (qb vj (eO dl (eO xA gk))))) (Bl.fza (tO B vj))) (K9 B vj)
def Lq:Bl Ω:=
 fM (qj 4 Ex.non) (Ld B vj)
def M3:Bl Ω:=
 fM (qj 3 ld) (Lq B vj)
def TF:Bl Ω:=
 fM (qj 2 (Ex.own gk)) (M3 B vj)
end
abbrev Il:=top 68
abbrev W8:af7:=["_law_pen_here","_law_widths","_law_many","_law_table","_law_place","_law_start","_law_parts","_law_k","_law_other","_law_way","_law_factor"]
abbrev WY:af7:=["_law_pen_here","_law_widths","_law_many"]
section
variable(B:%[|2]){vi:Ct}(vj:bu Ω vi){vk:Ct}(vn:oN Ω vk)
def pN(B:%[|2]){vi:Ct}(vj:bu Ω vi){vk:Ct}(vn:oN Ω vk):Bl Ω:=
 fM (aeo (aej qH (Hc (eO (eN 10) (eO uL (eO (ael cH B.tuple_ (eO (S9 ["_law_j","_law_pen_here","_law_many"] [none,some 0,some 2] (qb vn (eO ld (eO lK (eO uU gk)))) (Tg.nm 0) (aeu B.range_ (qi ld uL)) aem) gk)) gk)))))) lO
def DK:Bl Ω:=
 fM (Hh (abv .Eq (eN 9) (il 7)) (fM (qj 10 (vy .Add (vy .Sub (qb vj (eO dl (eO (vy .Sub (vy .Mult vm (vy .Pow (il 10) (il 30))) uU) gk))) (vy .Pow (il 10) (il 30))) uU)) lO) lO) (pN B vj vn)
def DW:Bl Ω:=
 fM (qj 10 (qi (aep (eO uU (eO (aeE uU) (eO vm (eO xA (eO uN (eO uU (eO (aeE (il 5)) (eO uN gk))))))))) (eN 9))) (DK B vj vn)
def Fg:Bl Ω:=
 fM (qj 9 (qb vj (eO dl (eO (il 8) gk)))) (DW B vj vn)
def vD:Bl Ω:=
 fM (qj 8 (qb vj (eO dl (eO (FN dR B.len_ (eO ld gk)) gk)))) (Fg B vj vn)
def QH(B:%[|2]){vi:Ct}(vj:bu Ω vi){vk:Ct}(vn:oN Ω vk):Bl Ω:=
 fM (sy (Hc (eO qd (eO qy (eO qG (eO (ael cH B.tuple_ (eO qH gk)) gk)))))) lO
def Q6:Bl Ω:=
 fM (aey (Tg.nm 7) (aeu B.range_ (qb vj (eO dl (eO (il 4) gk)))) (vD B vj vn)) (QH B vj vn)
def Qn:Bl Ω:=
 fM (qj 6 (Ex.own gk)) (Q6 B vj vn)
def Q8:Bl Ω:=
 fM (qj 5 (qb vn (eO dl (eO lK (eO (qi (aep (eO uU (eO (il 9) (eO (vy .Sub (vy .Pow (il 10) (il 30)) uU) gk)))) (qb vj (eO dl (eO xA gk)))) gk))))) (Qn B vj vn)
def Pq:Bl Ω:=
 fM (qj 4 (ael cH B.tuple_ (eO (S9 ["_law_k","_law_pen_here","_law_many"] [none,some 0,some 2] (qb vn (eO ld (eO lK (eO uU gk)))) (Tg.nm 0) (aeu B.range_ (qi ld qd)) aem) gk))) (Q8 B vj vn)
def Xi:Bl Ω:=
 fM (qj 3 (qb vj (eO dl (eO (FN dR B.len_ (eO ld gk)) gk)))) (Pq B vj vn)
end
abbrev vJ:=top 69
abbrev Mz:af7:=["_law_pen_here","_law_most","_law_widths","_law_many","_law_nests","_law_k","_law_deeds","_law_loops_here"]
section
variable(B:%[|2]){vi:Ct}(vj:bu Ω vi){vr:Ct}(vt:mq Ω vr){vv:Ct}(vE:pA Ω vv)
def wK(B:%[|2]){vi:Ct}(vj:bu Ω vi){vr:Ct}(vt:mq Ω vr){vv:Ct}(vE:pA Ω vv):Bl Ω:=
 fM (aeo (aej qy (Hc (eO uJ (eO (ael cH B.tuple_ (eO (S9 ["_law_j","_law_pen_here","_law_widths","_law_loops_here"] [none,some 0,some 2,some 7] (qb vE (eO ld (eO lK (eO (FN dR B.len_ (eO qd gk)) gk)))) (Tg.nm 0) (aeu B.range_ qH) aem) gk)) gk))))) lO
def wC:Bl Ω:=
 fM (qj 7 (qb vt (eO dl (eO (FN adY B.max_ (eO uU (eO (aeP (aeP ld qd) qH) gk))) gk)))) (wK B vj vt vE)
def nG:Bl Ω:=
 fM (qj 6 (vy .Add uU (qb vj (eO dl (eO (il 4) gk))))) (wC B vj vt vE)
def Fi(B:%[|2]){vi:Ct}(vj:bu Ω vi){vr:Ct}(vt:mq Ω vr){vv:Ct}(vE:pA Ω vv):Bl Ω:=
 fM (sy (Hc (eO lK (eO (ael cH B.tuple_ (eO qy gk)) gk)))) lO
def Eu:Bl Ω:=
 fM (aey (Tg.nm 5) (aeu B.range_ qd) (nG B vj vt vE)) (Fi B vj vt vE)
def Et:Bl Ω:=
 fM (qj 4 (Ex.own gk)) (Eu B vj vt vE)
def Eb:Bl Ω:=
 fM (qj 3 (vy .Add uU (qb vj (eO dl (eO xA gk))))) (Et B vj vt vE)
def K3:Bl Ω:=
 fM (qj 2 (ael cH B.tuple_ (eO (S9 ["_law_k","_law_pen_here"] [none,some 0] (vy .Add uU (qb vj (eO ld (eO vm gk)))) (Tg.nm 0) (aeu B.range_ (vy .Add uU (qb vj (eO dl (eO xA gk))))) aem) gk))) (Eb B vj vt vE)
end
abbrev Ua:=top 70
abbrev aa3:af7:=["_law_form_here","_law_counts_here"]
def ab0(B:%[|2]):Bl Ω:=
 fM (sy (vy .Add (qi dl uN) (FN xT B.sum_ (eO (S9 ["_law_k","_law_form_here","_law_counts_here"] [none,some 0,some 1] (vy .Mult (qi ld (vy .Add uU dl)) (qi lK dl)) (Tg.nm 0) (aeu B.range_ (FN dR B.len_ (eO ld gk))) aem) gk)))) lO
abbrev yR:=top 71
abbrev Rf:af7:=["_law_loops_here","_law_found","_law_low","_law_high","_law_longer","_law_counts_here","_law_count"]
abbrev P0:af7:=["_law_loops_here"]
section
variable(B:%[|2]){vF:Ct}(vS:gC Ω vF)
def ye(B:%[|2]){vF:Ct}(vS:gC Ω vF):Bl Ω:=
 fM (qj 1 qy) lO
def xO:Bl Ω:=
 fM (aev (Tg.nm 5) ld (fM (aey (Tg.nm 6) (aeK B.range_ (qb vS (eO lK (eO qG gk))) (qb vS (eO qd (eO qG gk)))) (fM (aeo (aej qy (vy .Add qG (Hc (eO qH gk))))) lO)) lO)) (ye B vS)
def Ek:Bl Ω:=
 fM (qj 4 (Ex.own gk)) (xO B vS)
def Ky(B:%[|2]){vF:Ct}(vS:gC Ω vF):Bl Ω:=
 fM (sy ld) lO
def JF:Bl Ω:=
 fM (aev (Tg.tup [2,3]) dl (afd (Ek B vS))) (Ky B vS)
def QX:Bl Ω:=
 fM (qj 1 (aep (eO (Hc gk) gk))) (JF B vS)
end
abbrev Js:=top 72
abbrev Xy:af7:=["_law_table","_law_place","_law_counts_here"]
def Vp(B:%[|2]){vF:Ct}(vS:gC Ω vF):Bl Ω:=
 fM (sy (Hc (eO dl (eO (ael cH B.tuple_ (eO (S9 ["_law_form_here","_law_counts_here"] [none,some 2] (qb vS %[|42]) (Tg.nm 0) (aek ld) aem) gk)) gk)))) lO
abbrev Ds:=top 73
abbrev Vi:af7:=["_law_program_here","_law_steps_here","_law_loops_here","_law_deeds","_law_counts_here","_law_table","_law_place","_law_start","_law_parts","_law_some"]
abbrev SN:af7:=["_law_program_here"]
section
variable{vF:Ct}(vS:gC Ω vF){vT:Ct}(wa:jJ Ω vT){wb:Ct}(wd:oF Ω wb)
def Af{vF:Ct}(vS:gC Ω vF){vT:Ct}(wa:jJ Ω vT){wb:Ct}(wd:oF Ω wb):Bl Ω:=
 fM (aeo (aej ld (Hc (eO (qb wd (eO qG (eO qH (eO qy gk)))) (eO (qb vS (eO uJ (eO qy gk))) (eO (eN 9) gk)))))) lO
def G7:Bl Ω:=
 fM (aeY 9 ["_law_factor","_law_other","_law_there","_law_counts_here"] [none,none,none,some 4] (Hc (eO dl (eO (qb wd (eO ld (eO lK (eO qd gk)))) gk))) (Tg.tup [0,1,2]) (aek uL) aem) (Af vS wa wd)
def KR{vF:Ct}(vS:gC Ω vF){vT:Ct}(wa:jJ Ω vT){wb:Ct}(wd:oF Ω wb):Bl Ω:=
 fM (sy ld) lO
def MP:Bl Ω:=
 fM (aev (Tg.tup [2,3]) (qi dl uU) (fM (aev (Tg.nm 4) (qb wa (eO lK gk)) (fM (aev (Tg.tup [5,6,7,8]) qd (G7 vS wa wd)) lO)) lO)) (KR vS wa wd)
def Rv:Bl Ω:=
 fM (qj 1 (Ex.own gk)) (MP vS wa wd)
end
abbrev Ci:=top 74
abbrev U7:af7:=["_law_one","_law_other"]
def Lz:Bl Ω:=
 fM (sy (aeB .In (qi ld uN) (S9 ["_law_factor","_law_spot_here"] [none,none] ld (Tg.tup [0,1]) (aek (qi dl vm)) aem))) lO
def RW:Bl Ω:=
 fM (Hh (aeH (aew (abv .Eq (qi dl uN) (qi ld uN)) (aeA (abv .In (qi dl uN) (S9 ["_law_factor","_law_spot_here"] [none,none] ld (Tg.tup [0,1]) (aek (qi ld vm)) aem))))) (fM (sy (Ex.bl true)) lO) lO) (Lz)
abbrev yp:=top 75
abbrev Q7:af7:=["_law_steps_here","_law_row","_law_held","_law_t","_law_cell_here","_law_number","_law_parts","_law_whole","_law_factor","_law_spot_here","_law_more","_law_some","_law_other","_law_found"]
abbrev Qd:af7:=["_law_steps_here","_law_row"]
section
variable(B:%[|2])
def yu(B:%[|2]):Bl Ω:=
 fM (ae0 (Tg.nm 12) (eN 11) (fM (aeC uJ (eN 12) (vy .Add (aex uJ (eN 12) uN) (aeF uL (aeI (eN 11) (eN 12))))) lO)) lO
def yq:Bl Ω:=
 fM (qj 5 (vy .Add qG (aeF uL (eN 10)))) (yu B)
def Fx:Bl Ω:=
 fM (aeO [10,11] (aex lK (eN 9) (Hc (eO uN (eO (aeS (eN 9) uU) gk))))) (yq B)
def xJ(B:%[|2]):Bl Ω:=
 fM (aeC lK qy (Hc (eO qG (eO uJ gk)))) lO
def yo:Bl Ω:=
 fM (aev (Tg.tup [8,9]) qH (Fx B)) (xJ B)
def yw:Bl Ω:=
 fM (qj 7 aeD) (yo B)
def FJ:Bl Ω:=
 fM (aeO [4,5,6] (qi dl qd)) (yw B)
def xV(B:%[|2]):Bl Ω:=
 fM (aeC (eN 13) qy (Hc (eO qG (eO (S9 ["_law_spot_here","_law_whole"] [none,some 7] (Hc (eO dl (eO (aeI ld dl) gk))) (Tg.nm 0) (aek (FN SJ B.sorted_ (eO (ael Gn B.list_ (eO uJ gk)) gk))) (Cd.so (abv .NotEq (aeI ld dl) uN))) gk)))) lO
def DN:Bl Ω:=
 fM (aeO [5,7] (aeI lK qy)) (xV B)
def Gi(B:%[|2]):Bl Ω:=
 fM (sy (eN 13)) lO
def Gw:Bl Ω:=
 fM (ae0 (Tg.nm 4) lK (DN B)) (Gi B)
def J1:Bl Ω:=
 fM (qj 13 aeD) (Gw B)
def JN:Bl Ω:=
 fM (aev (Tg.nm 3) ld (FJ B)) (J1 B)
def Qf:Bl Ω:=
 fM (qj 2 aeD) (JN B)
end
abbrev G3:=top 76
abbrev Wb:af7:=["_law_steps_here","_law_row","_law_other","_law_first","_law_second","_law_cell_here","_law_itself"]
abbrev Xa:af7:=["_law_steps_here","_law_row","_law_other"]
section
variable(B:%[|2]){we:Ct}(wf:jF Ω we)
def Fy(B:%[|2]){we:Ct}(wf:jF Ω we):Bl Ω:=
 fM (Hh (abv .NotEq (aex qd qG qH) (aex qy qG qH)) %[|55] lO) lO
def Lg:Bl Ω:=
 fM (qj 6 (Hc (eO uN (eO (aep (eO (Hc (eO qG (eO uU gk))) gk)) gk)))) (Fy B wf)
def Qg(B:%[|2]){we:Ct}(wf:jF Ω we):Bl Ω:=
 fM (sy (Ex.bl true)) lO
def Q9:Bl Ω:=
 fM (aev (Tg.nm 5) (vy .Add (ael Gn B.list_ (eO qd gk)) (ael Gn B.list_ (eO qy gk))) (Lg B wf)) (Qg B wf)
def QS:Bl Ω:=
 fM (qj 4 (qb wf (eO dl (eO lK gk)))) (Q9 B wf)
def Wn:Bl Ω:=
 fM (qj 3 (qb wf %[|42])) (QS B wf)
end
abbrev m7:=top 77
abbrev zy:af7:=["_law_program_here","_law_steps_here","_law_row","_law_other","_law_found","_law_filling","_law_held"]
abbrev BZ:af7:=["_law_program_here","_law_steps_here","_law_row","_law_other"]
section
variable(B:%[|2]){wh:Ct}(wl:BR Ω wh){wm:Ct}(wn:j4 Ω wm){wo:Ct}(wq:wO Ω wo)
def ww(B:%[|2]){wh:Ct}(wl:BR Ω wh){wm:Ct}(wn:j4 Ω wm){wo:Ct}(wq:wO Ω wo):Bl Ω:=
 fM (sy (aeB .Eq (aeU (qb wl (eO dl (eO qd (eO qG gk)))) (qi qy vm) qH) (qi qy (il 4)))) lO
def wA:Bl Ω:=
 fM (Hh (abv .NotEq (aeU (qb wl (eO dl (eO lK (eO qG gk)))) (qi qy vm) qH) (qi qy xA)) %[|55] lO) (ww B wl wn wq)
def wF:Bl Ω:=
 fM (qj 6 (aex qG (qi qy vm) uN)) (wA B wl wn wq)
def wW:Bl Ω:=
 fM (qj 5 (ael UJ B.dict_ (eO (qi qy uU) gk))) (wF B wl wn wq)
def wG:Bl Ω:=
 fM (Hh (aeH (aew (abv .NotEq (qi qy uN) (Ex.str "unlike")) (aeA (abv .Eq (qi qy xA) (qi qy (il 4)))))) %[|55] lO) (wW B wl wn wq)
def wV:Bl Ω:=
 fM (Hh (aeq (qb wq (eO ld (eO lK (eO qd gk))))) (fM (sy (aeB .Eq qy (Hc (eO (Ex.str "alike") gk)))) lO) lO) (wG B wl wn wq)
def zM:Bl Ω:=
 fM (qj 4 (qb wn (eO dl (eO lK (eO qd gk))))) (wV B wl wn wq)
end
abbrev kZ:=top 78
abbrev wX:af7:=["_law_program_here","_law_steps_here","_law_i","_law_j","_law_first","_law_order","_law_pair"]
abbrev wH:af7:=["_law_program_here","_law_steps_here","_law_i","_law_j"]
section
variable(B:%[|2]){wt:Ct}(wv:tU Ω wt){wx:Ct}(wE:mG Ω wx){uu:Ct}(uS:gW Ω uu){wP:Ct}(wS:zQ Ω wP){wT:Ct}(xa:iQ Ω wT)
def t7(B:%[|2]){wt:Ct}(wv:tU Ω wt){wx:Ct}(wE:mG Ω wx){uu:Ct}(uS:gW Ω uu){wP:Ct}(wS:zQ Ω wP){wT:Ct}(xa:iQ Ω wT):Bl Ω:=
 fM (sy (qb xa (eO dl (eO ld (eO qG (eO qy gk)))))) lO
def qP:Bl Ω:=
 fM (Hh (abv .Lt (aeQ qG (qi qH uN)) (aeQ qG (qi qH uU))) %[|55] lO) (t7 B wv wE uS wS xa)
def tG:Bl Ω:=
 fM (Hh (aeH (aew (abv .GtE (qi qH uN) (qi qH uU)) (aeA (aes (aeq (qb wE (eO dl (eO (qi qH uN) (eO (qi qH uU) gk))))))))) %[|55] lO) (qP B wv wE uS wS xa)
def tZ:Bl Ω:=
 fM (Hh (aeH (aew (aes (aeq (aeN B.isinstance_ qH .tuple B.tuple_))) (aeA (abv .IsNot (qb wS (eO dl (eO qG gk))) Ex.non)))) %[|55] lO) (tG B wv wE uS wS xa)
def tR:Bl Ω:=
 fM (qj 6 (qb uS (eO dl (eO qG gk)))) (tZ B wv wE uS wS xa)
def qW:Bl Ω:=
 fM (qj 5 (vy .Add (vy .Add (aeJ qy Po.no (Po.so lK)) (aep (eO qd gk))) (S9 ["_law_t","_law_j"] [none,some 3] dl (Tg.nm 0) (aek (aeJ qy (Po.so lK) Po.no)) (Cd.so (abv .NotEq dl ld))))) (tR B wv wE uS wS xa)
def wD:Bl Ω:=
 fM (qj 4 (qb wv (eO dl gk))) (qW B wv wE uS wS xa)
end
abbrev uo:=top 79
abbrev acW:af7:=["_law_script","_law_pen_here","_law_drawn","_law_steps_here","_law_program_here","_law_some","_law_i","_law_j","_law_at_here"]
abbrev adc:af7:=["_law_script"]
section
variable(B:%[|2]){xb:Ct}(xc:iH Ω xb){xh:Ct}(xi:Ak Ω xh){vi:Ct}(vj:bu Ω vi){xk:Ct}(xl:mz Ω xk){xo:Ct}(xp:sI Ω xo){xt:Ct}(xw:tY Ω xt){xy:Ct}(xz:gO Ω xy)
def Y4(B:%[|2]){xb:Ct}(xc:iH Ω xb){xh:Ct}(xi:Ak Ω xh){vi:Ct}(vj:bu Ω vi){xk:Ct}(xl:mz Ω xk){xo:Ct}(xp:sI Ω xo){xt:Ct}(xw:tY Ω xt){xy:Ct}(xz:gO Ω xy):Bl Ω:=
 fM (sy (FN iR B.all_ (eO (S9 ["_law_i","_law_j","_law_program_here","_law_steps_here"] [none,none,some 4,some 3] (qb xz (eO lK (eO qd %[|42]))) (Tg.tup [0,1]) (aek (aeJ (vy .Add (aeJ qG (Po.so uL) Po.no) (aeJ qG Po.no (Po.so uL))) Po.no (Po.so (il 16)))) aem) gk))) lO
def Zm:Bl Ω:=
 fM (qj 8 (qb vj (eO ld (eO (vy .Add (FN dR B.len_ (eO qG gk)) uU) gk)))) (Y4 B xc xi vj xl xp xw xz)
def aau:Bl Ω:=
 fM (aey (Tg.nm 6) (aeu B.range_ (FN dR B.len_ (eO qd gk))) (fM (aey (Tg.nm 7) (aeK B.range_ (vy .Add qH uU) (FN dR B.len_ (eO qd gk))) (fM (Hh (aeq (qb xw (eO (qi qd qH) (eO (qi qd uJ) gk)))) (fM (aeo (aej qG (Hc (eO qH (eO uJ gk))))) lO) lO) lO)) lO)) (Zm B xc xi vj xl xp xw xz)
def Y9:Bl Ω:=
 fM (qj 5 (Ex.own gk)) (aau B xc xi vj xl xp xw xz)
def aay:Bl Ω:=
 fM (qj 4 (qb xc (eO (qi lK uN) (eO (qi lK uU) gk)))) (Y9 B xc xi vj xl xp xw xz)
def YW:Bl Ω:=
 fM (qj 3 (qb xp (eO lK gk))) (aay B xc xi vj xl xp xw xz)
def Yz:Bl Ω:=
 fM (qj 2 (qb xl (eO ld (eO (il 16) gk)))) (YW B xc xi vj xl xp xw xz)
def ac0:Bl Ω:=
 fM (qj 1 (qb xi (eO dl (eO uU gk)))) (Yz B xc xi vj xl xp xw xz)
end
end
end K41
local macro_rules | `(tactic| walk_at "w") => `(tactic| first | refine (?_ : _ /\ _) | refine (?_ : ∃ _, _) | (conv => whnf))
local macro_rules | `(tactic| walk_at "n") => `(tactic| (walk_at "w"; repeat (with_reducible first | apply RF.cLt | apply RF.cLe | apply RF.cGt | apply RF.cGe | apply RF.cEqI | apply RF.cNeI | apply RF.cEqB | apply RF.cNeB | apply RF.cIsN | apply RF.cIsB | apply RF.cIsNotB | apply RF.cIsNot); walk_at "w"))
local macro_rules | `(tactic| walk_at "at") => `(tactic| first | (with_reducible assumption) | exact DL.set_get (by first | (with_reducible assumption) | exact DL.set_get (by with_reducible assumption)))
local macro_rules | `(tactic| walk_at "o") => `(tactic| first | omega | decide | (simp; done) | (simp; omega))
local macro_rules | `(tactic| walk_at "a1") => `(tactic| first
 | refine RF.wM1 (by first | exact .inl ⟨by walk_at "o", by walk_at "o"⟩ | exact .inr ⟨by walk_at "o", by walk_at "o"⟩) ?_
 | refine RF.wM2 ⟨by decide, by decide, by decide⟩ ?_
 | refine RF.wM3 ⟨by omega, by omega⟩ ?_
 | refine RF.wM4 (by omega) ?_
 | ((fail_if_success (with_reducible show (_ /\ ∃ _ : Nat -> List DL.D -> DL.Store -> Prop, _))); refine RF.wM5 (by walk_at "o") ?_)
 | refine RF.wM6 (by walk_at "o") ?_
 | (refine' RF.wM7 ?h1 ?h2 ?h3; (case h1 => walk_at "at"); (case h2 => exact rfl); (try rw [List.set_set]))
 | (refine' RF.wM8 ?h1 ?h2 ?h3; (case h1 => walk_at "at"); (case h2 => exact rfl))
 | refine RF.wM9 rfl ?_)
local macro_rules | `(tactic| walk_at "a") => `(tactic| (walk_at "n"; repeat (walk_at "a1"; walk_at "n")))
local macro_rules | `(tactic| walk_at "b") => `(tactic| (walk_at "n"; repeat ((first | walk_at "a1" | apply RF.bT | apply RF.bF | apply RF.dT | apply RF.dF); walk_at "n")))
local macro_rules|`(tactic|try?)=>`(tactic|walk_at "b")
namespace K41
open PySem L2 DL RF
variable{cs ws:List Int}{i n k j m t B X B':Nat}{d:D}{Γ:Gam}{ds l:List D}{a b:Int}{S J:Store}{W:Bool -> Store -> Prop}{o:List Nat}
variable{Ω:Wd}{f:Addr}{fd:FuncData}
def whole:D->Bool
 | .int _=>true
 | _=>false
def cJ(x:D)(a b:Int):Bool:=match x with
 | .tup ds=>decide (a<=(ds.length:Int))&&decide ((ds.length:Int)<=b)
 | _=>false
def eQ(x:D)(d:Int):Bool:=match x with
 | .tup ds=>decide ((ds.length:Int)=d+1)&&ds.all whole
 | _=>false
inductive c_whole(ds:List D)(S:Store)(W:WD):Prop
 | mk(x:_):ds=[x]->W (.bl (whole x)) S->c_whole ds S W
inductive c_tup(ds:List D)(S:Store)(W:WD):Prop
 | mk(x a b:_):ds=[x,.int a,.int b]->W (.bl (cJ x a b)) S->c_tup ds S W
inductive c_form(ds:List D)(S:Store)(W:WD):Prop
 | mk(x d:_):ds=[x,.int d]->d<=1000->W (.bl (eQ x d)) S->c_form ds S W
def comesTo(f:Int)(fs cs:af1):Int:=f+(List.zipWith (λ a b=>a*b) fs cs).sum
inductive c_comes(ds:List D)(S:Store)(W:WD):Prop
 | mk(f fs cs:_):ds=[.tup (.int f::fs.map .int),.tup (cs.map .int)]->fs.length<=1000->(∀c∈cs,-(2 ^ 64)<c/\c<2 ^ 64)->W (.int (comesTo f fs cs)) S->c_comes ds S W
def Vb(ds:List D):(ds.map whole).all id=ds.all whole:=by rw[List.all_map];rfl
def Z6{fs:af1}(h:(List.zipWith (λ x y=>D.tup [x,y]) (fs.map D.int) (cs.map D.int))[i]? =some d):∃a b,fs[i]? =some a/\cs[i]? =some b/\d=.tup [.int a,.int b]:=by
 rw[nV,y8,y8]at h
 cases c:fs[i]? with
 | none=>rw[c]at h;cases h
 | some a=>
   cases e:cs[i]? with
   | none=>rw[c,e]at h;cases h
   | some b=>rw[c,e]at h;cases h;exact%[a,b,rfl,rfl|rfl]
def Eh(B:%[|2]):OkF Ω "is_whole" rT 1 IK c_whole:=by
 refine aJ (N:=IK) (Ha B) %[|6] ?_;rintro b S W ⟨x,rfl,a⟩ d;walk_at "n";refine%[λ c=>?_|λ c=>?_]
 . walk_at "n";have e:(!isD .bool x)=whole x:=by cases x<;>first | rfl | exact ff c | exact tf c
   rw[e];exact a
 . have e:whole x=false:=by cases x<;>first | rfl | exact ff c | exact tf c
   rw[e]at a;exact a
def xg(B:%[|2]):OkF Ω "is_tuple_of" mj 1 yI c_tup:=by
 refine aJ (N:=yI) (xW B) %[|6] ?_;rintro f S W ⟨x,a,b,rfl,d⟩ h;walk_at "n"
 cases x with
 | tup f=>
   refine%[λ _=>?_|λ c=>tf c];walk_at "n";refine%[λ g=>?_|λ g=>?_]
   . have e:cJ (.tup f) a b=false:=by show(decide _&&decide _)=false;rw[g];rfl
     rw[e]at d;exact d
   . walk_at "n";have e:cJ (.tup f) a b=decide ((f.length:Int)<=b):=by show(decide _&&decide _)=_;rw[g];rfl
     rw[e]at d;exact d
 | _=>exact%[λ c=>ff c|λ _=>d]
def Jd(B:%[|2])(g:bC Ω c_whole)(f:az Ω c_tup):OkF Ω "is_form" vI 2 Le c_form:=by
 refine aJ (N:=Le) (La B g f) %[|6] ?_;rintro a S W ⟨x,d,rfl,o,j⟩ p;walk_at "n";refine%[rfl,_,_,_,rfl|?_];refine%[λ c=>?_|λ c=>?_]
 . cases x with
   | tup a=>
     have h:(a.length:Int)=d+1:=by have l:(decide (d+1<=(a.length:Int))&&decide ((a.length:Int)<=d+1))=true:=c;rw[fk,hV,hV]at l;omega
     walk_at "n";refine f9 %[%[|0],λ i b k=>b=(a.take i).map (λ d=>.bl (whole d))/\k=S,%[rfl|rfl],?_|?_];{rintro i e b k n ⟨rfl,rfl⟩;walk_at "n";refine%[λ _=>%[rfl,_,rfl,?_|rfl]|λ z=>tf z];rw[aD n,da];rfl}
     . rintro b k ⟨rfl,rfl⟩;rw[cy];refine%[a.map whole,by rw[dr];rfl|?_];have m:eQ (.tup a) d=(a.map whole).all id:=by show(decide _&&_)=_;rw[cc h,Vb];rfl
       rw[m]at j;exact j
   | _=>exact ff c
 . have e:eQ x d=false:=by
    cases x with
    | tup a=>have l:(decide (d+1<=(a.length:Int))&&decide ((a.length:Int)<=d+1))=false:=c;show(decide _&&_)=false;rw[Bool.and_eq_false_iff,decide_eq_false_iff_not,decide_eq_false_iff_not]at l;rw[cm %[|0]];rfl
    | _=>rfl
   rw[e]at j;exact j
def Ey(B:%[|2]):OkF Ω "comes_to" rH 1 Jw c_comes:=by
 refine aJ (N:=Jw) (Hr B) %[|6] ?_;rintro q S W ⟨g,f,d,rfl,o,j,p⟩ r;walk_at "n";refine%[_,GK _ _|?_];walk_at "n";rw[Gu];refine f9 %[by rw[List.length_zipWith,y7];omega,λ i c h=>c=((List.zipWith (λ a b=>a*b) f d).take i).map D.int/\h=S,%[rfl|rfl],?_|?_]
 . rintro i e c h n ⟨rfl,rfl⟩;obtain⟨a,b,m,k,rfl⟩:=Z6 n;walk_at "n";refine%[rfl,λ _=>%[.inr (j b (y4 k)),?_|rfl]|λ z=>tf z];have l:(List.zipWith (λ a b=>a*b) f d)[i]? =some (a*b):=by rw[nV,m,k]
   rw[aD l,da];rfl
 . rintro c h ⟨rfl,rfl⟩;have e:(List.zipWith (λ x y=>D.tup [x,y]) (f.map D.int) (d.map D.int)).length=(List.zipWith (λ a b=>a*b) f d).length:=by simp
   rw[e,cy];exact%[_,rfl|p]
def small:D->Bool
 | .int n=>decide (-2<=n)&&decide (n<=2)
 | _=>false
def ac9:List D->Bool
 | .int a::fs=>decide (-9<=a)&&(decide (a<=9)&&fs.all small)
 | _=>false
def dw(x:D)(d:Int):Bool:=eQ x d&&ac9 (match x with | .tup ds=>ds | _=>[])
def kh(x:D)(d:Int):Bool:=match x with
 | .tup [a,b]=>dw a d&&dw b d
 | _=>false
def iV(x:D):Bool:=match x with
 | .tup ds=>(decide (1<=(ds.length:Int))&&decide ((ds.length:Int)<=3))&&(ds.mapIdx λ i d=>kh d i).all id
 | _=>false
inductive c_bound(ds:List D)(S:Store)(W:WD):Prop
 | mk(x d:_):ds=[x,.int d]->0<=d->d<=1000->W (.bl (dw x d)) S->c_bound ds S W
inductive c_loop(ds:List D)(S:Store)(W:WD):Prop
 | mk(x d:_):ds=[x,.int d]->0<=d->d<=1000->W (.bl (kh x d)) S->c_loop ds S W
inductive c_loops(ds:List D)(S:Store)(W:WD):Prop
 | mk(x:_):ds=[x]->W (.bl (iV x)) S->c_loops ds S W
theorem ints_of:∀{ds:List D},ds.all whole=true->∃ns:List Int,ds=ns.map .int
 | [],_=>%[[]|rfl]
 | d::ds,h=>by
   rw[iF]at h;obtain⟨a,b⟩:=bz h;obtain⟨ns,rfl⟩:=ints_of b
   cases d with
   | int i=>exact%[i::ns|rfl]
   | _=>exact ff a
def mU{d}(h:eQ x d=true)(l:0<=d):∃a fs,x=.tup (.int a::List.map .int fs)/\(fs.length:Int)=d:=by
 cases x with
 | tup f=>
   obtain⟨b,c⟩:=bz h;have b:=cE b
   cases f with
   | nil=>simp at b;omega
   | cons e k=>
     rw[iF]at c;obtain⟨c,g⟩:=bz c;have i:=ints_of g;obtain⟨j,rfl⟩:=i
     cases e with
     | int a=>exact%[a,j,rfl|by simp at b;omega]
     | _=>exact ff c
 | _=>exact ff h
def Jo(p:D->Bool)(ds:List D):(ds.map p).all id=ds.all p:=by rw[List.all_map];rfl
def Fv (B:%[|2])(g:dH Ω c_form):OkF Ω "is_bound" rR 3 Le c_bound:=by
 refine aJ (N:=Le) (Hg B g) %[|6] ?_;rintro r S W ⟨x,d,rfl,o,q,b⟩ t;walk_at "a";refine%[rfl,_,_,rfl,q|?_];walk_at "a"
 cases h:eQ x d with
 | false=>
   have e:dw x d=false:=by unfold dw;rw[h];rfl
   rw[e]at b;exact%[λ _=>b|λ z=>tf z]
 | true=>
   refine%[λ z=>ff z|λ _=>?_];obtain⟨a,k,rfl,s⟩:=mU h o;have e:dw (.tup (.int a::k.map .int)) d=(decide (-9<=a)&&(decide (a<=9)&&(k.map D.int).all small)):=by unfold dw;rw[h];rfl
   rw[e]at b;walk_at "a";refine%[_,GK _ _|?_];walk_at "a";refine%[λ c=>?_|λ c=>?_];{have c:decide (-9<=a)=false:=c;rw[c]at b;exact%[λ z=>ff z|λ _=>b]};have c:decide (-9<=a)=true:=c;rw[c,ii]at b;walk_at "a";refine%[λ m=>?_|λ m=>?_]
   . rw [m,ii]at b;walk_at "a";rw[Gu];refine fC (λ d=>.bl (small d)) %[|16] ?_ ?_
     . intro i e j Q l;rw[y8]at j
       cases p:k[i]? with
       | none=>rw[p]at j;cases j
       | some n=>
         rw[p]at j;cases j;walk_at "a";refine%[λ f=>?_|λ f=>?_]
         . have f:decide (-2<=n)=false:=f;have e:small (.int n)=false:=by show(decide _&&_)=false;rw[f];rfl
           rw[e]at l;exact l
         . have f:decide (-2<=n)=true:=f;walk_at "a";have e:small (.int n)=decide (n<=2):=by show(decide _&&_)=_;rw[f];rfl
           rw[e]at l;exact l
     {refine%[(k.map D.int).map small,by simp only[dr];rfl|?_];rw[Jo];exact b}
   {rw[m]at b;exact b}
def G4(g:az Ω c_tup)(f:rB Ω c_bound):OkF Ω "is_loop" vH 4 Le c_loop:=by
 refine aJ (N:=Le) (Mj g f) %[|6] ?_;rintro j S W ⟨x,d,rfl,i,k,c⟩ l;walk_at "a";refine%[rfl,_,_,_,rfl|?_];walk_at "a"
 cases x with
 | tup j=>
   match j,c with
   | [a,b],c=>refine%[λ _=>?_|λ z=>tf z];walk_at "a";refine%[rfl,_,_,rfl,i,k|?_];have e:kh (.tup [a,b]) d=(dw a d&&dw b d):=rfl;rw[e]at c;refine%[λ h=>?_|λ h=>?_];{rw[h,ii]at c;walk_at "a";exact%[rfl,_,_,rfl,i,k|c]};{rw[h]at c;exact c}
   | [],c=>exact%[λ z=>ff z|λ _=>c]
   | [_],c=>exact%[λ z=>ff z|λ _=>c]
   | _::_::_::es,c=>refine%[λ z=>?_|λ _=>c];obtain⟨_,z⟩:=bz z;have z:=cE z;simp at z;omega
 | _=>exact%[λ z=>ff z|λ _=>c]
def DY(B:%[|2])(f:az Ω c_tup)(c:vB Ω c_loop):OkF Ω "is_loops" sX 5 IK c_loops:=by
 refine aJ (N:=IK) (Jm B f c) %[|6] ?_;rintro a S W ⟨x,rfl,b⟩ o;walk_at "a";refine%[rfl,_,_,_,rfl|?_];walk_at "a"
 cases x with
 | tup a=>
   have e:iV (.tup a)=((decide (1<=(a.length:Int))&&decide ((a.length:Int)<=3))&&(a.mapIdx λ i d=>kh d i).all id):=rfl;rw[e]at b;refine%[λ h=>?_|λ h=>?_]
   . have h:(decide (1<=(a.length:Int))&&decide ((a.length:Int)<=3))=true:=h;rw[h,ii]at b;have k:=cE (bz h).2;walk_at "a";refine fC (λ p=>match p with | .tup [.int i,d]=>.bl (kh d i) | _=>.non) %[|16] ?_ ?_
     . intro i e g Q l;rw[jv]at g
       cases j:a[i]? with
       | none=>rw[j]at g;cases g
       | some m=>rw[j]at g;cases g;have n:i<a.length:=(z0.mp j).1;walk_at "a";refine%[rfl|?_];walk_at "a";exact%[rfl,_,_,rfl,%[|0],%[|0]|l]
     {refine%[a.mapIdx λ i d=>kh d i,?_|b];apply kg;intro i;simp only[y8,jv];cases a[i]?<;>rfl}
   {have h:(decide (1<=(a.length:Int))&&decide ((a.length:Int)<=3))=false:=h;rw[h]at b;exact b}
 | _=>exact%[λ z=>ff z|λ _=>b]
def bc{a:Bl Ω}{W}{b}(P:%[|53])(e:P 0 Γ b)(f:∀(I:%[|53])(R:WD)(B:Gam->%[|7]),(∀i G T,P i G T->I i G T)->(∀d T,W.rt d T->R d T)->(∀G T,W.nx G T->B G T)->∀i d Γ' S',%[|25]->P i Γ' S'->c.wp d Γ' λ Γ2=>a.wp Γ2 S' %[I (i+1),R,B|I (i+1)])(g:∀Γ' S',P ds.length Γ' S'->W.nx Γ' S'):lH Γ c a W ds b:=
 rZ %[P,e,f P W.rt W.nx (λ _ _ _ h=>h) (λ _ _ h=>h) λ _ _ h=>h|g]
abbrev Fm:=%[|14]
abbrev Lp:=Fm×Fm
def dF(f:Fm):D:=.tup (.int f.1::f.2.map .int)
def dC(cs:af1):D:=.tup (cs.map .int)
def dL(l:Lp):D:=.tup [dF l.1,dF l.2]
def atC(f:Fm)(cs:af1):Int:=comesTo f.1 f.2 cs
def upI(a:Int)(n:Nat):List Int:=%[|31].map λ(k:Nat)=>a+(k:Int)
def cI(lo hi:Fm)(cs:af1):List (List Int):=(upI (atC lo cs) (atC hi cs-atC lo cs).toNat).map λ c=>cs++[c]
def bD(lo hi:Fm)(ahead:ah3):List (List Int):=ahead.flatMap (cI lo hi)
def cnt(ls:List Lp):List (List Int):=ls.foldl (λ a l=>bD l.1 l.2 a) [[]]
def Sm6(ns:af1):Prop:=ns.length<=10/\∀n∈ns,-1000000<=n/\n<=1000000
def SmF(f:Fm):Prop:= -1000000<=f.1/\f.1<=1000000/\Sm6 f.2
theorem Dj:∀(fs cs:af1),(∀n∈fs,-1000000<=n/\n<=1000000)->(∀n∈cs,-1000000<=n/\n<=1000000)-> -(1000000000000*(cs.length:Int))<=(List.zipWith (λ a b=>a*b) fs cs).sum/\(List.zipWith (λ a b=>a*b) fs cs).sum<=1000000000000*(cs.length:Int)
 | [],cs,_,_=>%[|16]
 | f::fs,[],_,_=>by simp
 | f::fs,c::cs,h1,h2=>by
   have i:=Dj fs cs (λ n d=>h1 n (x4 _ d)) (λ n d=>h2 n (x4 _ d));have g:=h1 f x6;have e:=h2 c x6;have h:(f*c).natAbs<=1000000*1000000:=by rw[mT];exact ln %[|0] %[|0]
   simp only[List.zipWith_cons_cons,nE,dS];omega
def Cw{f}(hf:SmF f)(hc:Sm6 cs): -(2 ^ 62)<=atC f cs/\atC f cs<2 ^ 62:=by have:=Dj f.2 cs hf.2.2.2 hc.2;have a:=hf.1;have b:=hf.2.1;have c:=hc.1;unfold atC comesTo;omega
def aae(a:Int)(n:Nat):(upI a n).length=n:=by simp[upI]
def N6(h:i<n):(upI a n)[i]? =some (a+i):=by simp[upI,h]
def d7(lo hi:Fm)(cs:af1):(cI lo hi cs).length=(atC hi cs-atC lo cs).toNat:=by simp[cI,aae]
def kY{ahead:ah3}(h:ahead[i]? =some cs):bD lo hi (ahead.take (i+1))=bD lo hi (ahead.take i)++cI lo hi cs:=by unfold bD;rw[aD h,hY];simp
def GF(h:ahead[i]? =some cs):(bD lo hi (ahead.take i)).length+(cI lo hi cs).length<=(bD lo hi ahead).length:=by
 have e:bD lo hi ahead=bD lo hi (ahead.take (i+1))++bD lo hi (ahead.drop (i+1)):=by unfold bD;rw[<-hY,iX]
 rw[e,kY h,x8,x8];omega
def tM(xs:ah3):aa (xs.map dC)=true:=by
 induction xs with
 | nil=>rfl
 | cons x xs a=>
   simp only[cw,aa,a,df];show aa (x.map D.int)=true
   induction x with
   | nil=>rfl
   | cons y b a=>simp only[cw,aa,a,df];rfl
inductive c_next(ds:List D)(S:Store)(W:WD):Prop
 | mk(ahead lo hi:_):ds=[.lst (List.map dC ahead),dF lo,dF hi]->SmF lo->SmF hi->(∀cs∈ahead,Sm6 cs)->ahead.length<=1000000->(bD lo hi ahead).length<=1000000->flat S->hand W ((bD lo hi ahead).map dC) S->c_next ds S W
def pI(B:%[|2])(k:bL Ω c_comes):OkF Ω "with_next_count" iy 2 qx c_next:=by
 refine aJ (N:=qe) (Bl.frz (qg B k)) %[|6] ?_;rintro I S W ⟨a,lo,hi,rfl,hlo,hhi,q,z,K,v,y⟩ J;try?;refine bc (λ i d f=>(∃r h,d=[some (.lst (a.map dC)),some (dF lo),some (dF hi),%[|21],r,h])/\f=S++[(bD lo hi (a.take i)).map dC]) %[%[_,_|rfl]|rfl] ?_ ?_
 . rintro E G A o _ _ i e d f g ⟨⟨r,h,rfl⟩,rfl⟩;rw[y8]at g
   cases l:a[i]? with
   | none=>rw[l]at g;cases g
   | some b=>
     rw[l]at g;cases g;have hcs:=q b (y4 l);have b1:=Cw hlo hcs;have b2:=Cw hhi hcs;have m:∀c∈b,-(2 ^ 64)<c/\c<2 ^ 64:=λ c w=>by have:=hcs.2 c w;omega
     try?;refine%[rfl,lo.1,lo.2,b,rfl,by have:=hlo.2.2.1;omega,m|?_];try?;refine%[rfl,hi.1,hi.2,b,rfl,by have:=hhi.2.2.1;omega,m|?_];try?;refine%[%[b1.1,b1.2,b2.1|b2.2]|bc (λ j d f=>(∃h,d=[some (.lst (a.map dC)),some (dF lo),some (dF hi),%[|21],some (dC b),h])/\f=S++[(bD lo hi (a.take i)++(cI lo hi b).take j).map dC]) %[%[_|rfl]|by simp] ?_ ?_]
     . rintro F H C p _ _ j e d f g ⟨⟨h,rfl⟩,rfl⟩;obtain⟨x,rfl⟩:=cP g;have n:j<(cI lo hi b).length:=by rw[d7];exact x
       have L:=GF (lo:=lo) (hi:=hi) l;try?;refine%[by simp;have:=hcs.1;omega,_,aH _ _,%[|16]|?_];refine p _ _ _ %[%[_|rfl]|?_];rw[b8];have s:(cI lo hi b)[j]? =some (b++[atC lo b+(j:Int)]):=by unfold cI;rw[y8,N6 (by rw[d7]at n;exact n)];rfl
       have t:dC (b++[atC lo b+(j:Int)])=D.tup (b.map D.int++[D.int (comesTo lo.1 lo.2 b+(j:Int))]):=by unfold dC;rw[da];rfl
       rw[aD s,<-ck,da (l₂:=[_]),List.map_singleton,t]
     . rintro d f ⟨⟨h,rfl⟩,rfl⟩;refine o _ _ _ %[%[_,_|rfl]|?_];have u:(cI lo hi b).take (DL.upTo (comesTo lo.1 lo.2 b) (comesTo hi.1 hi.2 b-comesTo lo.1 lo.2 b).toNat).length=cI lo hi b:=by rw[aL];exact cS (by rw[d7];exact y9 _)
       rw[u,kY l]
 {rintro d f ⟨⟨r,h,rfl⟩,rfl⟩;rw[y7,cy];exact oZ y (tM _) v}
def Fits(ls:List Lp):Prop:=(∀l∈ls,SmF l.1/\SmF l.2)/\∀i,i<=ls.length->(cnt (ls.take i)).length<=1000000/\∀a∈cnt (ls.take i),Sm6 a
inductive c_counts(ds:List D)(S:Store)(W:WD):Prop
 | mk(ls:_):ds=[.tup (List.map dL ls)]->1<=ls.length->Fits ls->flat S->W (.lst ((cnt ls).map dC)) S->c_counts ds S W
def ou{ls:List Lp}{l}(h:ls[i]? =some l):cnt (ls.take (i+1))=bD l.1 l.2 (cnt (ls.take i)):=by unfold cnt;rw[aD h,kn];rfl
def zf(k:eZ Ω c_next):OkF Ω "counts_of" pP 3 El c_counts:=by
 refine aJ (N:=Fd) (Bl.frz (Er k)) %[|6] ?_;rintro C S W ⟨f,rfl,G,hf,v,x⟩ F;try?;have n:∀(i:Nat)(e:D),(f.map dL)[i]? =some e->∃l,f[i]? =some l/\e=dL l:=λ i e g=>by
  rw[y8]at g
  cases u:f[i]? with
  | none=>rw[u]at g;cases g
  | some l=>rw[u]at g;cases g;exact%[l,rfl|rfl]
 have m:∀(i:Nat)(l:Lp)(W:WD),f[i]? =some l->hand W ((cnt (f.take (i+1))).map dC) S->c_next [.lst ((cnt (f.take i)).map dC),dF l.1,dF l.2] S W:=λ i l W h w=>by have E:=(z0.mp h).1;obtain⟨a,b⟩:=hf.1 l (y4 h);obtain⟨c,d⟩:=hf.2 i %[|0];obtain⟨t,B⟩:=hf.2 (i+1) %[|0];rw[ou h]at t w;exact%[_,_,_,rfl,a,b,d,c,t,v|w]
 refine bc (λ i j o=>(∃r s,j=[some (.tup (f.map dL)),some (.lst ((cnt (f.take i)).map dC)),r,s])/\o=S) %[%[_,_|rfl]|rfl] ?_ ?_;{rintro z A y p _ _ i e j o g ⟨⟨r,s,rfl⟩,rfl⟩;obtain⟨l,q,rfl⟩:=n i e g;try?;refine%[rfl|?_];walk_at "n";exact%[rfl|m i l _ q (.inl (p _ _ _ %[%[_,_|rfl]|rfl]))]};{rintro j o ⟨⟨r,s,rfl⟩,rfl⟩;rw[y7,cy];exact .inl x}
def BdF(f:Fm)(k:Nat):Prop:=f.2.length=k/\ -9<=f.1/\f.1<=9/\∀n∈f.2,-2<=n/\n<=2
def Qm{g m}(c: -2<=g/\g<=2)(b: -m<=a/\a<=m): -(2*m)<=g*a/\g*a<=2*m:=by
 have:g= -2\/g= -1\/g=0\/g=1\/g=2:=%[|0]
 rcases this with rfl | rfl | rfl | rfl | rfl<;>omega
def bnd:Nat->Int
 | 0=>0
 | 1=>9
 | 2=>27
 | _=>117
def Cs(i:Nat)(cs:af1):Prop:=cs.length=i/\∀c∈cs,-(bnd i)<=c/\c<=bnd i
def nF{f}(hi:i<=2)(m:BdF f i)(l:Cs i cs): -(bnd (i+1))<=atC f cs/\atC f cs<=bnd (i+1):=by
 obtain⟨a,h⟩:=f;obtain⟨b,j,k,c⟩:=m;obtain⟨d,e⟩:=l;dsimp only at b j k c;unfold atC comesTo;have:i=0\/i=1\/i=2:=%[|0]
 rcases this with rfl | rfl | rfl
 . match h,cs,b,d with
   | [],[],_,_=>simp[bnd];omega
 . match h,cs,b,d with
   | [g],[x],_,_=>have:=Qm (c g (by simp)) (e x (by simp));simp[bnd]at this ⊢;omega
 . match h,cs,b,d with
   | [g,g'],[x,x'],_,_=>have n:=Qm (c g (by simp)) (e x (by simp));have o:=Qm (c g' (by simp)) (e x' (by simp));simp[bnd]at n o ⊢;omega
def aaG:bnd i<=bnd (i+1):=by
 match i with
 | 0=>decide
 | 1=>decide
 | 2=>decide
 | i+3=>exact Int.le_refl _
def xQ(i:Nat):bnd i<=117:=by
 match i with
 | 0=>decide
 | 1=>decide
 | 2=>decide
 | i+3=>exact Int.le_refl _
def Zt{ds}(b:i<=2)(e:BdF lo i)(d:BdF hi i)(hc:Cs i cs)(h:ds∈cI lo hi cs):Cs (i+1) ds:=by
 unfold cI at h;obtain⟨c,a,rfl⟩:=c9.mp h;unfold upI at a;obtain⟨k,f,rfl⟩:=c9.mp a;have f:=dA.mp f;have g:=nF b e hc;have j:=nF b d hc;refine%[by simp[hc.1]|λ c h=>?_];rcases cn.mp h with h | h;{have:=hc.2 c h;have:=aaG (i:=i);omega}
 . have:c=atC lo cs+(k:Int):=by simpa using h
   omega
def Lps(ls:List Lp):Prop:=1<=ls.length/\ls.length<=3/\∀(i:Nat)(l:Lp),ls[i]? =some l->BdF l.1 i/\BdF l.2 i
theorem nA(h:Lps ls):∀i,i<=ls.length->∀cs∈cnt (ls.take i),Cs i cs
 | 0,_,cs,a=>by
   have:cs=[]:=by simpa[cnt]using a
   subst this;exact%[rfl|λ c a=>by simp at a]
 | i+1,hi,cs,a=>by have b:=y3 (l:=ls) (i:=i) %[|0];rw[ou b]at a;obtain⟨d,e,a⟩:=eL.mp a;have:=h.2.2 i _ b;have f:=h.2.1;exact Zt %[|0] this.1 this.2 (nA h i %[|0] d e) a
def Qp:Nat->Nat
 | 0=>1
 | 1=>18
 | 2=>972
 | _=>227448
theorem wU:∀{ahead:ah3},(∀cs∈ahead,(cI lo hi cs).length<=m)->(bD lo hi ahead).length<=ahead.length*m
 | [],_=>by simp[bD]
 | a::as,h=>by have c:=wU (ahead:=as) λ cs b=>h cs (x4 _ b);have:=h a x6;unfold bD at c ⊢;rw[l4,x8,dS,mx];omega
theorem Nx(h:Lps ls):∀i,i<=ls.length->(cnt (ls.take i)).length<=Qp i
 | 0,_=>by simp[cnt,Qp]
 | i+1,hi=>by
   have b:=y3 (l:=ls) (i:=i) %[|0];have k:=Nx h i %[|0];have j:=h.2.1;have hb:=h.2.2 i _ b;rw[ou b];have e:∀a∈cnt (ls.take i),(cI ls[i].1 ls[i].2 a).length<=(2*bnd (i+1)).toNat:=λ a d=>by have c:=nA h i %[|0] a d;have f:=nF %[|0] hb.1 c;have g:=nF %[|0] hb.2 c;rw[d7];omega
   have:=wU e;have:i=0\/i=1\/i=2:=%[|0]
   rcases this with rfl | rfl | rfl<;>simp[bnd,Qp]at* <;>omega
def Lps.fits(h:Lps ls):Fits ls:=by
 refine%[λ l k=>?_|λ i a=>%[?_|λ g j=>?_]];{obtain⟨i,a⟩:=db k;have m:=(z0.mp a).1;have d:=h.2.1;obtain⟨⟨o,p,q,e⟩,r,s,t,f⟩:=h.2.2 i l a;exact%[%[%[|0],%[|0],%[|0]|λ n b=>by have:=e n b;omega],%[|0],%[|0],%[|0]|λ n b=>by have:=f n b;omega]}
 . have:=Nx h i a;have d:=h.2.1;have:i=0\/i=1\/i=2\/i=3:=%[|0]
   rcases this with rfl | rfl | rfl | rfl<;>simp only[Qp]at* <;>omega
 {have c:=nA h i a g j;have d:=h.2.1;exact%[by have:=c.1;omega|λ n b=>by have:=c.2 n b;have:=xQ i;omega]}
def oA(a b:Int):D->Bool
 | .int n=>decide (a<=n)&&decide (n<=b)
 | _=>false
def wZ(n:Int):Bool:=decide ((if n<0 then-n else n)<10 ^ Int.toNat 30)
def BV:D->Bool
 | .int n=>wZ n
 | _=>false
def parts:D->List D
 | .tup ds=>ds
 | _=>[]
def jV(x:D):Bool:=cJ x 1 3&&(parts x).all (oA 1 2)
def isPlace(d:Int)(x:D):Bool:=eQ x d&&(parts x).all (oA (-99) 99)
def isStart(x:D)(d:Int):Bool:=eQ x d&&(parts x).all BV
def my(t p:D)(ws:af1)(d:Int):Bool:=match t with
 | .int n=>(decide (0<=n)&&decide (n<(ws.length:Int)))&&(cJ p (ws.getD n.toNat 0) (ws.getD n.toNat 0)&&(parts p).all (isPlace d))
 | _=>false
def nU(ws:af1)(d:Int)(x:D):Bool:=match x with
 | .tup [f,t,p]=>BV f&&my t p ws d
 | _=>false
def uH(x:D)(ws:af1)(d:Int):Bool:=cJ x 0 3&&(parts x).all (nU ws d)
def g8(ws:af1)(d:Int)(x:D):Bool:=match x with
 | .tup [t,p,s,r]=>my t p ws d&&(isStart s d&&uH r ws d)
 | _=>false
def jW(ws:af1)(x:D):Bool:=match x with
 | .tup [l,ds]=>iV l&&(cJ ds 1 4&&(parts ds).all (g8 ws ((parts l).length:Int)))
 | _=>false
def uc(x:D)(ws:af1):Bool:=cJ x 1 3&&(parts x).all (jW ws)
inductive c_few(ds:List D)(S:Store)(W:WD):Prop
 | mk(n:_):ds=[.int n]->W (.bl (wZ n)) S->c_few ds S W
inductive c_widths(ds:List D)(S:Store)(W:WD):Prop
 | mk(x:_):ds=[x]->W (.bl (jV x)) S->c_widths ds S W
inductive c_placef(ds:List D)(S:Store)(W:WD):Prop
 | mk(x d:_):ds=[x,.int d]->0<=d->d<=1000->W (.bl (isPlace d x)) S->c_placef ds S W
inductive c_start(ds:List D)(S:Store)(W:WD):Prop
 | mk(x d:_):ds=[x,.int d]->0<=d->d<=1000->W (.bl (isStart x d)) S->c_start ds S W
def Ws(ws:af1):Prop:=ws.length<=3/\∀w∈ws,1<=w/\w<=2
inductive c_tp(ds:List D)(S:Store)(W:WD):Prop
 | mk(t p ws d:_):ds=[t,p,.tup (List.map .int ws),.int d]->Ws ws->0<=d->d<=1000->W (.bl (my t p ws d)) S->c_tp ds S W
inductive c_read(ds:List D)(S:Store)(W:WD):Prop
 | mk(x ws d:_):ds=[x,.tup (List.map .int ws),.int d]->Ws ws->0<=d->d<=1000->W (.bl (nU ws d x)) S->c_read ds S W
inductive c_reads(ds:List D)(S:Store)(W:WD):Prop
 | mk(x ws d:_):ds=[x,.tup (List.map .int ws),.int d]->Ws ws->0<=d->d<=1000->W (.bl (uH x ws d)) S->c_reads ds S W
inductive c_deed(ds:List D)(S:Store)(W:WD):Prop
 | mk(x ws d:_):ds=[x,.tup (List.map .int ws),.int d]->Ws ws->0<=d->d<=1000->W (.bl (g8 ws d x)) S->c_deed ds S W
inductive c_nest(ds:List D)(S:Store)(W:WD):Prop
 | mk(x ws:_):ds=[x,.tup (List.map .int ws)]->Ws ws->W (.bl (jW ws x)) S->c_nest ds S W
inductive c_nests(ds:List D)(S:Store)(W:WD):Prop
 | mk(x ws:_):ds=[x,.tup (List.map .int ws)]->Ws ws->W (.bl (uc x ws)) S->c_nests ds S W
def fu{W}(w:W (.bl (ds.all p)) S):iR.wp [.lst (ds.map λ d=>.bl (p d))] S W:=
 %[ds.map p,by rw[dr];rfl|by rw[Jo];exact w]
def Dn(h:cJ (.tup ds) a b=true):a<=(ds.length:Int)/\(ds.length:Int)<=b:=by obtain⟨c,d⟩:=bz h;exact%[cE c|cE d]
def dZ(h:cJ x a b=true):∃ds,x=.tup ds/\a<=(ds.length:Int)/\(ds.length:Int)<=b:=by
 cases x with
 | tup ds=>exact%[ds,rfl|Dn h]
 | _=>exact ff h
def ue{n}{Q:WD}(c:Q (.bl (oA a b (.int n))) S):(decide (a<=n)=false->Q (.bl false) S)/\(decide (a<=n)=true->Q (.bl (decide (n<=b))) S):=by have e:oA a b (.int n)=(decide (a<=n)&&decide (n<=b)):=rfl;rw[e]at c;exact%[λ h=>by rw[h]at c;exact c|λ h=>by rw[h]at c;exact c]
def pg(B:%[|2]):OkF Ω "has_few_figures" iB 1 qp c_few:=by refine aJ (N:=qp) (qK B) %[|6] ?_;rintro b S W ⟨n,rfl,a⟩ c;try?;exact a
def Ay(B:%[|2])(b:bC Ω c_whole)(a:az Ω c_tup):OkF Ω "is_widths" pW 2 IK c_widths:=by
 refine aJ (N:=IK) (Fo B b a) %[|6] ?_;rintro g S W ⟨x,rfl,c⟩ k;try?;refine%[rfl,_,_,_,rfl|?_];try?;unfold jV at c;refine%[λ h=>?_|λ h=>by rw[h]at c;exact c];rw[h]at c;obtain⟨g,rfl,l,m⟩:=dZ h;try?;refine fC (λ d=>.bl (oA 1 2 d)) %[|0] ?_ (fu c);intro i e j Q f;try?;refine%[rfl,_,rfl|?_]
 cases e with
 | int n=>try?;refine%[(ue f).1|λ h=>?_];try?;exact(ue f).2 h
 | _=>try?;exact f
def rM(B:%[|2])(b:dH Ω c_form):OkF Ω "is_place_form" jC 3 Le c_placef:=by
 refine aJ (N:=Le) (vg B b) %[|6] ?_;rintro l S W ⟨x,d,rfl,f,j,c⟩ p;try?;refine%[rfl,_,_,rfl,j|?_];try?;unfold isPlace at c;refine%[λ h=>?_|λ h=>by rw[h]at c;exact c];rw[h]at c;obtain⟨a,m,rfl,o⟩:=mU h f;try?;refine fC (λ d=>.bl (oA (-99) 99 d)) %[|16] ?_ (fu c);intro i e k Q g;have:∃n,e=.int n:=by have:=y4 k;rcases cK.mp this with rfl | h;{exact%[_|rfl]};{obtain⟨n,_,rfl⟩:=c9.mp h;exact%[n|rfl]}
 obtain⟨n,rfl⟩:=this;try?;refine%[(ue g).1|λ h=>?_];try?;exact(ue g).2 h
def FQ(B:%[|2])(c:dH Ω c_form)(b:cL Ω c_few):OkF Ω "is_start" sS 3 Le c_start:=by
 refine aJ (N:=Le) (Hl B c b) %[|6] ?_;rintro m S W ⟨x,d,rfl,g,j,f⟩ q;try?;refine%[rfl,_,_,rfl,j|?_];try?;unfold isStart at f;refine%[λ h=>?_|λ h=>by rw[h]at f;exact f];rw[h]at f;obtain⟨a,o,rfl,p⟩:=mU h g;try?;refine fC (λ d=>.bl (BV d)) %[|16] ?_ (fu f);intro i e k Q l;have:∃n,e=.int n:=by have:=y4 k;rcases cK.mp this with rfl | h;{exact%[_|rfl]};{obtain⟨n,_,rfl⟩:=c9.mp h;exact%[n|rfl]}
 obtain⟨n,rfl⟩:=this;try?;exact%[rfl,_,rfl|l]
def j6(B:%[|2])(m:bC Ω c_whole)(l:az Ω c_tup)(k:gr Ω c_placef):OkF Ω "is_table_with_place" gn 4 lQ c_tp:=by
 refine aJ (N:=lQ) (lN B m l k) %[|6] ?_;rintro z S W ⟨t,p,a,d,rfl,hws,r,C,b⟩ H;try?;refine%[rfl,_,rfl|?_]
 cases t with
 | int n=>
   have e:my (.int n) p a d=((decide (0<=n)&&decide (n<(a.length:Int)))&&(cJ p (a.getD n.toNat 0) (a.getD n.toNat 0)&&(parts p).all (isPlace d))):=rfl;rw[e]at b;have u:((a.map D.int).length:Int)=(a.length:Int):=by rw[y7]
   try?;refine%[λ h=>?_|λ h=>?_];{rw[h]at b;try?;exact b};rw[h,ii]at b;try?;rw[u];refine%[λ c=>?_|λ c=>?_];{have c:decide (n<(a.length:Int))=false:=nt c;rw[c]at b;try?;exact b};have c:decide (n<(a.length:Int))=true:=by
    cases q:decide (n<(a.length:Int))with
    | true=>rfl
    | false=>rw[q]at c;exact tf c
   rw[c,ii]at b;have A:=cE h;have F:=cE c;have s:n.toNat<a.length:=%[|0]
   have y:a.getD n.toNat 0=a[n.toNat]:=by simp[List.getD,s]
   have g:atI (a.map D.int) n=some (.int (a.getD n.toNat 0)):=by have:=bW (xs:=a.map D.int) (j:=n.toNat) (v:=.int a[n.toNat]) (by rw[y8,y3 s];rfl);rw[oS A]at this;rw[y];exact this
   have f:=hws.2 _ (List.getElem_mem s);rw[<-y]at f;generalize a.getD n.toNat 0=w at g b f;try?;refine%[_,g|?_];try?;refine%[_,g|?_];try?;refine%[rfl,_,_,_,rfl|?_];try?;refine%[λ o=>?_|λ o=>by rw[o]at b;exact b];rw[o]at b;obtain⟨z,rfl,I,J⟩:=dZ o;try?;refine fC (λ x=>.bl (isPlace d x)) %[|0] ?_ (fu b);intro i e G Q E;try?;exact%[rfl,_,_,rfl,r,C|E]
 | _=>try?;exact b
def J9(m:bC Ω c_whole)(l:az Ω c_tup)(j:cL Ω c_few)(k:bJ Ω c_tp):OkF Ω "is_read" vM 5 Ms c_read:=by
 refine aJ (N:=Ms) (LR m l j k) %[|6] ?_;rintro o S W ⟨x,u,d,rfl,r,q,w,g⟩ y;try?;refine%[rfl,_,_,_,rfl|?_]
 cases h:cJ x 3 3 with
 | false=>
   have e:nU u d x=false:=by
    cases x with
    | tup o=>
      match o,h with
      | [a,b,c],h=>exact tf h
      | [],_=>rfl
      | [_],_=>rfl
      | [_,_],_=>rfl
      | _::_::_::_::_,_=>rfl
    | _=>rfl
   rw[e]at g;try?;exact g
 | true=>
   obtain⟨o,rfl,i,s⟩:=dZ h;match o,i,s,g with
   | [f, t,p],_,_,g=>
     try?;refine%[rfl,_,rfl|?_];have e:nU u d (.tup [f,t,p])=(BV f&&my t p u d):=rfl;rw[e]at g
     cases f with
     | int n=>
       try?;refine%[rfl,_,rfl|?_];have e:BV (.int n)=wZ n:=rfl;rw[e]at g
       cases v:wZ n with
       | true=>rw[v]at g;try?;exact%[rfl,_,_,_,_,rfl,r,q,w|g]
       | false=>rw[v]at g;try?;exact g
     | _=>try?;exact g
   | [],i,_,_=>simp at i
   | [_],i,_,_=>simp at i
   | [_,_],i,_,_=>simp at i
   | _::_::_::_::es,_,s,_=>simp at s;omega
def Ft(B:%[|2])(b:az Ω c_tup)(a:vA Ω c_read):OkF Ω "is_reads" tH 6 Ms c_reads:=by refine aJ (N:=Ms) (Hz B b a) %[|6] ?_;rintro j S W ⟨x,m,d,rfl,g,f,k,c⟩ o;try?;refine%[rfl,_,_,_,rfl|?_];try?;unfold uH at c;refine%[λ h=>?_|λ h=>by rw[h]at c;exact c];rw[h]at c;obtain⟨j,rfl,p,q⟩:=dZ h;try?;refine fC (λ x=>.bl (nU m d x)) %[|0] ?_ (fu c);intro i e n Q l;try?;exact%[rfl,_,_,_,rfl,g,f,k|l]
def Kz(m:az Ω c_tup)(k:j7 Ω c_start)(l:bJ Ω c_tp)(j:lF Ω c_reads):OkF Ω "is_deed" vK 7 Ms c_deed:=by
 refine aJ (N:=Ms) (Mt m k l j) %[|6] ?_;rintro q S W ⟨x,o,d,rfl,n,i,u,f⟩ z;try?;refine%[rfl,_,_,_,rfl|?_]
 cases h:cJ x 4 4 with
 | false=>
   have e:g8 o d x=false:=by
    cases x with
    | tup q=>
      match q,h with
      | [a,b,c,d],h=>exact tf h
      | [],_=>rfl
      | [_],_=>rfl
      | [_,_],_=>rfl
      | [_,_,_],_=>rfl
      | _::_::_::_::_::_,_=>rfl
    | _=>rfl
   rw[e]at f;try?;exact f
 | true=>
   obtain⟨q,rfl,g,v⟩:=dZ h;match q,g,v,f with
   | [t, p,s,r],_,_,f=>
     have e:g8 o d (.tup [t,p,s,r])=(my t p o d&&(isStart s d&&uH r o d)):=rfl;rw[e]at f;try?;refine%[rfl,_,_,_,_,rfl,n,i,u|?_]
     cases w:my t p o d with
     | false=>rw[w]at f;try?;exact f
     | true=>
       rw[w,ii]at f;try?;refine%[rfl,_,_,rfl,i,u|?_]
       cases y:isStart s d with
       | false=>rw[y]at f;try?;exact f
       | true=>rw[y,ii]at f;try?;exact%[rfl,_,_,_,rfl,n,i,u|f]
   | [],g,_,_=>simp at g
   | [_],g,_,_=>simp at g
   | [_,_],g,_,_=>simp at g
   | [_,_,_],g,_,_=>simp at g
   | _::_::_::_::_::es,_,v,_=>simp at v;omega
def JR(B:%[|2])(j:az Ω c_tup)(g:kE Ω c_loops)(f:mH Ω c_deed):OkF Ω "is_nest" vG 8 Mg c_nest:=by
 refine aJ (N:=Ms) (MT B j g f) %[|6] ?_;rintro m S W ⟨x,k,rfl,q,c⟩ w;try?;refine%[rfl,_,_,_,rfl|?_]
 cases h:cJ x 2 2 with
 | false=>
   have e:jW k x=false:=by
    cases x with
    | tup m=>
      match m,h with
      | [a,b],h=>exact tf h
      | [],_=>rfl
      | [_],_=>rfl
      | _::_::_::_,_=>rfl
    | _=>rfl
   rw[e]at c;try?;exact c
 | true=>
   obtain⟨m,rfl,d,p⟩:=dZ h;match m,d,p,c with
   | [l, dd],_,_,c=>
     have e:jW k (.tup [l,dd])=(iV l&&(cJ dd 1 4&&(parts dd).all (g8 k ((parts l).length:Int)))):=rfl;rw[e]at c;try?;refine%[rfl,_,rfl|?_]
     cases n:iV l with
     | false=>rw[n]at c;try?;exact c
     | true=>
       rw[n,ii]at c
       cases l with
       | tup r=>have s:(r.length:Int)<=3:=cE (bz (bz n).1).2;have c:W (.bl (cJ dd 1 4&&(parts dd).all (g8 k (r.length:Int)))) S:=c;try?;refine%[rfl,_,_,_,rfl|?_];try?;refine%[λ o=>?_|λ o=>by rw[o]at c;exact c];rw[o]at c;obtain⟨t,rfl,d,p⟩:=dZ o;try?;refine fC (λ x=>.bl (g8 k (r.length:Int) x)) %[|0] ?_ (fu c);intro i e v Q u;try?;exact%[rfl,_,_,_,rfl,q,%[|0],%[|0]|u]
       | _=>exact ff n
   | [],d,_,_=>simp at d
   | [_],d,_,_=>simp at d
   | _::_::_::t,_,p,_=>simp at p;omega
def EY(B:%[|2])(b:az Ω c_tup)(a:vO Ω c_nest):OkF Ω "is_nests" rY 9 Mg c_nests:=by refine aJ (N:=Mg) (JC B b a) %[|6] ?_;rintro f S W ⟨x,j,rfl,d,c⟩ l;try?;refine%[rfl,_,_,_,rfl|?_];try?;unfold uc at c;refine%[λ h=>?_|λ h=>by rw[h]at c;exact c];rw[h]at c;obtain⟨f,rfl,m,n⟩:=dZ h;try?;refine fC (λ x=>.bl (jW j x)) %[|0] ?_ (fu c);intro i e k Q g;try?;exact%[rfl,_,_,rfl,d|g]
structure Rd where
 fac:Int
 tab:Nat
 pl:List Fm
structure Dd where
 tab:Nat
 pl:List Fm
 st:Fm
 rds:List Rd
structure Ns where
 lps:List Lp
 dds:List Dd
structure Pg where
 ws:List Int
 nss:List Ns
def dP(pl:List Fm):D:=.tup (pl.map dF)
def dRd(r:Rd):D:=.tup [.int r.fac,.int r.tab,dP r.pl]
def dDd(x:Dd):D:=.tup [.int x.tab,dP x.pl,dF x.st,.tup (x.rds.map dRd)]
def dNs(n:Ns):D:=.tup [.tup (n.lps.map dL),.tup (n.dds.map dDd)]
def dWs(ws:af1):D:=.tup (ws.map .int)
def dPg(p:Pg):D:=.tup [dWs p.ws,.tup (p.nss.map dNs)]
def many(nss:List Ns):Int:=(nss.map λ n=>(%[|71]:Int)*(n.dds.length:Int)).sum
def tD(n:Ns):Prop:=1<=n.lps.length/\Fits n.lps/\n.dds.length<=1000
def nj:Ct:=λ b S W=>∃a,b=[.tup (List.map dNs a)]/\a.length<=1000/\(∀n∈a,tD n)/\flat S/\W (.int (many a)) S
def Hs:Ct:=λ a S W=>∃p:Pg,a=[dWs p.ws,.tup (List.map dNs p.nss)]/\jV (dWs p.ws)=true/\uc (.tup (p.nss.map dNs)) p.ws=true/\p.nss.length<=1000/\(∀n∈p.nss,tD n)/\many p.nss<=60/\flat S/\W (dPg p) S
def Ru(h:jV (dWs ws)=true):Ws ws:=by obtain⟨c,d⟩:=bz h;have:=Dn c;refine%[by simp at this;omega|λ w f=>?_];have e:=gT.mp d (.int w) (c9.mpr %[w,f|rfl]);obtain⟨a,b⟩:=bz e;exact%[cE a|cE b]
def pK(B:%[|2])(a:eF Ω c_counts):OkF Ω "number_of_steps" iu 4 qC nj:=by
 refine aJ (N:=qC) (qz B a) %[|6] ?_;rintro m S W ⟨c,rfl,q,b,h,l⟩ p;try?;refine gU (λ n=>.int ((%[|71]:Int)*(n.dds.length:Int))) %[|0] ?_ ?_
 . intro i n j Q k;obtain⟨f,h2,o⟩:=b n (y4 j);have g:=(h2.2 n.lps.length (y9 _)).1;rw[cy]at g;try?;refine%[rfl|?_];try?;refine%[rfl,_,rfl,f,h2,h|?_];have d:(((cnt n.lps).map dC).length:Int)=(%[|71]:Int):=by rw[y7]
   have e:((n.dds.map dDd).length:Int)=(n.dds.length:Int):=by rw[y7]
   walk_at "n";rw[d,e];exact%[.inl %[|40]|k]
 {exact%[c.map λ(n:Ns)=>(%[|71]:Int)*(n.dds.length:Int),by rw[dr];rfl|l]}
def xX(B:%[|2])(b:jx Ω c_widths)(a:j5 Ω c_nests)(c:aV Ω nj):OkF Ω "program_of" mX 10 An Hs:=by refine aJ (N:=An) (Bs B b a c) %[|6] ?_;rintro l S W ⟨p,rfl,f,g,k,d,h,i,j⟩ m;have e:=Ru f;try?;refine%[rfl,_,rfl|?_];rw[f];try?;refine%[rfl,_,_,rfl,e|?_];rw[g];try?;refine%[rfl,_,rfl,k,d,i|?_];try?;rw[cm %[|0]];try?;exact j
abbrev Stp:=Nat×List Int×Nat
def dSt(s:Stp):D:=.tup [.int s.1,dC s.2.1,.int s.2.2]
def dU(i:Nat)(n:Ns):List Stp:=(cnt n.lps).flatMap λ a=>(List.range n.dds.length).map λ s=>(i,a,s)
def aQ(nss:List Ns):List Stp:=(nss.mapIdx dU).flatten
inductive c_steps(ds:List D)(S:Store)(W:WD):Prop
 | mk(p:Pg):ds=[dPg p]->p.nss.length<=1000->(∀n∈p.nss,tD n)->(aQ p.nss).length<=1000000->flat S->hand W ((aQ p.nss).map dSt) S->c_steps ds S W
def mO{nss:List Ns}{n}(h:nss[i]? =some n):aQ (nss.take (i+1))=aQ (nss.take i)++dU i n:=by unfold aQ;rw[aD h,List.mapIdx_append,List.flatten_append];have a:=(z0.mp h).1;simp only[List.mapIdx_cons,List.mapIdx_nil,k9,List.flatten_nil,gt,ej];rw[Nat.min_eq_left %[|0],mM]
def yW(xs:List Stp):aa (xs.map dSt)=true:=by
 induction xs with
 | nil=>rfl
 | cons x xs a=>simp only[cw,aa,a,df];have:=tM [x.2.1];simp only[cw,l9,aa,df]at this;show aa [D.int _,dC x.2.1,D.int _]=true;simp only[aa,this,df];rfl
def R9(h:flat S)(a:aa l=true):flat (S++[l]):=λ x b=>by rcases cn.mp b with q | q;{exact h x q};{rw[cf.mp q];exact a}
def RN{n}(h:nss[i]? =some n):(aQ (nss.take i)).length+(dU i n).length<=(aQ nss).length:=by
 have e:∃a,aQ nss=aQ (nss.take (i+1))++a:=by
  unfold aQ;conv=>enter [1,a,1,1];rw[<-iX (i+1) nss]
  rw[List.mapIdx_append,List.flatten_append];exact%[_|rfl]
 obtain⟨a,e⟩:=e;rw[e,mO h,x8,x8];omega
def Ep(B:%[|2])(k:eF Ω c_counts):OkF Ω "steps_of" t8 4 Jb c_steps:=by
 refine aJ (N:=Ji) (Bl.frz (Ku B k)) %[|6] ?_;rintro U S W ⟨p,rfl,hz,w,A,z,I⟩ Y;try?;refine bc (λ i a b=>(∃x y h f,a=[some (dPg p),%[|21],x,y,h,f])/\b=S++[(aQ (p.nss.take i)).map dSt]) %[%[_,_,_,_|rfl]|rfl] ?_ ?_
 . rintro M Q J o _ _ i e a b m ⟨⟨x,y,h,f,rfl⟩,rfl⟩;obtain⟨V,u,rfl⟩:=nO m;obtain⟨n,v,rfl⟩:=bA u;obtain⟨G,H,X⟩:=w n (y4 v);have lf:=RN v;try?;refine%[rfl|?_];try?;refine%[rfl,_,rfl,G,H,R9 z (yW _)|?_];walk_at "n";refine bc (λ j a b=>(∃h f,a=[some (dPg p),%[|21],some (.int (i:Int)),some (dNs n),h,f])/\b=S++[(aQ (p.nss.take i)++((cnt n.lps).take j).flatMap λ g=>(List.range n.dds.length).map λ s=>(i,g,s)).map dSt]) %[%[_,_|rfl]|by simp] ?_ ?_
   . rintro O R K q _ _ j e a b m ⟨⟨h,f,rfl⟩,rfl⟩;obtain⟨g,l,rfl⟩:=bA m;have C:((n.dds.map dDd).length:Int)=(n.dds.length:Int):=by rw[y7]
     have lj:((cnt n.lps).take j |>.flatMap λ g=>(List.range n.dds.length).map λ s=>(i,g,s)).length+n.dds.length<=(dU i n).length:=by
      have:∃c,dU i n=((cnt n.lps).take (j+1) |>.flatMap λ g=>(List.range n.dds.length).map λ s=>(i,g,s))++c:=by
       unfold dU;conv=>enter [1,c,1,2];rw[<-iX (j+1) (cnt n.lps)]
       rw[hY];exact%[_|rfl]
      obtain⟨c,E⟩:=this;rw[E,aD l,hY,x8,x8];simp
     try?;rw[C];refine%[%[|40]|bc (λ t a b=>(∃f,a=[some (dPg p),%[|21],some (.int (i:Int)),some (dNs n),some (dC g),f])/\b=S++[((aQ (p.nss.take i)++((cnt n.lps).take j).flatMap λ g=>(List.range n.dds.length).map λ s=>(i,g,s))++(List.range t).map λ s=>(i,g,s)).map dSt]) %[%[_|rfl]|by simp] ?_ ?_]
     . rintro P T L r _ _ t e a b m ⟨⟨f,rfl⟩,rfl⟩;obtain⟨Z,rfl⟩:=cP m;have F:(0:Int)+(t:Int)=(t:Int):=%[|0]
       rw[F];try?;refine%[_,aH _ _,by simp only[y7,x8,fq];omega|?_];refine r _ _ _ %[%[_|rfl]|?_];rw[b8,kQ];simp only[da,cw,l9,ck];rfl
     {rintro a b ⟨⟨f,rfl⟩,rfl⟩;refine q _ _ _ %[%[_,_|rfl]|?_];rw[aL,aD l,hY,List.flatMap_singleton,<-ck,f7]}
   {rintro a b ⟨⟨h,f,rfl⟩,rfl⟩;refine o _ _ _ %[%[_,_,_,_|rfl]|?_];rw[y7,cy,mO v];rfl}
 . rintro a b ⟨⟨x,y,h,f,rfl⟩,rfl⟩;have e:((p.nss.map dNs).mapIdx λ i d=>D.tup [D.int (i:Int),d]).length=p.nss.length:=by simp
   rw[e,cy];exact oZ I (yW _) z
inductive c_deedof(ds:List D)(S:Store)(W:WD):Prop
 | mk(p:Pg)(s:Stp)(n:Ns)(x:Dd):ds=[dPg p,dSt s]->p.nss[s.1]? =some n->n.dds[s.2.2]? =some x->W (dDd x) S->c_deedof ds S W
abbrev Cell:=Nat×List Int
def aF(c:Cell):D:=.tup [.int c.1,.tup (c.2.map .int)]
def C64(cs:af1):Prop:=∀c∈cs,-(2 ^ 64)<c/\c<2 ^ 64
def Qu(pl:List Fm):Prop:=pl.length<=1000/\∀f∈pl,f.2.length<=1000
def spot(t:Nat)(pl:List Fm)(cs:af1):Cell:=(t,pl.map λ f=>atC f cs)
inductive c_cellat(ds:List D)(S:Store)(W:WD):Prop
 | mk(t:Nat)(pl:List Fm)(cs:af1):ds=[.int t,dP pl,dC cs]->Qu pl->C64 cs->W (aF (spot t pl cs)) S->c_cellat ds S W
def J5:OkF Ω "deed_of" vo 1 KZ c_deedof:=by refine aJ (N:=KZ) (K5) %[|6] ?_;rintro g S W ⟨p,⟨i,f,t⟩,n,x,rfl,c,e,d⟩ h;have a:atI (p.nss.map dNs) ((i:Nat):Int)=some (dNs n):=bW (by rw[y8,c];rfl);have b:atI (n.dds.map dDd) ((t:Nat):Int)=some (dDd x):=bW (by rw[y8,e];rfl);try?;refine%[_,a|?_];try?;exact%[_,b|d]
def JS(B:%[|2])(a:bL Ω c_comes):OkF Ω "cell_at" vP 2 MN c_cellat:=by
 refine aJ (N:=MN) (Lh B a) %[|6] ?_;rintro k S W ⟨t,g,b,rfl,hpl,c,d⟩ l;try?;refine gU (λ f=>.int (atC f b)) (by have:=hpl.1;omega) ?_ ?_;{intro i f h Q j;try?;exact%[rfl,f.1,f.2,b,rfl,hpl.2 f (y4 h),c|j]}
 . try?;have e:(spot t g b).2.map D.int=g.map λ f=>D.int (atC f b):=by unfold spot;rw[dr];rfl
   unfold aF at d;rw[e]at d;exact d
def dCs(x:Dd)(cs:af1):D:=.tup [aF (spot x.tab x.pl cs),.lst (x.rds.map λ r=>aF (spot r.tab r.pl cs))]
def Wc(x:Dd):Prop:=Qu x.pl/\x.rds.length<=1000/\∀r∈x.rds,Qu r.pl
inductive c_cellsStep(ds:List D)(S:Store)(W:WD):Prop
 | mk(p:Pg)(s:Stp)(n:Ns)(x:Dd):ds=[dPg p,dSt s]->p.nss[s.1]? =some n->n.dds[s.2.2]? =some x->Wc x->C64 s.2.1->W (dCs x s.2.1) S->c_cellsStep ds S W
def sW(b:cj Ω c_deedof)(a:mR Ω c_cellat):OkF Ω "cells_of_step" jz 3 KZ c_cellsStep:=by refine aJ (N:=uY) (uQ b a) %[|6] ?_;rintro l S W ⟨p,⟨i,d,t⟩,n,x,rfl,e,k,hok,c,h⟩ m;try?;refine%[rfl,p,(i,d,t),n,x,rfl,e,k|?_];try?;refine gU (λ r=>aF (spot r.tab r.pl d)) (by have:=hok.2.1;omega) ?_ ?_;{intro j r g Q f;try?;refine%[rfl|?_];try?;exact%[rfl,r.tab,r.pl,d,rfl,hok.2.2 r (y4 g),c|f]};{try?;refine%[rfl,x.tab,x.pl,d,rfl,hok.1,c|?_];try?;exact h}
def mK(ns:af1)(c n:Int):List D:=[.int c,.int n,.lst (ns.map .int)]
def bK(S:Store)(k:Nat):Prop:=∃a c n,S[k]? =some (mK a c n)/\0<=n
def bN(S:Store)(k:Nat)(S':Store):Prop:=∃a c n,S'=S.set k (mK a c n)/\0<=n
def bN.trans{d e}(a:bN S k d)(b:bN d k e):bN S k e:=by obtain⟨_,_,_,rfl,_⟩:=a;obtain⟨g,c,n,rfl,f⟩:=b;exact%[g,c,n,by rw[List.set_set]|f]
def bN.refl(p:bK S k):bN S k S:=by obtain⟨b,c,n,h,a⟩:=p;exact%[b,c,n,by obtain⟨d,e⟩:=z0.mp h;rw[<-e,List.set_getElem_self]|a]
def bN.len(u:bN S k S'):S'.length=S.length:=by obtain⟨_,_,_,rfl,_⟩:=u;simp
def bN.pen(p:bK S k)(u:bN S k S'):bK S' k:=by obtain⟨_,_,_,h,_⟩:=p;obtain⟨b,c,n,rfl,a⟩:=u;exact%[b,c,n,set_get h|a]
def bK.lt(p:bK S k):k<S.length:=by obtain⟨_,_,_,h,_⟩:=p;exact(z0.mp h).1
def bK.app(J:Store)(p:bK S k):bK (S++J) k:=by have a:=p.lt;obtain⟨d,c,n,h,b⟩:=p;exact%[d,c,n,by rw[x9 a];exact h|b]
def bN.split(p:bK S k)(u:bN (S++J) k T):∃S',T=S'++J/\bN S k S'/\bK S' k:=by have b:=p.lt;obtain⟨a,c,n,rfl,d⟩:=u;have u:bN S k (S.set k (mK a c n)):=%[a,c,n,rfl|d];exact%[S.set k (mK a c n),by rw[List.set_append_left k _ b],u|u.pen p]
def cg(ns:af1):aa (ns.map D.int)=true:=by
 induction ns with
 | nil=>rfl
 | cons y b a=>simp only[cw,aa,a,df];rfl
def vC(ns:af1)(c n:Int):aa (mK ns c n)=true:=by show(aa (ns.map D.int)&&true)=true;rw[cg];rfl
def bN.flat(u:bN S k S')(h:flat S):RF.flat S':=by obtain⟨b,c,n,rfl,_⟩:=u;intro l a;rcases List.mem_or_eq_of_mem_set a with a | rfl;{exact h l a};{exact vC ..}
inductive c_cellB(ds:List D)(S:Store)(W:WD):Prop
 | mk(ns k:_):ds=[.lst (List.map .int ns),.int k]->0<=k->(∀v,W (.int v) S)->c_cellB ds S W
inductive c_penB(ds:List D)(S:Store)(W:WD):Prop
 | mk(ns k:_):ds=[.lst (List.map .int ns),.int k]->0<=k->(∀c,W (.loc S.length) (S++[mK ns c k]))->c_penB ds S W
inductive c_takeB(ds:List D)(S:Store)(W:WD):Prop
 | mk(k m:_):ds=[.loc k,.int m]->bK S k->0<m->m<1000000000000000000000000000000000000000000000000000000000000->(∀v S',0<=v->v<m->bN S k S'->bK S' k->W (.int v) S')->c_takeB ds S W
def bw{m}{W}(b:bK S k)(a:0<m)(h1:m<1000000000000000000000000000000000000000000000000000000000000)(w:∀v S',0<=v->v<m->bN S k S'->bK S' k->W (.int v) S'):([D.loc k,.int m].length=2/\c_takeB [.loc k,.int m] S W):=%[rfl,k,m,rfl,b,a,h1|w]
def Tf(B:%[|2]):OkF Ω "_law_cell" Jl 1 Wh c_cellB:=by
 refine aJ (N:=Xq) (VG B) %[|6] ?_;rintro ds S W ⟨c,k,rfl,j,h⟩ l;have a:∀v:Int,(xG B).wp [some (.lst (c.map .int)),some (.int k),some (.int v)] S {nx:=λ _ f=>W .non f,rt:=W}:=by intro v;have e:=mN ((v % 2147483629+6151*k+1)*48271) (b:=2147483647) %[|1];have i:=oQ ((v % 2147483629+6151*k+1)*48271) (b:=2147483647) %[|1];try?;exact h _
 have d:∀v:Int,(xx B).wp [some (.lst (c.map .int)),some (.int k),some (.int v)] S {nx:=λ _ f=>W .non f,rt:=W}:=by intro v;try?;refine%[λ q=>?_|λ q=>%[λ z=>ff z|λ _=>a v]];have q:=cE q;obtain⟨x,g,e⟩:=lB (ds:=c.map D.int) (v:=0) %[|1] %[|0];obtain⟨y,_,rfl⟩:=c9.mp (y4 e);try?;refine%[_,g|?_];try?;refine%[λ _=>?_|λ _=>a v];try?;exact h _
 try?;refine%[λ q=>?_|λ q=>d 7];have q:=cE q;try?;obtain⟨x,g,e⟩:=lB (ds:=c.map D.int) (v:=k % ((c.map D.int).length:Int)) (oQ _ %[|0]) (mN _ q);obtain⟨y,_,rfl⟩:=c9.mp (y4 e);exact%[_,g|d y]
def XF(a:iZ Ω c_cellB):OkF Ω "_law_pen" Oc 2 Wh c_penB:=by refine aJ (N:=Wh) (aaD a) %[|6] ?_;rintro f S W ⟨e,k,rfl,b,d⟩ g;try?;refine%[rfl,e,k,rfl,b|λ c=>?_];try?;exact d c
def Ro(f:iZ Ω c_cellB):OkF Ω "_law_take" HH 2 VF c_takeB:=by
 refine aJ (N:=Wq) (W0 f) %[|6] ?_;rintro q S W ⟨k,m,rfl,⟨e,c,n,i,j⟩,g,r,o⟩ s;have p:∀l:List D,(S.set k l)[k]? =some l:=λ l=>set_get i;have a:∀d b,0<=b->W (.int (c % m)) (S.set k (mK e d b)):=λ d b h=>
  o _ _ (oQ _ %[|0]) (mN _ g) %[e,d,b,rfl|h] %[e,d,b,p _|h];try?;refine%[λ _=>?_|λ _=>a (c/m) n j];try?;refine%[rfl,e,n+1,rfl,%[|0]|λ v=>?_];try?;exact a v (n+1) %[|0]
def JV{a:Bl Ω}{W}{b}(P:%[|53])(d:P 0 Γ b)(g:∀i Γ' S',P i Γ' S'->S'[k]? =%[|78])(e:∀I:%[|53],(∀i G T,P i G T->I i G T)->∀i kv Γ' S',kvs[i]? =some kv->P i Γ' S'->c.wp (cD kv.1) Γ' λ Γ2=>a.wp Γ2 S' {W with nx:=I (i+1),ct:=I (i+1),bk:=W.nx})(f:∀Γ' S',P kvs.length Γ' S'->W.nx Γ' S'):JB Γ c a W k kvs b:=
 aax %[P,d,g,e P λ _ _ _ h=>h|f]
def cW(h:n=S.length):(S++[l])[n]? =some l:=by subst h;exact aH _ _
def gM(h:n=S.length):(S++[l]).set n l'=S++[l']:=by subst h;exact b8 _ _ _
def cB(h:flat S)(b:aa l=true):flat (S++[l]):=by
 intro x a;rcases cn.mp a with a | a;{exact h x a}
 . have:x=l:=by simpa using a
   subst this;exact b
def iY(f:Fm):aB (dF f)=true:=cg (f.1::f.2)
def Xe(ns:af1):Prop:=∀n∈ns,-99<=n/\n<=99
def FmB(d:Nat)(w:Int)(f:Fm):Prop:=f.2.length=d/\Xe f.2/\((-w<=f.1/\f.1<=w)\/(w=1/\ -99<=f.1/\f.1<=99))
inductive c_formB(ds:List D)(S:Store)(W:WD):Prop
 | mk(k d:Nat)(w:Int):ds=[.loc k,.int d,.int w]->bK S k->flat S->d<=10->1<=w->w<1000000000000000000000000000000->(∀f S',FmB d w f->bN S k S'->bK S' k->flat S'->W (dF f) S')->c_formB ds S W
theorem vX{P:Int->Prop}:∀{ys:List D},(∀(i:Nat)(y:D),ys[i]? =some y->∃n:Int,y=D.int n/\P n)->∃fs:List Int,ys=fs.map D.int/\∀n∈fs,P n
 | [],_=>%[[],rfl|by simp]
 | y::ys,h=>by obtain⟨n,rfl,d⟩:=h 0 y rfl;obtain⟨fs,rfl,c⟩:=vX (ys:=ys) λ i y b=>h (i+1) y (by simpa using b);exact%[n::fs,rfl|by intro m a;rcases cK.mp a with rfl | a;{exact d};{exact c m a}]
def TV(B:%[|2])(j:bu Ω c_takeB):OkF Ω "_law_form" HR 3 Xw c_formB:=by
 refine aJ (N:=We) (Bl.drp (Wj B j)) %[|6] ?_;rintro ds S W ⟨k,d,w,rfl,I,G,Y,aa,ab,M⟩ hl;have C:∀F,bN S k F->bK F k->(yh B j).wp [some (.loc k),some (.int d),some (.int w),none,none] F {nx:=λ _ A=>W .non A,rt:=Drp S.length W}:=by
  intro F u0 p0;try?;refine bw p0 %[|0] %[|0] λ v A v0 v1 l H=>?_;have l:=u0.trans l;have f1:=l.flat G;have n1:=l.len;try?;refine%[%[|40]|rZ %[λ i s T=>∃m b K,T=m++[D.int (v-w)::List.map D.int b]/\bN S k m/\bK m k/\b.length=i/\Xe b/\s=[some (.loc k),some (.int d),some (.int w),%[|21],K],%[A,[],none,rfl,l,H,rfl,λ n g=>by simp at g|by rw[n1];rfl],?_|?_]]
  . rintro i e s T Z ⟨m,b,K,rfl,h,t,f,o,rfl⟩;obtain⟨hi,rfl⟩:=cP Z;try?;refine bw (t.app _) %[|1] %[|1] λ x T3 x0 x1 r P=>?_;obtain⟨Q,rfl,r,P⟩:=r.split t;have r:=h.trans r;walk_at "n";obtain⟨y,U,V⟩:=lB (ds:=[D.int 0,.int 1,.int 1,.int 0,.int (-1),.int 2,.int 0,.int 1]) x0 x1;have O:=y4 V;refine%[y,U|?_];obtain⟨z,rfl,hz⟩:∃z:Int,y=.int z/\ -99<=z/\z<=99:=by simp only[cK,iN,nL]at O;rcases O with rfl | rfl | rfl | rfl | rfl | rfl | rfl | rfl<;>exact%[_,rfl,%[|1]|%[|1]]
    refine%[_,cW r.len.symm,%[|16]|?_];rw[gM r.len.symm];refine%[Q,b++[z],_,by rw[da];rfl,r,P,by simp[f],λ n g=>?_|rfl];rcases cn.mp g with g | g;{exact o n g}
    . have:n=z:=by simpa using g
      omega
  {rintro s T ⟨m,b,K,rfl,h,t,f,o,rfl⟩;rw[aL]at f;try?;refine%[_,cW h.len.symm|.inr %[[_],m,rfl,by rw[h.len];exact y9 _,iY (v-w,b),h.flat G|M (v-w,b) _ %[by simpa using f,o|.inl %[?_|?_]] h t (h.flat G)]];{show-w<=v-w;omega};{show v-w<=w;omega}}
 try?;refine%[λ q=>?_|λ q=>%[λ z=>ff z|λ _=>C S (.refl I) I]];have q:=cE q;try?;refine bw I %[|1] %[|1] λ v A v0 v1 l H=>?_;try?;refine%[λ _=>?_|λ _=>C A l H];try?;refine%[%[|40]|sV (λ _ y=>∃n:Int,y=.int n/\(-99<=n/\n<=99)) (λ E=>bN S k E/\bK E k) (by rw[aL];omega) %[l|H] ?_ ?_];{rintro i d E Y ⟨u,p⟩ R X;try?;refine bw p %[|1] %[|1] λ w m w0 w1 h t=>?_;try?;exact X _ _ %[_,rfl,%[|0]|%[|0]] %[u.trans h|t]};rintro ys E c J ⟨u,p⟩;obtain⟨b,rfl,L⟩:=vX J;rw[aL,y7]at c
 cases b with
 | nil=>simp at c
 | cons a b=>try?;exact .inl (M (a,b) _ %[by simp at c;show b.length=d;omega,λ n g=>L n (x4 _ g)|.inr %[%[|0]|L a x6]] u p (u.flat G))
def KQ(ls:List Lp)(l:Lp):cnt (ls++[l])=bD l.1 l.2 (cnt ls):=by unfold cnt;rw[kn];rfl
def lE(a:Int)(k:Nat)(cs:af1):atC (a,List.replicate k 0) cs=a:=by
 unfold atC comesTo;have:∀(k:Nat)(cs:af1),(List.zipWith (λ a b=>a*b) (List.replicate k (0:Int)) cs).sum=0:=by
  intro k
  induction k with
  | zero=>intro cs;simp
  | succ k d=>
    intro cs
    cases cs with
    | nil=>simp
    | cons c cs=>simp[gl,d]
 rw[this];show a+0=a;omega
def Xh(a:Int)(cs:af1)(c:Int):atC (a,List.replicate cs.length 0++[1]) (cs++[c])=a+c:=by
 unfold atC comesTo;have:∀cs:List Int,(List.zipWith (λ a b=>a*b) (List.replicate cs.length (0:Int)++[1]) (cs++[c])).sum=c:=by
  intro cs
  induction cs with
  | nil=>simp
  | cons d cs e=>simp[gl,e]
 rw[this]
def W5(a b:Int)(fs cs:af1):atC (a+b,fs) cs=atC (a,fs) cs+b:=by unfold atC comesTo;dsimp only;omega
def VN{l}(h:cs∈cnt (ls++[l])):∃cs' c,cs'∈cnt ls/\cs=cs'++[c]/\atC l.1 cs'<=c/\c<atC l.2 cs':=by rw[KQ]at h;obtain⟨d,e,h⟩:=eL.mp h;unfold cI at h;obtain⟨c,a,rfl⟩:=c9.mp h;unfold upI at a;obtain⟨k,b,rfl⟩:=c9.mp a;have b:=dA.mp b;exact%[d,_,e,rfl,%[|0]|%[|0]]
def Xf{l}{a:Nat}(h:∀cs∈cnt ls,atC l.2 cs-atC l.1 cs<=(a:Int)):(cnt (ls++[l])).length<=(cnt ls).length*a:=by rw[KQ];refine wU λ cs b=>?_;rw[d7];have:=h cs b;omega
def Bef(bf:D)(ls:List Lp):Prop:=bf=.non\/∃a b:Int,bf=.tup [.int a,.int b]/\ -3<=a/\a<=3/\1<=b/\b<=4/\1<=ls.length/\∀e∈cnt ls,∃d c,e=d++[c]/\a<=c/\c<a+b
def LpI(ls:List Lp):Prop:=∀(i:Nat)(l:Lp),ls[i]? =some l->BdF l.1 i/\BdF l.2 i
def LpI.snoc{l}(h:LpI ls)(h1:BdF l.1 ls.length)(h2:BdF l.2 ls.length):LpI (ls++[l]):=by
 intro i x a;by_cases b:i<ls.length;{rw[x9 b]at a;exact h i x a}
 . rw[dt %[|0]]at a;have:i=ls.length:=by have:=(z0.mp a).1;simp at this;omega
   subst this;simp at a;subst a;exact%[h1|h2]
def nlO(o:Option D):Prop:=∀d,o=some d->aB d=true
def d9:nlO none:=λ d h=>by cases h
def nJ(n:Int):nlO (some (.int n)):=λ d h=>by cases h;rfl
def Hi(n:Nat)(o:Option D):Prop:=nlO o\/∃j,o=some (.loc j)/\n<=j
def N8{J}{o}(h:nlO o):mL n J o=o:=by
 cases o with
 | none=>rfl
 | some d=>
   cases d with
   | loc j=>have:=h _ rfl;simp[aB]at this
   | _=>rfl
def OD{J}(h:j<n):mL n J (some (.loc j))=some (.loc j):=by simp[mL,h]
def Ba{J:List (List D)}{o}(c:flat J)(h:Hi n o):nlO (mL n J o):=by
 rcases h with h | ⟨j,rfl,f⟩;{rw[N8 h];exact h}
 . intro d a;have:¬j<n:=%[|0]
   simp only[mL,c8 this]at a
   cases e:J[j-n]? with
   | none=>rw[e]at a;cases a
   | some b=>rw[e]at a;cases a;exact c b (y4 e)
def jj(ls:List Lp):aa (ls.map dL)=true:=by
 induction ls with
 | nil=>rfl
 | cons y b a=>simp only[cw,aa,a,df];show aa [dF y.1,dF y.2]=true;simp only[aa,iY,df]
inductive c_loopsB(ds:List D)(S:Store)(W:WD):Prop
 | mk(k:Nat)(m:Nat):ds=[.loc k,.int m]->bK S k->flat S->1<=m->m<=1000->(∀ls S',Lps ls->(cnt ls).length<=m->bN S k S'->bK S' k->flat S'->W (.tup (ls.map dL)) S')->c_loopsB ds S W
def zeros(n:Int):(List.replicate n.toNat [D.int 0]).flatten=(List.replicate n.toNat (0:Int)).map D.int:=by
 generalize n.toNat=m
 induction m with
 | zero=>rfl
 | succ m a=>simp[gl,a]
def ach{b:Bl Ω}{W}(h:b.wp Γ S {W with nx:=Kv S.length W.nx}):b.fza.wp Γ S W:=h
def Qz(h:R (Γ.set j (some d))):(Tg.nm j).wp d Γ R:=h
def bN.split2{a b}(p:bK S k)(u:bN (S++[a]++[b]) k T):∃S',T=S'++[a]++[b]/\bN S k S'/\bK S' k:=by obtain⟨g,rfl,e,h⟩:=u.split (p.app _);obtain⟨c,rfl,f,d⟩:=e.split p;exact%[c,rfl,f|d]
def dj(h:n=S.length):(S++[l]++J)[n]? =some l:=by subst h;rw[x9 (by simp)];exact aH _ _
def gQ(h:n=S.length):(S++[l]++J).set n l'=S++[l']++J:=by subst h;rw[List.set_append_left _ _ (by simp),b8]
def QC(ls:List Lp):∀cs∈cnt ls,cs.length=ls.length:=by
 have:∀(ls:List Lp)(a:ah3)(n:Nat),(∀cs∈a,cs.length=n)->∀cs∈ls.foldl (λ a l=>bD l.1 l.2 a) a,cs.length=n+ls.length:=by
  intro ls
  induction ls with
  | nil=>intro a n h cs b;simpa using h cs b
  | cons l ls g=>intro a n h cs b;have:=g (bD l.1 l.2 a) (n+1) (λ i d=>by obtain⟨e,f,d⟩:=eL.mp d;unfold cI at d;obtain⟨c,_,rfl⟩:=c9.mp d;simp[h e f]) cs b;rw[this,dS];omega
 intro cs b;have:=this ls [[]] 0 (by simp) cs b;omega
inductive LoopI(S:Store)(k m i:Nat)(Γ':Gam)(T:Store):Prop
 | mk(S2 ls room bf o5 o6 o7 o8 o9 o10 o11:_):T=S2++[List.map dL ls]->bN S k S2->bK S2 k->ls.length=i->LpI ls->1<=room->(cnt ls).length*room<=m->Bef bf ls->aB bf=true->(nlO o5/\nlO o6/\nlO o7/\nlO o8/\nlO o9/\nlO o10/\nlO o11)->Γ'=[some (.loc k),some (.int m),%[|21],some (.int (room:Nat)),some bf,o5,o6,o7,o8,o9,o10,o11]->LoopI S k m i Γ' T
def Hy{o}(h:Hi n o)(e:o=some d):aB d=true\/∃j,d=.loc j:=by rcases h with h | ⟨j,rfl,_⟩;{exact .inl (h d e)};{cases e;exact .inr %[j|rfl]}
def Us{room a}{l}{j}{n v}{C s t}(L:bK S k)(I:flat S)(u:bN S k g)(p:bK g k)(w:flat J)(e:ls.length=i)(A:LpI ls)(E:BdF l.1 i)(F:BdF l.2 i)(s1:1<=a)(s2:a<=room)(M:(cnt ls).length*room<=m)
 (K:∀cs∈cnt ls,atC l.2 cs-atC l.1 cs<=(a:Int))(y:Bef j (ls++[l]))(f:aB j=true)(B:Hi (S.length+1) C)(q:Hi (S.length+1) s)(r:Hi (S.length+1) t):
 Kv (S.length+1) (LoopI S k m (i+1)) [some (.loc k),some (.int m),%[|21],some (.int ((room:Int)/(a:Int))),some j,some (.int i),some (.int a),some (.int n),some (.int v),C,s,t] (g++[(ls++[l]).map dL]++J):=by
 have z:=u.len;have P:=L.lt;have G:(room:Int)/(a:Int)=((room/a:Nat):Int):=(Int.natCast_ediv room a).symm;have c:(g++[(ls++[l]).map dL]).length=S.length+1:=by simp[z]
 refine .inr %[J,g++[(ls++[l]).map dL],rfl,by rw[c];exact y9 _,w,cB (u.flat I) (jj _),?_|?_]
 . intro x d b;match x,b with
   | 0,b=>cases b;exact .inr %[_|rfl]
   | 1,b=>cases b;exact .inl rfl
   | 2,b=>cases b;exact .inr %[_|rfl]
   | 3,b=>cases b;exact .inl rfl
   | 4,b=>cases b;exact .inl f
   | 5,b=>cases b;exact .inl rfl
   | 6,b=>cases b;exact .inl rfl
   | 7,b=>cases b;exact .inl rfl
   | 8,b=>cases b;exact .inl rfl
   | 9,b=>exact Hy B (by simpa using b)
   | 10,b=>exact Hy q (by simpa using b)
   | 11,b=>exact Hy r (by simpa using b)
   | x+12,b=>simp at b
 . rw [c];refine%[g,ls++[l],room/a,j,some (.int i),some (.int a),some (.int n),some (.int v),_,_,_,rfl,u,p,by simp[e],A.snoc (by rw[e];exact E) (by rw[e];exact F),Nat.div_pos s2 s1,?_,y,f,%[nJ _,nJ _,nJ _,nJ _,Ba w B,Ba w q|Ba w r]|?_]
   . have H:=Xf (l:=l) K;have N:=k7 (room/a) H;have O:(cnt ls).length*a*(room/a)<=(cnt ls).length*room:=by rw[Nat.mul_assoc];exact Nat.mul_le_mul_left _ (Nat.mul_div_le room a)
     omega
   {show[_,_,_,_,_,_,_,_,_,_,_,_]=[_,_,_,_,_,_,_,_,_,_,_,_];rw[OD %[|0],OD %[|0],N8 (o:=some j) (λ d h=>by cases h;exact f),G];rfl}
def Ra(B:%[|2])(g:bu Ω c_takeB):OkF Ω "_law_loops" Dh 3 SM c_loopsB:=by
 refine aJ (N:=Um) (Bl.drp (TF B g)) %[|6] ?_;rintro ds S W ⟨k,m,rfl,hp,hS,aE,aR,hw⟩ hl;try?;refine bw (hp.app _) %[|1] %[|1] λ v T v0 v1 u1 p1=>?_;obtain⟨S1,rfl,u1,p1⟩:=u1.split hp;try?;refine%[%[|40]|rZ %[LoopI S k m,%[S1,[],m,.non,none,none,none,none,none,none,none,rfl,u1,p1,rfl,λ i l h=>by simp at h,aE,by simp[cnt],.inl rfl,rfl,%[d9,d9,d9,d9,d9,d9|d9]|rfl],?_|?_]]
 . rintro i e aI T he ⟨S2,r,f,bf,o5,o6,o7,o8,o9,t,s,rfl,u2,p2,am,an,av,ap,O,ao,⟨n5,n6,n7,n8,n9,aq,ae⟩,rfl⟩;obtain⟨hi,rfl⟩:=cP he;have aP:i<=2:=%[|0]
   have ez:(0:Int)+(i:Int)=(i:Int):=%[|0]
   rw[ez];have aA:(S2++[r.map dL]).length=S.length+1:=by simp[u2.len]
   suffices body:∀Wf:DL.Fin,(∀G T,Kv (S.length+1) (LoopI S k m (i+1)) G T->Wf.nx G T)->(tO B g).wp [some (.loc k),some (.int m),%[|21],some (.int (f:Nat)),some bf,some (.int (i:Int)),o6,o7,o8,o9,t,s] (S2++[r.map dL]) Wf by refine Qz (ach ?_);simp only[pd,pf];refine body _ λ G T h=>?_;rw[aA];exact h
   intro Wf aF;try?;refine bw (p2.app _) (by split<;>omega) (by split<;>omega) λ x T3 x0 x1 u3 p3=>?_;obtain⟨S3,rfl,u3,p3⟩:=u3.split p2;have u3:=u2.trans u3;have hx:1+x<=(f:Int)/\1+x<=4:=by split at x1<;>omega
   clear x1;try?;refine bw (p3.app _) %[|1] %[|1] λ y T3 y0 y1 u4 p4=>?_;obtain⟨S4,rfl,u4,p4⟩:=u4.split p3;have u4:=u3.trans u4;try?;refine bw (p4.app _) %[|1] %[|1] λ C T3 w0 w1 Q p5=>?_;obtain⟨I,rfl,Q,p5⟩:=Q.split p4;have Q:=u4.trans Q;try?;refine%[_,_,rfl,rfl,%[|40],%[|16]|?_];rw[zeros,f7];obtain⟨w,aH⟩:∃n:Nat,1+x=(n:Int):=%[(1+x).toNat|%[|0]];rw[aH]at hx ⊢;have af:1<=w:=%[|0]
   have aw:w<=f:=%[|0]
   have Y:∀(S':Store)(l:Lp)(J:Store)(E:Nat)(ab:D)(o9 t s:Option D),bN S k S'->bK S' k->flat J->BdF l.1 i->BdF l.2 i->1<=E->E<=4->E<=f->(∀M∈cnt r,atC l.2 M-atC l.1 M<=(E:Int))->Bef ab (r++[l])->aB ab=true->Hi (S.length+1) o9->Hi (S.length+1) t->Hi (S.length+1) s->
    (di B g).wp [some (.loc k),some (.int m),%[|21],some (.int f),some ab,some (.int i),some (.int E),some (.int (y-3)),some (.int C),o9,t,s] (S'++[(r++[l]).map dL]++J) Wf:=by intro S' l J E ab o9 t s u p hJ b1 b2 s1 s4 s2 hc O ao n9 aq ae;try?;exact aF _ _ (Us hp hS u p hJ am an b1 b2 s1 s2 ap hc O ao n9 aq ae)
   have zl:(List.replicate i (0:Int)).length=i:=by simp
   have z9:Hi (S.length+1) %[|81]:=.inl λ d h=>by cases h;exact cg _
   have zb:∀a:Int,-9<=a->a<=9->BdF (a,%[|57]) i:=λ a V Z=>%[zl,V,Z|λ n X=>by have:=(pi.mp X).2;omega];have ac:∀o:DL.Fin,(∀G T,(di B g).wp G T Wf->o.nx G T)->(lD B g).wp [some (.loc k),some (.int m),%[|21],some (.int f),some bf,some (.int i),some (.int w),some (.int (y-3)),some (.int C),%[|81],t,s] (I++[r.map dL]) o:=by
    intro o H;have app:∀h:Int,y-3<=h->h<=y-3+w->∃ds,(I++[r.map dL])[S.length]? =some ds/\ds.length<1000000/\o.nx [some (.loc k),some (.int m),%[|21],some (.int f),some (.tup [.int (y-3),.int w]),some (.int i),some (.int w),some (.int (y-3)),some (.int C),%[|81],t,s] ((I++[r.map dL]).set S.length (ds++[dL ((y-3,%[|57]),(h,%[|57]))])):=by intro h V Z;refine%[_,cW Q.len.symm,%[|16]|?_];rw[gM Q.len.symm];have:=Y I ((y-3,%[|57]),(h,%[|57])) [] w (.tup [.int (y-3),.int w]) %[|81] t s Q p5 (λ l h=>by cases h) (zb _ %[|0] %[|0]) (zb _ %[|0] %[|0]) af %[|0] aw (λ M _=>by show atC (h,%[|57]) M-atC (y-3,%[|57]) M<=_;rw[lE,lE];omega) (.inr %[y-3,w,rfl,%[|0],%[|0],%[|0],%[|0],by simp|λ M P=>by obtain⟨F,c,_,e,h3,h4⟩:=VN P;rw[lE]at h3 h4;exact%[F,c,e,h3|%[|0]]]) rfl z9 (.inl aq) (.inl ae);rw[gt,da]at this;exact H _ _ this
    try?;refine%[_,_,rfl,rfl,%[|16]|?_];try?;have bb:∀b:Bool,y-3<=y-3+(w:Int)*(if b=true then 1 else 0)/\y-3+(w:Int)*(if b=true then 1 else 0)<=y-3+w:=λ b=>by cases b<;>simp<;>omega
    refine%[λ q=>?_|λ q=>?_];{try?;obtain⟨g1,g2⟩:=bb true;generalize (y-3+(w:Int)*(if true=true then 1 else 0))=h at g1 g2 ⊢;refine%[_,_,rfl,rfl,%[|16]|?_];try?;obtain⟨ds,V,Z,h3⟩:=app h g1 g2;refine%[ds,V,Z|?_];try?;exact h3};{try?;obtain⟨g1,g2⟩:=bb (decide (y-3<3));generalize (y-3+(w:Int)*(if decide (y-3<3)=true then 1 else 0))=h at g1 g2 ⊢;refine%[_,_,rfl,rfl,%[|16]|?_];try?;obtain⟨ds,V,Z,h3⟩:=app h g1 g2;refine%[ds,V,Z|?_];try?;exact h3}
   have ar:0<i->∀o:DL.Fin,(∀G T,(di B g).wp G T Wf->o.nx G T)->(lu B g).wp [some (.loc k),some (.int m),%[|21],some (.int f),some bf,some (.int i),some (.int w),some (.int (y-3)),some (.int C),%[|81],t,s] (I++[r.map dL]) o:=by
    intro aN o H;try?;refine%[_,_,rfl,rfl,%[|40],%[|16]|?_];rw[zeros,f7];try?;refine bw ((p5.app _).app _) %[|1] %[|1] λ a T6 a0 a1 u6 p6=>?_;obtain⟨S6,rfl,u6,p6⟩:=u6.split2 p5;have u6:=Q.trans u6;walk_at "n";obtain⟨z,g1,g2⟩:=lB (ds:=[D.int 1,.int (-1),.int 2,.int (-2)]) a0 a1;have hz:=y4 g2;obtain⟨c,rfl,aC,aD⟩:∃c:Int,z=.int c/\ -2<=c/\c<=2:=by simp only[cK,iN,nL]at hz;rcases hz with rfl | rfl | rfl | rfl<;>exact%[_,rfl,%[|1]|%[|1]]
    refine%[_,g1|?_];try?;refine bw ((p6.app _).app _) %[|0] %[|0] λ j T7 j0 j1 u7 p7=>?_;obtain⟨S7,rfl,u7,p7⟩:=u7.split2 p6;have u7:=u6.trans u7;walk_at "n";obtain⟨jn,rfl⟩:∃jn:Nat,j=(jn:Int):=%[j.toNat|%[|0]];have aQ:jn<i:=%[|0]
    have R:(I++[r.map dL]).length=(S7++[r.map dL]).length:=by simp[Q.len,u7.len]
    refine%[_,jn,cW R,?_|?_];{unfold ixN;simp;omega};rw[gM R];have e1:((List.replicate i (0:Int)).map D.int).set jn (D.int c)=((List.replicate i (0:Int)).set jn c).map D.int:=by rw[List.map_set]
    rw[e1];have ak:∀n∈(List.replicate i (0:Int)).set jn c,-2<=n/\n<=2:=λ n X=>by rcases List.mem_or_eq_of_mem_set X with X | rfl;{have:=(pi.mp X).2;omega};{exact%[aC|aD]}
    have al:((List.replicate i (0:Int)).set jn c).length=i:=by simp
    generalize (List.replicate i (0:Int)).set jn c=ah at ak al;have l7:(I++[r.map dL]).length=S.length+1:=by simp[Q.len]
    rw[l7]at R ⊢;have ga:(S7++[r.map dL]++[ah.map D.int])[S.length+1]? =some (ah.map D.int):=cW R;try?;refine%[_,_,rfl,ga,%[|16]|?_];try?;refine%[_,_,rfl,ga,%[|16]|?_];try?;refine%[_,dj u7.len.symm,%[|16]|?_];rw[gQ u7.len.symm];try?;have:=Y S7 ((y-3,ah),(y-3+w,ah)) [ah.map D.int] w .non %[|81] (some (.loc (S.length+1))) s u7 p7 (λ l h=>by
     have:l=ah.map D.int:=by simpa using h
     subst this;exact cg _) %[al,by show-9<=y-3;omega,by show y-3<=9;omega|ak] %[al,by show-9<=y-3+w;omega,by show y-3+(w:Int)<=9;omega|ak] af %[|0] aw (λ M _=>by show atC (y-3+w,ah) M-atC (y-3,ah) M<=_;rw[W5];omega) (.inl rfl) rfl z9 (.inr %[_,rfl|y9 _]) (.inl ae);rw[da]at this;exact H _ _ this
   have ax:∀K b1:Int,bf=.tup [.int K,.int b1]->C<2->b1<=f->∀o:DL.Fin,(∀G T,(di B g).wp G T Wf->o.nx G T)->(qR B g).wp [some (.loc k),some (.int m),%[|21],some (.int f),some bf,some (.int i),some (.int w),some (.int (y-3)),some (.int C),%[|81],t,s] (I++[r.map dL]) o:=by
    intro K b1 ay aK aM o H;subst ay;rcases O with O | ⟨c0,c1,e,q1,q2,q3,q4,q5,q6⟩;{cases O};cases e;try?;refine%[_,_,rfl,rfl,%[|40],%[|16]|?_];have aO:1<=i:=%[|0]
    have eA:(List.replicate ((i:Int)-1).toNat [D.int 0]).flatten++[D.int 1]=(List.replicate (i-1) (0:Int)++[1]).map D.int:=by rw[zeros,show((i:Int)-1).toNat=i-1 by omega,da];rfl
    have ai:(List.replicate (i-1) (0:Int)++[1]).length=i:=%[|16]
    have ag:∀n∈List.replicate (i-1) (0:Int)++[1],-2<=n/\n<=2:=λ n X=>by
     rcases cn.mp X with X | X;{have:=(pi.mp X).2;omega}
     . have:n=1:=by simpa using X
       omega
    have aj:∀(a:Int)(F:af1)(c:Int),F++[c]∈cnt r->atC (a,List.replicate (i-1) (0:Int)++[1]) (F++[c])=a+c:=λ a F c h=>by have V:=QC r _ h;rw[x8,i6]at V;rw[show i-1=F.length by omega];exact Xh a F c
    generalize hAA:List.replicate (i-1) (0:Int)++[1]=A at eA ai ag aj;obtain⟨U,rfl⟩:∃U:Nat,b1=(U:Int):=%[b1.toNat|%[|0]];have l5:(I++[r.map dL]).length=S.length+1:=by simp[Q.len]
    try?;refine%[_,_,rfl,rfl,%[|16]|?_];rw[eA];have ga:∀J,(I++[r.map dL]++[A.map D.int]++J)[S.length+1]? =some (A.map D.int):=λ J=>dj l5.symm;have az:(I++[r.map dL]++[A.map D.int])[S.length+1]? =some (A.map D.int):=cW l5.symm;have l6:(I++[r.map dL]++[A.map D.int]).length=S.length+2:=by simp[Q.len]
    walk_at "n";rw[l5];try?;refine%[_,_,rfl,rfl,%[|16]|?_];try?;refine%[_,_,rfl,az,%[|16]|?_];try?;rw[l6];refine%[_,_,rfl,ga _,%[|16]|?_];try?;refine%[[K,(U:Int)],rfl|?_];try?;refine%[_,_,rfl,rfl,%[|16]|?_];try?;refine%[_,cW l6.symm,by simp|?_];rw[gM l6.symm];walk_at "n";have aG:[K,(U:Int)].sum=K+(U:Int):=by simp
    rw[aG];have au:∀(l:Lp)(St:List D),aa St=true->BdF l.1 i->BdF l.2 i->(∀M∈cnt r,atC l.2 M-atC l.1 M<=(U:Int))->∃ds,(I++[r.map dL]++[A.map D.int]++[St])[S.length]? =some ds/\ds.length<1000000/\o.nx [some (.loc k),some (.int m),%[|21],some (.int f),some .non,some (.int i),some (.int U),some (.int (y-3)),some (.int C),%[|81],some (.loc (S.length+1)),some (.loc (S.length+2))] ((I++[r.map dL]++[A.map D.int]++[St]).set S.length (ds++[dL l])):=by
     intro l St ad c1 c2 c3;have e2:∀L:List D,I++[L]++[A.map D.int]++[St]=I++[L]++[A.map D.int,St]:=λ L=>by simp
     rw[e2];refine%[_,dj Q.len.symm,%[|16]|?_];rw[gQ Q.len.symm];have:=Y I l [A.map D.int,St] U .non %[|81] (some (.loc (S.length+1))) (some (.loc (S.length+2))) Q p5 (λ x h=>by
      rcases cK.mp h with rfl | h;{exact cg _}
      . have:x=St:=by simpa using h
        subst this;exact ad) c1 c2 %[|0] %[|0] %[|0] c3 (.inl rfl) rfl z9 (.inr %[_,rfl|y9 _]) (.inr %[_,rfl|jp _]);rw[da]at this;exact H _ _ this
    have ad:aa ([dL ((K,%[|57]),(1,A))]++[dL ((0,A),(K+(U:Int),%[|57]))])=true:=jj [_,_];have:C=0\/C=1:=%[|0]
    rcases this with rfl | rfl;{refine%[_,dL ((K,%[|57]),(1,A)),cW l6.symm,rfl|?_];obtain⟨ds,V,Z,h3⟩:=au ((K,%[|57]),(1,A)) _ ad (zb K %[|0] %[|0]) %[ai,(%[|1]:(-9:Int)<=1),(%[|1]:(1:Int)<=9)|ag] (λ M P=>by obtain⟨F,c,rfl,g1,g2⟩:=q6 M P;show atC (1,A) _-atC (K,%[|57]) _<=_;rw[aj _ _ _ P,lE];omega);refine%[ds,V,Z|?_];try?;exact h3};{refine%[_,dL ((0,A),(K+(U:Int),%[|57])),cW l6.symm,rfl|?_];obtain⟨ds,V,Z,h3⟩:=au ((0,A),(K+(U:Int),%[|57])) _ ad %[ai,(%[|1]:(-9:Int)<=0),(%[|1]:(0:Int)<=9)|ag] (zb _ %[|0] %[|0]) (λ M P=>by obtain⟨F,c,rfl,g1,g2⟩:=q6 M P;show atC (K+(U:Int),%[|57]) _-atC (0,A) _<=_;rw[aj _ _ _ P,lE];omega);refine%[ds,V,Z|?_];try?;exact h3}
   have as:∀o:DL.Fin,(∀G T,(di B g).wp G T Wf->o.nx G T)->(fM (Hh (aeM (aew (abv .Lt uL (il 4)) (aeA (abv .Gt qG uN)))) (lu B g) (lD B g)) lO).wp [some (.loc k),some (.int m),%[|21],some (.int f),some bf,some (.int i),some (.int w),some (.int (y-3)),some (.int C),%[|81],t,s] (I++[r.map dL]) o:=by intro o H;try?;refine%[λ q=>?_|λ q=>%[λ z=>ff z|λ _=>ac _ H]];try?;refine%[λ q2=>ar (by have:=cE q2;omega) _ H|λ q2=>ac _ H]
   try?;refine%[λ q=>?_|λ q=>%[λ z=>ff z|λ _=>as _ λ G T h=>h]];have q:=cE q;rcases O with rfl | ⟨K,b1,rfl,hb⟩;{try?;refine%[λ q=>?_|λ q=>%[λ z=>ff z|λ _=>ac _ λ G T h=>h]];try?;exact%[λ q2=>ar (by have:=cE q2;omega) _ λ G T h=>h|λ q2=>ac _ λ G T h=>h]};{try?;exact%[λ q2=>ax K b1 rfl q (cE q2) _ λ G T h=>h|λ q2=>as _ λ G T h=>h]}
 {rintro aI T ⟨S2,r,f,bf,o5,o6,o7,o8,o9,t,s,rfl,u2,p2,am,an,av,ap,O,ao,_,rfl⟩;rw[aL]at am;try?;refine%[_,cW u2.len.symm|.inr %[[_],S2,rfl,by rw[u2.len];exact y9 _,jj r,u2.flat hS|hw r _ %[%[|0],%[|0]|an] ?_ u2 p2 (u2.flat hS)]];exact d6 (n4 _ av) ap}
theorem yM{e:Type}{enc}{P:e->Prop}:∀{ys:List D},(∀(i:Nat)(y:D),ys[i]? =some y->∃a,y=enc a/\P a)->∃as,ys=List.map enc as/\∀a∈as,P a
 | [],_=>%[[],rfl|by simp]
 | y::ys,h=>by obtain⟨a,rfl,g⟩:=h 0 y rfl;obtain⟨as,rfl,c⟩:=yM (enc:=enc) (P:=P) (ys:=ys) λ i y f=>h (i+1) y (by simpa using f);exact%[a::as,rfl|by intro b d;rcases cK.mp d with rfl | d;{exact g};{exact c b d}]
def TpB(ws:af1)(d t:Nat)(pl:List Fm):Prop:=∃w,ws[t]? =some w/\(pl.length:Int)=w/\∀f∈pl,FmB d 1 f
def RdB(ws:af1)(d:Nat)(r:Rd):Prop:= -1000000000000000000000000000000<r.fac/\r.fac<1000000000000000000000000000000/\TpB ws d r.tab r.pl
def StB(d:Nat)(f:Fm):Prop:=f.2.length=d/\Xe f.2/\ -1000000000000000000000000000000<f.1/\f.1<1000000000000000000000000000000
def DdB(ws:af1)(d:Nat)(x:Dd):Prop:=TpB ws d x.tab x.pl/\StB d x.st/\x.rds.length<=3/\∀r∈x.rds,RdB ws d r
def WsB(ws:af1):Prop:=1<=ws.length/\ws.length<=3/\∀w∈ws,1<=w/\w<=2
inductive c_deedB(ds:List D)(S:Store)(W:WD):Prop
 | mk(k d:Nat)(ws:af1):ds=[.loc k,dWs ws,.int d]->bK S k->flat S->d<=10->WsB ws->(∀x S',DdB ws d x->bN S k S'->bK S' k->flat S'->W (dDd x) S')->c_deedB ds S W
def Yh{t:Int}(hw:WsB ws)(c:0<=t)(h1:t<(ws.map D.int).length):∃w:Int,atI (ws.map D.int) t=some (.int w)/\ws[t.toNat]? =some w/\1<=w/\w<=2:=by
 obtain⟨x,a,b⟩:=lB c h1;rw[y8]at b
 cases e:ws[t.toNat]? with
 | none=>rw[e]at b;cases b
 | some w=>rw[e]at b;cases b;exact%[w,a,rfl|hw.2.2 w (y4 e)]
def Kf(pl:List Fm):aB (dP pl)=true:=by
 show aa (pl.map dF)=true
 induction pl with
 | nil=>rfl
 | cons y b a=>simp only[cw,aa,a,iY,df]
def yK(rs:List Rd):aa (rs.map dRd)=true:=by
 induction rs with
 | nil=>rfl
 | cons y b a=>simp only[cw,aa,a,df];show aa [D.int _,D.int _,dP y.pl]=true;simp only[aa,Kf,df];rfl
def Cg(x:Dd):aB (dDd x)=true:=by show aa [D.int _,dP x.pl,dF x.st,.tup (x.rds.map dRd)]=true;have:aB (.tup (x.rds.map dRd))=true:=yK x.rds;simp only[aa,Kf,iY,this,df];rfl
def Gd:(10:Int) ^ (30:Int).toNat=1000000000000000000000000000000:=%[|1]
inductive DeedI(S:Store)(k d:Nat)(ws:af1)(t:Int)(pl:List Fm)(st:Fm)(i:Nat)(Γ':Gam)(T:Store):Prop
 | mk(S2 rds o7 o8 o9 o10:_):T=S2++[List.map dRd rds]->bN S k S2->bK S2 k->rds.length=i->(∀r∈rds,RdB ws d r)->Γ'=[some (.loc k),some (dWs ws),some (.int d),some (.int t),some (.tup (pl.map dF)),some (dF st),%[|21],o7,o8,o9,o10]->DeedI S k d ws t pl st i Γ' T
def RD(B:%[|2])(g:bu Ω c_takeB)(C:oN Ω c_formB):OkF Ω "_law_deed" Il 4 WY c_deedB:=by
 refine aJ (N:=W8) (Bl.drp (Xi B g C)) %[|6] ?_;rintro ds S W ⟨k,d,V,rfl,hp,Y,hd,K,hw⟩ hl;obtain⟨an,ao,ap⟩:=id K;try?;have b:((V.map D.int).length:Int)=(V.length:Int):=by rw[y7]
 refine bw hp (by rw[b];omega) (by rw[b];omega) λ t S1 t0 t1 u1 p1=>?_;obtain⟨w,g1,g2,al,am⟩:=Yh K t0 t1;walk_at "n";refine%[_,g1|?_];try?;refine%[%[|40]|sV (λ _ y=>∃f,y=dF f/\FmB d 1 f) (λ l=>bN S k l/\bK l k/\flat l) (by rw[aL];omega) %[u1,p1|u1.flat Y] ?_ ?_];{rintro i e l he ⟨u,p,f⟩ R hR;try?;exact%[rfl,k,d,1,rfl,p,f,hd,%[|1],%[|1]|λ f S4 hf A p4 f4=>hR _ _ %[f,rfl|hf] %[u.trans A,p4|f4]]};rintro ys S2 L M ⟨u2,p2,f2⟩;obtain⟨m,rfl,ag⟩:=yM M;rw[aL,y7]at L;try?;rw[Gd];refine bw p2 %[|1] %[|1] λ s S3 s0 s1 u3 p3=>?_;walk_at "n";obtain⟨z,h1,h2⟩:=lB (ds:=[D.int 1,.int 9,.int (1000000000000000000000000000000-1)]) s0 s1;have hz:=y4 h2;obtain⟨c,rfl,F,H⟩:∃c:Int,z=.int c/\1<=c/\c<1000000000000000000000000000000:=by simp only[cK,iN,nL]at hz;rcases hz with rfl | rfl | rfl<;>exact%[_,rfl,%[|1]|%[|1]]
 refine%[_,h1|?_];have u3:=u2.trans u3;try?;refine%[rfl,k,d,c,rfl,p3,u3.flat Y,hd,F,H|λ st S4 hst A p4 f4=>?_];have A:=u3.trans A;try?;refine bw (p4.app _) %[|1] %[|1] λ n T n0 n1 Q p5=>?_;obtain⟨S5,rfl,Q,p5⟩:=Q.split p4;have Q:=A.trans Q;walk_at "n";refine%[%[|40]|rZ %[DeedI S k d V t m st,%[S5,[],none,none,none,none,rfl,Q,p5,rfl,λ r h=>(by cases h)|by rw[<-A.len];rfl],?_|?_]]
 . rintro i e ai T he ⟨S6,a,o7,o8,o9,aa,rfl,U,p6,J,I,rfl⟩;obtain⟨hi,rfl⟩:=cP he;suffices body:∀Wf:DL.Fin,(∀G T,DeedI S k d V t m st (i+1) G T->Wf.nx G T)->(vD B g C).wp [some (.loc k),some (dWs V),some (.int d),some (.int t),some (.tup (m.map dF)),some (dF st),%[|21],some (.int (0+(i:Int))),o8,o9,aa] (S6++[a.map dRd]) Wf by refine Qz ?_;simp only[pd,pf];exact body _ λ G T h=>h
   intro Wf af;try?;refine bw (p6.app _) (by rw[b];omega) (by rw[b];omega) λ o T7 o0 o1 u7 p7=>?_;obtain⟨S7,rfl,u7,p7⟩:=u7.split p6;have u7:=U.trans u7;obtain⟨w',ad,ae,aj,ak⟩:=Yh K o0 o1;try?;refine bw (p7.app _) %[|1] %[|1] λ ab T8 w0 w1 X p8=>?_;obtain⟨S8,rfl,X,p8⟩:=X.split p7;have X:=u7.trans X;have x:∀(c:Int)(E:Store),bN S k E->bK E k-> -1000000000000000000000000000000<c->c<1000000000000000000000000000000->(pN B g C).wp [some (.loc k),some (dWs V),some (.int d),some (.int t),some (.tup (m.map dF)),some (dF st),%[|21],some (.int (0+(i:Int))),some (.int o),some (.int ab),some (.int c)] (E++[a.map dRd]) Wf:=by
    intro c E u9 p9 c1 c2;walk_at "n";refine%[_,ad|?_];try?;refine%[%[|40]|sV (λ _ y=>∃f,y=dF f/\FmB d 1 f) (λ T=>∃l,T=l++[a.map dRd]/\bN S k l/\bK l k) (by rw[aL];omega) %[E,rfl,u9|p9] ?_ ?_];{rintro j e T he ⟨l,rfl,u,p⟩ R hR;try?;refine%[rfl,k,d,1,rfl,p.app _,cB (u.flat Y) (yK _),hd,%[|1],%[|1]|λ f S4 hf A p4 f4=>?_];obtain⟨S5,rfl,Q,p5⟩:=A.split p;exact hR _ _ %[f,rfl|hf] %[S5,rfl,u.trans Q|p5]};rintro ys T L M ⟨ac,rfl,P,ah⟩;obtain⟨O,rfl,Z⟩:=yM M;rw[aL,y7]at L;try?;refine%[_,cW P.len.symm,%[|16]|?_];rw[gM P.len.symm];obtain⟨on,rfl⟩:∃on:Nat,o=(on:Int):=%[o.toNat|%[|0]];refine af _ _ %[ac,a++[%[c,on|O]],some (.int (0+(i:Int))),some (.int on),some (.int ab),some (.int c),by rw[da];rfl,P,ah,by simp[J],λ r hr=>?_|rfl];rcases cn.mp hr with hr | hr;{exact I r hr}
    . have:r=%[c,on|O]:=by simpa using hr
      subst this;exact%[c1,c2,w',by simpa using ae,by show(O.length:Int)=w';omega|Z]
   walk_at "n";obtain⟨z,h1,h2⟩:=lB (ds:=[D.int 1,.int (-1),.int 2,.int 3,.int 0,.int 1,.int (-5),.int 0]) w0 w1;have hz:=y4 h2;obtain⟨c,rfl,F,H⟩:∃c:Int,z=.int c/\ -1000000000000000000000000000000<c/\c<1000000000000000000000000000000:=by simp only[cK,iN,nL]at hz;rcases hz with rfl | rfl | rfl | rfl | rfl | rfl | rfl | rfl<;>exact%[_,rfl,%[|1]|%[|1]]
   refine%[(%[|1]:(8:Nat)<=1000000)|?_];walk_at "n";refine%[_,h1|?_];try?;refine%[λ q=>?_|λ q=>x c S8 X p8 F H];try?;rw[Gd];refine bw (p8.app _) %[|1] %[|1] λ v T9 v0 v1 u9 p9=>?_;obtain⟨E,rfl,u9,p9⟩:=u9.split p8;try?;rw[Gd];exact x _ E (X.trans u9) p9 %[|0] %[|0]
 {rintro ai T ⟨S6,a,o7,o8,o9,aa,rfl,U,p6,J,I,rfl⟩;rw[aL]at J;obtain⟨tn,rfl⟩:∃tn:Nat,t=(tn:Int):=%[t.toNat|%[|0]];try?;refine%[_,cW U.len.symm|?_];try?;have ok:DdB V d %[tn,m,st|a]:=%[%[w,by simpa using g2,by show(m.length:Int)=w;omega|ag],%[hst.1,hst.2.1,by have:=hst.2.2;show _<st.1;omega|by have:=hst.2.2;show st.1<_;omega],by show a.length<=3;omega|I];exact .inr %[[_],S6,rfl,by rw[U.len];exact y9 _,Cg %[tn,m,st|a],U.flat Y|hw %[tn,m,st|a] _ ok U p6 (U.flat Y)]}
def NsB(ws:af1)(m:Nat)(n:Ns):Prop:=Lps n.lps/\1<=n.dds.length/\n.dds.length<=4/\%[|71]<=max 1 (m/n.dds.length)/\∀x∈n.dds,DdB ws n.lps.length x
def PgB(m:Nat)(p:Pg):Prop:=WsB p.ws/\1<=p.nss.length/\p.nss.length<=3/\∀n∈p.nss,NsB p.ws (m/p.nss.length) n
inductive c_progB(ds:List D)(S:Store)(W:WD):Prop
 | mk(k m:Nat):ds=[.loc k,.int m]->bK S k->flat S->1<=m->m<=60->(∀p S',PgB m p->bN S k S'->bK S' k->flat S'->W (dPg p) S')->c_progB ds S W
def PK(xs:List Dd):aa (xs.map dDd)=true:=by
 induction xs with
 | nil=>rfl
 | cons y b a=>simp only[cw,aa,a,Cg,df]
def R8(n:Ns):aB (dNs n)=true:=by show aa [.tup (n.lps.map dL),.tup (n.dds.map dDd)]=true;have a:aB (.tup (n.lps.map dL))=true:=jj _;have b:aB (.tup (n.dds.map dDd))=true:=PK _;simp only[aa,a,b,df]
def oM(xs:List Ns):aa (xs.map dNs)=true:=by
 induction xs with
 | nil=>rfl
 | cons y b a=>simp only[cw,aa,a,R8,df]
def Sx(p:Pg):aB (dPg p)=true:=by show aa [dWs p.ws,.tup (p.nss.map dNs)]=true;have a:aB (dWs p.ws)=true:=cg _;have b:aB (.tup (p.nss.map dNs))=true:=oM _;simp only[aa,a,b,df]
inductive ProgI(S:Store)(k m:Nat)(ws:af1)(many:Nat)(i:Nat)(Γ':Gam)(T:Store):Prop
 | mk(S2 nss o5 o6 o7:_):T=S2++[List.map dNs nss]->bN S k S2->bK S2 k->nss.length=i->(∀n∈nss,NsB ws (m/many) n)->Γ'=[some (.loc k),some (.int m),some (dWs ws),some (.int many),%[|21],o5,o6,o7]->ProgI S k m ws many i Γ' T
def Jv(B:%[|2])(o:bu Ω c_takeB)(H:mq Ω c_loopsB)(F:pA Ω c_deedB):OkF Ω "_law_program" vJ 5 SM c_progB:=by
 refine aJ (N:=Mz) (Bl.drp (K3 B o H F)) %[|6] ?_;rintro ds S W ⟨k,m,rfl,hp,Q,af,aa,hw⟩ hl;try?;refine bw hp %[|1] %[|1] λ v S1 v0 v1 u1 p1=>?_;try?;refine%[%[|40]|sV (λ _ y=>∃n:Int,y=.int n/\(1<=n/\n<=2)) (λ q=>bN S k q/\bK q k) (by rw[aL];omega) %[u1|p1] ?_ ?_];{rintro i d q hd ⟨u,p⟩ R X;try?;refine bw p %[|1] %[|1] λ w S2 w0 w1 u2 p2=>?_;try?;exact X _ _ %[_,rfl,%[|0]|%[|0]] %[u.trans u2|p2]};rintro ys S2 D E ⟨u2,p2⟩;obtain⟨g,rfl,ac⟩:=vX E;rw[aL,y7]at D;have hW:WsB g:=%[%[|0],%[|0]|ac];try?;refine bw p2 %[|1] %[|1] λ mv S3 m0 m1 U p3=>?_;have U:=u2.trans U;obtain⟨a,z⟩:∃n:Nat,1+mv=(n:Int):=%[(1+mv).toNat|%[|0]];try?;rw[z];refine%[%[|40]|rZ %[ProgI S k m g a,%[S3,[],none,none,none,rfl,U,p3,rfl,λ r h=>(by cases h)|by rw[<-U.len];rfl],?_|?_]]
 . rintro i e ad T he ⟨P,b,o5,o6,o7,rfl,l,L,A,C,rfl⟩;obtain⟨hi,rfl⟩:=cP he;suffices body:∀V:DL.Fin,(∀G T,ProgI S k m g a (i+1) G T->V.nx G T)->(nG B o H F).wp [some (.loc k),some (.int m),some (dWs g),some (.int a),%[|21],some (.int (0+(i:Int))),o6,o7] (P++[b.map dNs]) V by refine Qz ?_;simp only[pd,pf];exact body _ λ G T h=>h
   intro V ab;try?;refine bw (L.app _) %[|1] %[|1] λ dv T5 d0 d1 s M=>?_;obtain⟨S5,rfl,s,M⟩:=s.split L;have s:=l.trans s;obtain⟨t,Z⟩:∃n:Nat,1+dv=(n:Int):=%[(1+dv).toNat|%[|0]];try?;rw[Z];have em:(if(m:Int)/(a:Int)/(t:Int)>1 then(m:Int)/(a:Int)/(t:Int)else 1)=((max 1 (m/a/t):Nat):Int):=by rw[<-Int.natCast_ediv,<-Int.natCast_ediv];split<;>omega
   have ae:m/a/t<=60:=d6 (mr _ _) (d6 (mr _ _) aa);rw[em];refine%[rfl,k,max 1 (m/a/t),rfl,M.app _,cB (s.flat Q) (oM _),%[|0],%[|0]|λ K T6 hls Y O p6 f6=>?_];obtain⟨S6,rfl,O,p6⟩:=O.split M;have O:=s.trans O;try?;have l3:=hls.2.1;refine%[%[|40]|sV (λ _ y=>∃x,y=dDd x/\DdB g K.length x) (λ T=>∃q,T=q++[b.map dNs]/\bN S k q/\bK q k) (by rw[aL];omega) %[S6,rfl,O|p6] ?_ ?_];{rintro j e T he ⟨q,rfl,u,p⟩ R X;try?;rw[y7];refine%[rfl,k,K.length,g,rfl,p.app _,cB (u.flat Q) (oM _),%[|0],hW|λ f P hf l L f4=>?_];obtain⟨S5,rfl,s,M⟩:=l.split p;exact X _ _ %[f,rfl|hf] %[S5,rfl,u.trans s|M]};rintro ys T D E ⟨S7,rfl,u7,p7⟩;obtain⟨c,rfl,I⟩:=yM E;rw[aL,y7]at D;try?;refine%[_,cW u7.len.symm,%[|16]|?_];rw[gM u7.len.symm];refine ab _ _ %[S7,b++[%[K|c]],some (.int (0+(i:Int))),some (.int t),some (.tup (K.map dL)),by rw[da];rfl,u7,p7,by simp[A],λ r J=>?_|rfl];rcases cn.mp J with J | J;{exact C r J}
   . have:r=%[K|c]:=by simpa using J
     subst this;have e:c.length=t:=%[|0]
     exact%[hls,by show 1<=c.length;omega,by show c.length<=4;omega,by show _<=max 1 (m/a/c.length);rw[e];exact Y|I]
 {rintro ad T ⟨P,b,o5,o6,o7,rfl,l,L,A,C,rfl⟩;rw[aL]at A;try?;refine%[_,cW l.len.symm|?_];try?;have ok:PgB m %[g|b]:=%[hW,by show 1<=b.length;omega,by show b.length<=3;omega|λ n hn=>by show NsB g (m/b.length) n;rw[show b.length=a by omega];exact C n hn];exact .inr %[[_],P,rfl,by rw[l.len];exact y9 _,Sx %[g|b],l.flat Q|hw %[g|b] _ ok l L (l.flat Q)]}
inductive c_atB(ds:List D)(S:Store)(W:WD):Prop
 | mk(f:Fm)(cs:af1):ds=[dF f,dC cs]->f.2.length=cs.length->cs.length<=10->C64 cs->W (.int (atC f cs)) S->c_atB ds S W
def ym(fs cs:af1):D->D
 | .int i=>.int (fs.getD i.toNat 0*cs.getD i.toNat 0)
 | d=>d
def Sd(h:fs.length=cs.length):(DL.upTo 0 cs.length).map (ym fs cs)=(List.zipWith (λ a b=>a*b) fs cs).map D.int:=by
 refine me (by simp[h,aL]) λ i c f=>?_;have e:i<cs.length:=by simpa[aL]using c
 have d:i<fs.length:=%[|0]
 simp[DL.upTo,ym,List.getD,e,d]
def aaf(B:%[|2]):OkF Ω "_law_at" Ua 1 aa3 c_atB:=by
 refine aJ (N:=aa3) (ab0 B) %[|6] ?_;rintro r S W ⟨⟨a,c⟩,b,rfl,f,t,n,q⟩ s;dsimp only at f;try?;refine%[_,bW (j:=0) rfl|?_];try?;have k:((b.map D.int).length:Int).toNat=b.length:=by simp
 refine%[%[%[|0]|%[|16]]|?_];rw[k];refine fC (ym c b) (by rw[aL];omega) ?_ ?_
 . intro i e p Q h;obtain⟨g,rfl⟩:=cP p;have d:i<c.length:=%[|0]
   have l:atI (D.int a::c.map D.int) (1+(0+(i:Int)))=some (.int c[i]):=by
    have:(1+(0+(i:Int)))=((i+1:Nat):Int):=%[|0]
    rw[this];exact bW (by simp[d])
   have m:atI (b.map D.int) (0+(i:Int))=some (.int b[i]):=by
    have:(0+(i:Int))=((i:Nat):Int):=%[|0]
    rw[this];exact bW (by simp[g])
   have o:=n b[i] (List.getElem_mem _);try?;refine%[_,l|?_];try?;refine%[_,m|?_];try?;have e:ym c b (.int (0+(i:Int)))=.int (c[i]*b[i]):=by
    have:(0+(i:Int)).toNat=i:=%[|0]
    simp[ym,List.getD,g,d]
   rw[e]at h;exact h
 {rw[Sd f];refine%[_,rfl|?_];try?;exact q}
inductive c_spotB(ds:List D)(S:Store)(W:WD):Prop
 | mk(t:Nat)(pl:List Fm)(cs:af1):ds=[.int t,dP pl,dC cs]->pl.length<=1000->(∀f∈pl,f.2.length=cs.length)->cs.length<=10->C64 cs->W (aF (spot t pl cs)) S->c_spotB ds S W
def Uk(B:%[|2])(b:gC Ω c_atB):OkF Ω "_law_spot" Js 2 Xy c_spotB:=by
 refine aJ (N:=Xy) (Vp B b) %[|6] ?_;rintro n S W ⟨t,j,a,rfl,l,g,c,d,h⟩ o;try?;refine gU (λ f=>.int (atC f a)) %[|0] ?_ ?_;{intro i f k Q m;try?;exact%[rfl,f,a,rfl,g f (y4 k),c,d|m]}
 . try?;have e:(spot t j a).2.map D.int=j.map λ f=>D.int (atC f a):=by unfold spot;rw[dr];rfl
   unfold aF at h;rw[e]at h;exact h
def Cs.c64(h:Cs i cs):C64 cs:=λ c a=>by have:=h.2 c a;have:=xQ i;omega
inductive c_cntB(ds:List D)(S:Store)(W:WD):Prop
 | mk(ls:_):ds=[.tup (List.map dL ls)]->Lps ls->flat S->W (.lst ((cnt ls).map dC)) S->c_cntB ds S W
def J7{o}(h:nlO o):zL k ds o=o:=by
 cases o with
 | none=>rfl
 | some d=>
   cases d with
   | loc j=>have:=h _ rfl;simp[aB]at this
   | _=>rfl
def WQ(cs:af1):aB (dC cs)=true:=cg cs
def Lj(B:%[|2])(v:gC Ω c_atB):OkF Ω "_law_counts" yR 2 P0 c_cntB:=by
 refine aJ (N:=Rf) (QX B v) %[|6] ?_;rintro ds S W ⟨q,rfl,hL,L,O⟩ hl;try?;refine bc (λ i a o=>(∃E F H k f,a=[some (.tup (q.map dL)),some (.lst ((cnt (q.take i)).map dC)),E,F,H,k,f]/\nlO k/\nlO f)/\o=S) %[%[_,_,_,_,_,rfl,d9|d9]|rfl] ?_ ?_
 . rintro U Y P y _ _ i e a o n ⟨⟨E,F,H,k,f,rfl,r,g⟩,rfl⟩;rw[y8]at n
   cases s:q[i]? with
   | none=>rw[s]at n;cases n
   | some l=>
     rw[s]at n;cases n;have hi:=(z0.mp s).1;have h3:=hL.2.1;obtain⟨lo,hi_⟩:=l;obtain⟨b1,b2⟩:=hL.2.2 i _ s;dsimp only at b1 b2;have C:=nA hL i %[|0];have u:=(hL.fits.2 (i+1) %[|0]).1;have p:=ou s;rw[p]at u;dsimp only at p u;generalize hG:cnt (q.take i)=G at*;try?;refine%[rfl|?_];try?;refine bc (λ m a T=>(∃k f,a=[some (.tup (q.map dL)),some (.lst (G.map dC)),some (dF lo),some (dF hi_),some (.loc o.length),k,f]/\nlO k/\nlO f)/\T=o++[(bD lo hi_ (G.take m)).map dC]) %[%[_,_,rfl,r|g]|rfl] ?_ ?_
     . rintro V Z Q z _ _ m e a T n ⟨⟨k,f,rfl,r,g⟩,rfl⟩;obtain⟨b,w,rfl⟩:=bA n;have hc:=C b (y4 w);have hb:=xQ (i+1);have a1:=nF %[|0] b1 hc;have a2:=nF %[|0] b2 hc;have lf:=GF (lo:=lo) (hi:=hi_) w;try?;refine%[rfl,lo,b,rfl,by rw[b1.1,hc.1],by rw[hc.1];omega,hc.c64|?_];try?;refine%[rfl,hi_,b,rfl,by rw[b2.1,hc.1],by rw[hc.1];omega,hc.c64|?_];try?;refine%[%[%[|0],%[|0],%[|0]|%[|0]]|bc (λ j a T=>(∃f,a=[some (.tup (q.map dL)),some (.lst (G.map dC)),some (dF lo),some (dF hi_),some (.loc o.length),some (dC b),f]/\nlO f)/\T=o++[(bD lo hi_ (G.take m)++(cI lo hi_ b).take j).map dC]) %[%[_,rfl|g]|by simp] ?_ ?_]
       . rintro X R3 R A _ _ j e a T n ⟨⟨f,rfl,g⟩,rfl⟩;obtain⟨M,rfl⟩:=cP n;have t:j<(cI lo hi_ b).length:=by rw[d7];exact M
         try?;refine%[by rw[y7,hc.1,i6];omega,_,aH _ _,by rw[y7,x8,ej];omega|?_];refine A _ _ _ %[%[_,rfl|nJ _]|?_];rw[b8];have I:(cI lo hi_ b)[j]? =some (b++[atC lo b+(j:Int)]):=by unfold cI;rw[y8,N6 (by rw[d7]at t;exact t)];rfl
         have J:dC (b++[atC lo b+(j:Int)])=D.tup (b.map D.int++[D.int (atC lo b+(j:Int))]):=by unfold dC;rw[da];rfl
         rw[aD I,<-ck,da (l₂:=[_]),List.map_singleton,J]
       . rintro a T ⟨⟨f,rfl,g⟩,rfl⟩;refine z _ _ _ %[%[_,_,rfl,λ d h=>by cases h;exact WQ b|g]|?_];have K:(cI lo hi_ b).take (DL.upTo (atC lo b) (atC hi_ b-atC lo b).toNat).length=cI lo hi_ b:=by rw[aL];exact cS (by rw[d7];exact y9 _)
         rw[K,kY w]
     . rintro a T ⟨⟨k,f,rfl,r,g⟩,rfl⟩;rw[y7,cy,<-p];try?;refine .inr %[_,_,rfl,y9 _,tM _,L,?_|y _ _ _ %[%[some (dF lo),some (dF hi_),some (.lst ((cnt (q.take (i+1))).map dC)),k,f,?_,r|g]|rfl]]
       . intro x d c;match x,c with
         | 0,c=>cases c;exact .inl (jj _)
         | 1,c=>cases c;exact .inr %[_|rfl]
         | 2,c=>cases c;exact .inl (iY _)
         | 3,c=>cases c;exact .inl (iY _)
         | 4,c=>cases c;exact .inr %[_|rfl]
         | 5,c=>exact .inl (r d (by simpa using c))
         | 6,c=>exact .inl (g d (by simpa using c))
         | x+7,c=>simp at c
       {show[_,_,_,_,_,_,_]=[_,_,_,_,_,_,_];rw[J7 r,J7 g];simp[zL,dF]}
 {rintro a o ⟨⟨E,F,H,k,f,rfl,r,g⟩,rfl⟩;rw[y7,cy];try?;exact O}
def dPt(cs:af1)(r:Rd):D:=.tup [.int r.fac,aF (spot r.tab r.pl cs)]
def dJ(cs:af1)(x:Dd):D:=.tup [aF (spot x.tab x.pl cs),.int (atC x.st cs),.lst (x.rds.map (dPt cs))]
def v7(n:Ns):List D:=(cnt n.lps).flatMap λ a=>n.dds.map (dJ a)
def oK(p:Pg):List D:=p.nss.flatMap v7
inductive c_stepsB(ds:List D)(S:Store)(W:WD):Prop
 | mk(p:Pg)(m:Nat):ds=[dPg p]->PgB m p->m<=60->flat S->hand W (oK p) S->c_stepsB ds S W
theorem yj{c e:Type}{f:c->List e}{b}:∀{l:List c},(∀a∈l,(f a).length<=b)->(l.flatMap f).length<=l.length*b
 | [],_=>by simp
 | a::l,h=>by have g:=yj (l:=l) λ x d=>h x (x4 _ d);have:=h a x6;rw[l4,x8,dS,mx];omega
def mJ(c:Cell):aB (aF c)=true:=by have h:aB (.tup (c.2.map D.int))=true:=cg _;show aa [D.int _,.tup (c.2.map D.int)]=true;simp only[aa,h,df];rfl
theorem fV{b:Type}{f}(h:∀a,aB (f a)=true):∀l:List b,aa (l.map f)=true
 | []=>rfl
 | a::l=>by simp only[cw,aa,h,fV h l,df]
def Tc(cs:af1)(r:Rd):aB (dPt cs r)=true:=by show aa [D.int _,aF _]=true;simp only[aa,mJ,df];rfl
def yZ(cs:af1)(x:Dd):aB (dJ cs x)=true:=by have h:aB (.lst (x.rds.map (dPt cs)))=true:=fV (Tc cs) _;show aa [aF _,D.int _,.lst (x.rds.map (dPt cs))]=true;simp only[aa,mJ,h,df];rfl
theorem oE:∀{l:List D},(∀d∈l,aB d=true)->aa l=true
 | [],_=>rfl
 | d::l,h=>by simp only[aa,h d x6,oE λ x a=>h x (x4 _ a),df]
def Mm(p:Pg):aa (oK p)=true:=oE λ d a=>by obtain⟨n,_,a⟩:=eL.mp a;obtain⟨b,_,a⟩:=eL.mp a;obtain⟨x,_,rfl⟩:=c9.mp a;exact yZ b x
def N7{b c:Type}{f:b->List c}{l:List b}{a}(h:l[i]? =some a):(l.take (i+1)).flatMap f=(l.take i).flatMap f++f a:=by rw[aD h,hY];simp
def Qi(K:gC Ω c_atB)(L:jJ Ω c_cntB)(D:oF Ω c_spotB):OkF Ω "_law_steps" Ds 3 SN c_stepsB:=by
 refine aJ (N:=Vi) (Bl.frz (Rv K L D)) %[|6] ?_;rintro ds S W ⟨p,m,rfl,hP,hm,hS,X⟩ hl;obtain⟨hW,aa,ab,I⟩:=hP;have E:∀n∈p.nss,%[|71]<=60/\n.dds.length<=4:=λ n v=>by obtain⟨_,_,h4,hc,_⟩:=I n v;have h1:m/p.nss.length/n.dds.length<=60:=d6 (mr _ _) (d6 (mr _ _) hm);exact%[%[|0]|h4]
 have b1:∀(n:Ns)(j:Nat),n∈p.nss->(((cnt n.lps).take j).flatMap λ c=>n.dds.map (dJ c)).length<=240:=λ n j v=>by obtain⟨h1,h2⟩:=E n v;have:=yj (l:=(cnt n.lps).take j) (f:=λ c=>n.dds.map (dJ c)) (b:=4) (λ c _=>by rw[y7];exact h2);rw[ej]at this;omega
 have b2:∀i:Nat,((p.nss.take i).flatMap v7).length<=720:=λ i=>by have:=yj (l:=p.nss.take i) (f:=v7) (b:=240) (λ n v=>by have:=b1 n %[|71] (im v);rw[cy]at this;exact this);rw[ej]at this;omega
 try?;refine bc (λ i a g=>(∃Z o3 C k o q s u,a=[some (dPg p),%[|21],Z,o3,C,k,o,q,s,u])/\g=S++[(p.nss.take i).flatMap v7]) %[%[_,_,_,_,_,_,_,_|rfl]|rfl] ?_ ?_
 . rintro I1 R1 B1 M _ _ i e a g H ⟨⟨Z,o3,C,k,o,q,s,u,rfl⟩,rfl⟩;obtain⟨n,v,rfl⟩:=bA H;have B:=y4 v;obtain⟨hL,d1,d4,hc,R⟩:=I n B;obtain⟨g1,g2⟩:=E n B;have gb:=b2 i;try?;refine%[rfl|?_];try?;refine%[rfl,n.lps,rfl,hL,cB hS ?_|?_];{exact oE λ d G=>by obtain⟨n,_,G⟩:=eL.mp G;obtain⟨c,_,G⟩:=eL.mp G;obtain⟨x,_,rfl⟩:=c9.mp G;exact yZ c x};walk_at "n";refine bc (λ j a g=>(∃C k o q s u,a=[some (dPg p),%[|21],some (.tup (n.lps.map dL)),some (.tup (n.dds.map dDd)),C,k,o,q,s,u])/\g=S++[(p.nss.take i).flatMap v7++((cnt n.lps).take j).flatMap λ c=>n.dds.map (dJ c)]) %[%[_,_,_,_,_,_|rfl]|by simp] ?_ ?_
   . rintro I2 R2 B2 O _ _ j e a g H ⟨⟨C,k,o,q,s,u,rfl⟩,rfl⟩;obtain⟨c,F,rfl⟩:=bA H;have hC:Cs n.lps.length c:=nA hL n.lps.length (y9 _) c (by rw[cy];exact y4 F);have A:c.length<=10:=by have:=hC.1;have:=hL.2.1;omega
     have gj:=b1 n j B;try?;refine bc (λ t a g=>(∃k o q s u,a=[some (dPg p),%[|21],some (.tup (n.lps.map dL)),some (.tup (n.dds.map dDd)),some (dC c),k,o,q,s,u])/\g=S++[((p.nss.take i).flatMap v7++((cnt n.lps).take j).flatMap λ c=>n.dds.map (dJ c))++(n.dds.take t).map (dJ c)]) %[%[_,_,_,_,_|rfl]|by simp] ?_ ?_
     . rintro I3 R3 B3 P _ _ t e a g H ⟨⟨k,o,q,s,u,rfl⟩,rfl⟩;obtain⟨x,hx,rfl⟩:=bA H;obtain⟨⟨w,_,Y,T⟩,hst,ac,U⟩:=R x (y4 hx);have z:∀{t:Nat}{J:List Fm},TpB p.ws n.lps.length t J->J.length<=1000/\∀f∈J,f.2.length=c.length:=λ{t J} h=>by obtain⟨w,X,hl,hf⟩:=h;have:=hW.2.2 w (y4 X);exact%[%[|0]|λ f h=>by rw[(hf f h).1,hC.1]]
       try?;refine%[rfl|?_];try?;refine gU (dPt c) %[|0] ?_ ?_;{intro y r hr Q hq;obtain⟨_,_,V⟩:=U r (y4 hr);obtain⟨q1,q2⟩:=z V;try?;refine%[rfl|?_];try?;refine%[rfl,r.tab,r.pl,c,rfl,q1,q2,A,hC.c64|?_];try?;exact hq};obtain⟨q1,q2⟩:=z %[w,‹_›,Y|T];try?;refine%[rfl,x.tab,x.pl,c,rfl,q1,q2,A,hC.c64|?_];try?;refine%[rfl,x.st,c,rfl,by rw[hst.1,hC.1],A,hC.c64|?_];try?;refine%[_,aH _ _,by simp only[x8,y7,ej];omega|?_];rw[b8];refine P _ _ _ %[%[_,_,_,_,_|rfl]|?_];rw[aD hx,da (l₂:=[_]),ck];rfl
     {rintro a g ⟨⟨k,o,q,s,u,rfl⟩,rfl⟩;refine O _ _ _ %[%[_,_,_,_,_,_|rfl]|?_];rw[y7,cy,N7 F,<-ck]}
   {rintro a g ⟨⟨C,k,o,q,s,u,rfl⟩,rfl⟩;refine M _ _ _ %[%[_,_,_,_,_,_,_,_|rfl]|?_];rw[y7,cy,N7 v];rfl}
 {rintro a g ⟨⟨Z,o3,C,k,o,q,s,u,rfl⟩,rfl⟩;rw[y7,cy];exact oZ X (Mm p) hS}
def all_map{b:Type}{enc}{q:D->Bool}{l:List b}(h:∀a∈l,q (enc a)=true):(l.map enc).all q=true:=by rw[gT];intro x d;obtain⟨a,c,rfl⟩:=c9.mp d;exact h a c
def jq{c:Type}{enc}{l:List c}(h1:a<=(l.length:Int))(h2:(l.length:Int)<=b):cJ (.tup (l.map enc)) a b=true:=by show(decide _&&decide _)=true;rw[y7,cc h1,cc h2];rfl
def zH{f}{d:Nat}(h:f.2.length=d):eQ (dF f) (d:Int)=true:=by show(decide _&&((f.1::f.2).map D.int).all whole)=true;rw[cc %[|16],all_map (λ _ _=>rfl)];rfl
def Jr{n}(h1:a<=n)(h2:n<=b):oA a b (.int n)=true:=by show(decide _&&decide _)=true;rw[cc h1,cc h2];rfl
def Wk{f}{d}(h:FmB d 1 f):isPlace (d:Int) (dF f)=true:=by obtain⟨c,b,e⟩:=h;show(eQ (dF f) (d:Int)&&((f.1::f.2).map D.int).all (oA (-99) 99))=true;rw[zH c,all_map λ n a=>?_];{rfl};{rcases cK.mp a with rfl | a;{exact Jr %[|0] %[|0]};{exact Jr (b n a).1 (b n a).2}}
def Kw{n}(h1: -1000000000000000000000000000000<n)(h2:n<1000000000000000000000000000000):wZ n=true:=by unfold wZ;rw[Gd];exact cc (by split<;>omega)
def Xb{f}{d}(h:StB d f):isStart (dF f) (d:Int)=true:=by obtain⟨b,c,e,g⟩:=h;show(eQ (dF f) (d:Int)&&((f.1::f.2).map D.int).all BV)=true;rw[zH b,all_map λ n a=>?_];{rfl};{rcases cK.mp a with rfl | a;{exact Kw e g};{have:=c n a;exact Kw %[|0] %[|0]}}
def X3{d}(h:TpB ws d t pl):my (.int t) (dP pl) ws (d:Int)=true:=by
 obtain⟨w,b,g,c⟩:=h;have i:=(z0.mp b).1;have e:ws.getD ((t:Int)).toNat 0=w:=by simp[List.getD,b]
 show((decide _&&decide _)&&(cJ (.tup (pl.map dF)) (ws.getD ((t:Int)).toNat 0) (ws.getD ((t:Int)).toNat 0)&&(pl.map dF).all (isPlace d)))=true;rw[e,cc (p:=(0:Int)<=t) %[|0],cc (p:=(t:Int)<ws.length) %[|0],jq %[|0] %[|0],all_map λ f a=>Wk (c f a)];rfl
def aab{d}(h:DdB ws d x):g8 ws (d:Int) (dDd x)=true:=by obtain⟨e,f,j,g⟩:=h;show(my (.int x.tab) (dP x.pl) ws d&&(isStart (dF x.st) d&&(cJ (.tup (x.rds.map dRd)) 0 3&&(x.rds.map dRd).all (nU ws d))))=true;rw[X3 e,Xb f,jq %[|0] %[|0],all_map λ r i=>?_];{rfl};{obtain⟨a,b,c⟩:=g r i;show(wZ r.fac&&my (.int r.tab) (dP r.pl) ws d)=true;rw[Kw a b,X3 c];rfl}
def Gs{f}(h:BdF f i):dw (dF f) (i:Int)=true:=by obtain⟨a,b,c,d⟩:=h;show(eQ (dF f) (i:Int)&&(decide _&&(decide _&&(f.2.map D.int).all small)))=true;rw[zH a,cc b,cc c,all_map λ n e=>?_];{rfl};{have:=d n e;show(decide _&&decide _)=true;rw[cc this.1,cc this.2];rfl}
def Xz(h:Lps ls):iV (.tup (ls.map dL))=true:=by
 obtain⟨g,j,c⟩:=h;show((decide _&&decide _)&&((ls.map dL).mapIdx λ i d=>kh d i).all id)=true;rw[y7,cc %[|0],cc %[|0],gT.mpr λ b f=>?_];{rfl}
 . obtain⟨i,a⟩:=db f;rw[jv,y8]at a
   cases e:ls[i]? with
   | none=>rw[e]at a;cases a
   | some l=>rw[e]at a;cases a;show(dw (dF l.1) i&&dw (dF l.2) i)=true;rw[Gs (c i l e).1,Gs (c i l e).2];rfl
def ZV{n}(h:NsB ws m n):jW ws (dNs n)=true:=by obtain⟨a,d,e,f,b⟩:=h;show(iV (.tup (n.lps.map dL))&&(cJ (.tup (n.dds.map dDd)) 1 4&&(n.dds.map dDd).all (g8 ws ((n.lps.map dL).length:Int))))=true;rw[Xz a,jq %[|0] %[|0],y7,all_map λ x c=>aab (b x c)];rfl
def PgB.widths(h:PgB m p):jV (dWs p.ws)=true:=by obtain⟨⟨c,d,a⟩,_⟩:=h;show(cJ (.tup (p.ws.map D.int)) 1 3&&(p.ws.map D.int).all (oA 1 2))=true;rw[jq %[|0] %[|0],all_map λ w b=>Jr (a w b).1 (a w b).2];rfl
def PgB.nests(h:PgB m p):uc (.tup (p.nss.map dNs)) p.ws=true:=by obtain⟨_,c,d,a⟩:=h;show(cJ (.tup (p.nss.map dNs)) 1 3&&(p.nss.map dNs).all (jW p.ws))=true;rw[jq %[|0] %[|0],all_map λ n b=>ZV (a n b)];rfl
def PgB.ok(h:PgB m p):∀n∈p.nss,tD n:=λ n a=>by obtain⟨h1,b,c,_⟩:=h.2.2.2 n a;exact%[h1.1,h1.fits|%[|0]]
def aco{l:af1}(h:∀x∈l,x<=b):l.sum<=(l.length:Int)*b:=by
 induction l with
 | nil=>simp
 | cons x l c=>have:=c λ y a=>h y (x4 _ a);have:=h x x6;rw[nE,dS,Int.natCast_add,Int.add_mul];omega
def PgB.many(h:PgB m p)(v:12<=m):many p.nss<=m:=by
 obtain⟨_,o,q,d⟩:=h;have r:4<=m/p.nss.length:=by rw[Nat.le_div_iff_mul_le %[|0]];omega
 have c:∀n∈p.nss,(%[|71]:Int)*(n.dds.length:Int)<=((m/p.nss.length:Nat):Int):=λ n a=>by
  obtain⟨_,j,k,u,_⟩:=d n a;have s:1<=m/p.nss.length/n.dds.length:=by rw[Nat.le_div_iff_mul_le %[|0]];omega
  have e:%[|71]*n.dds.length<=m/p.nss.length:=by
   have f:%[|71]<=m/p.nss.length/n.dds.length:=%[|0]
   exact d6 (k7 _ f) (Nat.div_mul_le_self _ _)
  rw[<-Int.natCast_mul];exact Int.ofNat_le.mpr e
 show(p.nss.map λ n=>(%[|71]:Int)*(n.dds.length:Int)).sum<=_;have:=aco (l:=p.nss.map λ n=>(%[|71]:Int)*(n.dds.length:Int)) (b:=((m/p.nss.length:Nat):Int)) (λ x i=>by obtain⟨n,a,rfl⟩:=c9.mp i;exact c n a);rw[y7]at this;have g:p.nss.length*(m/p.nss.length)<=m:=Nat.mul_div_le _ _;have t:(p.nss.length:Int)*((m/p.nss.length:Nat):Int)<=(m:Int):=by rw[<-Int.natCast_mul];exact Int.ofNat_le.mpr g
 omega
def XD{W}(h:PgB m p)(a:12<=m)(b:m<=60)(c:flat S)(w:W (dPg p) S):Hs [dWs p.ws,.tup (p.nss.map dNs)] S W:=
 %[p,rfl,h.widths,h.nests,by have:=h.2.2.1;omega,h.ok,by have:=h.many a;omega,c|w]
def CP(h:s∈aQ nss):∃n,nss[s.1]? =some n/\s.2.1∈cnt n.lps/\s.2.2<n.dds.length:=by unfold aQ at h;obtain⟨l,d,a⟩:=List.mem_flatten.mp h;obtain⟨i,c,rfl⟩:=List.mem_mapIdx.mp d;unfold dU at a;obtain⟨f,b,a⟩:=eL.mp a;obtain⟨t,e,rfl⟩:=c9.mp a;exact%[nss[i],y3 c,b|dA.mp e]
def gG(p:Pg)(s:Stp):D:=match p.nss[s.1]? with
 | some n=>(match n.dds[s.2.2]? with | some x=>dCs x s.2.1 | none=>.non)
 | none=>.non
inductive c_cellsOf(ds:List D)(S:Store)(W:WD):Prop
 | mk(p:Pg):ds=[dPg p]->p.nss.length<=1000->(∀n∈p.nss,tD n/\∀x∈n.dds,Wc x)->(aQ p.nss).length<=1000000->flat S->W (.lst ((aQ p.nss).map (gG p))) S->c_cellsOf ds S W
def tD.c64{n}(h:tD n)(b:cs∈cnt n.lps):C64 cs:=λ c a=>by have:=((h.2.1.2 n.lps.length (y9 _)).2 cs (by rw[cy];exact b)).2 c a;omega
def Ed(c:cu Ω c_steps)(b:jD Ω c_cellsStep):OkF Ω "cells_of" rC 5 Jb c_cellsOf:=by
 refine aJ (N:=Jb) (GC c b) %[|6] ?_;rintro v S W ⟨p,rfl,t,d,a,m,r⟩ w;try?;refine%[rfl,p,rfl,t,λ n o=>(d n o).1,a,m|.inl ?_];walk_at "n";refine gU (gG p) a ?_ r;intro i s q Q g;obtain⟨n,f,k,l⟩:=CP (y4 q);obtain⟨u,h⟩:=d n (y4 f);have e:n.dds[s.2.2]? =some n.dds[s.2.2]:=y3 l;have j:gG p s=dCs n.dds[s.2.2] s.2.1:=by unfold gG;rw[f];show(match n.dds[s.2.2]? with | some x=>dCs x s.2.1 | none=>D.non)=_;rw[e]
 rw[j]at g;try?;exact%[rfl,p,s,n,n.dds[s.2.2],rfl,f,e,h _ (List.getElem_mem _),u.c64 k|g]
def TpB.pl{d}{pl}(hW:WsB ws)(e:d<=3)(h:TpB ws d t pl):Qu pl:=by obtain⟨w,c,g,b⟩:=h;have:=hW.2.2 w (y4 c);exact%[%[|0]|λ f a=>by rw[(b f a).1];omega]
def PgB.deeds(h:PgB m p):∀n∈p.nss,tD n/\∀x∈n.dds,Wc x:=λ n a=>by refine%[h.ok n a|λ x f=>?_];obtain⟨hL,_,_,_,d⟩:=h.2.2.2 n a;obtain⟨b,g,i,c⟩:=d x f;exact%[b.pl h.1 hL.2.1,%[|0]|λ r e=>(c r e).2.2.pl h.1 hL.2.1]
def Qw(i:Nat)(n:Ns):(dU i n).length=%[|71]*n.dds.length:=by
 unfold dU;generalize cnt n.lps=l
 induction l with
 | nil=>simp
 | cons c l a=>rw[l4,x8,a,dS,mx];simp[Nat.add_comm]
def jO(nss:List Ns):((aQ nss).length:Int)=many nss:=by
 have:∀i,i<=nss.length->((aQ (nss.take i)).length:Int)=many (nss.take i):=by
  intro i
  induction i with
  | zero=>intro _;rfl
  | succ i b=>intro c;have a:=y3 (l:=nss) (i:=i) %[|0];rw[mO a,x8,Int.natCast_add,b %[|0],Qw,aD a];unfold many;rw[da,List.sum_append];simp
 have:=this nss.length (y9 _);rw[cy]at this;exact this
def lV{W}(h:PgB m p)(a:12<=m)(b:m<=60)(c:flat S)(w:W (.lst ((aQ p.nss).map (gG p))) S):c_cellsOf [dPg p] S W:=
 %[p,rfl,by have:=h.2.2.1;omega,h.deeds,by have:=h.many a;have:=jO p.nss;omega,c|w]
def Dp{W}(h:PgB m p)(a:12<=m)(b:m<=60)(c:flat S)(w:hand W ((aQ p.nss).map dSt) S):c_steps [dPg p] S W:=
 %[p,rfl,by have:=h.2.2.1;omega,h.ok,by have:=h.many a;have:=jO p.nss;omega,c|w]
def toC(c:Cell):%[|14]:=((c.1:Int),c.2)
def Vw(l:List Cell):l.map aF=(l.map toC).map cD:=by rw[dr];rfl
def tch(a b:Cell×List Cell):List Cell:=(if a.1=b.1\/a.1∈b.2 then[a.1]else[])++(if b.1∈a.2 then[b.1]else[])
def iG(a b:Cell×List Cell):Bool:=(decide (a.1=b.1)||decide (a.1∈b.2))||decide (b.1∈a.2)
def dCR(a:Cell×List Cell):D:=.tup [aF a.1,.lst (a.2.map aF)]
theorem tV:∀(xs ys:af1),cT (xs.map D.int) (ys.map D.int)=decide (xs=ys)
 | [],[]=>by simp[cT]
 | [],_::_=>by simp[cT]
 | _::_,[]=>by simp[cT]
 | x::xs,y::ys=>by simp only[cw,cT,eqD,tV xs ys];rw[gd];simp
def GZ(a b:Cell):eqD (aF a) (aF b)=decide (a=b):=by unfold aF;simp only[eqD,cT,tV,df];rw[gd];simp[oC];intro _;omega
def W6(c:Cell)(l:List Cell):((l.map aF).any λ d=>eqD d (aF c))=decide (c∈l):=by rw[List.any_map];rw[gd,ib];simp only[Function.comp_apply,GZ,hV];exact%[λ⟨x,h1,h2⟩=>h2▸h1|λ h=>%[c,h|rfl]]
theorem lW:∀xs:List Int,cz (xs.map D.int)=true
 | []=>rfl
 | x::xs=>by simp only[cw,cz,okD,lW xs,df]
theorem ik:∀xs:List Int,aY (xs.map D.int)=0
 | []=>rfl
 | x::xs=>by simp only[cw,aY,deep,ik xs];rfl
def lw(c:Cell):okD (aF c)=true:=by unfold aF;simp only[okD,cz,lW,df]
def qY(c:Cell):deep (aF c)=2:=by unfold aF;simp only[deep,aY,ik];rfl
theorem yJ:∀l:List Cell,cz (l.map aF)=true
 | []=>rfl
 | c::l=>by simp only[cw,cz,lw,yJ l,df]
theorem vz:∀l:List Cell,aY (l.map aF)<=2
 | []=>by simp[aY]
 | c::l=>by have:=vz l;simp only[cw,aY,qY];omega
def cell_eq{a b}(w:W (decide (a=b)) S):bh .Eq (aF a) (aF b) S W:=by rw[<-GZ]at w;unfold bh;exact%[%[lw a,lw b|by show deep (aF a)<=50;rw[qY];decide]|w]
def cell_in{l:List Cell}(w:W (decide (c∈l)) S):bh .In (aF c) (.lst (l.map aF)) S W:=by rw[<-W6]at w;exact cIn (ds:=l.map aF) rfl (lw c) (yJ l) (d6 (vz l) %[|1]) w
def acu(h1:cz L=true)(h2:aY L<=40)(w:W (!L.isEmpty) S):bh .NotEq (.lst L) (.lst []) S W:=by
 unfold bh;refine .inl %[%[by show cz L=true;exact h1,rfl|by show aY L+1<=50;omega]|?_];have:eqD (vw S (.lst L)) (vw S (.lst []))=L.isEmpty:=by show cT L []=_;cases L<;>simp[cT]
 rw[this];exact w
def HW(l:List Cell):((mW id (l.map toC)).map cD).isEmpty=l.isEmpty:=by
 match l with
 | []=>rfl
 | [a]=>rfl
 | [a,b]=>show((if toC b=toC a then[toC a]else if ltC (toC b) (toC a)=true then[toC b,toC a]else[toC a,toC b]).map cD).isEmpty=false;split;{rfl};{split<;>rfl}
 | _::_::_::_=>rfl
def wY{l:List Cell}(h:d∈(mW id (l.map toC)).map cD):∃c:Cell,d=aF c:=by
 obtain⟨x,e,rfl⟩:=c9.mp h;have :x∈l.map toC:=by
  match l,e with
  | [a],e=>exact e
  | [a,b],e=>have e:x∈(if toC b=toC a then[toC a]else if ltC (toC b) (toC a)=true then[toC b,toC a]else[toC a,toC b]):=e;split at e;{simp at e ⊢;exact .inl e};{split at e;{simp at e ⊢;exact e.symm};{exact e}}
  | _::_::_::_,e=>exact e
 obtain⟨c,_,rfl⟩:=c9.mp this;exact%[c|rfl]
theorem lY:∀{L:List D},(∀d∈L,∃c:Cell,d=aF c)->cz L=true/\aY L<=2/\aa L=true
 | [],_=>%[rfl,dk _|rfl]
 | d::L,h=>by obtain⟨c,rfl⟩:=h d x6;obtain⟨a,f,b⟩:=lY λ x e=>h x (x4 _ e);refine%[by simp only[cz,lw,a,df],by simp only[aY,qY];omega|by simp only[aa,mJ,b,df]]
def Aq(a b:Cell×List Cell):(tch a b).length<=2:=by unfold tch;split<;>split<;>simp
def Ot(a b:Cell×List Cell):(!(tch a b).isEmpty)=iG a b:=by unfold tch iG;by_cases c:a.1=b.1;{simp[c]};{by_cases d:a.1∈b.2;{simp[d]};{by_cases e:b.1∈a.2<;>simp[c,d,e]}}
def Yi{l}(d:l.length<=2):(mW id l).Pairwise %[|27]/\∀c,c∈mW id l↔c∈l:=by
 match l,d with
 | [],_=>exact%[List.Pairwise.nil|λ c=>Iff.rfl]
 | [x],_=>exact%[ng _ _|λ c=>Iff.rfl]
 | [x, y],_=>
   show List.Pairwise _ (if y=x then[x]else if ltC y x=true then[y,x]else[x,y])/\∀c,c∈(if y=x then[x]else if ltC y x=true then[y,x]else[x,y])↔_;by_cases e:y=x;{rw[ci e];subst e;exact%[ng _ _|λ c=>by simp]}
   . rw[c8 e];by_cases h:ltC y x=true;{rw[ci h];exact%[List.pairwise_pair.mpr h|λ c=>by simp[or_comm]]}
     . rw[c8 h];refine%[List.pairwise_pair.mpr ?_|λ c=>Iff.rfl]
       cases g:ltC x y with
       | true=>rfl
       | false=>exact absurd (Sy (Bool.eq_false_iff.mpr h) g) e
def Z5{l ks}(d:l.length<=2)(h1:ks.Pairwise %[|27])(h2:∀c,c∈ks↔c∈l):ks=mW id l:=V4 h1 (Yi d).1 λ c=>(h2 c).trans ((Yi d).2 c).symm
def tL:Ct:=λ c S W=>∃a b:Cell×List Cell,c=[dCR a,dCR b]/\flat S/\W (.lst ((mW id ((tch a b).map toC)).map cD)) S
def tX(B:%[|2]):OkF Ω "touched_cells" jA 1 uR tL:=by
 refine aJ (N:=vh) (Bl.drp (uZ B)) %[|6] ?_;rintro t S W ⟨a,b,rfl,k,o⟩ v;have s:aB (.lst ((mW id ((tch a b).map toC)).map cD))=true:=(lY λ d m=>wY m).2.2;have f:∀l:List Cell,l=tch a b->(iD B).wp [some (dCR a),some (dCR b),%[|21]] (S++[l.map aF]) {nx:=λ _ g=>W .non g,rt:=Drp S.length W}:=by rintro l rfl;try?;refine%[(tch a b).map toC,λ l r n=>?_,.inr %[_,rfl|?_]|λ w p q=>?_];{have e:=k6 r n;have u:=Aq a b;rw[y7]at e;omega};{rw[<-Vw];exact aH _ _};{rw[Z5 (by rw[y7];exact Aq a b) p q];exact .inr %[_,S,rfl,y9 _,s,k|o]}
 have c:∀l:List Cell,l=(if a.1=b.1\/a.1∈b.2 then[a.1]else[])->(iC B).wp [some (dCR a),some (dCR b),%[|21]] (S++[l.map aF]) {nx:=λ _ g=>W .non g,rt:=Drp S.length W}:=by
  intro l i;have j:l.length<=1:=by rw[i];split<;>simp
  try?;refine cell_in ?_;by_cases h:b.1∈a.2;{rw[cc h];try?;refine%[_,aH _ _,by rw[y7];omega|?_];rw[b8];have:=f (l++[b.1]) (by unfold tch;rw[i,ci h]);rw[da]at this;exact this};{rw[cm h];try?;exact f l (by unfold tch;rw[i,c8 h,gt])}
 try?;refine cell_eq ?_;by_cases h:a.1=b.1;{rw[cc h];try?;refine%[_,aH _ _,by simp|?_];rw[b8];exact c [a.1] (by rw[ci (.inl h)])};{rw[cm h];try?;refine cell_in ?_;by_cases e:a.1∈b.2;{rw[cc e];try?;refine%[_,aH _ _,by simp|?_];rw[b8];exact c [a.1] (by rw[ci (.inr e)])};{rw[cm e];refine bF ?_;exact c [] (by rw[c8 (λ z=>z.elim h e)])}}
def au(p:Pg):List %[|24]:=p.nss.flatMap λ n=>(cnt n.lps).flatMap λ a=>n.dds.map λ x=>(x,a)
def crs(x:%[|24]):Cell×List Cell:=(spot x.1.tab x.1.pl x.2,x.1.rds.map λ r=>spot r.tab r.pl x.2)
def Z8(x:%[|24]):dCR (crs x)=dCs x.1 x.2:=by unfold dCR crs dCs;rw[dr];rfl
theorem kW{b d:Type}{f g:b->List d}:∀{l:List b},(∀a∈l,f a=g a)->l.flatMap f=l.flatMap g
 | [],_=>rfl
 | a::l,h=>by rw[l4,l4,h a x6,kW λ x c=>h x (x4 _ c)]
def G9(p:Pg):oK p=%[|87]:=by unfold oK au;rw[iO];refine kW λ n _=>?_;unfold v7;rw[iO];refine kW λ a _=>?_;rw[dr];rfl
def Ka{n}(h:p.nss[i]? =some n):(dU i n).map (gG p)=((cnt n.lps).flatMap λ cs=>n.dds.map λ x=>(x,cs)).map λ x=>dCR (crs x):=by
 unfold dU;rw[iO,iO];refine kW λ cs _=>?_;rw[dr,dr];apply me;{simp}
 . intro s c a;have b:s<n.dds.length:=by simpa using a
   rw[h8,h8,List.getElem_range];show gG p (i,cs,s)=dCR (crs (n.dds[s],cs));rw[Z8];unfold gG;show(match p.nss[i]? with | some n=>(match n.dds[s]? with | some x=>dCs x cs | none=>D.non) | none=>D.non)=_;rw[h];show(match n.dds[s]? with | some x=>dCs x cs | none=>D.non)=_;rw[y3 b]
def fG(p:Pg):(aQ p.nss).map (gG p)=(au p).map λ x=>dCR (crs x):=by
 unfold aQ au;rw[List.map_flatten,iO,List.flatMap_def];congr 1;apply me;{simp}
 . intro i c a;have b:i<p.nss.length:=by simpa using a
   rw[h8,List.getElem_mapIdx,h8];exact Ka (y3 b)
def CK:Ct:=λ a S W=>∃(p:Pg) (m i j:Nat) (x y:%[|24]),a=[dPg p,.int i,.int j]/\PgB m p/\12<=m/\m<=60/\flat S/\(au p)[i]? =some x/\(au p)[j]? =some y/\W (.bl (!decide (i=j)&&iG (crs x) (crs y))) S
def Hb(a:aZ Ω c_cellsOf)(b:bZ Ω tL):OkF Ω "touches" vN 6 Mi CK:=by refine aJ (N:=Mf) (LK a b) %[|6] ?_;rintro s S W ⟨p,m,i,j,x,y,rfl,n,f,g,h,q,r,c⟩ t;have k:atI ((aQ p.nss).map (gG p)) ((i:Nat):Int)=some (dCR (crs x)):=bW (by rw[fG,y8,q];rfl);have l:atI ((aQ p.nss).map (gG p)) ((j:Nat):Int)=some (dCR (crs y)):=bW (by rw[fG,y8,r];rfl);try?;refine%[rfl|lV n f g h ?_];try?;by_cases e:i=j;{rw[cc %[|0]];rw[cc e]at c;try?;exact c};{rw[cm %[|0]];rw[cm e]at c;try?;refine%[_,k|?_];try?;refine%[_,l|?_];try?;refine%[rfl,crs x,crs y,rfl,h|?_];try?;have ok:=lY (L:=(mW id ((tch (crs x) (crs y)).map toC)).map cD) λ d o=>wY o;refine acu ok.1 (d6 ok.2.1 %[|1]) ?_;rw[HW,Ot];exact c}
def Gq:Ct:=λ a S W=>∃x y:%[|24],a=[dJ x.2 x.1,dJ y.2 y.1]/\x.1.rds.length<=1000/\y.1.rds.length<=1000/\W (.bl (iG (crs x) (crs y))) S
def J8(w:W (decide (c∈(crs x).2)) S):bh .In (aF c) (.lst (x.1.rds.map λ r=>aF (spot r.tab r.pl x.2))) S W:=by
 have e:(x.1.rds.map λ r=>aF (spot r.tab r.pl x.2))=(crs x).2.map aF:=by unfold crs;rw[dr];rfl
 rw[e];exact cell_in w
def Qh:OkF Ω "_law_touch" Ci 1 U7 Gq:=by refine aJ (N:=U7) (RW) %[|6] ?_;rintro i S W ⟨x,y,rfl,l,m,d⟩ j;unfold iG at d;try?;refine cell_eq (a:=(crs x).1) (b:=(crs y).1) ?_;by_cases h:(crs x).1=(crs y).1;{rw[cc h]at d ⊢;try?;exact d};{rw [cm h]at d ⊢;try?;refine gU (λ r:Rd=>aF (spot r.tab r.pl y.2)) %[|0] ?_ ?_;{intro k r g Q e;try?;refine%[rfl|?_];try?;exact e};refine J8 (c:=(crs x).1) (x:=y) ?_;by_cases f:(crs x).1∈(crs y).2;{rw[cc f]at d ⊢;try?;exact d};{rw[cm f]at d ⊢;try?;refine gU (λ r:Rd=>aF (spot r.tab r.pl x.2)) %[|0] ?_ ?_;{intro k r g Q e;try?;refine%[rfl|?_];try?;exact e};refine J8 (c:=(crs y).1) (x:=x) ?_;exact d}}
def ssC(a b:Cell×List Cell):List %[|14]:=mW id ((tch a b).map toC)
def YT(a b:Cell×List Cell):((ssC a b).map cD).isEmpty=(ssC a b).isEmpty:=by cases ssC a b<;>rfl
def aaA(a b:Cell×List Cell):(ssC a b).length<=2:=by
 unfold ssC;have h:=Aq a b;generalize tch a b=l at h;match l,h with
 | [],_=>exact dk _
 | [x],_=>exact jp _
 | [x,y],_=>show(if toC y=toC x then[toC x]else if ltC (toC y) (toC x)=true then[toC y,toC x]else[toC x,toC y]).length<=2;split;{exact jp _};{split<;>exact y9 _}
def aag(c:ag2):(c.map cD).isEmpty=c.isEmpty:=by cases c<;>rfl
abbrev Pr:=Nat×Nat×List %[|14]
abbrev CR:=Cell×List Cell
def xf(xs:List CR)(i j:Nat):List Pr:=match xs[i]?,xs[j]? with
 | some a,some b=>if(ssC a b).isEmpty then[]else[(i,j,ssC a b)]
 | _,_=>[]
def jf(xs:List CR)(i k:Nat):List Pr:=(List.range k).flatMap λ t=>xf xs i (i+1+t)
def cQ(xs:List CR)(k:Nat):List Pr:=(List.range k).flatMap λ i=>jf xs i (xs.length-(i+1))
def zq{a b:CR}(c:xs[i]? =some a)(d:xs[j]? =some b):xf xs i j=if(ssC a b).isEmpty then[]else[(i,j,ssC a b)]:=by unfold xf;rw[c,d]
def pG(xs:List CR)(i k:Nat):jf xs i (k+1)=jf xs i k++xf xs i (i+1+k):=by unfold jf;rw[kQ,hY];simp
def xn(xs:List CR)(k:Nat):cQ xs (k+1)=cQ xs k++jf xs k (xs.length-(k+1)):=by unfold cQ;rw[kQ,hY];simp
def XC(xs:List CR)(i j:Nat):(xf xs i j).length<=1:=by unfold xf;split;{split<;>simp};{simp}
theorem sO(xs:List CR)(i:Nat):∀k,(jf xs i k).length<=k
 | 0=>by simp[jf]
 | k+1=>by rw[pG,x8];have:=sO xs i k;have:=XC xs i (i+1+k);omega
theorem Dc(xs:List CR):∀k,(cQ xs k).length<=k*xs.length
 | 0=>by simp[cQ]
 | k+1=>by rw[xn,x8,mx];have:=Dc xs k;have:=sO xs k (xs.length-(k+1));omega
def dPr(q:Pr):D:=.tup [.int (q.1:Int),.int (q.2.1:Int),.lst (q.2.2.map cD)]
def Xo(c:ag7):aB (cD c)=true:=by have h:aa (c.2.map D.int)=true:=cg _;unfold cD;simp only[aB,aa,h,df]
def PQ(l:ag2):aa (l.map cD)=true:=fV Xo l
def Dw(q:Pr):aB (dPr q)=true:=by unfold dPr;simp only[aB,aa,PQ,df]
def Vv(c:PgB m p)(a:12<=m)(b:m<=60):%[|10]<=60:=by
 have d:=c.many a;have e:=jO p.nss;have f:(aQ p.nss).length=%[|10]:=by have:=eC List.length (fG p);rw[y7,y7]at this;exact this
 omega
def Ip:Ct:=λ a S W=>∃(p:Pg) (m:Nat),a=[dPg p]/\PgB m p/\12<=m/\m<=60/\flat S/\hand W ((cQ ((au p).map crs) %[|10]).map dPr) S
def PJ(B:%[|2])(h:aZ Ω c_cellsOf)(j:bZ Ω tL):OkF Ω "pairs" Dl 6 Jb Ip:=by
 refine aJ (N:=Uz) (Bl.frz (RB B h j)) %[|6] ?_;rintro Z S W ⟨p,m,rfl,w,n,o,t,y⟩ hl;have I:=Vv w n o;have F:(aQ p.nss).map (gG p)=((au p).map crs).map dCR:=by rw[fG,dr];rfl
 try?;refine%[rfl|lV w n o t ?_];rw[F];have H:((au p).map crs).length=%[|10]:=y7 _;rw[<-H]at y I;generalize (au p).map crs=xs at*;try?;rw[y7];refine%[%[|40]|bc (λ i a b=>∃v f g,a=[some (dPg p),some (.lst (xs.map dCR)),%[|21],v,f,g]/\b=S++[(cQ xs i).map dPr]) %[_,_,_,rfl|rfl] ?_ ?_]
 . rintro Q T O s _ _ i e a b u ⟨v,f,g,rfl,rfl⟩;obtain⟨hi,rfl⟩:=cP u;have D:(0:Int)+(i:Int)=(i:Int):=%[|0]
   rw[D];have r:i<xs.length:=%[|0]
   have C:atI (xs.map dCR) ((i:Nat):Int)=some (dCR xs[i]):=bW (by rw[y8,y3 r];rfl);try?;rw[y7];refine%[%[|40]|bc (λ k a b=>∃f g,a=[some (dPg p),some (.lst (xs.map dCR)),%[|21],some (.int (i:Int)),f,g]/\b=S++[(cQ xs i++jf xs i k).map dPr]) %[_,_,rfl|by unfold jf;simp] ?_ ?_]
   . rintro R U P q _ _ k e a b u ⟨f,g,rfl,rfl⟩;obtain⟨hk,rfl⟩:=cP u;have E:((i:Int)+1)+(k:Int)=((i+1+k:Nat):Int):=%[|0]
     rw[E];have x:i+1+k<xs.length:=%[|0]
     have A:atI (xs.map dCR) ((i+1+k:Nat):Int)=some (dCR xs[i+1+k]):=bW (by rw[y8,y3 x];rfl);have l:=zq (y3 r) (y3 x);try?;refine%[_,C|?_];try?;refine%[_,A|?_];try?;refine%[rfl,xs[i],xs[i+1+k],rfl,cB t (fV Dw _)|?_];have ok:=lY (L:=(ssC xs[i] xs[i+1+k]).map cD) λ d K=>wY K;have J:=aaA xs[i] xs[i+1+k];try?;have G:mW id ((tch xs[i] xs[i+1+k]).map toC)=ssC xs[i] xs[i+1+k]:=rfl;rw[G];generalize hc:ssC xs[i] xs[i+1+k]=c at*;refine%[c.map cD,rfl,.inl rfl,by rw[y7];omega|?_];rw[aag]
     cases z:c.isEmpty with
     | true=>refine bF ?_;refine q _ _ _ %[_,_,rfl|?_];rw[pG,l,ci z,gt]
     | false=>
       try?;have M:(cQ xs i++jf xs i k).length<=4000:=by rw[x8];have V:=Dc xs i;have X:=sO xs i k;have Y:i*xs.length<=60*60:=ln %[|0] %[|0];omega
       refine%[_,aH _ _,by rw[y7];omega|?_];rw[b8];refine q _ _ _ %[_,_,rfl|?_];rw[pG,l,c8 (by rw[z];exact y6),<-ck,da (l₂:=[_])];rfl
   {rintro a b ⟨f,g,rfl,rfl⟩;refine s _ _ _ %[_,_,_,rfl|?_];rw[xn,aL];rw[show(((xs.length:Nat):Int)-((i:Int)+1)).toNat=xs.length-(i+1)from %[|0]]}
 {rintro a b ⟨v,f,g,rfl,rfl⟩;rw[aL,f7];exact oZ y (fV Dw _) t}
def Wu{f}[DecidableEq f](kvs:List (f×D))(ns b:f)(d:D):aK (putD kvs ns d) b=if b=ns then some d else aK kvs b:=by
 have m:∀l:List (f×D),aK (l++[(ns,d)]) b=(aK l b).or (if b=ns then some d else none):=λ l=>by
  unfold aK;rw[np]
  cases h:l.find? λ kv=>decide (kv.1=b)with
  | some x=>rfl
  | none=>by_cases e:b=ns;{subst e;simp};{have j:¬ns=b:=λ z=>e z.symm;simp[eM,e,j]}
 have n:∀l:List (f×D),aK (l.map λ kv=>if kv.1=ns then(kv.1,d)else kv) b=(aK l b).map λ x=>if b=ns then d else x:=λ l=>by
  induction l with
  | nil=>rfl
  | cons a l g=>unfold aK at g ⊢;rw[cw,eM,eM];by_cases e:a.1=b;{subst e;by_cases c:a.1=ns<;>simp[c]};{by_cases c:a.1=ns;{have k:¬ns=b:=λ z=>e (c.trans z);simp only[c,h9,k,decide_false];exact g};{simp only[c,en,e,decide_false];exact g}}
 unfold putD;rw[GQ]
 cases i:aK kvs ns with
 | some x=>simp only[Option.isSome_some,h9];rw[n];by_cases e:b=ns;{subst e;rw[i];simp};{simp[e]}
 | none=>simp only[Option.isSome_none,de,en];rw[m];by_cases e:b=ns;{subst e;rw[i];simp};{simp[e]}
def BL{a}[DecidableEq a](kvs:List (a×D))(ns:a)(d:D):(putD kvs ns d).length<=kvs.length+1:=by unfold putD;split<;>simp
def dN(l:af4):List D:=l.map λ(t:Nat)=>D.int (t:Int)
def nlV{α:Type}(kv:List (α×D)):Prop:=∀x∈kv,aB x.2=true
def ZR{b}[DecidableEq b]{f}{c:b}(h:nlV f)(e:aB d=true):nlV (putD f c d):=by unfold putD;split;{intro x a;obtain⟨y,g,rfl⟩:=c9.mp a;split;{exact e};{exact h y g}};{intro x a;rcases cn.mp a with a | a;{exact h x a};{rw[cf.mp a];exact e}}
def jM(h:∀d∈l,aB d=true):aa l=true:=by
 induction l with
 | nil=>rfl
 | cons y c b=>simp only[aa,h y x6,b λ d a=>h d (x4 _ a),df]
def Xx{a:Ko}(h:nlV a):aa (a.map cN)=true:=jM λ d b=>by
 obtain⟨x,c,rfl⟩:=c9.mp b;show aa [oD x.1,x.2]=true;have:aB (oD x.1)=true:=by cases x.1<;>rfl
 simp only[aa,this,h x c,df]
def dh(n:Nat)(o:af4):Prop:=(∀t∈o,t<n)/\o.Nodup
def Mw(p:Pg):(aQ p.nss).length=%[|10]:=by have:=eC List.length (fG p);rw[y7,y7]at this;exact this
def tQ(p:Pg):many p.nss=(%[|10]:Int):=by rw[<-jO,Mw]
def dg(c:PgB m p)(a:12<=m)(b:m<=60):%[|10]<=60:=by have d:=c.many a;have e:=tQ p;omega
def zj(l:af4):dN l=(l.map λ(t:Nat)=>(t:Int)).map D.int:=by unfold dN;rw[dr];rfl
def eE(l:af4):(dN l).length=l.length:=y7 _
def nH{l}(h:(dN l)[i]? =some d):∃t,l[i]? =some t/\d=.int (t:Int):=by
 unfold dN at h;rw[y8]at h
 cases e:l[i]? with
 | none=>rw[e]at h;cases h
 | some t=>rw[e]at h;cases h;exact%[t,rfl|rfl]
def acZ{l}(h:l[i]? =some t):(dN l)[i]? =some (.int (t:Int)):=by unfold dN;rw[y8,h];rfl
def uf{c:Type}{l:List c}(h:l.Nodup)(a:i<j)(b:j<l.length):l[i]?≠l[j]?:=by rw[y3 %[|0],y3 b];intro z;have z:=cq z;have:=(fI.mp h) i j %[|0] b a;exact this z
def RZ(h:ns.Nodup):unl ns=ns.length:=by
 unfold unl;have d:∀i,i<=ns.length->PyProof.Rows.firstMet (λ i=>ns.getD i 0) i=ns.take i:=by
  intro i
  induction i with
  | zero=>intro _;rfl
  | succ i g=>
    intro k;have b:i<ns.length:=%[|0]
    rw[PyProof.Rows.firstMet_succ,g %[|0],aD (y3 b)];have e:ns.getD i 0=ns[i]:=by simp[List.getD,b]
    unfold PyProof.Rows.step_dedup;rw[e,c8];intro z;rw[ib]at z;obtain⟨x,f,z⟩:=z;have z:=ZU z;subst z;obtain⟨j,a⟩:=db f;rw[fT]at a;split at a;{rename_i c;exact uf h c b (by rw[a,y3 b])};{cases a}
 rw[d _ (y9 _),cy]
def R4(h:o.Nodup):(o.map λ(t:Nat)=>(t:Int)).Nodup:=by
 induction o with
 | nil=>exact g9
 | cons x c b=>rw[fh]at h;rw[cw,fh];refine%[λ z=>?_|b h.2];obtain⟨y,a,e⟩:=c9.mp z;exact h.1 (by rw[show x=y from %[|0]];exact a)
def Am:Ct:=λ a S W=>∃(p:Pg) (m:Nat) (o:af4),a=[dPg p,.lst (dN o)]/\PgB m p/\12<=m/\m<=60/\flat S/\o.length<=60/\dh %[|10] o/\W (.bl true) S
def sH{W}(hP:PgB m p)(a:flat S)(w:W (.int (%[|10]:Int)) S):nj [.tup (p.nss.map dNs)] S W:=
 %[p.nss,rfl,by have:=hP.2.2.1;omega,λ n b=>(hP.deeds n b).1,a|by rw[tQ];exact w]
def LQ(B:%[|2])(a:bC Ω c_whole)(b:aV Ω nj):OkF Ω "is_row" yU 5 QZ Am:=by
 refine aJ (N:=QM) (Qo B a b) %[|6] ?_;rintro n S W ⟨p,m,o,rfl,f,d,e,g,r,hO,l⟩ q;try?;refine%[rfl|sH f g ?_];try?;unfold dN;refine aap (C0:=λ _=>True) (xs:=o) (enc:=λ(t:Nat)=>D.int (t:Int)) (λ _=>.bl true) %[|0] trivial ?_ (.inl ?_);{intro i t k Q j;have h:=hO.1 t (y4 k);try?;refine%[rfl,_,rfl|?_];try?;rw[cc (show(t:Int)<(%[|10]:Int)from %[|0])];exact j};try?;refine%[List.replicate o.length true,by rw[List.map_replicate,<-List.map_const']|?_];have c:(List.replicate o.length true).all id=true:=by simp
 rw[c];try?;refine%[_,by show mF S (.lst (dN o))=_;rw[zj];rfl,by rw[y7];show _<4096;omega|?_];rw[RZ (R4 hO.2),y7];try?;rw[y7,cc rfl];exact l
def M7:Ct:=λ a S W=>∃(p:Pg) (m:Nat) (o:af4),a=[dPg p,.lst (dN o)]/\PgB m p/\12<=m/\m<=60/\flat S/\o.length=%[|10]/\dh %[|10] o/\W (.bl true) S
def DX(B:%[|2])(b:aV Ω nj)(a:jL Ω Am):OkF Ω "is_order" rP 6 QZ M7:=by refine aJ (N:=QZ) (HX B b a) %[|6] ?_;rintro i S W ⟨p,m,o,rfl,e,c,d,f,l,g,h⟩ k;have j:=dg e c d;try?;refine%[rfl,p,m,o,rfl,e,c,d,f,%[|0],g|?_];try?;refine%[rfl|sH e f ?_];try?;rw[eE,cc %[|0]];exact h
def KJ:Ct:=λ a S W=>∃(p:Pg) (m:Nat) (o:af4),a=[dPg p,.lst (dN o)]/\PgB m p/\12<=m/\m<=60/\flat S/\o.length=%[|10]/\dh %[|10] o/\W .non S
def oY(a:sU Ω M7):OkF Ω "refuse_no_order" iz 7 qM KJ:=by refine aJ (N:=qM) (qL a) %[|6] ?_;rintro i S W ⟨p,m,o,rfl,e,b,c,f,g,d,h⟩ j;try?;refine%[rfl,p,m,o,rfl,e,b,c,f,g,d|?_];try?;exact h
def Plc(o:af4)(i:Nat)(kv:Ko):Prop:=kv.length<=i/\nlV kv/\∀t j:Nat,(o.take i)[j]? =some t->aK kv (some (t:Int))=some (.int (j:Int))
def Plc.put{k}(h:Plc o i k)(n:o.Nodup)(g:o[i]? =some t):Plc o (i+1) (putD k (some (t:Int)) (.int (i:Int))):=by
 have l:=(z0.mp g).1;refine%[by have:=h.1;have:=BL k (some (t:Int)) (.int (i:Int));omega,ZR h.2.1 rfl|λ u j a=>?_];rw[Wu];rw[aD g]at a;by_cases c:j<i;{rw[x9 (by rw[ej];omega)]at a;have b:=a;rw[fT,ci c]at b;have f:u≠t:=λ e=>uf n c l (by rw[b,g,e]);rw[c8 (λ z=>f (by have:=cq z;omega))];exact h.2.2 u j a}
 . have m:(o.take i).length=i:=by rw[ej];omega
   rw[dt %[|0],m]at a;have d:j-i=0:=by have:=(z0.mp a).1;simp at this;omega
   rw[d]at a;simp at a;subst a;rw[ci rfl,show j=i from %[|0]]
def yE:Ct:=λ b S W=>∃(o:af4),b=[.lst (dN o)]/\o.length<=60/\o.Nodup/\∀a,Plc o o.length a->W %[|13] (S++[a.map cN])
def WP{l}(h:((dN l).mapIdx λ i d=>D.tup [.int i,d])[i]? =some e):∃t,l[i]? =some t/\e=.tup [.int (i:Int),.int (t:Int)]:=by
 rw[jv]at h
 cases a:(dN l)[i]? with
 | none=>rw[a]at h;cases h
 | some d=>rw[a]at h;cases h;obtain⟨t,b,rfl⟩:=nH a;exact%[t,b|rfl]
def Bk(B:%[|2]):OkF Ω "places_of" pU 1 Ei yE:=by
 refine aJ (N:=DG) (Es B) %[|6] ?_;rintro u S W ⟨o,rfl,y,n,p⟩ w;try?;refine bc (λ i b T=>∃f g a,b=[some (.lst (dN o)),some %[|13],f,g]/\T=S++[List.map cN a]/\Plc o i a) %[_,_,[],rfl,rfl,dk _,(λ x h=>by cases h)|λ t j h=>by simp at h] ?_ ?_
 . rintro r s q c _ _ i e b T l ⟨f,g,a,rfl,rfl,hk⟩;obtain⟨t,k,rfl⟩:=WP l;have v:=(z0.mp k).1;have m:=hk.1;try?;refine%[rfl|?_];try?;refine%[some (t:Int),a,rfl,by simp,%[|0]|?_];have e:(S++[a.map cN]).set S.length ((putD a (some (t:Int)) (.int (i:Int))).map cN)=S++[(putD a (some (t:Int)) (.int (i:Int))).map cN]:=by rw[List.set_append_right _ _ (y9 _)];simp
   rw[e];exact c _ _ _ %[_,_,_,rfl,rfl|hk.put n k]
 . rintro b T ⟨f,g,a,rfl,rfl,hk⟩;have e:((dN o).mapIdx λ i d=>D.tup [.int i,d]).length=o.length:=by rw[List.length_mapIdx,eE]
   rw[e]at hk;try?;exact p _ hk
def uh(h:o.Perm %[|31]):dh n o:=%[λ t a=>dA.mp (h.mem_iff.mp a)|h.nodup_iff.mpr ma]
def Ik(h:o.Perm %[|31]):o.length=n:=h.length_eq.trans fq
def v4(h:o.Perm %[|31])(a:t<n):t∈o:=h.mem_iff.mpr (dA.mpr a)
def nO(h:t∈o):o[o.idxOf t]? =some t:=by have a:=List.idxOf_lt_length_of_mem h;rw[y3 a,List.getElem_idxOf a]
def brk(o:af4)(l:List Pr):Option (Nat×Nat):=(l.find? λ q=>decide (o.idxOf q.2.1<o.idxOf q.1)).map λ q=>(q.1,q.2.1)
def dBr:Option (Nat×Nat)->D
 | none=>.non
 | some q=>.tup [.int (q.1:Int),.int (q.2:Int)]
def V5(h:q∈cQ xs xs.length):q.1<xs.length/\q.2.1<xs.length:=by obtain⟨i,a,h⟩:=eL.mp h;obtain⟨t,b,h⟩:=eL.mp h;have a:=dA.mp a;have b:=dA.mp b;unfold xf at h;split at h;{split at h;{cases h};{rw[cf]at h;rw[h];exact%[a|by show i+1+t<xs.length;omega]}};{cases h}
def Cu{a:Type}{l:List a}{x}(h:l[i]? =some x)(f:a->Bool)(b:(l.take i).find? f=none):(l.take (i+1)).find? f=if f x=true then some x else none:=by rw[aD h,np,b];simp[eM];cases f x<;>rfl
def Uv{a:Type}{l:List a}{x}(h:l[i]? =some x)(f:a->Bool)(b:(l.take i).find? f=none)(c:f x=true):l.find? f=some x:=by have e:l=l.take (i+1)++l.drop (i+1):=(iX _ _).symm;rw[e,np,Cu h f b,ci c];rfl
inductive c_broken(ds:List D)(S:Store)(W:WD):Prop
 | mk(p:Pg)(m:Nat)(o:af4):ds=[dPg p,.lst (dN o)]->PgB m p->12<=m->m<=60->flat S->o.Perm (List.range %[|10])->W (dBr (brk o (cQ ((au p).map crs) %[|10]))) S->c_broken ds S W
def Mx(k:rG Ω Ip)(r:eY Ω KJ)(n:jy Ω yE):OkF Ω "broken" xM 8 qM c_broken:=by
 refine aJ (N:=Px) (Bl.drp (QL k r n)) %[|6] ?_;rintro X S W ⟨p,m,o,rfl,y,b,c,w,s,v⟩ j;have Y:=dg y b c;have B:=Ik s;try?;refine%[rfl,p,m,o,rfl,y,b,c,w,B,uh s|?_];try?;refine%[rfl,o,rfl,%[|0],(uh s).2|λ f hk=>?_];have J:=Xx hk.2.1;have I:flat (S++[f.map cN]):=λ l j=>by rcases cn.mp j with j | j;{exact w l j};{rw[cf.mp j];exact J}
 try?;refine%[rfl,p,m,rfl,y,b,c,I|.inl ?_];have L:((au p).map crs).length=%[|10]:=y7 _;rw[<-L]at v s ⊢;generalize (au p).map crs=xs at*;have a:∀t,t<xs.length->aK f (some (t:Int))=some (.int ((o.idxOf t:Nat):Int)):=λ t O=>hk.2.2 t _ (by rw[cy];exact nO (v4 s O));have G:(S++[f.map cN])[S.length]? =some (f.map cN):=aH _ _;have H:((cQ xs xs.length).map dPr).length=(cQ xs xs.length).length:=y7 _;try?;refine bc (λ i g T=>(∃D E F,g=[some (dPg p),some (.lst (dN o)),some %[|13],D,E,F])/\T=S++[f.map cN]/\((cQ xs xs.length).take i).find? (λ q=>decide (o.idxOf q.2.1<o.idxOf q.1))=none) %[%[_,_,_|rfl],rfl|rfl] ?_ ?_
 . rintro U V R x A K i d g T M ⟨⟨D,E,F,rfl⟩,rfl,u⟩;obtain⟨q,C,rfl⟩:=bA M;obtain⟨P,Q⟩:=V5 (y4 C);try?;refine%[rfl|?_];try?;refine%[some (q.1:Int),f,rfl,G,_,a _ P|?_];try?;refine%[some (q.2.1:Int),f,rfl,G,_,a _ Q|?_];try?;by_cases h:o.idxOf q.2.1<o.idxOf q.1
   . refine%[λ _=>?_|λ z=>?_]
     . have e:brk o (cQ xs xs.length)=some (q.1,q.2.1):=by unfold brk;rw[Uv C _ u (cc h)];rfl
       rw[e]at v;try?;exact A _ _ (.inr %[_,S,rfl,y9 _,rfl,w|v])
     {have:=iP z;omega}
   {refine%[λ z=>?_|λ _=>?_];{have:=cE z;omega};{try?;refine x _ _ _ %[%[_,_,_|rfl],rfl|?_];rw[Cu C _ u,c8 (by rw[cm h];exact y6)]}}
 . rintro g T ⟨⟨D,E,F,rfl⟩,rfl,u⟩;rw[H,cy]at u;have e:brk o (cQ xs xs.length)=none:=by unfold brk;rw[u];rfl
   rw[e]at v;try?;exact .inr %[_,S,rfl,y9 _,rfl,w|v]
def ac2(n:Nat):DL.upTo 0 n=dN %[|31]:=by unfold DL.upTo dN;refine kL λ k _=>?_;rw[Int.zero_add]
inductive c_plain(ds:List D)(S:Store)(W:WD):Prop
 | mk(p:Pg)(m:Nat):ds=[dPg p]->PgB m p->12<=m->m<=60->flat S->W (.lst (dN (List.range %[|10]))) S->c_plain ds S W
def Pn(B:%[|2])(a:aV Ω nj):OkF Ω "plain" CN 5 Jb c_plain:=by refine aJ (N:=Jb) (Up B a) %[|6] ?_;rintro g S W ⟨p,m,rfl,d,b,c,e,f⟩ i;have h:=dg d b c;try?;refine%[rfl|sH d e ?_];try?;refine%[%[|40]|.inl ?_];rw[f7,ac2];exact f
inductive c_led(ds:List D)(S:Store)(W:WD):Prop
 | mk(p:Pg)(m:Nat)(o:af4)(q:Nat×Nat):ds=[dPg p,.lst (dN o)]->PgB m p->12<=m->m<=60->flat S->o.Perm (List.range %[|10])->brk o (cQ ((au p).map crs) %[|10])=some q->W .non S->c_led ds S W
def Vl(a:gW Ω c_broken):OkF Ω "led" Oj 9 qM c_led:=by refine aJ (N:=Zy) (aaq a) %[|6] ?_;rintro i S W ⟨p,m,o,q,rfl,e,b,c,f,d,g,h⟩ j;try?;refine%[rfl,p,m,o,rfl,e,b,c,f,d|?_];rw[g];try?;exact h
abbrev Cel:=%[|14]
abbrev Fz:=List (Cel×Int)
def ak(fa:Fz)(c:Cel):Option Int:=(fa.find? %[|48]).map (·.2)
def mC(fa:Fz)(c:Cel)(v:Int):Fz:=if(fa.any %[|48])=true then fa.map λ kv=>if kv.1=c then(kv.1,v)else kv else fa++[(c,v)]
def aC(fa:Fz):Kc:=fa.map λ kv=>(kv.1,D.int kv.2)
def dB(fa:Fz)(c:Cel):aK (aC fa) c=(ak fa c).map D.int:=by unfold aK ak aC;rw[List.find?_map];show Option.map _ (Option.map _ (fa.find? %[|48]))=_;cases fa.find? %[|48]<;>rfl
def oX(fa:Fz)(c:Cel)(v:Int):putD (aC fa) c (.int v)=aC (mC fa c v):=by unfold putD mC aC;rw[List.any_map];show(if(fa.any %[|48])=true then _ else _)=_;split;{rw[dr,dr];refine kL λ kv _=>?_;show(if kv.1=c then(kv.1,D.int v)else(kv.1,D.int kv.2))=_;by_cases e:kv.1=c;{rw[ci e];show _=((if kv.1=c then(kv.1,v)else kv).1,D.int (if kv.1=c then(kv.1,v)else kv).2);rw[ci e]};{rw[c8 e];show _=((if kv.1=c then(kv.1,v)else kv).1,D.int (if kv.1=c then(kv.1,v)else kv).2);rw[c8 e]}};{rw[da];rfl}
def fzD(fa:Fz):List D:=.non::(aC fa).map encC
def jt(x:Int)(fa:Fz)(kv:Cel×Int):Fz:=mC fa kv.1 ((ak fa kv.1).getD 0+x*kv.2)
def cF(fa:Fz)(x:Int)(mo:Fz):Fz:=mo.foldl (jt x) fa
def Dk{a:Fz}{b}(h:a[i]? =some b):cF fa x (a.take (i+1))=jt x (cF fa x (a.take i)) b:=by unfold cF;rw[aD h,kn];rfl
def vZ(fa:Fz)(c:Cel)(v:Int):(mC fa c v).length<=fa.length+1:=by unfold mC;split<;>simp
def Ij(x:Int)(a:Fz):∀fa:Fz,(cF fa x a).length<=fa.length+a.length:=by
 induction a with
 | nil=>intro fa;exact y9 _
 | cons kv a d=>intro fa;have c:=d (jt x fa kv);have f:=vZ fa kv.1 ((ak fa kv.1).getD 0+x*kv.2);have e:cF fa x (kv::a)=cF (jt x fa kv) x a:=rfl;have b:jt x fa kv=mC fa kv.1 ((ak fa kv.1).getD 0+x*kv.2):=rfl;rw[e,dS];rw[b]at c ⊢;omega
inductive c_addT(ds:List D)(S:Store)(W:WD):Prop
 | mk(f m:Nat)(x:Int)(fa mo:Fz):ds=[.dlo f,.int x,.dlo m]->f≠m->S[f]? =some (fzD fa)->S[m]? =some (fzD mo)->fa.length+mo.length<=1000->Grt x->(∀kv∈mo,Grt kv.2)->W .non (S.set f (fzD (cF fa x mo)))->c_addT ds S W
def Ah:OkF Ω "add_times" pR 1 Ez c_addT:=by
 refine aJ (N:=Fp) (FP) %[|6] ?_;rintro A S W ⟨f,m,x,b,a,rfl,l,q,t,s,z,p,y⟩ B;have d:=(z0.mp q).1;have u:S.set f (fzD b)=S:=by refine kg λ i=>?_;by_cases e:f=i;{subst e;rw[fR d,q]};{rw[eJ e]}
 try?;refine%[aC a,t|Oe %[λ i c T=>∃h j,T=S.set f (fzD (cF b x (a.take i)))/\c=[some (.dlo f),some (.int x),some (.dlo m),h,j],%[_,_,by rw[lm];exact u.symm|rfl],?_,?_|?_]];{rintro i c T ⟨h,j,rfl,rfl⟩;rw[eJ l];exact t}
 . rintro i kv c T o ⟨h,j,rfl,rfl⟩;obtain⟨kv,r,rfl⟩:=bA o;have v:=Ij x (a.take i) b;have w:(a.take i).length<=a.length:=by rw[ej];omega
   have g:(S.set f (fzD (cF b x (a.take i))))[f]? =some (fzD (cF b x (a.take i))):=fR d;have n:=p kv (y4 r);try?;refine%[rfl|?_];try?;refine%[by rw[List.length_set];exact d|?_];try?;refine%[kv.1,aC (cF b x (a.take i)),rfl,g|?_];have k:(aK (aC (cF b x (a.take i))) kv.1).getD (D.int 0)=D.int ((ak (cF b x (a.take i)) kv.1).getD 0):=by rw[dB];cases ak (cF b x (a.take i)) kv.1<;>rfl
   walk_at "n";refine%[%[z|n]|?_];rw[k];try?;refine%[kv.1,aC (cF b x (a.take i)),rfl,g|?_];refine%[by show(List.map _ _).length<1000000;rw[y7];omega|?_];refine%[_,_,?_|rfl];rw[List.set_set,Dk r,oX];rfl
 {rintro c T ⟨h,j,rfl,rfl⟩;have e:(aC a).length=a.length:=y7 ..;rw[e,cy];exact y}
inductive c_theld(ds:List D)(S:Store)(W:WD):Prop
 | mk(c:Cel)(h:Nat)(kvs:Kc):ds=[cD c,.dlo h]->S[h]? =%[|78]->W ((aK kvs c).getD (.tup [.int 0,%[|13]])) (S++[fzD [(c,1)]])->c_theld ds S W
def yz:OkF Ω "trace_held" m6 1 Bx c_theld:=by refine aJ (N:=Bx) (Ao) %[|6] ?_;rintro f S W ⟨c,h,b,rfl,d,e⟩ g;have a:=(z0.mp d).1;try?;refine%[a|?_];try?;refine%[c,rfl,aH _ _|?_];rw[b8];try?;refine%[c,b,rfl,by rw[x9 a];exact d|?_];exact e
structure FzOk(U:List Cel)(B:Nat)(fa:Fz):Prop where
 nd:(fa.map (·.1)).Nodup
 sub:∀kv∈fa,kv.1∈U
 bd:∀kv∈fa,kv.2.natAbs<=B
def FzOk.nil(U:List Cel)(B:Nat):FzOk U B []:=%[g9,%[|41]|%[|41]]
def FzOk.mono(h:FzOk U A fa)(a:A<=B):FzOk U B fa:=%[h.nd,h.sub|λ c b=>d6 (h.bd c b) a]
def YQ(h:FzOk U B fa)(l:c∈U)(j:v.natAbs<=B):FzOk U B (mC fa c v):=by
 unfold mC;split
 . refine%[?_,λ kv d=>?_|λ kv d=>?_]
   . rw[dr];have e:fa.map ((λ x:Cel×Int=>x.1) ∘ λ kv=>if kv.1=c then(kv.1,v)else kv)=fa.map (·.1):=kL λ kv _=>by show(if kv.1=c then(kv.1,v)else kv).1=kv.1;split<;>rfl
     rw[e];exact h.nd
   {obtain⟨z,f,rfl⟩:=c9.mp d;split;{exact h.sub z f};{exact h.sub z f}};{obtain⟨z,f,rfl⟩:=c9.mp d;split;{exact j};{exact h.bd z f}}
 {rename_i g;have g:∀kv∈fa,kv.1≠c:=λ kv d e=>g (ib.mpr %[kv,d|cc e]);refine%[?_,λ kv d=>?_|λ kv d=>?_];{rw[da,ke];refine%[h.nd,by simp|λ a k b i e=>?_];obtain⟨kv,d,rfl⟩:=c9.mp k;rw[cw,l9,cf]at i;exact g kv d (e.trans i)};{rcases cn.mp d with d | d;{exact h.sub kv d};{rw[cf.mp d];exact l}};{rcases cn.mp d with d | d;{exact h.bd kv d};{rw[cf.mp d];exact j}}}
def VR(h:FzOk U B fa)(c:Cel):((ak fa c).getD 0).natAbs<=B:=by
 unfold ak
 cases q:fa.find? %[|48]with
 | none=>exact dk _
 | some kv=>exact h.bd kv (gE q)
def R5(h:FzOk U A fa)(a:kv.1∈U)(c:x.natAbs<=X)(b:kv.2.natAbs<=B):FzOk U (A+X*B) (jt x fa kv):=by
 refine YQ (h.mono (gg _ _)) a ?_;have d:=VR h kv.1;have e:(x*kv.2).natAbs<=X*B:=by rw[mT];exact ln c b
 have f:=nr ((ak fa kv.1).getD 0) (x*kv.2);omega
def Zw(f:x.natAbs<=X){a}(hs:∀kv∈a,kv.1∈U)(c:∀kv∈a,kv.2.natAbs<=B):∀{A:Nat}{fa:Fz},FzOk U A fa->FzOk U (A+a.length*(X*B)) (cF fa x a):=by
 induction a with
 | nil=>intro A fa h;exact h.mono %[|0]
 | cons kv a g=>intro A fa h;have d:=R5 h (hs kv x6) f (c kv x6);have e:=g (λ z b=>hs z (x4 _ b)) (λ z b=>c z (x4 _ b)) d;refine e.mono ?_;rw[dS,mx];omega
def sub_len{b:Type}[DecidableEq b]{l:List b}(nd:l.Nodup):∀{U:List b},(∀x∈l,x∈U)->l.length<=U.length:=by
 induction l with
 | nil=>intro U _;exact dk _
 | cons a l f=>intro U h;rw[fh]at nd;have c:=h a x6;have:=f nd.2 (U:=U.erase a) λ x d=>(List.mem_erase_of_ne (λ e:x=a=>nd.1 (e▸d))).mpr (h x (x4 _ d));rw[kH c]at this;have:0<U.length:=List.length_pos_of_mem c;rw[dS];omega
def FzOk.len(h:FzOk U B fa):fa.length<=U.length:=by
 have:=sub_len h.nd (U:=U) λ x b=>by obtain⟨c,a,rfl⟩:=c9.mp b;exact h.sub c a
 rw[y7]at this;exact this
abbrev Tr:=Int×Fz
def trH(Hf:%[|36])(c:Cel):Tr:=(Hf c).getD (0,[(c,1)])
def gA(Hf:%[|36])(acc:Tr)(rc:Int×Cel):Tr:=(acc.1+rc.1*(trH Hf rc.2).1,cF acc.2 rc.1 (trH Hf rc.2).2)
def trS(st:Int)(Hf:%[|36])(rs:List (Int×Cel)):Tr:=rs.foldl (gA Hf) (st,[])
structure TrOk(U:List Cel)(B:Nat)(t:Tr):Prop where
 n:t.1.natAbs<=B
 z:FzOk U B t.2
def lA(U:List Cel)(B:Nat)(Hf:%[|36]):Prop:=∀c t,Hf c=some t->TrOk U B t
def yN(h:lA U B Hf)(b:1<=B)(d:c∈U):TrOk U B (trH Hf c):=by
 unfold trH
 cases q:Hf c with
 | some t=>exact h c t q
 | none=>refine%[dk _,by simp,λ e a=>?_|λ e a=>?_];{rw[cf.mp a];exact d};{rw[cf.mp a];exact b}
def RJ(h:lA U B Hf)(c:1<=B)(g:U.length<=60)(a:TrOk U A acc)(b:rc.1.natAbs<=X)(d:rc.2∈U):TrOk U (A+60*(X*B)) (gA Hf acc rc):=by
 have t:=yN h c d;have i:=t.z.len;refine%[?_|?_]
 . show(acc.1+rc.1*(trH Hf rc.2).1).natAbs<=_;have e:(rc.1*(trH Hf rc.2).1).natAbs<=X*B:=by rw[mT];exact ln b t.n
   have f:=nr acc.1 (rc.1*(trH Hf rc.2).1);have:=a.n;omega
 {refine(Zw b t.z.sub t.z.bd a.z).mono ?_;have:(trH Hf rc.2).2.length*(X*B)<=60*(X*B):=k7 _ %[|0];omega}
def HY(h:lA U B Hf)(f:1<=B)(g:U.length<=60):∀(rs:List (Int×Cel)),(∀r∈rs,r.1.natAbs<=X/\r.2∈U)->∀{A:Nat}{acc:Tr},TrOk U A acc->TrOk U (A+rs.length*(60*(X*B))) (rs.foldl (gA Hf) acc):=by
 intro rs
 induction rs with
 | nil=>intro _ A acc a;exact%[d6 a.n %[|0]|a.z.mono %[|0]]
 | cons r rs j=>
   intro b A acc a;obtain⟨c,d⟩:=b r x6;have:=j (λ z i=>b z (x4 _ i)) (RJ h f g a c d);have e:A+60*(X*B)+rs.length*(60*(X*B))=A+(r::rs).length*(60*(X*B)):=by rw[dS,Nat.add_mul,Nat.one_mul];omega
   rw[e]at this;exact this
def Ks{rs:List (Int×Cel)}(h:rs[i]? =some r):trS st Hf (rs.take (i+1))=gA Hf (trS st Hf (rs.take i)) r:=by unfold trS;rw[aD h,kn];rfl
def pB{a b:Cel}(h:ltC a b=true):ltC b a=false:=Uw h
def wN(l:List Cel):List Cel:=open Classical in if h:∃c:List Cel,c.Perm l/\c.Pairwise %[|27]then h.choose else[]
def zW{l ks}(h1:ks.Perm l)(h2:ks.Pairwise %[|27]):ks=wN l:=by unfold wN;have c:∃ks:List Cel,ks.Perm l/\ks.Pairwise %[|27]:=%[ks,h1|h2];rw[dif_pos c];obtain⟨d,e⟩:=c.choose_spec;refine kK (le:=%[|27]) (λ a b _ _ x y=>?_) h2 e (h1.trans d.symm);have:=pB x;rw[this]at y;cases y
def tel(fz:Fz)(c:Cel):Option (Cel×Int):=if(ak fz c).getD 0=0 then none else some (c,(ak fz c).getD 0)
def telD(kv:Cel×Int):D:=.tup [cD kv.1,.int kv.2]
def tellZ(fz:Fz):List (Cel×Int):=(wN (fz.map (·.1))).filterMap (tel fz)
def gF(t:Tr):D:=.tup [.int t.1,.lst ((tellZ t.2).map telD)]
def ju{i}(h:i.natAbs<=2 ^ n)(a:n<100000):Grt i:=kP h (Nat.pow_lt_pow_right %[|1] a)
def bH(x:Dd)(cs:af1):List (Int×Cel):=x.rds.map λ r=>(r.fac,toC (spot r.tab r.pl cs))
structure HeldR(h:Nat)(S:Store)(held:Kc)(Hf:%[|36]):Prop where
 at_:∀kv∈held,∃(n:Int) (j:Nat) (fz:Fz),kv.2=.tup [.int n,.dlo j]/\S[j]? =some (fzD fz)/\Hf kv.1=some (n,fz)/\h≠j
 no:∀c,(∀kv∈held,kv.1≠c)->Hf c=none
 nd:(held.map (·.1)).Nodup
def HeldR.look(h:HeldR k S held Hf)(c:Cel):(aK held c=none/\Hf c=none)\/∃(n:Int) (j:Nat) (fz:Fz),aK held c=some (.tup [.int n,.dlo j])/\S[j]? =some (fzD fz)/\Hf c=some (n,fz):=by
 unfold aK
 cases q:held.find? %[|48]with
 | none=>exact .inl %[rfl|h.no c λ kv f e=>by have:=gy.mp q kv f;simp[e]at this]
 | some kv=>
   have e:kv.1=c:=by have:=k8 q;simpa using this
   obtain⟨n,j,fz,a,b,d,_⟩:=h.at_ kv (gE q);exact .inr %[n,j,fz,by show some kv.2=_;rw[a],b|by rw[<-e];exact d]
inductive c_tstep(ds:List D)(S:Store)(W:WD):Prop
 | mk(x:Dd)(cs:af1)(h:Nat)(held:Kc)(Hf:%[|36])(U:List Cel)(B:Nat):ds=[dDd x,dC cs,.lst (x.rds.map λ r=>aF (spot r.tab r.pl cs)),.dlo h]->x.st.2.length<=1000->C64 cs->S[h]? =some (.non::held.map encC)->HeldR h S held Hf->lA U B Hf->1<=B->B<=2 ^ 50000->U.length<=60->(∀r∈bH x cs,r.1.natAbs<=2 ^ 100/\r.2∈U)->x.rds.length<=3->(∀J:Store,W (.tup [.int (trS (atC x.st cs) Hf (bH x cs)).1,%[|13]]) (S++[fzD (trS (atC x.st cs) Hf (bH x cs)).2]++J))->c_tstep ds S W
def tK(B:%[|2])(k:bL Ω c_comes)(l:fW Ω c_theld)(g:gJ Ω c_addT):OkF Ω "trace_of_step" jB 2 HN c_tstep:=by
 refine aJ (N:=uO) (uP B k l g) %[|6] ?_;rintro ds S W ⟨x,a,h,b,Hf,U,B,rfl,w,u,V,hR,R,Q,q,hU,m,h3,hw⟩ hl;have v:=(z0.mp V).1;try?;refine%[rfl,x.st.1,x.st.2,a,rfl,w,u|?_];try?;have ez:List.zipWith (λ x y=>D.tup [x,y]) (x.rds.map dRd) (x.rds.map λ r=>aF (spot r.tab r.pl a))=x.rds.map λ r=>D.tup [dRd r,aF (spot r.tab r.pl a)]:=by rw[List.zipWith_map,List.zipWith_self]
 rw[ez];have p:comesTo x.st.1 x.st.2 a=atC x.st a:=rfl;rw[p];generalize atC x.st a=st at*;refine bc (λ i f T=>∃J G H I,T=S++[fzD (trS st Hf ((bH x a).take i)).2]++J/\f=[some (dDd x),some (dC a),some (.lst (x.rds.map λ r=>aF (spot r.tab r.pl a))),some (.dlo h),some (.int (trS st Hf ((bH x a).take i)).1),some %[|13],G,H,I]) %[[],_,_,_,by simp only[gt];rfl|rfl] ?_ ?_
 . rintro I1 R1 B1 s _ _ i e f T he ⟨J,G,H,I,rfl,rfl⟩;obtain⟨r,hr,rfl⟩:=bA he;have d:(bH x a)[i]? =some (r.fac,toC (spot r.tab r.pl a)):=by unfold bH;rw[y8,hr];rfl
   obtain⟨hf,t⟩:=m _ (y4 d);have K:TrOk U B (trH Hf (toC (spot r.tab r.pl a))):=yN R Q t;have acc:FzOk U _ (trS st Hf ((bH x a).take i)).2:=(HY (X:=2 ^ 100) R Q hU ((bH x a).take i) (λ z C=>m z (im C)) (A:=st.natAbs) (acc:=(st,[])) %[y9 _|FzOk.nil _ _]).z;have al:=acc.len;have tl:=K.z.len;have M:=Ks (st:=st) (Hf:=Hf) d;generalize trS st Hf ((bH x a).take i)=t0 at*;rw[show D.tup [dRd r,aF (spot r.tab r.pl a)]=D.tup [dRd r,cD (toC (spot r.tab r.pl a))]from rfl];generalize toC (spot r.tab r.pl a)=c at*;have P:Grt r.fac:=ju hf %[|1];have O:∀z:Int,z.natAbs<=B->Grt z:=λ z C=>ju (d6 C q) %[|1];have lT:(S++[fzD t0.2]++J).length=S.length+1+J.length:=%[|16]
   try?;refine%[rfl|?_];try?;refine%[rfl,c,h,b,rfl,by rw[ck,x9 v];exact V|?_];obtain⟨n,j,Z,e2,L,e4⟩:∃(n:Int) (j:Nat),(aK b c).getD (.tup [.int 0,.dlo (S++[fzD t0.2]++J).length])=.tup [.int n,.dlo j]/\(S++[fzD t0.2]++J++[fzD [(c,1)]])[j]? =some (fzD (trH Hf c).2)/\n=(trH Hf c).1/\S.length≠j:=by rcases hR.look c with⟨E,o⟩ | ⟨n,j,fz,E,o,Y⟩;{rw[E];refine%[0,_,rfl,?_,?_|by rw[lT];omega];{rw[aH];unfold trH;rw[o];rfl};{unfold trH;rw[o];rfl}};{have hj:=(z0.mp o).1;rw[E];refine%[n,j,rfl,?_,?_|%[|0]];{rw[ck,ck,x9 hj,o];unfold trH;rw[Y];rfl};{unfold trH;rw[Y];rfl}}
   rw[Z];try?;refine%[%[P|O n (by rw[L];exact K.n)]|?_];try?;have F:∀A:List D,(S++[A]++J++[fzD [(c,1)]])[S.length]? =some A:=λ A=>by rw[ck];exact dj rfl
   refine%[rfl,S.length,j,r.fac,t0.2,(trH Hf c).2,rfl,e4,F _,e2,%[|0],P,λ kv hk=>O _ (K.z.bd kv hk)|?_];rw[ck,gQ rfl];refine s _ _ _ %[J++[fzD [(c,1)]],some (dRd r),some (cD c),some (.tup [.int n,.dlo j]),?_|?_];{rw[M];rfl};{rw[M,L];rfl}
 . rintro f T ⟨J,G,H,I,rfl,rfl⟩;have e:(x.rds.map λ r=>D.tup [dRd r,aF (spot r.tab r.pl a)]).length=(bH x a).length:=by unfold bH;rw[y7,y7]
   rw[e,cy];try?;exact hw J
def HS{a}(h:c∈a.map (·.1)):∃v,ak a c=some v:=by
 unfold ak
 cases q:a.find? %[|48]with
 | some kv=>exact%[kv.2|rfl]
 | none=>obtain⟨kv,b,rfl⟩:=c9.mp h;have:=gy.mp q kv b;simp at this
def telL(fz:Fz)(ks:List Cel):List D:=(ks.filterMap (tel fz)).map telD
inductive c_ttrace(ds:List D)(S:Store)(W:WD):Prop
 | mk(n:Int)(j:Nat)(fz:Fz):ds=[.tup [.int n,.dlo j]]->S[j]? =some (fzD fz)->fz.length<64->(fz.map (·.1)).Nodup->W (gF (n,fz)) S->c_ttrace ds S W
def yQ(B:%[|2]):OkF Ω "told_trace" nC 1 Aa c_ttrace:=by
 refine aJ (N:=Ai) (BK B) %[|6] ?_;rintro x S W ⟨n,j,a,rfl,h,f,k,s⟩ y;have p:a.map (·.1)=(aC a).map (·.1):=by unfold aC;rw[dr];rfl
 try?;refine%[a.map (·.1),_,rfl,by rw[y7];exact f,k,.inr %[j,aC a,rfl,h|p]|λ w m t=>?_];have q:=zW m t;have u:=m.length_eq;rw[y7]at u;walk_at "n";refine f9 %[by rw[y7];omega,λ i b d=>b=((w.take i).filterMap (tel a)).map telD/\S=d,%[rfl|rfl],?_|?_]
 . rintro i e b d r ⟨rfl,rfl⟩;obtain⟨c,g,rfl⟩:=bA r;obtain⟨v,l⟩:=HS (m.mem_iff.mp (y4 g));have o:tel a c=if v=0 then none else some (c,v):=by unfold tel;rw[l];rfl
   try?;refine%[c,aC a,rfl,h,.int v,by rw[dB,l];rfl|?_];try?;by_cases z:v=0;{rw[cc z];try?;refine%[?_|rfl];rw[aD g,lp,gL,o,ci z];simp};{rw[cm z];try?;refine%[c,aC a,rfl,h,.int v,by rw[dB,l];rfl|?_];try?;refine%[?_|rfl];rw[aD g,lp,gL,o,c8 z,da];rfl}
 {rintro b d ⟨rfl,rfl⟩;rw[y7,cy,q];try?;exact s}
def dOf(p:Pg)(s:Stp):Option %[|24]:=(p.nss[s.1]?).bind λ n=>(n.dds[s.2.2]?).map λ x=>(x,s.2.1)
def WK{n}(h:p.nss[i]? =some n):(dU i n).map (dOf p)=((cnt n.lps).flatMap λ cs=>n.dds.map λ x=>(x,cs)).map some:=by
 unfold dU;rw[iO,iO];refine kW λ cs _=>?_;rw[dr,dr];apply me;{simp}
 . intro s c a;have b:s<n.dds.length:=by simpa using a
   rw[h8,h8,List.getElem_range];show dOf p (i,cs,s)=some (n.dds[s],cs);unfold dOf;rw[h];show(n.dds[s]?).map _=_;rw[y3 b];rfl
def ady(p:Pg):(aQ p.nss).map (dOf p)=(au p).map some:=by
 unfold aQ au;rw[List.map_flatten,iO,List.flatMap_def];congr 1;apply me;{simp}
 . intro i c a;have b:i<p.nss.length:=by simpa using a
   rw[h8,List.getElem_mapIdx,h8];exact WK (y3 b)
def yX(h:(au p)[t]? =some x):∃(s:Stp) (n:Ns),(aQ p.nss)[t]? =some s/\p.nss[s.1]? =some n/\n.dds[s.2.2]? =some x.1/\s.2.1=x.2:=by
 have e:((aQ p.nss).map (dOf p))[t]? =some (some x):=by rw[ady,y8,h];rfl
 obtain⟨s,c,a⟩:=bA e;obtain⟨n,b,f,d⟩:=CP (y4 c);refine%[s,n,c,b|?_];unfold dOf at a;rw[b]at a;have a:some x=(n.dds[s.2.2]?).map λ x=>(x,s.2.1):=a;rw[y3 d]at a ⊢;have a:=cq a;rw[a];exact%[rfl|rfl]
def xNo:%[|24]:=(%[0,[],(0,[])|[]],[])
def xAt(p:Pg)(t:Nat):%[|24]:=((au p)[t]?).getD xNo
def mZ(h:t<%[|10]):(au p)[t]? =some (xAt p t):=by unfold xAt;rw[y3 h];rfl
def wrH(x:%[|24]):Cel:=toC (spot x.1.tab x.1.pl x.2)
def nxH(Hf:%[|36])(x:%[|24]):Tr:=trS (atC x.1.st x.2) Hf (bH x.1 x.2)
def fc(Hf:%[|36])(x:%[|24]):%[|36]:=λ c=>if c=wrH x then some (nxH Hf x)else Hf c
def bV(xs:List %[|24]):%[|36]:=xs.foldl fc λ _=>none
structure XOk(U:List Cel)(x:%[|24]):Prop where
 n2:x.1.st.2.length<=1000
 c64:C64 x.2
 st:(atC x.1.st x.2).natAbs<=2 ^ 100
 rs:∀r∈bH x.1 x.2,r.1.natAbs<=2 ^ 100/\r.2∈U
 l3:x.1.rds.length<=3
def wk(x:Dd)(cs:af1):(bH x cs).length=x.rds.length:=y7 _
def Wl(h:lA U B Hf)(f:1<=B)(i:U.length<=60)(d:XOk U x):lA U (2 ^ 108*B) (fc Hf x):=by
 intro c t a;unfold fc at a;by_cases e:c=wrH x
 . rw[ci e]at a;cases a;have:=HY (X:=2 ^ 100) h f i (bH x.1 x.2) d.rs (A:=2 ^ 100) (acc:=(atC x.1.st x.2,[])) %[d.st|FzOk.nil _ _];have l:(bH x.1 x.2).length*(60*(2 ^ 100*B))<=3*(60*(2 ^ 100*B)):=k7 _ (by rw[wk];exact d.l3);have b:2 ^ 100+(bH x.1 x.2).length*(60*(2 ^ 100*B))<=2 ^ 108*B:=by
    have g:2 ^ 108*B=256*(2 ^ 100*B):=by rw[<-Nat.mul_assoc]
    have j:2 ^ 100<=2 ^ 100*B:=n4 _ f;rw[g];generalize 2 ^ 100*B=q at*;omega
   exact%[d6 this.n b|this.z.mono b]
 {rw[c8 e]at a;have:=h c t a;have b:B<=2 ^ 108*B:=ny _ (kw %[|1]);exact%[d6 this.n b|this.z.mono b]}
def lR(xs:List %[|24])(x:%[|24]):bV (xs++[x])=fc (bV xs) x:=by unfold bV;rw[kn];rfl
def jP(f:U.length<=60){xs:List %[|24]}(h:∀x∈xs,XOk U x):∀i,lA U (2 ^ (108*i)) (bV (xs.take i)):=by
 intro i
 induction i with
 | zero=>intro c t a;cases a
 | succ i d=>
   have j:1<=2 ^ (108*i):=kw %[|1];have e:2 ^ (108*(i+1))=2 ^ 108*2 ^ (108*i):=by rw[Nat.mul_succ,Nat.pow_add,mE]
   rw[e]
   cases q:xs[i]? with
   | some x=>rw[aD q,lR];exact Wl d j f (h x (y4 q))
   | none=>have g:=ms.mp q;rw[cS %[|0]];rw[cS g]at d;intro c t a;have:=d c t a;have b:2 ^ (108*i)<=2 ^ 108*2 ^ (108*i):=ny _ (kw %[|1]);exact%[d6 this.n b|this.z.mono b]
def rdU(p:Pg):List Cel:=(au p).flatMap λ x=>(bH x.1 x.2).map (·.2)
def Zk:∀{fs cs:af1},(∀f∈fs,f.natAbs<=99)->(∀c∈cs,c.natAbs<=117)->(List.zipWith (λ a b=>a*b) fs cs).sum.natAbs<=fs.length*11583:=by
 intro fs
 induction fs with
 | nil=>intro cs _ _;simp
 | cons f fs h=>
   intro cs g e
   cases cs with
   | nil=>simp
   | cons c cs=>
     rw[List.zipWith_cons_cons,nE,dS];have i:=h (λ z d=>g z (x4 _ d)) (λ z d=>e z (x4 _ d));have j:(f*c).natAbs<=99*117:=by rw[mT];exact ln (g f x6) (e c x6)
     have k:=nr (f*c) (List.zipWith (λ a b=>a*b) fs cs).sum;omega
def Wx(h:x∈au p):∃n∈p.nss,x.2∈cnt n.lps/\x.1∈n.dds:=by unfold au at h;obtain⟨n,c,h⟩:=eL.mp h;obtain⟨e,a,h⟩:=eL.mp h;obtain⟨d,b,rfl⟩:=c9.mp h;exact%[n,c,a|b]
def Gj(hP:PgB m p)(h:x∈au p):XOk (rdU p) x:=by
 obtain⟨n,s,g,l⟩:=Wx h;obtain⟨hL,_,_,_,i⟩:=hP.2.2.2 n s;obtain⟨_,⟨j,w,C,D⟩,k,u⟩:=i x.1 l;have v:=hL.2.1;have hcs:=nA hL n.lps.length (y9 _) x.2 (by rw[cy];exact g);have B:=xQ n.lps.length;refine%[by rw[j];omega,hcs.c64,?_,λ r d=>?_|k]
 . have z:=Zk (fs:=x.1.st.2) (cs:=x.2) (λ f o=>by have:=w f o;omega) (λ c g=>by have:=hcs.2 c g;omega);rw[j]at z;have e:atC x.1.st x.2=x.1.st.1+(List.zipWith (λ a b=>a*b) x.1.st.2 x.2).sum:=rfl;rw[e];generalize (List.zipWith (λ a b=>a*b) x.1.st.2 x.2).sum=q at*;have:n.lps.length*11583<=3*11583:=k7 _ v;have:(2:Nat) ^ 100=1267650600228229401496703205376:=%[|1]
   omega
 . refine%[?_|eL.mpr %[x,h|c9.mpr %[r,d|rfl]]];unfold bH at d;obtain⟨q,t,rfl⟩:=c9.mp d;obtain⟨y,A,_⟩:=u q t;show q.fac.natAbs<=_;have:(2:Nat) ^ 100=1267650600228229401496703205376:=%[|1]
   omega
def nu(b:PgB m p)(a:12<=m)(d:m<=20):(rdU p).length<=60:=by
 have c:=b.many a;rw[tQ]at c;have f:(rdU p).length<=%[|10]*3:=yj λ x e=>by rw[y7,wk];exact(Gj b e).l3
 omega
def ni(a:PgB m p)(hO:dh %[|10] o):∀x∈%[|22],XOk (rdU p) x:=λ x c=>by obtain⟨t,b,rfl⟩:=c9.mp c;exact Gj a (y4 (mZ (hO.1 t b)))
def YM{kvs:Kc}{c:Cel}{kv:Cel×D}(h:kv∈putD kvs c d):(kv.1=c/\kv.2=d)\/(kv∈kvs/\kv.1≠c):=by unfold putD at h;split at h;{obtain⟨z,b,rfl⟩:=c9.mp h;by_cases e:z.1=c;{rw[ci e];exact .inl %[e|rfl]};{rw[c8 e];exact .inr %[b|e]}};{rename_i a;rcases cn.mp h with h | h;{exact .inr %[h|λ e=>a (ib.mpr %[kv,h|cc e])]};{rw[cf.mp h];exact .inl %[rfl|rfl]}}
def wj{kvs:Kc}{c:Cel}:(putD kvs c d).map (·.1)=if(kvs.any %[|48])=true then kvs.map (·.1)else kvs.map (·.1)++[c]:=by unfold putD;split;{rw[dr];refine kL λ kv _=>?_;show(if kv.1=c then(kv.1,d)else kv).1=kv.1;split<;>rfl};{rw[da];rfl}
def abz{kvs:Kc}{c:Cel}(h:(kvs.map (·.1)).Nodup):((putD kvs c d).map (·.1)).Nodup:=by rw[wj];split;{exact h};{rename_i j;rw[ke];refine%[h,by simp|λ a g b f e=>?_];obtain⟨k,i,rfl⟩:=c9.mp g;rw[cf]at f;exact j (ib.mpr %[k,i|cc (e.trans f)])}
def aaE{kvs:Kc}{c:Cel}:c∈(putD kvs c d).map (·.1):=by rw[wj];split;{rename_i b;obtain⟨f,a,e⟩:=ib.mp b;exact c9.mpr %[f,a|cE e]};{simp}
def Zz{kvs:Kc}{c a:Cel}(h:a∈kvs.map (·.1)):a∈(putD kvs c d).map (·.1):=by rw[wj];split;{exact h};{exact ij _ h}
def HeldR.put(h:HeldR k S held Hf)(w:k<S.length){t}(u:t=nxH Hf x){X}:HeldR k ((S++[fzD t.2]++J).set k X) (putD held (wrH x) (.tup [.int t.1,%[|13]])) (fc Hf x):=by
 refine%[λ f i=>?_,λ c q=>?_|abz h.nd];{rcases YM i with⟨g,a⟩ | ⟨b,m⟩;{refine%[t.1,S.length,t.2,a,?_,?_|%[|0]];{rw[eJ %[|0]];exact dj rfl};{unfold fc;rw[ci g,u]}};{obtain⟨n,j,s,g,a,r,p⟩:=h.at_ f b;refine%[n,j,s,g,?_,?_|p];{rw[eJ p,ck,x9 (z0.mp a).1];exact a};{unfold fc;rw[c8 m];exact r}}}
 . have v:c≠wrH x:=λ e=>by obtain⟨f,b,a⟩:=c9.mp (aaE (kvs:=held) (c:=wrH x) (d:=.tup [.int t.1,%[|13]]));exact q f b (a.trans e.symm)
   unfold fc;rw[c8 v];refine h.no c λ f b e=>?_;obtain⟨o,l,a⟩:=c9.mp (Zz (c:=wrH x) (d:=.tup [.int t.1,%[|13]]) (c9.mpr %[f,b|rfl]));exact q o l (a.trans e)
inductive c_refRow(ds:List D)(S:Store)(W:WD):Prop
 | mk(p:Pg)(m:Nat)(o:af4):ds=[dPg p,.lst (dN o)]->PgB m p->12<=m->m<=60->flat S->o.length<=60->dh %[|10] o->W .non S->c_refRow ds S W
def rE(a:jL Ω Am):OkF Ω "refuse_no_row" jE 6 uV c_refRow:=by refine aJ (N:=uV) (vf a) %[|6] ?_;rintro i S W ⟨p,m,o,rfl,e,b,c,f,g,d,h⟩ j;try?;refine%[rfl,p,m,o,rfl,e,b,c,f,g,d|?_];try?;exact h
def tvH(Hf:%[|36])(c:Cel):D:=gF ((Hf c).getD (0,[]))
def tlH(Hf:%[|36])(held:Kc):Kc:=held.map λ kv=>(kv.1,tvH Hf kv.1)
def KC(Hf:%[|36])(held:Kc):(tlH Hf held).map (·.1)=held.map (·.1):=by unfold tlH;rw[dr];rfl
def YH{kvs:Kc}{c:Cel}(h:c∉kvs.map (·.1)):putD kvs c d=kvs++[(c,d)]:=by unfold putD;rw[c8];intro e;obtain⟨b,a,e⟩:=ib.mp e;exact h (c9.mpr %[b,a|cE e])
def Nt{held:Kc}(nd:(held.map (·.1)).Nodup){kv:Cel×D}(h:held[i]? =some kv):putD (tlH Hf (held.take i)) kv.1 (tvH Hf kv.1)=tlH Hf (held.take (i+1)):=by rw[YH,aD h];{unfold tlH;rw[da];rfl};{rw[KC];intro c;obtain⟨z,d,e⟩:=c9.mp c;obtain⟨j,a⟩:=db d;have b:=(z0.mp h).1;rw[fT]at a;split at a;{refine uf nd (by assumption) (by rw[y7];exact b) ?_;rw[y8,y8,a,h];show some z.1=some kv.1;rw[e]};{cases a}}
def V8(hR:HeldR k S held Hf)(c:Cel):aK (tlH Hf held) c=(Hf c).map gF:=by
 have e:aK (tlH Hf held) c=(held.find? %[|48]).map λ kv=>tvH Hf kv.1:=by unfold aK tlH;rw[List.find?_map,Option.map_map];rfl
 rw[e]
 cases q:held.find? %[|48]with
 | none=>rw[hR.no c λ kv d e=>by have:=gy.mp q kv d;simp[e]at this];rfl
 | some kv=>
   have b:kv.1=c:=by have:=k8 q;simpa using this
   obtain⟨n,j,h,f,g,a,_⟩:=hR.at_ kv (gE q);show some (tvH Hf kv.1)=_;rw[<-b];unfold tvH;rw[a];rfl
def QR(t:Tr):aB (gF t)=true:=by have:aa ((tellZ t.2).map telD)=true:=fV (λ kv=>by show aa [cD kv.1,.int kv.2]=true;simp only[aa,df];show(aB (cD kv.1)&&true)=true;rw[df];show aa [.int kv.1.1,.tup (kv.1.2.map .int)]=true;show(true&&(aa (kv.1.2.map .int)&&true))=true;rw[cg];rfl) _;show(true&&(aa ((tellZ t.2).map telD)&&true))=true;rw[this];rfl
def Ul(c:Cel):okD (cD c)=true:=by show(true&&(cz (c.2.map .int)&&true))=true;rw[lW];rfl
def aaj(t:Tr):okD (gF t)=true/\deep (gF t)<=50:=by
 have h:∀l:List (Cel×Int),cz (l.map telD)=true/\aY (l.map telD)<=3:=by
  intro l
  induction l with
  | nil=>exact%[rfl|dk _]
  | cons kv l ih=>
    constructor;{show((okD (cD kv.1)&&(true&&true))&&cz (l.map telD))=true;rw[Ul,ih.1];rfl}
    . show max (max (deep (cD kv.1)) 0+1) (aY (l.map telD))<=3;have:deep (cD kv.1)=2:=by show max 0 (max (aY (kv.1.2.map .int)+1) 0)+1=2;rw[ik];rfl
      have:=ih.2;omega
 obtain⟨a,b⟩:=h (tellZ t.2);constructor;{show(true&&(cz ((tellZ t.2).map telD)&&true))=true;rw[a];rfl};{show max 0 (max (aY ((tellZ t.2).map telD)+1) 0)+1<=50;omega}
structure Told(Hf:%[|36])(tl:Kc):Prop where
 nd:(tl.map (·.1)).Nodup
 lk:∀c,aK tl c=(Hf c).map gF
 vl:∀kv∈tl,(Hf kv.1).map gF=some kv.2
 ok:aeb tl
 nl:aa (.non::tl.map encC)=true
def NB(hR:HeldR k S held Hf):Told Hf (tlH Hf held):=by
 refine%[by rw[KC];exact hR.nd,V8 hR,λ b a=>?_,λ b a=>?_|?_];{unfold tlH at a;obtain⟨z,f,rfl⟩:=c9.mp a;obtain⟨n,j,g,_,_,c,_⟩:=hR.at_ z f;show(Hf z.1).map gF=some (tvH Hf z.1);unfold tvH;rw[c];rfl};{unfold tlH at a;obtain⟨z,_,rfl⟩:=c9.mp a;exact aaj _}
 . show(true&&aa ((tlH Hf held).map encC))=true;rw[ii];refine jM λ d e=>?_;obtain⟨b,a,rfl⟩:=c9.mp e;unfold tlH at a;obtain⟨z,_,rfl⟩:=c9.mp a;show(aB (cD z.1)&&(aB (gF _)&&true))=true;rw[QR];have:aB (cD z.1)=true:=by show(true&&(aa (z.1.2.map .int)&&true))=true;rw[cg];rfl
   rw[this];rfl
inductive c_traced(ds:List D)(S:Store)(W:WD):Prop
 | mk(p:Pg)(m:Nat)(o:af4):ds=[dPg p,.lst (dN o)]->PgB m p->12<=m->m<=20->flat S->dh %[|10] o->(∀tl:Kc,Told (bV %[|22]) tl->tl.length<=60->W %[|13] (S++[.non::tl.map encC]))->c_traced ds S W
def K6(B:cu Ω c_steps)(y:cj Ω c_deedof)(w:aZ Ω c_cellsOf)(A:bR Ω c_refRow)(E:dO Ω c_tstep)(C:fX Ω c_ttrace):OkF Ω "traced" yC 7 uV c_traced:=by
 refine aJ (N:=PB) (Bl.owq (QW B y w A E C)) %[|6] ?_;rintro ds S W ⟨p,m,o,rfl,u,f,Y,H,hO,hw⟩ hl;have k:m<=60:=%[|0]
 have hN:=dg u f k;have ho:o.length<=60:=by have:=sub_len hO.2 (U:=List.range %[|10]) λ t v=>dA.mpr (hO.1 t v);rw[fq]at this;omega
 have hU:=nu u f Y;have hX:=ni u hO;try?;refine%[rfl,p,m,o,rfl,u,f,k,H,ho,hO|?_];try?;refine%[rfl|Dp u f k H (.inl ?_)];try?;refine%[rfl|lV u f k H ?_];rw[fG];try?;refine bc (λ i b T=>∃J a I K,T=%[|18]++J/\HeldR S.length T a (bV (%[|22].take i))/\a.length<=i/\b=[some (dPg p),some (.lst (dN o)),some (.lst ((aQ p.nss).map dSt)),some (.lst ((au p).map λ x=>dCR (crs x))),some %[|13],I,K,none,none,none]) %[[],[],_,_,by simp,%[%[|41],λ _ _=>rfl|g9],y9 _|rfl] ?_ ?_
 . rintro I1 R1 B1 aa _ _ i e b T he ⟨J,a,I,K,rfl,l,s,rfl⟩;obtain⟨t,v,rfl⟩:=nH he;have ae:=hO.1 t (y4 v);have hi:=(z0.mp v).1;have hx:=mZ ae;have g:=hX (xAt p t) (c9.mpr %[t,y4 v|rfl]);have c:=jP hU hX i;have Z:2 ^ (108*i)<=2 ^ 50000:=mf %[|1] %[|0];have R:bV (%[|22].take (i+1))=fc (bV (%[|22].take i)) (xAt p t):=by rw[aD (by rw[y8,v];rfl),lR]
   obtain⟨⟨si,sc,sd⟩,n,k1,k2,k3,k4⟩:=yX hx;have k4:sc=(xAt p t).2:=k4;subst k4;have a1:atI ((aQ p.nss).map dSt) ((t:Nat):Int)=some (dSt (si,(xAt p t).2,sd)):=bW (by rw[y8,k1];rfl);have O:atI ((au p).map λ x=>dCR (crs x)) ((t:Nat):Int)=some (dCR (crs (xAt p t))):=bW (by rw[y8,hx];rfl);generalize bV (%[|22].take i)=Hf at l c R;generalize xAt p t=x at hx g R k1 k2 k3 a1 O;have d:(%[|18]++J)[S.length]? =some %[|61]:=dj rfl;try?;refine%[_,a1|?_];try?;refine%[rfl,p,(si,x.2,sd),n,x.1,rfl,k2,k3|?_];try?;refine%[_,O|?_];try?;refine%[rfl,x.1,x.2,S.length,a,Hf,rdU p,2 ^ (108*i),?_,g.n2,g.c64,d,l,c,kw %[|1],Z,hU,g.rs,g.l3|λ J2=>?_]
   . have e:(crs x).2.map aF=x.1.rds.map λ r=>aF (spot r.tab r.pl x.2):=by unfold crs;rw[dr];rfl
     rw[e]
   have ab:=l.put (J:=J2) (x:=x) (t:=nxH Hf x) (X:=.non::(putD a (wrH x) %[|92]).map encC) (z0.mp d).1 rfl;have ag:=BL a (wrH x) %[|92];have Q:(%[|18]++J++[fzD (nxH Hf x).2]++J2).set S.length (.non::(putD a (wrH x) %[|92]).map encC)=S++[.non::(putD a (wrH x) %[|92]).map encC]++(J++[fzD (nxH Hf x).2]++J2):=by rw[ck,ck %[|18],gQ rfl,ck J]
   try?;refine%[_,O|?_];try?;refine%[wrH x,a,rfl,?_,%[|0]|aa _ _ _ %[J++[fzD (nxH Hf x).2]++J2,putD a (wrH x) %[|92],_,_,Q,?_,%[|0]|rfl]];{rw[ck,ck %[|18]];exact dj rfl};{rw[R];exact ab}
 . rintro b T ⟨J,a,I,K,rfl,l,s,rfl⟩;have eo:%[|22].take (dN o).length=%[|22]:=by rw[eE,cS (by rw[y7];exact y9 _)]
   have c:=jP hU hX o.length;rw[cS (by rw[y7];exact y9 _)]at c;rw[eo]at l;generalize bV %[|22]=Hf at l c hw;have hT:=NB l;have d:(%[|18]++J)[S.length]? =some %[|61]:=dj rfl;have q:S.length<(%[|18]++J).length:=(z0.mp d).1;have ad:S.length<=(%[|18]++J).length:=eR q;have ac:∃J2,%[|18]++J=S++J2:=%[_|by rw[ck]];try?;generalize %[|18]++J=T at*;refine%[a,by rw[x9 q];exact d|Oe %[λ i b G=>∃L M,G=T++[.non::(tlH Hf (a.take i)).map encC]/\b=[some (dPg p),some (.lst (dN o)),some (.lst ((aQ p.nss).map dSt)),some (.lst ((au p).map λ x=>dCR (crs x))),some %[|13],I,K,some (.dlo T.length),L,M],%[_,_,rfl|rfl],?_,?_|?_]];{rintro i b G ⟨L,M,rfl,rfl⟩;rw[x9 q];exact d}
   . rintro i kv b G F ⟨L,M,rfl,rfl⟩;obtain⟨n,j,V,e1,e2,P,e4⟩:=l.at_ kv (y4 F);have hj:=(z0.mp e2).1;have af:V.length<=(rdU p).length:=(c _ _ P).z.len;have ev:tvH Hf kv.1=gF (n,V):=by unfold tvH;rw[P];rfl
     have hp:=Nt (Hf:=Hf) l.nd F;rw[ev]at hp;have ah:(tlH Hf (a.take i)).length<=60:=by unfold tlH;rw[y7,ej];rw[eE]at s;omega
     have ek:encC kv=.tup [cD kv.1,.tup [.int n,.dlo j]]:=by show D.tup [cD kv.1,kv.2]=_;rw[e1]
     rw[ek];try?;refine%[rfl|?_];try?;refine%[rfl,n,j,V,rfl,by rw[x9 hj];exact e2,%[|0],(c _ _ P).z.nd|?_];try?;refine%[kv.1,tlH Hf (a.take i),rfl,aH _ _,%[|0]|?_];rw[b8,hp];exact%[_,_,rfl|rfl]
   {rintro b G ⟨L,M,rfl,rfl⟩;rw[cy];obtain⟨J2,rfl⟩:=ac;try?;exact .inr %[true,J2++[.non::(tlH Hf a).map encC],S,(S++J2).length,.non::(tlH Hf a).map encC,rfl,by rw[ck],y9 _,ad,aH _ _,hT.nl,H|hw _ hT (by unfold tlH;rw[y7];rw[eE]at s;omega)]}
def rA{b}(nd:(b.map (·.1)).Nodup)(h:kv∈b):ak b kv.1=some kv.2:=by
 unfold ak
 cases q:b.find? λ z=>decide (z.1=kv.1)with
 | none=>have:=gy.mp q kv h;simp at this
 | some z=>
   have e:z.1=kv.1:=by have:=k8 q;simpa using this
   obtain⟨i,d⟩:=db h;obtain⟨j,a⟩:=db (gE q);have g:=(z0.mp d).1;have k:=(z0.mp a).1;have :i=j:=by by_cases c:i<j;{refine absurd ?_ (uf nd c (by rw[y7];exact k));rw[y8,y8,d,a];show some kv.1=some z.1;rw[e]};{by_cases f:j<i;{refine absurd ?_ (uf nd f (by rw[y7];exact g));rw[y8,y8,d,a];show some z.1=some kv.1;rw[e]};{omega}}
   subst this;rw[d]at a;cases a;rfl
inductive c_ltraces(ds:List D)(S:Store)(W:WD):Prop
 | mk(p:Pg)(m:Nat)(o:af4):ds=[.lst (oK p),.lst (dN o)]->PgB m p->12<=m->m<=20->flat S->dh %[|10] o->(∀tl:Kc,Told (bV %[|22]) tl->tl.length<=60->W %[|13] (S++[.non::tl.map encC]))->c_ltraces ds S W
inductive TrA(S:Store)(p:Pg)(o:af4)(i:Nat)(Γ':Gam)(T:Store):Prop
 | mk(J held o3 o4 o5 o6 o7 o8 o9 o10 o11 o12:_):T=S++[.non::held.map encC]++J->HeldR S.length T held (bV (%[|22].take i))->held.length<=i->Γ'=[some (.lst %[|87]),some (.lst (dN o)),some %[|13],o3,o4,o5,o6,o7,o8,o9,o10,o11,o12,none]->TrA S p o i Γ' T
inductive TrB(S T:Store)(p:Pg)(o:af4)(t:Nat)(x:%[|24])(st:Int)(Hf:%[|36])(k:Nat)(Γ':Gam)(T2:Store):Prop
 | mk(J2 o8 o9 o10 o11 o12:_):T2=T++[fzD (trS st Hf ((bH x.1 x.2).take k)).2]++J2->Γ'=[some (.lst %[|87]),some (.lst (dN o)),some %[|13],some (.int (t:Int)),some (aF (spot x.1.tab x.1.pl x.2)),some (.int (trS st Hf ((bH x.1 x.2).take k)).1),some (.lst (x.1.rds.map (dPt x.2))),some (.dlo T.length),o8,o9,o10,o11,o12,none]->TrB S T p o t x st Hf k Γ' T2
inductive TrC(S T J2:Store)(p:Pg)(o:af4)(t:Nat)(x:%[|24])(t0:Tr)(r:Rd)(mo:Fz)(c:Cel)(n:Int)(j:Nat)(q:Nat)(Γ':Gam)(T3:Store):Prop
 | mk(o12:_):T3=T++[fzD (cF t0.2 r.fac (mo.take q))]++(J2++[fzD [(c,1)]])->Γ'=[some (.lst %[|87]),some (.lst (dN o)),some %[|13],some (.int (t:Int)),some (aF (spot x.1.tab x.1.pl x.2)),some (.int (t0.1+r.fac*n)),some (.lst (x.1.rds.map (dPt x.2))),some (.dlo T.length),some (.int r.fac),some (cD c),some (.int n),some (.dlo j),o12,none]->TrC S T J2 p o t x t0 r mo c n j q Γ' T3
inductive TrD(S T:Store)(p:Pg)(o:af4)(Hf:%[|36])(held:Kc)(o3 o6 o8 o9 o10 o11 o12:Option D)(i:Nat)(Γ':Gam)(T':Store):Prop
 | mk(o4 o5 o7:_):T'=T++[.non::(tlH Hf (held.take i)).map encC]->Γ'=[some (.lst %[|87]),some (.lst (dN o)),some %[|13],o3,o4,o5,o6,o7,o8,o9,o10,o11,o12,some (.dlo T.length)]->TrD S T p o Hf held o3 o6 o8 o9 o10 o11 o12 i Γ' T'
def M4(B:%[|2]):OkF Ω "_law_traces" yp 1 Qd c_ltraces:=by
 refine aJ (N:=Q7) (Bl.owq (Qf B)) %[|6] ?_;rintro ds S W ⟨p,m,o,rfl,hP,aa,aj,hS,hO,hw⟩ hl;have am:m<=60:=%[|0]
 have hN:=dg hP aa am;have ho:o.length<=60:=by have:=sub_len hO.2 (U:=List.range %[|10]) λ t R=>dA.mpr (hO.1 t R);rw[fq]at this;omega
 have hU:=nu hP aa aj;have hX:=ni hP hO;rw[G9];try?;refine bc (TrA S p o) %[[],[],_,_,_,_,_,_,_,_,_,_,by simp,%[%[|41],λ _ _=>rfl|g9],y9 _|rfl] ?_ ?_
 . rintro I1 R1 B1 an _ _ i e b T he ⟨J,a,o3,o4,o5,o6,o7,o8,o9,F,G,s,rfl,w,M,rfl⟩;obtain⟨t,R,rfl⟩:=nH he;have aB:=hO.1 t (y4 R);have hi:=(z0.mp R).1;have hx:=mZ aB;have ae:=hX (xAt p t) (c9.mpr %[t,y4 R|rfl]);have d:=jP hU hX i;have ab:2 ^ (108*i)<=2 ^ 50000:=mf %[|1] %[|0];have hB:1<=2 ^ (108*i):=kw %[|1];have Q:bV (%[|22].take (i+1))=fc (bV (%[|22].take i)) (xAt p t):=by rw[aD (by rw[y8,R];rfl),lR]
   have a1:atI %[|87] ((t:Nat):Int)=some (dJ (xAt p t).2 (xAt p t).1):=bW (by rw[y8,hx];rfl);generalize bV (%[|22].take i)=Hf at w d Q;generalize xAt p t=x at hx ae Q a1;generalize 2 ^ (108*i)=B at d ab hB;have g:(%[|18]++J)[S.length]? =some %[|61]:=dj rfl;have f:=(z0.mp g).1;have ar:=λ J2=>w.put (J:=J2) (x:=x) (t:=nxH Hf x) (X:=.non::(putD a (wrH x) %[|92]).map encC) f rfl;try?;refine%[_,a1|?_];try?;refine%[rfl|?_];try?;have az:∀(J2 X:List D)(L:Store),(S++[J2]++J++[X]++L).set S.length X=(S++[J2]++J++[X]++L).set S.length X:=λ _ _ _=>rfl;have Z:∀(A X Y:List D)(L:Store),(S++[A]++J++[X]++L).set S.length Y=S++[Y]++(J++[X]++L):=λ A X Y L=>by rw[ck,ck (S++[A]),gQ rfl,ck J]
   have aM:=BL a (wrH x) %[|92];have ai:nxH Hf x=trS (atC x.1.st x.2) Hf (bH x.1 x.2):=rfl;have ad:=ae.rs;have K:=Z %[|61];clear Z az;generalize hT:%[|18]++J=T at*;generalize atC x.1.st x.2=st at*;refine bc (TrB S T p o t x st Hf) %[[],_,_,_,_,_,by simp only[gt];rfl|rfl] ?_ ?_
   . rintro I2 R2 B2 ao _ _ k e b T2 aw ⟨J2,o8,o9,F,G,s,rfl,rfl⟩;obtain⟨r,hr,rfl⟩:=bA aw;have H:(bH x.1 x.2)[k]? =some (r.fac,toC (spot r.tab r.pl x.2)):=by unfold bH;rw[y8,hr];rfl
     obtain⟨hf,av⟩:=ad _ (y4 H);have tr:TrOk (rdU p) B (trH Hf (toC (spot r.tab r.pl x.2))):=yN d hB av;have acc:FzOk (rdU p) _ (trS st Hf ((bH x.1 x.2).take k)).2:=(HY (X:=2 ^ 100) d hB hU ((bH x.1 x.2).take k) (λ z E=>ad z (im E)) (A:=st.natAbs) (acc:=(st,[])) %[y9 _|FzOk.nil _ _]).z;have al:=acc.len;have tl:=tr.z.len;have ek:=Ks (st:=st) (Hf:=Hf) H;generalize trS st Hf ((bH x.1 x.2).take k)=t0 at*;rw[show dPt x.2 r=D.tup [.int r.fac,cD (toC (spot r.tab r.pl x.2))]from rfl];generalize toC (spot r.tab r.pl x.2)=c at*;have gf:Grt r.fac:=ju hf %[|1];have gB:∀z:Int,z.natAbs<=B->Grt z:=λ z E=>ju (d6 E ab) %[|1];have lT:(T++[fzD t0.2]++J2).length=T.length+1+J2.length:=%[|16]
     try?;refine%[rfl|?_];try?;refine%[by rw[lT];omega|?_];try?;refine%[c,rfl,aH _ _|?_];rw[b8];try?;refine%[c,a,rfl,by rw[ck,ck,x9 f];exact g|?_];obtain⟨n,j,e1,e2,V,e4⟩:∃(n:Int) (j:Nat),(aK a c).getD (.tup [.int 0,.dlo (T++[fzD t0.2]++J2).length])=.tup [.int n,.dlo j]/\(T++[fzD t0.2]++J2++[fzD [(c,1)]])[j]? =some (fzD (trH Hf c).2)/\n=(trH Hf c).1/\T.length≠j:=by rcases w.look c with⟨l1,P⟩ | ⟨n,j,u,l1,P,l3⟩;{rw[l1];refine%[0,_,rfl,?_,?_|by rw[lT];omega];{rw[aH];unfold trH;rw[P];rfl};{unfold trH;rw[P];rfl}};{have hj:=(z0.mp P).1;rw[l1];refine%[n,j,rfl,?_,?_|%[|0]];{rw[ck,ck,x9 hj,P];unfold trH;rw[l3];rfl};{unfold trH;rw[l3];rfl}}
     rw[e1];try?;refine%[rfl|?_];try?;refine%[%[gf|gB n (by rw[V];exact tr.n)]|?_];try?;have O:∀A:List D,(T++[A]++(J2++[fzD [(c,1)]]))[j]? =some (fzD (trH Hf c).2):=λ A=>by rw[<-gQ (l:=fzD t0.2) (l':=A) rfl,eJ e4,<-ck];exact e2
     have ay:∀kv∈(trH Hf c).2,ak (trH Hf c).2 kv.1=some kv.2/\Grt kv.2:=λ kv hk=>%[rA tr.z.nd hk|gB _ (tr.z.bd kv hk)];have af:(gA Hf t0 (r.fac,c)).1=t0.1+r.fac*n:=by rw[V];rfl
     have ag:(gA Hf t0 (r.fac,c)).2=cF t0.2 r.fac (trH Hf c).2:=rfl;generalize (trH Hf c).2=mo at*;rw[ck (T++[fzD t0.2])];refine%[aC mo,O _|JV (TrC S T J2 p o t x t0 r mo c n j) %[_,rfl|rfl] ?_ ?_ ?_];{rintro q b T3 ⟨s,rfl,rfl⟩;exact O _}
     . rintro I3 ap q kv b T3 C ⟨s,rfl,rfl⟩;obtain⟨z,E,rfl⟩:=bA C;obtain⟨aE,aF⟩:=ay z (y4 E);have aI:=Ij r.fac (mo.take q) t0.2;have aL:(mo.take q).length<=mo.length:=by rw[ej];omega
       have I:(T++[fzD (cF t0.2 r.fac (mo.take q))]++(J2++[fzD [(c,1)]]))[T.length]? =some (fzD (cF t0.2 r.fac (mo.take q))):=dj rfl;have ah:(aK (aC (cF t0.2 r.fac (mo.take q))) z.1).getD (D.int 0)=D.int ((ak (cF t0.2 r.fac (mo.take q)) z.1).getD 0):=by rw[dB];cases ak (cF t0.2 r.fac (mo.take q)) z.1<;>rfl
       have eT:=Dk (fa:=t0.2) (x:=r.fac) E;try?;refine%[(z0.mp I).1|?_];try?;refine%[z.1,aC (cF t0.2 r.fac (mo.take q)),rfl,I|?_];try?;refine%[z.1,aC mo,rfl,O _,.int z.2,by rw[dB,aE];rfl|?_];walk_at "n";refine%[%[gf|aF]|?_];rw[ah];try?;refine%[z.1,aC (cF t0.2 r.fac (mo.take q)),rfl,I|?_];refine%[by show(List.map _ _).length<1000000;rw[y7];omega|?_];refine ap _ _ _ %[_,?_|rfl];rw[gQ rfl,eT,oX];rfl
     {rintro b T3 ⟨s,rfl,rfl⟩;have e:(aC mo).length=mo.length:=y7 ..;rw[e,cy];refine ao _ _ _ %[J2++[fzD [(c,1)]],some (.int r.fac),some (cD c),some (.int n),some (.dlo j),s,?_|?_];{rw[ek,ag]};{rw[ek,af]}}
   . rintro b T2 ⟨J2,o8,o9,F,G,s,rfl,rfl⟩;have e:(x.1.rds.map (dPt x.2)).length=(bH x.1 x.2).length:=by unfold bH;rw[y7,y7]
     rw[e,cy,<-ai];try?;have ac:=ar J2;rw[K]at ac;refine%[wrH x,a,rfl,by rw[ck,x9 f];exact g,%[|0]|an _ _ _ %[J++[fzD (nxH Hf x).2]++J2,putD a (wrH x) (.tup [.int (nxH Hf x).1,.dlo T.length]),_,_,_,_,_,_,_,_,_,_,K _ _ _,?_,%[|0]|rfl]];rw[Q,K];exact ac
 . rintro b T ⟨J,a,o3,o4,o5,o6,o7,o8,o9,F,G,s,rfl,w,M,rfl⟩;have eo:%[|22].take (dN o).length=%[|22]:=by rw[eE,cS (by rw[y7];exact y9 _)]
   have d:=jP hU hX o.length;rw[cS (by rw[y7];exact y9 _)]at d;rw[eo]at w;generalize bV %[|22]=Hf at w d hw;have hT:=NB w;have g:(%[|18]++J)[S.length]? =some %[|61]:=dj rfl;have f:S.length<(%[|18]++J).length:=(z0.mp g).1;have aA:S.length<=(%[|18]++J).length:=eR f;have as:∃J2,%[|18]++J=S++J2:=%[_|by rw[ck]];try?;generalize %[|18]++J=T at*;refine%[a,by rw[x9 f];exact g|JV (TrD S T p o Hf a o3 o6 o8 o9 F G s) %[_,_,_,rfl|rfl] ?_ ?_ ?_];{rintro i b T' ⟨o4,o5,o7,rfl,rfl⟩;rw[x9 f];exact g}
   . rintro I4 aq i kv b T' C ⟨o4,o5,o7,rfl,rfl⟩;obtain⟨n,j,u,ax,e2,V⟩:∃(n:Int) (j:Nat) (u:Fz),aK a kv.1=some (.tup [.int n,.dlo j])/\T[j]? =some (fzD u)/\Hf kv.1=some (n,u):=by rcases w.look kv.1 with⟨l1,P⟩ | h;{obtain⟨_,_,_,_,_,e,_⟩:=w.at_ kv (y4 C);rw[P]at e;cases e};{exact h}
     have hj:=(z0.mp e2).1;have E:=(d _ _ V).z;have aG:u.length<=(rdU p).length:=E.len;have ev:tvH Hf kv.1=gF (n,u):=by unfold tvH;rw[V];rfl
     have hp:=Nt (Hf:=Hf) w.nd C;rw[ev]at hp;have aN:(tlH Hf (a.take i)).length<=60:=by unfold tlH;rw[y7,ej];rw[eE]at M;omega
     have y:(T++[.non::(tlH Hf (a.take i)).map encC])[j]? =some (fzD u):=by rw[x9 hj];exact e2
     have ek:(aC u).map (·.1)=u.map (·.1):=by unfold aC;rw[dr];rfl
     try?;refine%[kv.1,a,rfl,by rw[x9 f];exact g,_,ax|?_];try?;refine%[rfl|?_];try?;refine%[j,aC u,rfl,y|?_];try?;refine%[u.map (·.1),_,rfl,by rw[y7];omega,E.nd,.inl (by rw[ek])|λ ks k1 k2=>?_];have es:=zW k1 k2;have kl:=k1.length_eq;rw[y7]at kl;walk_at "n";generalize hT1:T++[.non::(tlH Hf (a.take i)).map encC]=T1 at y ⊢;refine f9 %[by rw[y7];omega,λ q acc S'=>acc=telL u (ks.take q)/\T1=S',%[rfl|rfl],?_|?_]
     . rintro q e acc S' he ⟨rfl,rfl⟩;obtain⟨c,hc,rfl⟩:=bA he;obtain⟨v,hv⟩:=HS (k1.mem_iff.mp (y4 hc));have Q:tel u c=if v=0 then none else some (c,v):=by unfold tel;rw[hv];rfl
       try?;refine%[c,aC u,rfl,y,.int v,by rw[dB,hv];rfl|?_];try?;by_cases z:v=0;{rw[cc z];try?;refine%[?_|rfl];unfold telL;rw[aD hc,lp,gL,Q,ci z];simp};{rw[cm z];try?;refine%[c,aC u,rfl,y,.int v,by rw[dB,hv];rfl|?_];try?;refine%[?_|rfl];unfold telL;rw[aD hc,lp,gL,Q,c8 z,da];rfl}
     {rintro acc S' ⟨rfl,rfl⟩;rw[y7,cy,es];try?;refine%[kv.1,tlH Hf (a.take i),rfl,by rw[<-hT1];exact aH _ _,%[|0]|aq _ _ _ %[_,_,_,?_|rfl]];rw[<-hT1,b8];exact eC (λ z:Kc=>T++[D.non::z.map encC]) hp}
   {rintro b T' ⟨o4,o5,o7,rfl,rfl⟩;rw[cy];obtain⟨J2,rfl⟩:=as;try?;exact .inr %[true,J2++[.non::(tlH Hf a).map encC],S,(S++J2).length,.non::(tlH Hf a).map encC,rfl,by rw[ck],y9 _,aA,aH _ _,hT.nl,hS|hw _ hT (by unfold tlH;rw[y7];rw[eE]at M;omega)]}
def Vy(a b:Cel):(!ltC b a|| !ltC a b)=true:=by
 cases h:ltC a b with
 | false=>simp
 | true=>rw[pB h];rfl
def Yx(a b c:Cel)(h1:(!ltC b a)=true)(h2:(!ltC c b)=true):(!ltC c a)=true:=by
 cases h:ltC c a with
 | false=>rfl
 | true=>
   exfalso;have f:ltC b a=false:=by cases q:ltC b a with | false=>rfl | true=>rw[q]at h1;cases h1
   have d:ltC c b=false:=by cases q:ltC c b with | false=>rfl | true=>rw[q]at h2;cases h2
   by_cases e:b=a;{subst e;rw[h]at d;cases d};{have:=zT e f;have:=G5 h this;rw[d]at this;cases this}
def Km{l}(nd:l.Nodup):∃ks:List Cel,ks.Perm l/\ks.Pairwise %[|27]:=by
 refine%[l.mergeSort λ a b=>!ltC b a,List.mergeSort_perm _ _|?_];have c:=List.pairwise_mergeSort (le:=λ a b=>!ltC b a) Yx Vy l;have d:(l.mergeSort λ a b=>!ltC b a).Nodup:=(List.mergeSort_perm l _).nodup_iff.mpr nd;refine(List.pairwise_and_iff.mpr %[c|d]).imp λ{a b} h=>?_;have e:ltC b a=false:=by cases q:ltC b a with | false=>rfl | true=>have:=h.1;rw[q]at this;cases this
 exact zT (i5 h.2) e
def oh{l:List Cel}(h:l.Pairwise %[|27]):l.Nodup:=h.imp λ{a b} q e=>by subst e;rw[pL]at q;cases q
def Pk{l}(nd:l.Nodup):(wN l).Perm l/\(wN l).Pairwise %[|27]:=by obtain⟨e,c,d⟩:=Km nd;rw[<-zW c d];exact%[c|d]
def HB(P:Cel->Prop):List Cel:=open Classical in if h:∃d:List Cel,d.Pairwise %[|27]/\∀c,c∈d↔P c then h.choose else[]
def ug(h1:ks.Pairwise %[|27])(h2:∀c,c∈ks↔P c):ks=HB P:=by unfold HB;have d:∃ks:List Cel,ks.Pairwise %[|27]/\∀c,c∈ks↔P c:=%[ks,h1|h2];rw[dif_pos d];obtain⟨e,f⟩:=d.choose_spec;refine kK (le:=%[|27]) (λ a b _ _ x y=>?_) h1 e ((kC (oh h1) (oh e)).mpr λ c=>(h2 c).trans (f c).symm);have:=pB x;rw[this]at y;cases y
abbrev Tt:=Int×List (Cel×Int)
def dT(t:Tt):D:=.tup [.int t.1,.lst (t.2.map telD)]
def toT(Hf:%[|36])(c:Cel):Tt:=match Hf c with | some t=>(t.1,tellZ t.2) | none=>(0,[(c,1)])
def z8{a}(h:Told Hf a)(c:Cel):(aK a c).getD (.tup [.int 0,.lst [.tup [cD c,.int 1]]])=dT (toT Hf c):=by rw[h.lk];unfold toT;cases Hf c<;>rfl
def tel_enc(l:List (Cel×Int)):l.map telD=(aC l).map encC:=by unfold aC;rw[dr];rfl
structure TlOk(U:List Cel)(B:Nat)(l:List (Cel×Int)):Prop where
 lt:(l.map (·.1)).Pairwise %[|27]
 nz:∀kv∈l,kv.2≠0
 sub:∀kv∈l,kv.1∈U
 bd:∀kv∈l,kv.2.natAbs<=B
def TlOk.nd{l}(h:TlOk U B l):(l.map (·.1)).Nodup:=oh h.lt
def TlOk.len{l}(h:TlOk U B l):l.length<=U.length:=by
 have:=sub_len h.nd (U:=U) λ x b=>by obtain⟨c,a,rfl⟩:=c9.mp b;exact h.sub c a
 rw[y7]at this;exact this
def fU{a}(h:ak a c=some v):(c,v)∈a:=by
 unfold ak at h
 cases q:a.find? %[|48]with
 | none=>rw[q]at h;cases h
 | some kv=>
   rw[q]at h;have e:kv.1=c:=by have:=k8 q;simpa using this
   have b:kv.2=v:=cq h;have:=gE q;rw[<-e,<-b];exact this
def OJ{l}(h:TlOk U B l)(c:Cel)(v:Int):(c,v)∈l↔(ak l c).getD 0=v/\v≠0:=by
 constructor;{intro a;exact%[by rw[rA h.nd a];rfl|h.nz _ a]}
 . rintro⟨e,b⟩
   cases q:ak l c with
   | none=>rw[q]at e;exact absurd e.symm b
   | some w=>rw[q]at e;have e:w=v:=e;subst e;exact fU q
def Cz{b e:Type}{f:b->e}:∀{l:List b},(l.map f).Nodup->l.Nodup:=by
 intro l
 induction l with
 | nil=>intro _;exact g9
 | cons a l d=>intro h;rw[cw,fh]at h;rw[fh];exact%[λ c=>h.1 (c9.mpr %[a,c|rfl])|d h.2]
def abh{l m}(h1:TlOk U B l)(h2:TlOk e B' m)(h:∀c,(ak l c).getD 0=(ak m c).getD 0):l=m:=by refine kK (le:=λ a b=>ltC a.1 b.1=true) (λ a b _ _ x y=>?_) (kF.mp h1.lt) (kF.mp h2.lt) ((kC (Cz h1.nd) (Cz h2.nd)).mpr λ kv=>?_);{have:=pB x;rw[this]at y;cases y};{have d:=OJ h1 kv.1 kv.2;have f:=OJ h2 kv.1 kv.2;rw[h kv.1]at d;exact d.trans f.symm}
def ukK(l m:List (Cel×Int)):List Cel:=HB λ c=>(ak l c).getD 0≠(ak m c).getD 0
def iM{l:List (Cel×Int)}(h:(ak l c).getD 0≠0):c∈l.map (·.1):=by
 cases q:ak l c with
 | none=>rw[q]at h;exact absurd rfl h
 | some v=>exact c9.mpr %[_,fU q|rfl]
def acz{l m}(h1:TlOk U B l)(h2:TlOk U B' m):(∀c,c∈ukK l m↔(ak l c).getD 0≠(ak m c).getD 0):=by
 have k:((l.map (·.1))++(m.map (·.1)).filter λ c=>decide (c∉l.map (·.1))).Nodup:=by rw[ke];refine%[h1.nd,h2.nd.sublist List.filter_sublist|λ a g b i e=>?_];subst e;have:=(hZ.mp i).2;exact cE this g
 obtain⟨ks,f,j⟩:=Km k;have e:=ug (P:=λ c=>(ak l c).getD 0≠(ak m c).getD 0) (ks:=ks.filter λ c=>decide ((ak l c).getD 0≠(ak m c).getD 0)) (j.filter _) λ c=>by rw[hZ,hV,f.mem_iff];refine%[λ h=>h.2|λ h=>%[?_|h]];rw[cn];by_cases z:c∈l.map (·.1);{exact .inl z};{refine .inr (hZ.mpr %[?_|cc z]);by_cases d:(ak m c).getD 0=0;{rw[d]at h;exact absurd (iM h) z};{exact iM d}}
 intro c;unfold ukK;rw[<-e,hZ,hV,f.mem_iff];refine%[λ h=>h.2|λ h=>%[?_|h]];rw[cn];by_cases z:c∈l.map (·.1);{exact .inl z};{refine .inr (hZ.mpr %[?_|cc z]);by_cases d:(ak m c).getD 0=0;{rw[d]at h;exact absurd (iM h) z};{exact iM d}}
def shQ(a b:Tt):Option Cel:=if a.1≠b.1 then none else(ukK a.2 b.2).head?
def qF(q:Option Cel):Fz:=match q with | none=>[] | some c=>[(c,1)]
def vlQ(q:Option Cel)(t:Tt):Int:=t.1+match q with | none=>0 | some c=>(ak t.2 c).getD 0
def Ys{a b:Tt}(h1:TlOk U B a.2)(h2:TlOk U B' b.2)(ne:a≠b)(e:a.1=b.1):∃c,(ukK a.2 b.2)[0]? =some c/\(ukK a.2 b.2).head? =some c/\(ak a.2 c).getD 0≠(ak b.2 c).getD 0:=by
 have d:=acz h1 h2
 cases q:ukK a.2 b.2 with
 | nil=>exfalso;refine ne (lI e (abh h1 h2 λ c=>?_));have:=d c;rw[q]at this;exact Classical.not_not.mp λ z=>nomatch this.mpr z
 | cons c f=>exact%[c,rfl,rfl|(d c).mp (by rw[q];exact x6)]
def adE{a b}(h1:TlOk U B a.2)(h2:TlOk U B' b.2)(ne:a≠b):vlQ (shQ a b) a≠vlQ (shQ a b) b:=by unfold shQ;by_cases e:a.1=b.1;{obtain⟨c,_,d,f⟩:=Ys h1 h2 ne e;rw[c8 (by simp[e]),d];show a.1+(ak a.2 c).getD 0≠b.1+(ak b.2 c).getD 0;omega};{rw[ci e];show a.1+0≠b.1+0;omega}
def adF(q:Option Cel){l:List (Cel×Int)}(nd:(l.map (·.1)).Nodup):(l.map λ kv=>kv.2*(ak (qF q) kv.1).getD 0).sum=match q with | none=>0 | some c=>(ak l c).getD 0:=by
 cases q with
 | none=>
   induction l with
   | nil=>rfl
   | cons kv l a=>rw[cw,fh]at nd;rw[cw,nE,a nd.2];show kv.2*0+0=0;omega
 | some c=>
   induction l with
   | nil=>rfl
   | cons kv l a=>
     rw[cw,fh]at nd;rw[cw,nE,a nd.2];have b:ak (qF (some c)) kv.1=if c=kv.1 then some 1 else none:=by unfold ak qF;rw[eM];by_cases e:c=kv.1;{rw[ci e,cc e];rfl};{rw[c8 e,cm e];rfl}
     have d:ak (kv::l) c=if kv.1=c then some kv.2 else ak l c:=by unfold ak;rw[eM];by_cases e:kv.1=c;{rw[ci e,cc e];rfl};{rw[c8 e,cm e]}
     show kv.2*(ak (qF (some c)) kv.1).getD 0+(ak l c).getD 0=(ak (kv::l) c).getD 0;rw[b,d];by_cases e:c=kv.1
     . rw[ci e,ci e.symm];have:ak l c=none:=by
        cases q:ak l c with
        | none=>rfl
        | some v=>exact absurd (c9.mpr %[_,fU q|e]) nd.1
       rw[this];show kv.2*1+0=kv.2;omega
     {rw[c8 e,c8 (i5 e)];show kv.2*0+_=_;omega}
def tel_key{a}(h:tel a c=some x):x.1=c:=by unfold tel at h;split at h;{cases h};{cases h;rfl}
def tell_ok{a}(h:FzOk U B a):TlOk U B (tellZ a):=by
 obtain⟨p,s⟩:=Pk h.nd;have b:∀kv∈tellZ a,(ak a kv.1).getD 0=kv.2/\kv.2≠0/\kv.1∈a.map (·.1):=λ kv d=>by unfold tellZ at d;obtain⟨c,j,e⟩:=i7.mp d;have m:=tel_key e;unfold tel at e;split at e;{cases e};{rename_i f;cases e;exact%[rfl,f|p.mem_iff.mp j]}
 have l:((tellZ a).map (·.1)).Sublist (wN (a.map (·.1))):=by
  unfold tellZ;generalize wN (a.map (·.1))=i;clear b p s
  induction i with
  | nil=>exact List.Sublist.refl _
  | cons c i g=>
    rw[gL]
    cases q:tel a c with
    | none=>exact g.cons c
    | some x=>rw[cw,tel_key q];exact g.cons_cons c
 refine%[s.sublist l,λ kv d=>(b kv d).2.1,λ kv d=>?_|λ kv d=>?_];{obtain⟨z,k,e⟩:=c9.mp (b kv d).2.2;rw[<-e];exact h.sub z k}
 . obtain⟨e,f,_⟩:=b kv d
   cases q:ak a kv.1 with
   | none=>rw[q]at e;exact absurd e.symm f
   | some v=>rw[q]at e;have e:v=kv.2:=e;rw[<-e];exact h.bd _ (fU q)
def tell_look{a}(h:FzOk U B a)(c:Cel):(ak (tellZ a) c).getD 0=(ak a c).getD 0:=by
 obtain⟨p,s⟩:=Pk h.nd;have t:=tell_ok h;by_cases z:(ak a c).getD 0=0
 . rw[z]
   cases q:ak (tellZ a) c with
   | none=>rfl
   | some v=>have b:=fU q;unfold tellZ at b;obtain⟨f,g,e⟩:=i7.mp b;have d:=tel_key e;have d:c=f:=d;subst d;unfold tel at e;rw[ci z]at e;cases e
 . have b:(c,(ak a c).getD 0)∈tellZ a:=by unfold tellZ;refine i7.mpr %[c,p.mem_iff.mpr (iM z)|?_];unfold tel;rw[c8 z]
   rw[rA t.nd b];rfl
def Oa(h:lA U B Hf)(q:Option Cel)(c:Cel):vlQ q (toT Hf c)=vlQ q (trH Hf c):=by
 unfold toT trH
 cases e:Hf c with
 | none=>rfl
 | some t=>
   cases q with
   | none=>rfl
   | some z=>show t.1+(ak (tellZ t.2) z).getD 0=t.1+(ak t.2 z).getD 0;rw[tell_look (h c t e).z]
def yG(h:lA U B Hf)(f:1<=B)(c:Cel):TlOk (c::U) B (toT Hf c).2/\(toT Hf c).1.natAbs<=B:=by
 unfold toT
 cases e:Hf c with
 | none=>refine%[%[by show[c].Pairwise _;exact ng _ _,λ b a=>?_,λ b a=>?_|λ b a=>?_]|dk _];{rw[cf.mp a];show(1:Int)≠0;decide};{rw[cf.mp a];exact x6};{rw[cf.mp a];exact f}
 | some t=>have:=h c t e;have d:=tell_ok this.z;exact%[%[d.lt,d.nz,λ b a=>x4 _ (d.sub b a)|d.bd]|this.n]
def iI(V:Cel->Int)(rs:List (Int×Cel))(a:Int):Int:=rs.foldl (λ a r=>a+r.1*V r.2) a
def stepV(V:Cel->Int)(x:%[|24]):Cel->Int:=λ c=>if c=wrH x then iI V (bH x.1 x.2) (atC x.1.st x.2)else V c
def jb(q:Option Cel)(xs:List %[|24]):Cel->Int:=xs.foldl stepV λ c=>(ak (qF q) c).getD 0
def rO(q:Option Cel)(xs:List %[|24])(x:%[|24]):jb q (xs++[x])=stepV (jb q xs) x:=by unfold jb;rw[kn];rfl
def rJ(fa:Fz)(c d:Cel)(v:Int):ak (mC fa c v) d=if d=c then some v else ak fa d:=by
 unfold mC;split
 . rename_i a;unfold ak;rw[List.find?_map];have e:((λ kv:Cel×Int=>decide (kv.1=d)) ∘ λ kv=>if kv.1=c then(kv.1,v)else kv)=λ kv=>decide (kv.1=d):=by funext kv;show decide ((if kv.1=c then(kv.1,v)else kv).1=d)=_;split<;>rfl
   rw[e]
   cases q:fa.find? λ kv=>decide (kv.1=d)with
   | none=>by_cases z:d=c;{exfalso;obtain⟨kv,b,e⟩:=ib.mp a;have:=gy.mp q kv b;rw[z]at this;exact this e};{rw[c8 z];rfl}
   | some kv=>
     have f:kv.1=d:=by have:=k8 q;simpa using this
     show some (if kv.1=c then(kv.1,v)else kv).2=_;by_cases z:d=c;{rw[ci z,ci (f.trans z)]};{rw[c8 z,c8 (λ h=>z (f.symm.trans h))];rfl}
 . rename_i a;unfold ak;rw[np];by_cases z:d=c;{subst z;rw[ci rfl];have:(fa.find? λ kv=>decide (kv.1=d))=none:=gy.mpr λ kv b e=>a (ib.mpr %[kv,b|e]);rw[this];rw[Option.none_or,eM,cc rfl];rfl}
   . rw[c8 z]
     cases q:fa.find? λ kv=>decide (kv.1=d)with
     | some kv=>rfl
     | none=>rw[Option.none_or,eM,cm (i5 z)];rfl
def Vk(x:Int){a}(nd:(a.map (·.1)).Nodup)(c:Cel):∀fa:Fz,(ak (cF fa x a) c).getD 0=(ak fa c).getD 0+x*(ak a c).getD 0:=by
 induction a with
 | nil=>intro fa;show _=(ak fa c).getD 0+x*0;rw[Int.mul_zero,lv];rfl
 | cons kv a d=>
   intro fa;rw[cw,fh]at nd;have e:cF fa x (kv::a)=cF (jt x fa kv) x a:=rfl;rw[e,d nd.2];unfold jt;rw[rJ];have b:ak (kv::a) c=if kv.1=c then some kv.2 else ak a c:=by unfold ak;rw[eM];by_cases e:kv.1=c;{rw[ci e,cc e];rfl};{rw[c8 e,cm e]}
   rw[b];by_cases z:c=kv.1
   . subst z;rw[ci rfl,ci rfl];have:ak a kv.1=none:=by
      cases q:ak a kv.1 with
      | none=>rfl
      | some v=>exact absurd (c9.mpr %[_,fU q|rfl]) nd.1
     rw[this];show(ak fa kv.1).getD 0+x*kv.2+x*0=(ak fa kv.1).getD 0+x*kv.2;rw[Int.mul_zero,lv]
   {rw[c8 z,c8 (i5 z)]}
def acJ(h:lA U B Hf)(b:1<=B)(q:Option Cel){V}(d:∀c,V c=vlQ q (trH Hf c)):∀(rs:List (Int×Cel)),(∀r∈rs,r.2∈U)->∀acc:Tr,vlQ q (rs.foldl (gA Hf) acc)=iI V rs (vlQ q acc):=by
 intro rs
 induction rs with
 | nil=>intro _ acc;rfl
 | cons r rs g=>
   intro a acc;have e:(r::rs).foldl (gA Hf) acc=rs.foldl (gA Hf) (gA Hf acc r):=rfl;rw[e,g λ z f=>a z (x4 _ f)];show iI V rs _=iI V rs (vlQ q acc+r.1*V r.2);have i:=(yN h b (a r x6)).z.nd;congr 1;rw[d]
   cases q with
   | none=>show acc.1+r.1*(trH Hf r.2).1+0=acc.1+0+r.1*((trH Hf r.2).1+0);rw[lv,lv,lv]
   | some c=>show acc.1+r.1*(trH Hf r.2).1+(ak (cF acc.2 r.1 (trH Hf r.2).2) c).getD 0=acc.1+(ak acc.2 c).getD 0+r.1*((trH Hf r.2).1+(ak (trH Hf r.2).2 c).getD 0);rw[Vk r.1 i,Int.mul_add];omega
def Tv(b:U.length<=60){xs:List %[|24]}(h:∀x∈xs,XOk U x)(q:Option Cel):∀(i:Nat)(c:Cel),jb q (xs.take i) c=vlQ q (trH (bV (xs.take i)) c):=by
 intro i
 induction i with
 | zero=>
   intro c;rw[lm];show(ak (qF q) c).getD 0=vlQ q (0,[(c,1)])
   cases q with
   | none=>rfl
   | some z=>show(ak [(z,1)] c).getD 0=0+(ak [(c,1)] z).getD 0;unfold ak;rw[eM,eM];by_cases e:z=c;{rw[cc e,cc e.symm];rfl};{rw[cm e,cm (i5 e)];rfl}
 | succ i a=>
   intro c
   cases g:xs[i]? with
   | none=>have d:=ms.mp g;have:=a c;rw[cS d]at this;rw[cS %[|0]];exact this
   | some x=>
     have j:=h x (y4 g);rw[aD g,lR,rO];unfold stepV trH fc;by_cases e:c=wrH x
     . rw[ci e,ci e];show iI _ _ _=vlQ q (nxH (bV (xs.take i)) x);unfold nxH trS;rw[acJ (jP b h i) (kw %[|1]) q a (bH x.1 x.2) λ r f=>(j.rs r f).2];congr 1
       cases q with
       | none=>exact(lv _).symm
       | some z=>exact(lv _).symm
     {rw[c8 e,c8 e];exact a c}
def Zn{V}(d:∀c,(V c).natAbs<=B):∀(rs:List (Int×Cel)),(∀r∈rs,r.1.natAbs<=2 ^ 100)->∀a:Int,(iI V rs a).natAbs<=a.natAbs+rs.length*(2 ^ 100*B):=by
 intro rs
 induction rs with
 | nil=>intro _ a;show a.natAbs<=a.natAbs+0*_;omega
 | cons r rs g=>
   intro b a;have h:=g (λ z f=>b z (x4 _ f)) (a+r.1*V r.2);have i:(r.1*V r.2).natAbs<=2 ^ 100*B:=by rw[mT];exact ln (b r x6) (d r.2)
   have j:=nr a (r.1*V r.2);have e:iI V (r::rs) a=iI V rs (a+r.1*V r.2):=rfl;rw[e,dS,Nat.add_mul,Nat.one_mul];generalize 2 ^ 100*B=Z at*;omega
def Z0{xs:List %[|24]}(h:∀x∈xs,XOk U x)(q:Option Cel):∀(i:Nat)(c:Cel),(jb q (xs.take i) c).natAbs<=2 ^ (108*i):=by
 intro i
 induction i with
 | zero=>
   intro c;show((ak (qF q) c).getD 0).natAbs<=1
   cases q with
   | none=>exact dk _
   | some z=>show((ak [(z,1)] c).getD 0).natAbs<=1;unfold ak;rw[eM];by_cases e:z=c;{rw[cc e];exact y9 _};{rw[cm e];exact dk _}
 | succ i d=>
   intro c;have m:1<=2 ^ (108*i):=kw %[|1];have e:2 ^ (108*(i+1))=2 ^ 108*2 ^ (108*i):=by rw[Nat.mul_succ,Nat.pow_add,mE]
   rw[e];have b:2 ^ (108*i)<=2 ^ 108*2 ^ (108*i):=ny _ (kw %[|1])
   cases g:xs[i]? with
   | none=>have k:=ms.mp g;have:=d c;rw[cS k]at this;rw[cS %[|0]];exact d6 this b
   | some x=>
     have a:=h x (y4 g);rw[aD g,rO];unfold stepV;by_cases f:c=wrH x
     . rw[ci f];have p:=Zn d (bH x.1 x.2) (λ r n=>(a.rs r n).1) (atC x.1.st x.2);have s:=a.st;have l:(bH x.1 x.2).length*(2 ^ 100*2 ^ (108*i))<=3*(2 ^ 100*2 ^ (108*i)):=k7 _ (by rw[wk];exact a.l3);have j:2 ^ 108*2 ^ (108*i)=256*(2 ^ 100*2 ^ (108*i)):=by rw[<-Nat.mul_assoc]
       have o:2 ^ 100<=2 ^ 100*2 ^ (108*i):=n4 _ m;rw[j];generalize 2 ^ 100*2 ^ (108*i)=Z at*;generalize (2:Nat) ^ 100=Y at*;omega
     {rw[c8 f];exact d6 (d c) b}
def YC(a b:Cel):eqD (cD a) (cD b)=decide (a=b):=by unfold cD;rw[zY];show(eqD (.int a.1) (.int b.1)&&(eqD (.tup (a.2.map .int)) (.tup (b.2.map .int))&&true))=_;rw[Av,zY,tV,df,gd];simp[oC]
def Vz:∀l m:List (Cel×Int),cT (l.map telD) (m.map telD)=decide (l=m):=by
 intro l
 induction l with
 | nil=>intro m;cases m<;>simp[cT]
 | cons x l a=>
   intro m
   cases m with
   | nil=>simp[cT]
   | cons y m=>
     show(eqD (telD x) (telD y)&&cT (l.map telD) (m.map telD))=_;rw[a];have:eqD (telD x) (telD y)=decide (x=y):=by show(eqD (cD x.1) (cD y.1)&&(eqD (.int x.2) (.int y.2)&&true))=_;rw[YC,Av,df,gd];simp[oC]
     rw[this,gd];simp
def abn(a b:Tt):eqD (dT a) (dT b)=decide (a=b):=by show(eqD (.int a.1) (.int b.1)&&(eqD (.lst (a.2.map telD)) (.lst (b.2.map telD))&&true))=_;rw[Av,Ou,Vz,df,gd];simp[oC]
def Yj(a:Tt):okD (dT a)=true/\deep (dT a)<=50:=by
 have h:∀l:List (Cel×Int),cz (l.map telD)=true/\aY (l.map telD)<=3:=by
  intro l
  induction l with
  | nil=>exact%[rfl|dk _]
  | cons kv l ih=>
    constructor;{show((okD (cD kv.1)&&(true&&true))&&cz (l.map telD))=true;rw[Ul,ih.1];rfl}
    . show max (max (deep (cD kv.1)) 0+1) (aY (l.map telD))<=3;have:deep (cD kv.1)=2:=by show max 0 (max (aY (kv.1.2.map .int)+1) 0)+1=2;rw[ik];rfl
      have:=ih.2;omega
 obtain⟨b,c⟩:=h a.2;constructor;{show(true&&(cz (a.2.map telD)&&true))=true;rw[b];rfl};{show max 0 (max (aY (a.2.map telD)+1) 0)+1<=50;omega}
def Yp{a b}(w:W (!decide (a=b)) S):bh .NotEq (dT a) (dT b) S W:=by have oa:=Yj a;have ob:=Yj b;have e:=abn a b;unfold bh;refine .inl %[%[oa.1,ob.1|oa.2]|?_];show W (!eqD (dT a) (dT b)) S;rw[e];exact w
inductive c_tby(ds:List D)(S:Store)(W:WD):Prop
 | mk(k:Nat)(tl:Kc)(Hf:%[|36])(c:Cel):ds=[.dlo k,cD c]->S[k]? =some (.non::tl.map encC)->Told Hf tl->W (dT (toT Hf c)) S->c_tby ds S W
def Ea:OkF Ω "trace_by" rK 1 JK c_tby:=by refine aJ (N:=JK) (HQ) %[|6] ?_;rintro h S W ⟨k,d,g,c,rfl,b,e,f⟩ i;have a:=(z0.mp b).1;try?;refine%[a|?_];try?;refine%[c,d,rfl,b|?_];show W ((aK d c).getD (.tup [.int 0,.lst [.tup [cD c,.int 1]]])) S;rw[z8 e];exact f
def yS(l:List (Cel×Int))(c:Cel):(aK (aC l) c).getD (.int 0)=.int ((ak l c).getD 0):=by rw[dB];cases ak l c<;>rfl
def Ln:∀ks:List Cel,aa (ks.map cD)=true:=λ ks=>by
 induction ks with
 | nil=>rfl
 | cons c ks a=>show(aB (cD c)&&aa (ks.map cD))=true;rw[a];show((true&&(aa (c.2.map .int)&&true))&&true)=true;rw[cg];rfl
inductive c_ukp(ds:List D)(S:Store)(W:WD):Prop
 | mk(U:List Cel)(A B:Nat)(l m:List (Cel×Int)):ds=[.lst (l.map telD),.lst (m.map telD)]->TlOk U A l->TlOk U B m->U.length<=63->flat S->W (.lst ((ukK l m).map cD)) S->c_ukp ds S W
def uX(B:%[|2]):OkF Ω "unlike_parts" kj 1 vU c_ukp:=by
 refine aJ (N:=wI) (Bl.drp (wB B)) %[|6] ?_;rintro H S W ⟨U,A,B,l,m,rfl,o,p,C,y,E⟩ I;have K:=o.len;have L:=p.len;rw[tel_enc,tel_enc];have k:(aC l).map (·.1)=l.map (·.1):=by unfold aC;rw[dr];rfl
 have n:(aC m).map (·.1)=m.map (·.1):=by unfold aC;rw[dr];rfl
 have M:(aC l).length=l.length:=by unfold aC;rw[y7]
 have O:(aC m).length=m.length:=by unfold aC;rw[y7]
 try?;refine%[aC l,rfl,by rw[k];exact o.nd,%[|0]|?_];try?;refine%[aC m,rfl,by rw[n];exact p.nd,%[|0]|?_];have d:(S++[.non::(aC l).map encC]++[.non::(aC m).map encC])[S.length]? =some (.non::(aC l).map encC):=dj rfl;have f:(S++[.non::(aC l).map encC]++[.non::(aC m).map encC])[(S++[.non::(aC l).map encC]).length]? =some (.non::(aC m).map encC):=aH _ _;have w:S++[.non::(aC l).map encC]++[.non::(aC m).map encC]=S++([.non::(aC l).map encC]++[.non::(aC m).map encC]):=ck ..;have u:=(z0.mp d).1;have v:=(z0.mp f).1;try?;generalize (S++[.non::(aC l).map encC]).length=j2 at*;generalize hT:S++[.non::(aC l).map encC]++[.non::(aC m).map encC]=T at*;refine%[S.length,j2,aC l,aC m,U,rfl,rfl,d,f,%[|0],%[|0],C,λ c a=>?_,λ c a=>?_|λ r s t=>?_];{rw[k]at a;obtain⟨j,g,rfl⟩:=c9.mp a;exact o.sub j g};{rw[n]at a;obtain⟨j,g,rfl⟩:=c9.mp a;exact p.sub j g};have x:(r.filter λ c=>decide ((ak l c).getD 0≠(ak m c).getD 0))=ukK l m:=ug (s.filter _) λ c=>by rw[hZ,hV,t,k,n];refine%[λ h=>h.2|λ h=>%[?_|h]];by_cases z:(ak m c).getD 0=0;{rw[z]at h;exact .inl (iM h)};{exact .inr (iM z)}
 have J:r.length<=63:=by
  have:=sub_len (oh s) (U:=U) λ c a=>by rcases(t c).mp a with h | h;{rw[k]at h;obtain⟨j,g,rfl⟩:=c9.mp h;exact o.sub j g};{rw[n]at h;obtain⟨j,g,rfl⟩:=c9.mp h;exact p.sub j g}
  omega
 try?;refine f9 %[by rw[y7];omega,λ i b q=>b=((r.take i).filter λ c=>decide ((ak l c).getD 0≠(ak m c).getD 0)).map cD/\T=q,%[rfl|rfl],?_|?_];{rintro i e b q D ⟨rfl,rfl⟩;obtain⟨c,a,rfl⟩:=bA D;try?;refine%[u|?_];try?;refine%[c,aC l,rfl,d|?_];have F:=yS l c;have G:=yS m c;try?;refine%[v|?_];try?;refine%[c,aC m,rfl,f|?_];dsimp only;rw[F,G];try?;by_cases z:(ak l c).getD 0=(ak m c).getD 0;{rw[cc z];try?;refine%[?_|rfl];rw[aD a,mI,kG,c8 (by simp[z])];simp};{rw[cm z];try?;refine%[?_|rfl];rw[aD a,mI,kG,ci (by simp[z]),da];rfl}};{rintro b q ⟨rfl,rfl⟩;rw[y7,cy,x];try?;refine .inr %[_,S,w,y9 _,Ln _,y|E]}
inductive c_shf(ds:List D)(S:Store)(W:WD):Prop
 | mk(U:List Cel)(A B:Nat)(a b:Tt):ds=[dT a,dT b]->TlOk U A a.2->TlOk U B b.2->U.length<=63->a≠b->flat S->W %[|13] (S++[fzD (qF (shQ a b))])->c_shf ds S W
def oG(d:gK Ω c_ukp):OkF Ω "showing_filling" iw 2 pZ c_shf:=by
 refine aJ (N:=pZ) (qN d) %[|6] ?_;rintro p S W ⟨U,A,B,a,b,rfl,h,i,n,o,m,f⟩ q;unfold dT;try?;by_cases e:a.1=b.1
 . rw[cc e];obtain⟨c,k,l,_⟩:=Ys h i o e;have g:shQ a b=some c:=by unfold shQ;rw[c8 (by simp[e]),l]
   rw[g]at f;try?;refine%[rfl,U,A,B,a.2,b.2,rfl,h,i,n,cB m rfl|?_];try?;refine%[_,bW (j:=0) (v:=cD c) (by rw[y8,k];rfl)|?_];try?;refine%[c,rfl,aH _ _|?_];rw[b8];exact f
 . rw[cm e];have g:shQ a b=none:=by unfold shQ;rw[ci e]
   rw[g]at f;try?;exact f
inductive c_hfrom(ds:List D)(S:Store)(W:WD):Prop
 | mk(U:List Cel)(B f:Nat)(q:Option Cel)(t:Tt):ds=[.dlo f,dT t]->S[f]? =some (fzD (qF q))->TlOk U B t.2->U.length<=63->B<=2 ^ 50000->W (.int (vlQ q t)) S->c_hfrom ds S W
def adf(q:Option Cel)(c:Cel):Grt ((ak (qF q) c).getD 0):=by
 refine ju (n:=0) ?_ %[|1]
 cases q with
 | none=>exact dk _
 | some z=>show((ak [(z,1)] c).getD 0).natAbs<=1;unfold ak;rw[eM];by_cases e:z=c;{rw[cc e];exact y9 _};{rw[cm e];exact dk _}
def Bv(B:%[|2]):OkF Ω "held_from" pY 1 Fj c_hfrom:=by refine aJ (N:=Fj) (Eo B) %[|6] ?_;rintro n S W ⟨U,B,f,q,t,rfl,d,a,o,h,l⟩ p;have r:=a.len;have b:=(z0.mp d).1;unfold dT;try?;refine gU (xs:=t.2) (enc:=telD) (λ kv=>.int (kv.2*(ak (qF q) kv.1).getD 0)) %[|0] ?_ ?_;{intro i kv c Q k;have j:=y4 c;have e:Grt kv.2:=ju (d6 (a.bd kv j) h) %[|1];have g:=adf q kv.1;have m:=yS (qF q) kv.1;try?;refine%[rfl|?_];try?;refine%[b|?_];try?;refine%[kv.1,aC (qF q),rfl,d|?_];dsimp only;rw[m];exact%[%[e|g]|k]};{try?;refine%[t.2.map λ kv=>kv.2*(ak (qF q) kv.1).getD 0,by rw[dr];rfl|?_];rw[adF q a.nd];try?;exact l}
def lg(H1 H2:%[|36]):Option Cel:=(HB λ c=>H1 c≠none\/H2 c≠none).find? λ c=>decide (toT H1 c≠toT H2 c)
def dI{b}(h:Told Hf b)(c:Cel):c∈b.map (·.1)↔Hf c≠none:=by
 constructor;{intro f e;obtain⟨kv,d,rfl⟩:=c9.mp f;have:=h.vl kv d;rw[e]at this;cases this}
 . intro g
   cases q:Hf c with
   | none=>exact absurd q g
   | some t=>
     have:=h.lk c;rw[q]at this;unfold aK at this
     cases a:b.find? %[|48]with
     | none=>rw[a]at this;cases this
     | some kv=>
       have e:kv.1=c:=by have:=k8 a;simpa using this
       exact c9.mpr %[kv,gE a|e]
def Vn:∀(xs:List %[|24])(Hf:%[|36])(c:Cel),xs.foldl fc Hf c≠none->Hf c≠none\/∃x∈xs,c=wrH x:=by
 intro xs
 induction xs with
 | nil=>intro Hf c h;exact .inl h
 | cons x xs b=>intro Hf c h;rcases b (fc Hf x) c h with h | ⟨y,a,e⟩;{unfold fc at h;by_cases e:c=wrH x;{exact .inr %[x,x6|e]};{rw[c8 e]at h;exact .inl h}};{exact .inr %[y,x4 _ a|e]}
def UG(hO:dh %[|10] o)(h:bV %[|22] c≠none):c∈(au p).map wrH:=by rcases Vn _ _ c h with h | ⟨x,b,e⟩;{exact absurd rfl h};{obtain⟨t,a,rfl⟩:=c9.mp b;rw[e];exact c9.mpr %[_,y4 (mZ (hO.1 t a))|rfl]}
inductive c_cmp(ds:List D)(S:Store)(W:WD):Prop
 | mk(p:Pg)(m:Nat)(o1 o2:af4):ds=[dPg p,.lst (dN o1),.lst (dN o2)]->PgB m p->12<=m->m<=20->flat S->dh %[|10] o1->dh %[|10] o2->(lg (bV (o1.map (xAt p))) (bV (o2.map (xAt p)))=none->∀J,flat J->W (.tup [.str "alike"]) (S++J))->
   (∀(c:Cel)(q:Option Cel)(n1 n2:Int),lg (bV (o1.map (xAt p))) (bV (o2.map (xAt p)))=some c->q=shQ (toT (bV (o1.map (xAt p))) c) (toT (bV (o2.map (xAt p))) c)->n1=vlQ q (toT (bV (o1.map (xAt p))) c)->n2=vlQ q (toT (bV (o2.map (xAt p))) c)->∀(J:Store)(j:Nat),(S++J)[j]? =some (fzD (qF q))->S.length<=j->flat J->W (.tup [.str "unlike",.dlo j,cD c,.int n1,.int n2]) (S++J))->c_cmp ds S W
inductive CmA(T:Store)(p:Pg)(o1 o2:af4)(k1 k2:Nat)(H1 H2:%[|36])(ks:List Cel)(i:Nat)(Γ':Gam)(T':Store):Prop
 | mk(o5 o6 o7:Option D):T'=T->(∀c∈ks.take i,toT H1 c=toT H2 c)->Γ'=[some (dPg p),some (.lst (dN o1)),some (.lst (dN o2)),some (.dlo k1),some (.dlo k2),o5,o6,o7,none]->CmA T p o1 o2 k1 k2 H1 H2 ks i Γ' T'
def Cr(c:PgB m p)(a:12<=m)(b:m<=60)(hO:dh %[|10] o):o.length<=60:=by have e:=dg c a b;have:=sub_len hO.2 (U:=List.range %[|10]) λ t d=>dA.mpr (hO.1 t d);rw[fq]at this;omega
def jN(f:PgB m p)(a:12<=m)(d:m<=20)(g:dh %[|10] o):lA (rdU p) (2 ^ 50000) (bV %[|22]):=by have i:=Cr f a %[|0] g;have h:=jP (nu f a d) (ni f g) o.length;rw[cS (by rw[y7];exact y9 _)]at h;intro c t e;have b:2 ^ (108*o.length)<=2 ^ 50000:=mf %[|1] %[|0];exact%[d6 (h c t e).n b|(h c t e).z.mono b]
def Fw(B:%[|2])(A:ig Ω c_traced)(y:fL Ω c_tby)(x:cM Ω c_shf)(w:eG Ω c_hfrom):OkF Ω "compared" sE 8 Iv c_cmp:=by
 refine aJ (N:=JX) (Gy B A y x w) %[|6] ?_;rintro ds S W ⟨p,m,o1,o2,rfl,u,f,g,hS,s,t,V,X⟩ hl;have L:m<=60:=%[|0]
 have hN:=dg u f L;have hU:=nu u f g;have G:=jN u f g s;have H:=jN u f g t;have Z:=λ c=>UG (c:=c) s;have ab:=λ c=>UG (c:=c) t;have M:1<=2 ^ 50000:=kw %[|1];try?;refine%[rfl,p,m,o1,rfl,u,f,g,hS,s|λ a k l1=>?_];have F:=cB hS k.nl;try?;refine%[rfl,p,m,o2,rfl,u,f,g,F,t|λ b n l2=>?_];have r:(%[|18]++[%[|65]])[S.length]? =some %[|61]:=dj rfl;have C:(%[|18]++[%[|65]])[%[|18].length]? =some %[|65]:=aH _ _;have K:%[|18]++[%[|65]]=S++([%[|61]]++[%[|65]]):=ck ..;have fJ:flat ([%[|61]]++[%[|65]]):=λ l hl=>by rcases cn.mp hl with h | h;{rw[cf.mp h];exact k.nl};{rw[cf.mp h];exact n.nl}
 try?;generalize %[|18].length=k2 at*;generalize hTT:%[|18]++[%[|65]]=T at*;generalize hJ:[%[|61]]++[%[|65]]=J at*;generalize bV (o1.map (xAt p))=H1 at*;generalize bV (o2.map (xAt p))=H2 at*;have⟨B,hBB⟩:∃B,B=(2:Nat) ^ 50000:=%[_|rfl];rw[<-hBB]at G H M;refine%[S.length,k2,a,b,(au p).map wrH,rfl,rfl,r,C,%[|0],%[|0],by rw[y7];omega,λ c o=>Z c ((dI k c).mp o),λ c o=>ab c ((dI n c).mp o)|λ Y k1 k3=>?_];have ek:=ug (P:=λ c=>H1 c≠none\/H2 c≠none) k1 λ c=>by rw[k3,dI k,dI n]
 have Tl:S.length<T.length:=(z0.mp r).1;refine bc (CmA T p o1 o2 S.length k2 H1 H2 Y) %[none,none,none,rfl,(λ c h=>by rw[lm]at h;cases h)|rfl] ?_ ?_
 . rintro I1 R1 B1 O Q ad i e ac I he ⟨o5,o6,o7,rfl,E,rfl⟩;obtain⟨c,o,rfl⟩:=bA he;have p1:=yG G M c;have p2:=yG H M c;have lU:(c::rdU p).length<=63:=by rw[dS];omega
   try?;refine%[rfl,S.length,a,H1,c,rfl,r,k|?_];try?;refine%[rfl,k2,b,H2,c,rfl,C,n|?_];generalize hc1:toT H1 c=t1 at*;generalize hc2:toT H2 c=t2 at*;try?;refine Yp ?_;by_cases z:t1=t2;{rw[cc z];try?;refine O _ _ _ %[_,_,_,rfl,λ d v=>?_|rfl];rw[aD o]at v;rcases cn.mp v with v | v;{exact E d v};{rw[cf.mp v,hc1,hc2];exact z}}
   . rw [cm z];have U:lg H1 H2=some c:=by unfold lg;rw[<-ek];have R:=(z0.mp o).1;have e1:=(z0.mp o).2;refine List.find?_eq_some_iff_getElem.mpr %[by rw[hc1,hc2];exact cc z,i,R,e1|λ j hj=>?_];have:Y[j]∈Y.take i:=List.mem_take_iff_getElem.mpr %[j,%[|0]|rfl];rw[E _ this];simp
     try?;refine%[rfl,c::rdU p,B,B,t1,t2,rfl,p1.1,p2.1,lU,z,?_|?_];{rw[<-hTT];exact cB F n.nl};try?;have q:B<=2 ^ 50000:=mA hBB;refine%[rfl,c::rdU p,B,I.length,shQ t1 t2,t1,rfl,aH _ _,p1.1,lU,q|?_];try?;refine%[rfl,c::rdU p,B,I.length,shQ t1 t2,t2,rfl,aH _ _,p2.1,lU,q|?_];try?;have fz:aa (fzD (qF (shQ t1 t2)))=true:=by
      cases shQ t1 t2 with
      | none=>rfl
      | some d=>show(true&&((aB (cD d)&&(true&&true))&&true))=true;rw[show aB (cD d)=(true&&(aa (d.2.map .int)&&true))from rfl,cg];rfl
     have D:(S++(J++[fzD (qF (shQ t1 t2))]))[I.length]? =some (fzD (qF (shQ t1 t2))):=by rw[<-ck,<-K];exact aH _ _
     rw[K]at D ⊢;rw[ck];refine Q _ _ (X c (shQ t1 t2) _ _ U (by rw[hc1,hc2]) (by rw[hc1]) (by rw[hc2]) (J++[fzD (qF (shQ t1 t2))]) _ D ?_ (cB fJ fz));rw[x8];omega
 . rintro ac I ⟨o5,o6,o7,rfl,E,rfl⟩;rw[y7,cy]at E;have U:lg H1 H2=none:=by unfold lg;rw[<-ek,gy];intro c o;rw[E c o];simp
   try?;rw[K];exact V U J fJ
def adA(l:List Cel):∃l':List Cel,l'.Nodup/\∀c,c∈l'↔c∈l:=by
 induction l with
 | nil=>exact%[[],g9|λ c=>Iff.rfl]
 | cons a l f=>obtain⟨l',d,b⟩:=f;by_cases e:a∈l';{refine%[l',d|λ c=>?_];rw[cK,b];exact%[.inr|λ h=>h.elim (λ h=>h▸(b a).mp e) id]};{refine%[a::l',fh.mpr %[e|d]|λ c=>?_];rw[cK,cK,b]}
def VH{l:List Cel}(h:∀c,c∈l↔P c)(c:Cel):c∈HB P↔P c:=by obtain⟨g,d,a⟩:=adA l;obtain⟨f,b,e⟩:=Km d;have:=ug (P:=P) e λ c=>(b.mem_iff.trans (a c)).trans (h c);rw[<-this];exact(b.mem_iff.trans (a c)).trans (h c)
def SX{d H2}{f g}(a:Told d f)(b:Told H2 g):lg d H2=none↔∀c∈f.map (·.1)++g.map (·.1),toT d c=toT H2 c:=by
 have i:=VH (P:=λ c=>d c≠none\/H2 c≠none) (l:=f.map (·.1)++g.map (·.1)) λ c=>by rw[cn,dI a,dI b]
 unfold lg;rw[gy];constructor;{intro h c e;have:=h c ((i c).mpr (by rw[cn,dI a,dI b]at e;exact e));simpa using this};{intro h c e;have:=h c (by rw[cn,dI a,dI b];exact(i c).mp e);simp[this]}
inductive c_same(ds:List D)(S:Store)(W:WD):Prop
 | mk(p:Pg)(m:Nat)(o1 o2:af4):ds=[.lst (oK p),.lst (dN o1),.lst (dN o2)]->PgB m p->12<=m->m<=20->flat S->dh %[|10] o1->dh %[|10] o2->W (.bl (lg (bV (o1.map (xAt p))) (bV (o2.map (xAt p)))).isNone) S->c_same ds S W
inductive LsA(T:Store)(p:Pg)(o1 o2:af4)(k1 k2:Nat)(H1 H2:%[|36])(ks:List Cel)(i:Nat)(Γ':Gam)(T':Store):Prop
 | mk(o5 o6:Option D):T'=T->(∀c∈ks.take i,toT H1 c=toT H2 c)->Γ'=[some (.lst (oK p)),some (.lst (dN o1)),some (.lst (dN o2)),some (.dlo k1),some (.dlo k2),o5,o6]->LsA T p o1 o2 k1 k2 H1 H2 ks i Γ' T'
def RT(B:%[|2])(l:jF Ω c_ltraces):OkF Ω "_law_same" G3 2 Xa c_same:=by
 refine aJ (N:=Wb) (Bl.drp (Wn B l)) %[|6] ?_;rintro ds S W ⟨p,m,D,E,rfl,H,n,o,u,x,y,v⟩ hl;try?;refine%[rfl,p,m,D,rfl,H,n,o,u,x|λ a j l1=>?_];have C:=cB u j.nl;try?;refine%[rfl,p,m,E,rfl,H,n,o,C,y|λ b r l2=>?_];have f:(%[|18]++[%[|65]])[S.length]? =some %[|61]:=dj rfl;have g:(%[|18]++[%[|65]])[%[|18].length]? =some %[|65]:=aH _ _;have G:%[|18]++[%[|65]]=S++([%[|61]]++[%[|65]]):=ck ..;have J:=SX j r;have L:=(z0.mp f).1;have M:=(z0.mp g).1;try?;refine%[S.length,a,rfl,f|?_];try?;refine%[_,b,rfl,g|?_];generalize %[|18].length=k2 at*;generalize hTT:%[|18]++[%[|65]]=T at*;generalize bV (D.map (xAt p))=H1 at*;generalize bV (E.map (xAt p))=H2 at*;generalize hks:a.map (·.1)++b.map (·.1)=ks at*;try?;have s:(a.map (·.1)).map cD++(b.map (·.1)).map cD=ks.map cD:=by rw[<-hks,da]
 rw[s];refine bc (LsA T p D E S.length k2 H1 H2 ks) %[none,none,rfl,(λ c h=>by rw[lm]at h;cases h)|rfl] ?_ ?_
 . rintro Y Z X w A O i e F K P ⟨Q,R,rfl,t,rfl⟩;obtain⟨c,I,rfl⟩:=bA P;try?;refine%[L|?_];try?;refine%[c,a,rfl,f|?_];have U:=z8 j c;have V:=z8 r c;try?;refine%[M|?_];try?;refine%[c,b,rfl,g|?_];dsimp only;rw[U,V];refine Yp ?_;by_cases z:toT H1 c=toT H2 c;{rw[cc z];try?;refine w _ _ _ %[_,_,rfl,λ d k=>?_|rfl];rw[aD I]at k;rcases cn.mp k with k | k;{exact t d k};{rw[cf.mp k];exact z}}
   . rw[cm z];have:(lg H1 H2).isNone=false:=by
      cases q:lg H1 H2 with
      | some _=>rfl
      | none=>exact absurd (J.mp q c (y4 I)) z
     rw[this]at v;try?;exact A _ _ (.inr %[_,S,G,y9 _,rfl,u|v])
 {rintro F K ⟨Q,R,rfl,t,rfl⟩;rw[y7,cy]at t;rw[J.mpr t]at v;try?;exact .inr %[_,S,G,y9 _,rfl,u|v]}
def Vg{V}{rs:List (Int×Cel)}(h:rs[k]? =some r):iI V (rs.take (k+1)) a=iI V (rs.take k) a+r.1*V r.2:=by unfold iI;rw[aD h,kn];rfl
inductive c_worth(ds:List D)(S:Store)(W:WD):Prop
 | mk(x:Dd)(cs:af1)(h:Nat)(hz:Fz)(V:Cel->Int):ds=[dDd x,dC cs,.lst (x.rds.map λ r=>aF (spot r.tab r.pl cs)),.dlo h]->x.st.2.length<=1000->C64 cs->S[h]? =some (fzD hz)->(∀z,(ak hz z).getD 0=V z)->(∀z,Grt (V z))->(∀r∈bH x cs,r.1.natAbs<=2 ^ 100)->W (.int (iI V (bH x cs) (atC x.st cs))) S->c_worth ds S W
def Eg(B:%[|2])(g:bL Ω c_comes):OkF Ω "worth_of" rF 2 HN c_worth:=by
 refine aJ (N:=GJ) (Jh B g) %[|6] ?_;rintro K S W ⟨x,b,h,t,V,rfl,o,l,s,C,z,n,G⟩ L;have m:=(z0.mp s).1;try?;refine%[rfl,x.st.1,x.st.2,b,rfl,o,l|?_];try?;have w:List.zipWith (λ x y=>D.tup [x,y]) (x.rds.map dRd) (x.rds.map λ r=>aF (spot r.tab r.pl b))=x.rds.map λ r=>D.tup [dRd r,aF (spot r.tab r.pl b)]:=by rw[List.zipWith_map,List.zipWith_self]
 rw[w];have j:comesTo x.st.1 x.st.2 b=atC x.st b:=rfl;rw[j];generalize atC x.st b=st at*;refine bc (λ i f T=>∃p q,T=S/\f=[some (dDd x),some (dC b),some (.lst (x.rds.map λ r=>aF (spot r.tab r.pl b))),some (.dlo h),some (.int (iI V ((bH x b).take i) st)),p,q]) %[_,_,rfl|rfl] ?_ ?_
 . rintro I J H k _ _ i e f T E ⟨p,q,rfl,rfl⟩;obtain⟨r,F,rfl⟩:=bA E;have d:(bH x b)[i]? =some (r.fac,toC (spot r.tab r.pl b)):=by unfold bH;rw[y8,F];rfl
   have A:Grt r.fac:=ju (n _ (y4 d)) %[|1];have v:=Vg (V:=V) (a:=st) d;rw[show D.tup [dRd r,aF (spot r.tab r.pl b)]=D.tup [dRd r,cD (toC (spot r.tab r.pl b))]from rfl];generalize toC (spot r.tab r.pl b)=c at*;have u:=yS t c;rw[C c]at u;try?;refine%[rfl|?_];try?;refine%[m|?_];try?;refine%[c,aC t,rfl,s|?_];dsimp only;rw[u];refine%[%[A|z c]|?_];try?;exact k _ _ _ %[_,_,rfl|by rw[v];rfl]
 . rintro f T ⟨p,q,rfl,rfl⟩;have e:(x.rds.map λ r=>D.tup [dRd r,aF (spot r.tab r.pl b)]).length=(bH x b).length:=by unfold bH;rw[y7,y7]
   rw[e,cy];try?;exact G
def Ie(fa:Fz):aa (fzD fa)=true:=by show(true&&aa ((aC fa).map encC))=true;rw[ii];refine jM λ d a=>?_;unfold aC at a;rw[dr]at a;obtain⟨z,_,rfl⟩:=c9.mp a;show(aB (cD z.1)&&(true&&true))=true;rw[show aB (cD z.1)=(true&&(aa (z.1.2.map .int)&&true))from rfl,cg];rfl
inductive c_run(ds:List D)(S:Store)(W:WD):Prop
 | mk(p:Pg)(m:Nat)(o:af4)(f:Nat)(q:Option Cel):ds=[dPg p,.lst (dN o),.dlo f]->PgB m p->12<=m->m<=20->flat S->dh %[|10] o->S[f]? =some (fzD (qF q))->(∀ez:Fz,(∀c,(ak ez c).getD ((ak (qF q) c).getD 0)=jb q %[|22] c)->W %[|13] (S++[fzD ez]))->c_run ds S W
inductive RnA(S:Store)(p:Pg)(o:af4)(f:Nat)(q:Option Cel)(i:Nat)(Γ':Gam)(T:Store):Prop
 | mk(hz ez:Fz)(o7 o8 o9:Option D):T=S++[fzD hz]++[fzD ez]->(∀z,(ak hz z).getD 0=jb q (%[|22].take i) z)->(∀z,(ak ez z).getD ((ak (qF q) z).getD 0)=jb q (%[|22].take i) z)->hz.length<=i+1->ez.length<=i->Γ'=[some (dPg p),some (.lst (dN o)),some (.dlo f),some (.lst ((aQ p.nss).map dSt)),some (.lst ((au p).map λ x=>dCR (crs x))),some %[|13],some (.dlo (S.length+1)),o7,o8,o9]->RnA S p o f q i Γ' T
def WN(B:%[|2])(u:cu Ω c_steps)(l:cj Ω c_deedof)(k:aZ Ω c_cellsOf)(s:bR Ω c_refRow)(v:ie Ω c_worth):OkF Ω "run" M6 7 YL c_run:=by
 refine aJ (N:=Zh) (Bl.owq (ZD B u l k s v)) %[|6] ?_;rintro ds S W ⟨p,m,o,f,q,rfl,A,d,ac,G,hO,hf,hw⟩ hl;have g:m<=60:=%[|0]
 have ho:=Cr A d g hO;have Y:=ni A hO;try?;refine%[rfl,p,m,o,rfl,A,d,g,G,ho,hO|?_];try?;refine%[rfl|Dp A d g G (.inl ?_)];try?;refine%[rfl|lV A d g G ?_];rw[fG];try?;refine⟨f,aC (qF q),rfl,hf,by cases q<;>first | exact dk _ | exact y9 _,?_⟩;try?;refine bc (RnA S p o f q) ⟨qF q,[],none,none,none,rfl,λ z=>rfl,λ z=>rfl,by cases q<;>first | exact dk _ | exact y9 _,y9 _,by rw[x8];rfl⟩ ?_ ?_
 . rintro I1 R1 B1 L _ _ i e U T he ⟨j,c,o7,o8,o9,rfl,M,F,C,y,rfl⟩;obtain⟨t,H,rfl⟩:=nH he;have P:=hO.1 t (y4 H);have hi:=(z0.mp H).1;have Q:=mZ P;have h:=Y (xAt p t) (c9.mpr %[t,y4 H|rfl]);have O:=Z0 Y q i;have K:2 ^ (108*i)<=2 ^ 50000:=mf %[|1] %[|0];have J:jb q (%[|22].take (i+1))=stepV (jb q (%[|22].take i)) (xAt p t):=by rw[aD (by rw[y8,H];rfl),rO]
   obtain⟨⟨si,sc,sd⟩,n,Z,k2,k3,R⟩:=yX Q;have R:sc=(xAt p t).2:=R;subst R;have X:atI ((aQ p.nss).map dSt) ((t:Nat):Int)=some (dSt (si,(xAt p t).2,sd)):=bW (by rw[y8,Z];rfl);have E:atI ((au p).map λ x=>dCR (crs x)) ((t:Nat):Int)=some (dCR (crs (xAt p t))):=bW (by rw[y8,Q];rfl);generalize jb q (%[|22].take i)=V at*;generalize xAt p t=x at Q h J Z k2 k3 X E;have gV:∀z,Grt (V z):=λ z=>ju (d6 (O z) K) %[|1];have w:∀a b:List D,(S++[a]++[b])[S.length]? =some a:=λ a b=>dj rfl;have I:∀a b:List D,(S++[a]++[b])[S.length+1]? =some b:=λ a b=>by have:=aH (S++[a]) b;rw[x8]at this;exact this
   have aa:(aC j).length=j.length:=by unfold aC;rw[y7]
   have ab:(aC c).length=c.length:=by unfold aC;rw[y7]
   try?;refine%[_,X|?_];try?;refine%[rfl,p,(si,x.2,sd),n,x.1,rfl,k2,k3|?_];try?;refine%[_,E|?_];try?;refine%[rfl,x.1,x.2,S.length,j,V,?_,h.n2,h.c64,w _ _,M,gV,λ r hr=>(h.rs r hr).1|?_]
   . have e:(crs x).2.map aF=x.1.rds.map λ r=>aF (spot r.tab r.pl x.2):=by unfold crs;rw[dr];rfl
     rw[e]
   try?;refine%[_,E|?_];try?;refine%[wrH x,aC j,rfl,w _ _,%[|0]|?_];rw[oX,show S++[fzD j]++[fzD c]=S++[fzD j]++[fzD c]from rfl,gQ rfl];try?;refine%[_,E|?_];try?;refine%[wrH x,aC c,rfl,I _ _,%[|0]|?_];rw[oX,gM (by rw[x8];rfl)];try?;refine L _ _ _ %[_,_,_,_,_,rfl,λ z=>?_,λ z=>?_,?_,?_|rfl];{rw[J,rJ];unfold stepV;by_cases e:z=wrH x;{rw[ci e,ci e];rfl};{rw[c8 e,c8 e];exact M z}};{rw[J,rJ];unfold stepV;by_cases e:z=wrH x;{rw[ci e,ci e];rfl};{rw[c8 e,c8 e];exact F z}};{exact d6 (vZ _ _ _) (Nat.succ_le_succ C)};{exact d6 (vZ _ _ _) (Nat.succ_le_succ y)}
 . rintro U T ⟨j,c,o7,o8,o9,rfl,M,F,C,y,rfl⟩;have eo:%[|22].take (dN o).length=%[|22]:=by rw[eE,cS (by rw[y7];exact y9 _)]
   rw[eo]at F;try?;exact .inr %[true,[fzD j]++[fzD c],S,S.length+1,fzD c,rfl,by rw[ck],y9 _,jp _,by have:=aH (S++[fzD j]) (fzD c);rw[x8]at this;exact this,Ie c,G|hw c F]
def V9(w:W true S):bh .Eq (.tup [.str "alike"]) (.tup [.str "alike"]) S W:=by unfold bh;exact%[%[rfl,rfl|show deep (.tup [.str "alike"])<=50 from %[|1]]|w]
def Zb(w:W false S):bh .NotEq (.str "unlike") (.str "unlike") S W:=aad rfl rfl %[|1] w
def oV(h:flat S)(g:flat J):flat (S++J):=λ l a=>(cn.mp a).elim (h l) (g l)
def adq(q:Option Cel):aa (fzD (qF q))=true:=Ie _
def X7(l:List (Cel×Int))(c:Cel)(k:Int):(aK (aC l) c).getD (.int k)=.int ((ak l c).getD k):=by rw[dB];cases ak l c<;>rfl
inductive c_ends(ds:List D)(S:Store)(W:WD):Prop
 | mk(p:Pg)(m:Nat)(o1 o2:af4):ds=[dPg p,.lst (oK p),.lst (dN o1),.lst (dN o2)]->PgB m p->12<=m->m<=20->flat S->dh %[|10] o1->dh %[|10] o2->W (.bl true) S->c_ends ds S W
def xF(B:%[|2])(u:BR Ω c_run)(t:j4 Ω c_cmp)(w:wO Ω c_same):OkF Ω "_law_ends_right" m7 9 BZ c_ends:=by
 refine aJ (N:=zy) (Bl.drp (zM B u t w)) %[|6] ?_;rintro ds S W ⟨p,m,o,r,rfl,f,a,b,s,d,e,O⟩ hl;have aa:m<=60:=%[|0]
 have K:=nu f a b;have l:=jN f a b d;have n:=jN f a b e;have C:1<=2 ^ 50000:=kw %[|1];have R:=λ q=>Tv K (ni f d) q o.length;have U:=λ q=>Tv K (ni f e) q r.length;rw[cS (by rw[y7];exact y9 _)]at R U;have⟨B,hBB⟩:∃B,B=(2:Nat) ^ 50000:=%[_|rfl];rw[<-hBB]at l n C;try?;refine%[rfl,p,m,o,r,rfl,f,a,b,s,d,e,λ hn J v=>?_|λ c q P Q L hq G H J j M ab v=>?_];{try?;refine%[rfl,p,m,o,r,rfl,f,a,b,oV s v,d,e|?_];rw[hn];try?;refine V9 ?_;exact .inr %[J,S,rfl,y9 _,rfl,s|O]}
 . have E:toT (bV %[|22]) c≠toT (bV (r.map (xAt p))) c:=by have:=k8 L;exact cE this
   have nn:P≠Q:=by rw[G,H,hq];exact adE (yG l C c).1 (yG n C c).1 E
   have r1:P=jb q %[|22] c:=by rw[G,Oa l,R]
   have r2:Q=jb q (r.map (xAt p)) c:=by rw[H,Oa n,U]
   have ql:(aC (qF q)).length<=1:=by cases q<;>first | exact dk _ | exact y9 _
   have jl:=(z0.mp M).1;have q1:=yS (qF q) c;try?;refine%[rfl,p,m,o,r,rfl,f,a,b,oV s v,d,e|?_];rw[L];try?;refine Zb ?_;try?;rw[cm nn];try?;refine%[j,aC (qF q),rfl,M,ql|?_];have g:(S++J++[D.non::List.map encC (aC (qF q))])[(S++J).length]? =some (fzD (qF q)):=aH (S++J) (fzD (qF q));have I:flat (S++J++[D.non::List.map encC (aC (qF q))]):=cB (oV s v) (adq q);generalize hT:S++J++[D.non::List.map encC (aC (qF q))]=T at*;generalize (S++J).length=k at*;have F:=(z0.mp g).1;try?;refine%[F|?_];try?;refine%[c,aC (qF q),rfl,g|?_];dsimp only;rw[q1];try?;refine%[rfl,p,m,o,k,q,rfl,f,a,b,I,d,g|λ h Y=>?_];have V:=Y c;have x:=aH T (fzD h);have A:flat (T++[fzD h]):=cB I (Ie h);have y:(T++[fzD h])[k]? =some (fzD (qF q)):=by rw[x9 F];exact g
   try?;refine%[by rw[x8];exact iL _|?_];try?;refine%[c,aC h,rfl,x|?_];dsimp only;rw[X7 h c,V,<-r1];try?;rw[cc rfl];try?;refine%[rfl,p,m,r,k,q,rfl,f,a,b,A,e,y|λ i Z=>?_];have X:=Z c;have z:=aH (T++[fzD h]) (fzD i);try?;refine%[by rw[x8 (as:=T++[fzD h])];exact iL _|?_];try?;refine%[c,aC i,rfl,z|?_];dsimp only;rw[X7 i c,X,<-r2];try?;rw[cc rfl];refine .inr %[J++[D.non::List.map encC (aC (qF q))]++[fzD h]++[fzD i],S,?_,y9 _,rfl,s|O];rw[<-hT];simp only[ck]
def aa6(o:af4)(v:Nat):cutD (dN o) none (some (v:Int))=dN (o.take v):=by
 unfold cutD dN;have a:HT.sIx (o.map λ(t:Nat)=>D.int (t:Int)).length 0 none=0:=rfl;have b:HT.sIx (o.map λ(t:Nat)=>D.int (t:Int)).length (o.map λ(t:Nat)=>D.int (t:Int)).length (some (v:Int))=min v o.length:=by rw[HT.sIx_nat,y7]
 rw[a,b,List.drop_zero,<-pj,Nat.sub_zero];by_cases h:v<=o.length;{rw[Nat.min_eq_left h]};{rw[Nat.min_eq_right %[|0],cS (y9 _),cS %[|0]]}
def aaI(o:af4)(v:Nat):cutD (dN o) (some (v:Int)) none=dN (o.drop v):=by
 unfold cutD dN;have a:HT.sIx (o.map λ(t:Nat)=>D.int (t:Int)).length 0 (some (v:Int))=min v o.length:=by rw[HT.sIx_nat,y7]
 have b:HT.sIx (o.map λ(t:Nat)=>D.int (t:Int)).length (o.map λ(t:Nat)=>D.int (t:Int)).length none=o.length:=by show(o.map λ(t:Nat)=>D.int (t:Int)).length=_;rw[y7]
 rw[a,b,<-List.map_drop];by_cases h:v<=o.length;{rw[Nat.min_eq_left h,cS (by rw[y7,nK];exact y9 _)]};{rw[Nat.min_eq_right %[|0],ox,lm,List.drop_eq_nil_of_le %[|0]];rfl}
def Sh(a b:af4):dN a++dN b=dN (a++b):=(da ..).symm
def ahJ(n i j:Nat):List Nat:=%[|31].take i++[j]++(%[|31].drop i).filter λ t=>t !=j
def acn(l:af4)(j:Nat):(dN l).filter (λ d=>!(match d with | .int k=>decide (k=(j:Int)) | _=>false))=dN (l.filter λ t=>t !=j):=by
 induction l with
 | nil=>rfl
 | cons a l b=>
   show(D.int (a:Int)::dN l).filter _=_;rw[kG,kG];by_cases e:a=j;{subst e;simp only[decide_true,pu,fm,de,en];exact b}
   . have c:(a !=j)=true:=by simp[e]
     have f:decide ((a:Int)=(j:Int))=false:=cm %[|0];simp only[f,c,Bool.not_false,h9];rw[b];rfl
def zJ(h:i<=j)(a:j<n):j∈%[|31].drop i:=by
 have e:(%[|31].drop i)[j-i]? =some j:=by rw[pb,List.getElem?_range %[|0]];congr 1;omega
 exact y4 e
def W2(h:i<j)(b:j<n):(ahJ n i j).Perm %[|31]:=by
 have d:(%[|31].drop i).Nodup:=ma.sublist (po _ _);have c:=zJ (eR h) b;have a:=(List.perm_cons_erase c).symm;rw[List.Nodup.erase_eq_filter d]at a;have e:%[|31]=%[|31].take i++%[|31].drop i:=(iX ..).symm;unfold ahJ;rw[ck];conv=>rhs;rw[e]
 exact a.append_left _
def JD{A B:af4}(h:t∉A):(A++B).idxOf t=B.idxOf t+A.length:=by rw[List.idxOf_append,c8 h]
def acv(h:i<j)(c:j<n):(ahJ n i j).idxOf j<(ahJ n i j).idxOf i:=by
 have f:(%[|31].take i).length=i:=by rw[ej,fq];omega
 have a:∀t,i<=t->t∉%[|31].take i:=λ t d b=>by rw[List.take_range,dA]at b;omega
 unfold ahJ;have e:(j==i)=false:=%[|16]
 rw[ck,JD (a j %[|0]),JD (a i (y9 _))];show(j::_).idxOf j+_<(j::_).idxOf i+_;rw[List.idxOf_cons_self,List.idxOf_cons,e];simp only[cond_false];omega
def Ph(a b:CR):(!(ssC a b).isEmpty)=iG a b:=by rw[<-YT,show((ssC a b).map cD).isEmpty=(tch a b).isEmpty from HW (tch a b),Ot]
def Rt{a b:CR}(h:i<j)(f:xs[i]? =some a)(d:xs[j]? =some b)(c:iG a b=true):(i,j,ssC a b)∈cQ xs xs.length:=by have g:=(z0.mp d).1;refine eL.mpr %[i,dA.mpr %[|0]|eL.mpr %[j-(i+1),dA.mpr %[|0]|?_]];rw[show i+1+(j-(i+1))=j from %[|0],zq f d,c8];{exact cf.mpr rfl};{rw[<-Ph]at c;intro e;rw[e]at c;cases c}
def UT(h:q∈cQ xs xs.length):q.1<q.2.1/\∃a b,xs[q.1]? =some a/\xs[q.2.1]? =some b/\iG a b=true:=by
 obtain⟨i,c,h⟩:=eL.mp h;obtain⟨t,f,h⟩:=eL.mp h;have c:=dA.mp c;have f:=dA.mp f;have d:i+1+t<xs.length:=%[|0]
 rw[zq (y3 c) (y3 d)]at h;split at h;{cases h}
 . rename_i z;rw[cf]at h;subst h;refine%[by show i<i+1+t;omega,_,_,y3 c,y3 d|?_];rw[<-Ph]
   cases e:(ssC xs[i] xs[i+1+t]).isEmpty with
   | true=>exact absurd e z
   | false=>rfl
def Zc{a b:CR}(h:i<j)(g:xs[i]? =some a)(k:xs[j]? =some b)(m:iG a b=true)(l:o.idxOf j<o.idxOf i):∃q,brk o (cQ xs xs.length)=some q/\q.1<q.2/\o.idxOf q.2<o.idxOf q.1/\∃a b,xs[q.1]? =some a/\xs[q.2]? =some b/\iG a b=true:=by
 unfold brk
 cases e:(cQ xs xs.length).find? λ q=>decide (o.idxOf q.2.1<o.idxOf q.1)with
 | none=>have:=gy.mp e _ (Rt h g k m);exact absurd (cc l) this
 | some q=>obtain⟨d,f⟩:=UT (gE e);have c:=k8 e;have c:o.idxOf q.2.1<o.idxOf q.1:=cE c;exact%[_,rfl,d,c|f]
def Vc(b:o.Nodup)(a:t∈o)(d:m<o.idxOf t)(f:o[m]? =some u):u≠t:=by intro e;subst e;have c:=List.idxOf_lt_length_of_mem a;exact uf b d c (by rw[f,nO a])
def Yb{P:Nat->Prop}(b:o.Nodup)(a:t∈o)(w:P (o.idxOf t)):cz (dN o)=true/\okD (vw S (.int (t:Int)))=true/\aY (dN o)<=50/\∃(j:Nat) (y:D),(dN o)[j]? =some y/\eqD y (vw S (.int (t:Int)))=true/\(∀(m:Nat)(z:D),m<j->(dN o)[m]? =some z->eqD z (vw S (.int (t:Int)))=false)/\P j:=by refine%[by rw[zj];exact lW _,rfl,by rw[zj,ik];omega,o.idxOf t,_,acZ (nO a),?_,λ m z c e=>?_|w];{show eqD (.int (t:Int)) (.int (t:Int))=true;simp[eqD]};{obtain⟨u,d,rfl⟩:=nH e;have:=Vc b a c d;show eqD (.int (u:Int)) (.int (t:Int))=false;simp[eqD];omega}
inductive c_turn(ds:List D)(S:Store)(W:WD):Prop
 | mk(p:Pg)(m i j:Nat)(x y:%[|24]):ds=[dPg p,.lst (oK p),.int (i:Int),.int (j:Int)]->PgB m p->12<=m->m<=20->flat S->i<j->(au p)[i]? =some x->(au p)[j]? =some y->iG (crs x) (crs y)=true->W (.bl true) S->c_turn ds S W
def uW(B:%[|2])(v:tU Ω c_plain)(w:mG Ω CK)(s:gW Ω c_broken)(u:zQ Ω c_led)(F:iQ Ω c_ends):OkF Ω "_law_turned_right" kZ 10 wH c_turn:=by
 refine aJ (N:=wX) (wD B v w s u F) %[|6] ?_;rintro ds S W ⟨p,m,i,j,x,y,rfl,r,c,G,z,g,hx,P,O,hw⟩ hl;have f:m<=60:=%[|0]
 have hN:=dg r c f;have M:=(z0.mp P).1;have n:=W2 g M;have I:=acv g M;have Z:((au p).map crs).length=%[|10]:=y7 _;obtain⟨q,H,E,K,a,b,U,V,qt⟩:=Zc (xs:=(au p).map crs) g (by rw[y8,hx];rfl) (by rw[y8,P];rfl) O I;rw[Z]at H;try?;refine%[rfl,p,m,rfl,r,c,f,z|?_];try?;rw[aa6];refine%[by rw[eE,ej,fq];show _+1<=_;omega|?_];try?;rw[aaI];have R:((List.range %[|10]).drop i).length<=60:=by rw[nK,fq];omega
 refine ac7 (λ d=>!(match d with | .int k=>decide (k=(j:Int)) | _=>false)) id (by rw[eE];omega) ?_ ?_;{intro k d hd Q Q' X Y;obtain⟨t,O,rfl⟩:=nH hd;try?;by_cases e:(t:Int)=(j:Int);{rw[cc e];try?;exact Y (by show(!decide ((t:Int)=(j:Int)))=false;rw[cc e];rfl)};{rw[cm e];try?;exact X (by show(!decide ((t:Int)=(j:Int)))=true;rw[cm e];rfl)}};rw[List.map_id,acn];try?;have L:dN ((List.range %[|10]).take i)++[D.int (j:Int)]++dN (((List.range %[|10]).drop i).filter λ t=>t !=j)=dN (ahJ %[|10] i j):=by rw[show[D.int (j:Int)]=dN [j]from rfl,Sh,Sh];rfl
 have T:=eC List.length L;rw[x8,eE (ahJ _ _ _),Ik n]at T;refine%[by rw[T];omega|?_];rw[L];generalize ahJ %[|10] i j=o at*;have hQ:=uh n;have J:dh %[|10] (List.range %[|10]):=uh (.refl _);try?;refine%[rfl,p,m,o,rfl,r,c,f,z,n|?_];rw[H];obtain⟨h,l⟩:=q;rw[y8]at U V;obtain⟨x1,A,rfl⟩:=ix.mp U;obtain⟨y1,C,rfl⟩:=ix.mp V;have l1:=(z0.mp A).1;have R:=(z0.mp C).1;try?;refine%[rfl,p,m,o,(h,l),rfl,r,c,f,z,n,H|?_];try?;rw[cm (show ¬(l:Int)<=(h:Int)from by have:h<l:=E;omega)];try?;refine%[rfl,p,m,h,l,x1,y1,rfl,r,c,f,z,A,C|?_];rw[cm (show ¬h=l from cr E),qt];try?;refine Yb hQ.2 (v4 n l1) ?_;try?;refine Yb hQ.2 (v4 n R) ?_;try?;rw[cm (show ¬((o.idxOf h:Nat):Int)<((o.idxOf l:Nat):Int)from by have:o.idxOf l<o.idxOf h:=K;omega)];try?;exact%[rfl,p,m,o,List.range %[|10],rfl,r,c,G,z,hQ,J|hw]
def Vu(a:PgB m p):∀z∈au p,z.1.rds.length<=1000:=λ z b=>by have:=(Gj a b).l3;omega
def lr(l:List D)(a b:ag3):(cutD l a b).Sublist l:=by unfold cutD;exact(kS _ _).trans (po _ _)
inductive Gp(p:Pg)(d:D):Prop
 | mk(i j:Nat)(x y:%[|24]):d=.tup [.int (i:Int),.int (j:Int)]->i<j->(au p)[i]? =some x->(au p)[j]? =some y->iG (crs x) (crs y)=true->Gp p d
inductive LwA(S:Store)(p:Pg)(ns:af1)(k:Nat)(v6:Option D->Prop)(Γ':Gam)(T:Store):Prop
 | mk(l:List D)(o6 o7 o8:Option D):T=S++[l]->l.length<=k->(∀d∈l,Gp p d)->v6 o6->Γ'=[some (.lst (ns.map .int)),some (.loc 0),some (dPg p),some (.lst %[|87]),some (dPg p),%[|21],o6,o7,o8]->LwA S p ns k v6 Γ' T
def acd(B:%[|2])(z:iH Ω Hs)(G:Ak Ω c_penB)(t:bu Ω c_takeB)(H:mz Ω c_progB)(s:sI Ω c_stepsB)(u:tY Ω Gq)(w:gO Ω c_turn):OkF Ω "law" uo 11 adc yO:=by
 refine aJ (N:=acW) (ac0 B z G t H s u w) %[|6] ?_;rintro ds S W ⟨q,rfl,hn,hw,M⟩ n;subst M;try?;refine%[rfl,q,1,rfl,%[|1]|λ c=>?_];have p0:bK ([]++[mK q c 1]) 0:=%[q,c,1,by simp|%[|1]];have f0:flat ([]++[mK q c 1]):=cB (λ l n=>by cases n) (vC ..);generalize ([]++[mK q c 1]:Store)=S0 at*;try?;refine%[rfl,0,16,rfl,p0,f0,%[|1],%[|1]|λ p I D u2 p2 K=>?_];try?;refine%[rfl,p,16,rfl,D,%[|1],K|.inl ?_];try?;refine%[rfl|XD D %[|1] %[|1] K ?_];have hN:=dg D %[|1] %[|1];have Z:=Vu D;have Y:=G9 p;rw[Y];try?;rw[y7];refine%[%[|40]|?_];refine bc (λ i=>LwA I p q (i*60) λ _=>True) %[[],none,none,none,rfl,dk _,(λ d f=>nomatch f),trivial|rfl] ?_ ?_
 . rintro I1 R1 B1 L _ _ i e r T O ⟨l,X,E,F,rfl,n,g,_,rfl⟩;obtain⟨hi,rfl⟩:=cP O;rw[show(0:Int)+(i:Int)=(i:Int)from %[|0]];have U:=y3 (l:=au p) (i:=i) %[|0];have r1:=Z _ (y4 U);generalize (au p)[i]'_=x at*;have bx:atI %[|87] ((i:Nat):Int)=some (dJ x.2 x.1):=bW (by rw[y8,U];rfl);try?;rw[y7];refine%[%[|40]|?_];refine bc (λ k=>LwA I p q (i*60+k) λ o=>o=some (.int (i:Int))) %[l,some (.int (i:Int)),E,F,rfl,n,g,rfl|rfl] ?_ ?_
   . rintro I2 R2 B2 C _ _ k e r T O ⟨l,X,E,F,rfl,n,g,rfl,rfl⟩;obtain⟨hk,rfl⟩:=cP O;rw[show(i:Int)+1+(k:Int)=((i+1+k:Nat):Int)from %[|0]];have V:=y3 (l:=au p) (i:=i+1+k) %[|0];have r2:=Z _ (y4 V);generalize (au p)[i+1+k]'_=y at*;have bY:atI %[|87] ((i+1+k:Nat):Int)=some (dJ y.2 y.1):=bW (by rw[y8,V];rfl);try?;refine%[_,bx|?_];try?;refine%[_,bY|?_];try?;refine%[rfl,x,y,rfl,r1,r2|?_]
     cases tb:iG (crs x) (crs y)with
     | false=>try?;exact C _ _ _ %[l,_,_,_,rfl,%[|0],g,rfl|rfl]
     | true=>try?;refine%[l,aH _ _,%[|0]|?_];rw[b8];try?;refine C _ _ _ %[_,_,_,_,rfl,by rw[x8];show l.length+1<=_;omega,λ d f=>?_,rfl|rfl];rcases cn.mp f with f | f;{exact g d f};{rw[cf.mp f];exact%[i,i+1+k,x,y,rfl,%[|0],U,V|tb]}
   . rintro r T ⟨l,X,E,F,rfl,n,g,rfl,rfl⟩;have ac:(DL.upTo ((i:Int)+1) ((%[|10]:Int)-((i:Int)+1)).toNat).length<=60:=by unfold DL.upTo;rw[y7,fq];omega
     try?;exact L _ _ _ %[l,_,_,_,rfl,%[|0],g,trivial|rfl]
 . rintro r T ⟨l,X,E,F,rfl,n,g,_,rfl⟩;have ab:(DL.upTo 0 (%[|10]:Int).toNat).length<=60:=by unfold DL.upTo;rw[y7,fq];omega
   have aa:l.length<=3600:=%[|0]
   try?;refine%[l,aH _ _|?_];try?;refine bw (p2.app _) %[|0] %[|0] λ v T v0 v1 u3 p3=>?_;obtain⟨J,rfl,u5,p5⟩:=u3.split p2;obtain⟨m,rfl⟩:∃m:Nat,v=(m:Int):=%[v.toNat|%[|0]];have f5:=u5.flat K;have A:(J++[l])[I.length]? =some l:=by have:=aH J l;rw[u5.len]at this;exact this
   have sb:∀a b,(cutD l a b).length<=l.length:=λ a b=>(lr l a b).length_le;have f6:flat (J++[l]):=cB f5 (jM λ d f=>by obtain⟨i,j,x,y,rfl,_⟩:=g d f;rfl);try?;refine%[l,A|?_];try?;refine%[l,A|?_];have s1:=sb (some (m:Int)) none;have s2:=sb none (some (m:Int));have P:∀d∈cutD (cutD l (some (m:Int)) none++cutD l none (some (m:Int))) none (some 16),Gp p d:=λ d f=>by rcases cn.mp ((lr _ _ _).subset f)with h | h;{exact g d ((lr _ _ _).subset h)};{exact g d ((lr _ _ _).subset h)}
   have s3:=(lr (cutD l (some (m:Int)) none++cutD l none (some (m:Int))) none (some 16)).length_le;rw[x8]at s3;walk_at "n";refine%[%[|0]|?_];try?;generalize cutD (cutD l (some (m:Int)) none++cutD l none (some (m:Int))) none (some 16)=zs at*;refine fC (λ _=>.bl true) %[|0] ?_ ?_;{intro k d f Q hQ;obtain⟨i,j,x,y,rfl,R,hx,hy,ht⟩:=P d (y4 f);try?;refine%[rfl|?_];try?;exact%[rfl,p,16,i,j,x,y,by rw[Y],D,%[|1],%[|1],f6,R,hx,hy,ht|hQ]};try?;have ea:(zs.map λ _=>true).all id=true:=by simp
   refine%[zs.map λ _=>true,by rw[dr];rfl|?_];rw[ea];exact hw _
end K41
namespace K41
open PySem PySem.Spec L2 DL RF
open PyProof.Rows
variable{Ω:Wd}{f:Addr}{fd:FuncData}
def by1{G:List Value->Prop}(h:∀a0:Value,G [a0])(a:af5)(e:a.length=1):G a:=by obtain⟨a0,a,rfl⟩:=dE e;replace e:=iA e;obtain rfl:=fb e;exact h a0
def by2{G:List Value->Prop}(h:∀a0 a1:Value,G [a0,a1])(a:af5)(e:a.length=2):G a:=by obtain⟨a0,a,rfl⟩:=dE e;replace e:=iA e;obtain⟨a1,a,rfl⟩:=dE e;replace e:=iA e;obtain rfl:=fb e;exact h a0 a1
def by3{G:List Value->Prop}(h:∀a0 a1 a2:Value,G [a0,a1,a2])(a:af5)(e:a.length=3):G a:=by obtain⟨a0,a,rfl⟩:=dE e;replace e:=iA e;obtain⟨a1,a,rfl⟩:=dE e;replace e:=iA e;obtain⟨a2,a,rfl⟩:=dE e;replace e:=iA e;obtain rfl:=fb e;exact h a0 a1 a2
def by4{G:List Value->Prop}(h:∀a0 a1 a2 a3:Value,G [a0,a1,a2,a3])(a:af5)(e:a.length=4):G a:=by obtain⟨a0,a,rfl⟩:=dE e;replace e:=iA e;obtain⟨a1,a,rfl⟩:=dE e;replace e:=iA e;obtain⟨a2,a,rfl⟩:=dE e;replace e:=iA e;obtain⟨a3,a,rfl⟩:=dE e;replace e:=iA e;obtain rfl:=fb e;exact h a0 a1 a2 a3
inductive FI(K:af0)(x:Str)(t:Stmt):Prop
 | mk{f:Addr}{oc:Value}{od:ag8}{kV dc pm:Value}{an:ag8}{cd ct:Value}{sl:ag5}(a:PySem.W.nsIn K mainGlobals x=some (some (.ref f)))(l:K.lookup f=some %[oc,od,.func (PySem.W.fnOf x x (iK t) (dY t) (bj t) .none kV dc pm an cd ct)|sl])(c:PySem.W.codeIn K cd x=true)(k:PySem.W.keepIn K (.ref f)=true):FI K x t
def use(X:Ω.K.In h)(G:h.Ns mainGlobals Ω.mg)(i:Ω.cd=none)(q:FI Ω.K x t)(o:OkF Ω x t k ps F)(b:∀(m f p:Value)(j:ag8)(e ct:Value)(g:af5),g.length=ps.length->bindArgs (PySem.W.fnOf x x (iK t) (dY t) (bj t) .none m f p j e ct) %[g|[]]=pure (ps.zip g)):Cal Ω x k ps.length F:=by obtain⟨a,l,c,n⟩:=q;have d:=Rk (st:=t) l c n;exact callee d (o d i) (PySem.W.mg_of X G a) (d.binds b)
def all_mk{l:PySem.W.OpenLaw}{K}(X:K.In h)(G:h.Ns mainGlobals mg)(aX:mg "law"=some (.ref fa))(q:FI K "law" uo)
(q0:FI K "is_whole" rT)
(q1:FI K "is_tuple_of" mj)
(q2:FI K "is_widths" pW)
(q3:FI K "is_form" vI)
(q4:FI K "is_bound" rR)
(q5:FI K "is_loop" vH)
(q6:FI K "is_loops" sX)
(q7:FI K "has_few_figures" iB)
(q8:FI K "is_start" sS)
(q9:FI K "is_place_form" jC)
(aY:FI K "is_table_with_place" gn)
(aZ:FI K "is_read" vM)
(a0:FI K "is_reads" tH)
(a1:FI K "is_deed" vK)
(a2:FI K "is_nest" vG)
(a3:FI K "is_nests" rY)
(a4:FI K "comes_to" rH)
(a5:FI K "with_next_count" iy)
(a6:FI K "counts_of" pP)
(a7:FI K "number_of_steps" iu)
(a8:FI K "program_of" mX)
(a9:FI K "_law_cell" Jl)
(ba:FI K "_law_pen" Oc)
(bb:FI K "_law_take" HH)
(bc:FI K "_law_loops" Dh)
(bd:FI K "_law_form" HR)
(be:FI K "_law_deed" Il)
(bf:FI K "_law_program" vJ)
(bg:FI K "_law_at" Ua)
(bh:FI K "_law_counts" yR)
(bi:FI K "_law_spot" Js)
(bk:FI K "_law_steps" Ds)
(bl:FI K "_law_touch" Ci)
(bm:FI K "plain" CN)
(bn:FI K "steps_of" t8)
(bo:FI K "deed_of" vo)
(bp:FI K "cell_at" vP)
(bq:FI K "cells_of_step" jz)
(br:FI K "cells_of" rC)
(bs:FI K "touched_cells" jA)
(bt:FI K "touches" vN)
(bu:FI K "pairs" Dl)
(bv:FI K "is_row" yU)
(bw:FI K "is_order" rP)
(bx:FI K "refuse_no_order" iz)
(bz:FI K "places_of" pU)
(bA:FI K "broken" xM)
(bB:FI K "led" Oj)
(bC:FI K "refuse_no_row" jE)
(bD:FI K "worth_of" rF)
(bE:FI K "run" M6)
(bF:FI K "trace_held" m6)
(bG:FI K "add_times" pR)
(bH:FI K "trace_of_step" jB)
(bI:FI K "told_trace" nC)
(bJ:FI K "traced" yC)
(bK:FI K "trace_by" rK)
(bL:FI K "unlike_parts" kj)
(bM:FI K "showing_filling" iw)
(bN:FI K "held_from" pY)
(bO:FI K "compared" sE)
(bP:FI K "_law_traces" yp)
(bQ:FI K "_law_same" G3)
(bR:FI K "_law_ends_right" m7)
(bS:FI K "_law_turned_right" kZ)
 (g:PySem.W.nsIn K mainGlobals "MOST_STEPS"=some (some (.int 60 d)))
 (P:PySem.W.nsIn K mainGlobals "abs"=some none)
 (Q:PySem.W.nsIn K mainGlobals "all"=some none)
 (C:PySem.W.nsIn K mainGlobals "bool"=some none)
 (D:PySem.W.nsIn K mainGlobals "dict"=some none)
 (j:PySem.W.nsIn K mainGlobals "enumerate"=some none)
 (R:PySem.W.nsIn K mainGlobals "int"=some none)
 (i:PySem.W.nsIn K mainGlobals "isinstance"=some none)
 (S:PySem.W.nsIn K mainGlobals "len"=some none)
 (E:PySem.W.nsIn K mainGlobals "list"=some none)
 (T:PySem.W.nsIn K mainGlobals "max"=some none)
 (U:PySem.W.nsIn K mainGlobals "min"=some none)
 (z:PySem.W.nsIn K mainGlobals "range"=some none)
 (V:PySem.W.nsIn K mainGlobals "set"=some none)
 (t:PySem.W.nsIn K mainGlobals "sorted"=some none)
 (W:PySem.W.nsIn K mainGlobals "sum"=some none)
 (A:PySem.W.nsIn K mainGlobals "tuple"=some none)
 (Y:PySem.W.nsIn K mainGlobals "zip"=some none)
 :∃fd:FuncData,(∀(s:af3)(v:Value),BindsTo s fd %[[v]|[]] [("_law_script",v)])/\∀base:Heap,K.In base->base.Ns mainGlobals mg->FnOk l.prog w K mg base CX0 11 fa fd ["_law_script"] (spC K 1 yO):=by obtain @⟨f,oc,od,kV,dc,pm,an,cd,ct,sl,a,l',c,k⟩:=q;have e:=aX.symm.trans (PySem.W.mg_of X G a);cases e;refine%[PySem.W.fnOf "law" "law" (iK uo) (dY uo) (bj uo) .none kV dc pm an cd ct,λ s v=>.of_eq rfl|λ base _ _=>?_];have B:Bi mg:=%[%[_|PySem.W.mg_of X G g],ef X G P,ef X G Q,ef X G C,ef X G D,ef X G j,ef X G R,ef X G i,ef X G S,ef X G E,ef X G T,ef X G U,ef X G z,ef X G V,ef X G t,ef X G W,ef X G A|ef X G Y];let Ω:Wd:=%[l.prog,w,K,mg,base|none];have n:=use (Ω:=Ω) X G rfl q0 (Eh B) %[|64];have b:=use (Ω:=Ω) X G rfl q1 (xg B) %[|63];have ax:=use (Ω:=Ω) X G rfl q2 (Ay B n b) %[|64];have x:=use (Ω:=Ω) X G rfl q3 (Jd B n b) %[|17];have ak:=use (Ω:=Ω) X G rfl q4 (Fv B x) %[|17];have am:=use (Ω:=Ω) X G rfl q5 (G4 b ak) %[|17];have ao:=use (Ω:=Ω) X G rfl q6 (DY B b am) %[|64];have I:=use (Ω:=Ω) X G rfl q7 (pg B) %[|64];have aw:=use (Ω:=Ω) X G rfl q8 (FQ B x I) %[|17];have as:=use (Ω:=Ω) X G rfl q9 (rM B x) %[|17];have L:=use (Ω:=Ω) X G rfl aY (j6 B n b as) λ _ _ _ _ _ _=>by4 λ _ _ _ _=>rfl;have au:=use (Ω:=Ω) X G rfl aZ (J9 n b I L) %[|63];have av:=use (Ω:=Ω) X G rfl a0 (Ft B b au) %[|63];have al:=use (Ω:=Ω) X G rfl a1 (Kz b aw L av) %[|63];have ap:=use (Ω:=Ω) X G rfl a2 (JR B b ao al) %[|17];have aq:=use (Ω:=Ω) X G rfl a3 (EY B b ap) %[|17];have p:=use (Ω:=Ω) X G rfl a4 (Ey B) %[|17];have aN:=use (Ω:=Ω) X G rfl a5 (pI B p) %[|63];have H:=use (Ω:=Ω) X G rfl a6 (zf aN) %[|64];have r:=use (Ω:=Ω) X G rfl a7 (pK B H) %[|64];have aC:=use (Ω:=Ω) X G rfl a8 (xX B ax aq r) %[|17];have Z:=use (Ω:=Ω) X G rfl a9 (Tf B) %[|17];have aU:=use (Ω:=Ω) X G rfl ba (XF Z) %[|17];have m:=use (Ω:=Ω) X G rfl bb (Ro Z) %[|17];have aT:=use (Ω:=Ω) X G rfl bc (Ra B m) %[|17];have aS:=use (Ω:=Ω) X G rfl bd (TV B m) %[|63];have aQ:=use (Ω:=Ω) X G rfl be (RD B m aS) %[|63];have aV:=use (Ω:=Ω) X G rfl bf (Jv B m aT aQ) %[|17];have O:=use (Ω:=Ω) X G rfl bg (aaf B) %[|17];have aP:=use (Ω:=Ω) X G rfl bh (Lj B O) %[|64];have aa:=use (Ω:=Ω) X G rfl bi (Uk B O) %[|63];have ab:=use (Ω:=Ω) X G rfl bk (Qi O aP aa) %[|64];have ac:=use (Ω:=Ω) X G rfl bl (Qh) %[|17];have aB:=use (Ω:=Ω) X G rfl bm (Pn B r) %[|64];have y:=use (Ω:=Ω) X G rfl bn (Ep B H) %[|64];have u:=use (Ω:=Ω) X G rfl bo (J5) %[|17];have ag:=use (Ω:=Ω) X G rfl bp (JS B p) %[|63];have ah:=use (Ω:=Ω) X G rfl bq (sW u ag) %[|17];have o:=use (Ω:=Ω) X G rfl br (Ed y ah) %[|64];have N:=use (Ω:=Ω) X G rfl bs (tX B) %[|17];have aH:=use (Ω:=Ω) X G rfl bt (Hb o N) %[|63];have az:=use (Ω:=Ω) X G rfl bu (PJ B o N) %[|64];have J:=use (Ω:=Ω) X G rfl bv (LQ B n r) %[|17];have ar:=use (Ω:=Ω) X G rfl bw (DX B r J) %[|17];have aD:=use (Ω:=Ω) X G rfl bx (oY ar) %[|17];have aA:=use (Ω:=Ω) X G rfl bz (Bk B) %[|64];have F:=use (Ω:=Ω) X G rfl bA (Mx az aD aA) %[|17];have ay:=use (Ω:=Ω) X G rfl bB (Vl F) %[|17];have M:=use (Ω:=Ω) X G rfl bC (rE J) %[|17];have aO:=use (Ω:=Ω) X G rfl bD (Eg B p) λ _ _ _ _ _ _=>by4 λ _ _ _ _=>rfl;have aE:=use (Ω:=Ω) X G rfl bE (WN B y u o M aO) %[|63];have aJ:=use (Ω:=Ω) X G rfl bF (yz) %[|17];have af:=use (Ω:=Ω) X G rfl bG (Ah) %[|63];have aK:=use (Ω:=Ω) X G rfl bH (tK B p aJ af) λ _ _ _ _ _ _=>by4 λ _ _ _ _=>rfl;have aG:=use (Ω:=Ω) X G rfl bI (yQ B) %[|64];have aL:=use (Ω:=Ω) X G rfl bJ (K6 y u o M aK aG) %[|17];have aI:=use (Ω:=Ω) X G rfl bK (Ea) %[|17];have aM:=use (Ω:=Ω) X G rfl bL (uX B) %[|17];have aF:=use (Ω:=Ω) X G rfl bM (oG aM) %[|17];have aj:=use (Ω:=Ω) X G rfl bN (Bv B) %[|17];have ai:=use (Ω:=Ω) X G rfl bO (Fw B aL aI aF aj) %[|63];have ad:=use (Ω:=Ω) X G rfl bP (M4 B) %[|17];have aW:=use (Ω:=Ω) X G rfl bQ (RT B ad) %[|63];have aR:=use (Ω:=Ω) X G rfl bR (xF B aE ai aW) λ _ _ _ _ _ _=>by4 λ _ _ _ _=>rfl;have ae:=use (Ω:=Ω) X G rfl bS (uW B aB aH F ay aR) λ _ _ _ _ _ _=>by4 λ _ _ _ _=>rfl;exact acd (Ω:=Ω) B aC aU m aV ab ac ae (Rk (st:=uo) l' c k) rfl
end K41
local macro_rules|`(universe $[$x]*)=>do return Lean.mkNullNode (←x.mapM fun i=>do
 let n:=Lean.mkIdent (.mkSimple s!"tw{i.getId.toString.toList.tail.foldl (fun a c=>a*62+c.toNat-if c.isDigit then 48 else if c.isUpper then 55 else 61) 0}")
 `(def $n:ident:=()))
namespace PySem.W.Fast
universe uGng9aXOe5r1 u9PJ0oOOldOd uGZrgKERLP6L uGIDuKnh6qea uAQtIF0BXWXH u5ot5nlHl3X2 u58Bq9QyZ2a8 u3zDwIz5nt9s u9zfsKFnC3OT u5qqxi3D0jom uF6YAB3zIhbq uDAbWHLY6LVE u2evRGRx7XWp uHAQ88xpJKbh u6l1gfkhLEXn uGydVc1Q27tG uLoZ9JeIM1tV u7rUfSwgyt0M uBJSzMDw1EcR uDYZ1e2Kvptw uDBx4ObCDffv u1iSEH7GfF5K uDXMDpgCPYnF uHCCZieVMZoO uHlehq2KgdUL uFVfIoAXyQWl uLFk5PhZpe2A uIwFj8r3r38Y uBDZ9RQ1oo7m u9BUufZPdBAH u1t7TsEzkv4S u1UalLBtiK5S uIZppXCOK833 u6Ih05TrR6Hh u9kjnevJWMoO uBRYovNa4obL u2qFjexgM9rl u2mjftzy5LNc uFBfZZIhw3c1 u8MkldsTb7Z9 u3RwYmIvYVRI uLiL08pPkfdA uJMkveeiOyrd u5XcBixamPjS uBLJKQR8yNaJ uCCz8aRajS5I u1jl0fwPi0n3 uG2dLy1wXVj1 u43LIxmSzqjp u3IPgU0Bl6Bb uBq8SjwliqYS uFtdX0R2nhSK u5YjXXgNhubt uIF43aEAcEVw uL9cL2jNOdO2 u4PIJBKijmtt u8yGIEwigDyx uGlIXwcT1W7D u84lKyFPpSFw u7K3ptosPLQA u7nM9D5mbzU2 u1kEeITVYb8y u6ILVcABCEEx uAj17AD65eeg u3Ufb4qVkHvB uAbwf8UtLwL u7wLbcRPEARl uJR65r6BsdA uAkLz3zFrS8n uIl6SqDoW1wp uFaOxsz673ZF uJ6iPckjhgqH uINNAHGwfoKQ u8oGn5HgLfYz uGr1ZpOs956z uKkJxC1a4rw3 u16CVnEufEU2 uF68EGiLX9Cm u1lTQ8Fstx3m uBvMUci4lH8r uLGk0I4MfUOQ uAqRuYYUDDkC uCfvcu26EE1F u6mVOXXWVnv1 u3mzDgLJ17lA uBFYzdvyInS6 u9T8jPpmIUzM u5gYfmqo8pHP u8O6NH5Z13k0 uZ60zXnI5Tc uJHuxRwl5QY0 u1r6NnYKAIBF uCMRvDAb6nCI uEHh8aMG0kzx uKdVlGeZGt7o uE2rAgSKC2wP u6L1hC1x2yOz u4YSP8HHr47P u596lKtP5Vtq uD0liSpY0GYx u90Jid5JDymP uLHf3MxoKf9F u80ZsJjYRSvO u5SXNR1ti1tx u7rTNAF0W94h uCYWfn8APtq5 uAdcmCI9ZHJv u7km02tccWc8 u2GsMBOlTxSY u9OEqIc2R48n u63yLWLQMjnu uKZXhQ8NJUXQ uKnjoOeKIQQb uu7EqJKLf8b uF4O2KFs27OQ uF1AuyY6KJgk ulrhcaJzZ0L uBt2xSLXuv5w u2f97FbMwsv2 uJj0gAA9RHCP uT02J55ek8b u5wFYtdoRxOC uGvDlMA2oBWY uK6DqnuLKzUb uDqNgiIEbQqY uAAB6DYpmXXN u606bKskY0GY uKTVW1NN9Rak u6X5d0S7biSM u3JoUrduQwcs uJKQNT1AFfyB u7N6t29CkJom u5nFYI7J3q6R uBEYcfjPvDzN u1MNDIdZ7CoS uKP3F2N0PBYk uBZZtaHxci3T u6J6b89dtbV7 u9zqUY9sr7Hl uDA5MK5EbqFr u75j9PaSdqpM uFfvoV4xe7sE uTXW27wFH5T uKyIGr3hfkTW uJBlt0gq55n9 uKnOK0YY2XJ5 u51e7z4C3aWn uGFwrMhCHLGy uQ7PbBO4eBm uDfoXwwla07C uJdJzaEsSlkg u5rzugoYfmaJ uHsRPUun6jVR uIIghrdry2Td u2lVvBl8MAO3 u5KD5dc4jTYm uHZr9u5xwcg9 u228AL7TPVw7 uDWDzVQpKi4y u8Xy9lnxB8uA uCtaSkKhjqBg uBtfUlcMHR19 uKIjzNb0SKIf uAjOc5w0OHZF uHnoaUwAT3Kr uKTpnJ8ZVzLJ uAInTOta5Gj8 u3Do8EtruNrk u9gI79gtPX2z u8t6ojojokqJ uBsKiSTkjqCX u8RX9RCmSYxs uLqMuUfH5Wst uGwZP3WiTiXa uBG0dsHLlfqd uKFxQjJX7neS u8vg7BSsNkck u4Y4TRTwjZcD u4jn0IVIasrZ uJmlrFlmFQdT uKUv7oyWFnj uJwOjwxpbGvx u45J7wamy3a8 uAP9J2xO4u41 u1ARugjNw4B9 uKINiSVDKAI4 uKWMr5erO6qo u7mEiogVtz7w u5kV2FW3tI44 u2te5WLa09jO u9vENkHVjMxa uFdBtIIsVgcX uDYYAkzdotPt u7ar5pVdZWHY u6bDXuVmSi9D ugrWatgYmlE uCHK2f8ghyBE uHy8MBzXQehW u4AerbQrlO4k uIA2rBV4360X uBxW6b8cCHZR u1N0wdLfHcq9 uHoAkL0IyVjZ u8Vc7dS5ZPLg uJjvAvIqVMUT u44Ho5N2fKe5 u5FDEjoaMDbk uH8HKbq6r2Zd uGuur2dCAk3J uELVPdUVaP85 uCLRQkoZmucg uH1Hv4m90uHu uxlPSkLcDMf u6aObWj5DQfN uAvsBZd5Q5lg uITr4EhhsnsG u7OmB5Dx2SIw u9d83FWMOavI u50hu4dB3GYQ u8mud1T6a3bC u4XLbqBNt6ng u7mA318xfNG7 uHefcoaUPAxR uEJTqiuP2tzn u4jk5b7gZavk uGTB17DZE9LS uLo5Wys78uaf u8G0R3MWlC02 uCQokVfTvCCG uG6ar6nZFMCh uHPRw5zuyGu0 uO2E7fQAoDF uBFoLTpzuhjE uIx4w3JTGlsI u8alc5N1i1Tb u37YQFoJr6db uCwaYrdXqf7g uI4KSBl8cEva uFn4SCRTUxa4 u1dlONRtKbpW uJGOa1u3C2Is uFOmkTboO1zh u3bYxz9iRM3a u6F5BRQi7edP u6gn7EWh0Ay3 u51ISyF9pAZR u7IyX66jcXEE uJLKzNhOnrbc uIo8Hhp5kkhe uLPjiFyh4eXt uGdy7W3ww00T u8jTYs1GU3n5 uDItDYoavoxb u1k4AucPiNW9 uF8sRuCrBoHX uB47agVTB6Ic u5B3kGUVpCmH u8g3TYTac72k uJCdCJotgu38 uD9LI0FeWj7l uGkPB0Pxdvo7 uJYR1W4XT9Zr uFn3THTsIQn u32drnh1wtp0 u7hDNmWazSzr uFNMSMr89Qog uGt8PnBP1Yiu u2VQRpliiSJc uLCrKzAZzIyp u3g9YlkUQdir u59diDdgaSbm uGFs08eRfQGh uEPdTUbobba3 uIZoDAcpzANX u2V68RBBRv0z uByO4aAoIhdB u6sw4c032ll1 u6uRjN8i1y8H u5E3YHsi4lV7 uFBXujrxHxPG u54Zt8nbTRcH u1U3M7BPx53c u8dNMGyOpSVH u19PksE6gnJN uCphQDSrTEhF uLuXPbfpVwl3 uISSlqYMM7dA uLdoGIvtmEGs uIeMcOfQJngH uDG3fXnwGUn9 u6aOYYsfvNFi uCOglNB49G8D u3V0p04Z9euB uAAB6QfG2bVz uAaKZVBjdKQA u8at45EBSAhP u4VIX4wDavbO uH2WLcIokPod u8gilP4wyybn u5QDgcvmUQB7 uEl47dClDzh8 u3zcTfP1U9ii uJzhpA1gFcpi u1M3QcXUIO36 uARLjsiGkQX1 uHprTwxOgTDH u6FzNBI27CZR uAHZdu2kDcnI u2MX0e3LO51M u9YalYwUchHu u7s2c4D3Dbdm u1Kxjas7xmuu uDPB1oExna0Z uHWdg68qc9vB u1ZESO8WcdHS u1lN7tIwn7A8 u9PwiPoqiwmB uDaYek8OPMfN uHkx88Hu2F50 u12AwxT3T3mG uH09XnALi3rD uBVDUCfXuG0L uLA2qd4Xmr9Z uBcjPTMMNOLx uICDT2o1MOvf uLqmPBqLcwkn uLWEQTmu1shc uKzsioqjSkS4 uA2mFa9F1vtJ u430UTOrdOuD uDqRSQCfmr7h uBiyvM33HypG uJEWO64IccDs uLRmYxDB8gb uB27UxMrDTFj u2BxcdyOl8Qv uI2iaDnMiGRm uGdnp2TMG1Ca uL96Iu8YgcSG uAJVurDorWh2 u2Tw6o2PmFDM u7cgvXxouJvR uITO8t1OAjZX uFu5wbwFokv1 uCHvhfNt89Vd u7llP34F3GuS uGB2TtKRsgXJ uAxy9ZKjHnfz uGmq4FzIVmIw u3IdifptyTJ8 u8LulYgWTloH u32uJlehV7at uDxh0h83Mtos uLOrYsJtlTK u4i9XLp2fM05 ucvD90h3fpH uGtfUtSgObjD u7ZnTybEBO7C uKUFxLqm108s uBUwRa0wbpgM uDIqAzT1rx3m uCklJgtSLHMr u3AfKKcaUl7z u8ZuydShjVdU uCE9AUWiKQiz u2YRz7i1ymtv uKh755jmuLfw u5lDJ6oG8Z7f u1ztcPIJmIWc u6TvRDy1maE u7HXIDYqnQbe uAFMJTPY7HTp uLoyKfT8UtWp ugoITPvoL1d uCVdE6j1FoLC u2kxrciHw9cI u9LyFsKWnOxY uIEwZN2w5xYZ uHAy7u0pZyDo uFHixXNL8jAo uIUFnii7s3jp uKq6G9HknWnr uDyqVtPli3iX uG2fbcZmRFQQ u7wV1ppcZE9U u2JVA5rcyjX uJtLXuw0OgsM u7EhlBJ9dRk8 uABEXZmk6EuH uBDWqHuT1QEe uLx61ciKpH8E u3MfAZA3YyhP uFM7ZZpUc1vX uJtFDtSyqTqO uDv7ZFkPCQqP uFPqQXrEEbpI u3RDYFhX27FB uIKLqyuH6eDV uCUKAhlE5z53 uGkwjPm0TPzG ugi85SeZn8n uDFvLKiOhvmx usGkAIeawtn u5Bxfpl8aPHZ uCZ14znuWTL3 uG56Ey1ZOfWf uF0Azg7NlFXU u8gycslGe5QI u3fFsJsjDLyK u8v43tBcljKi u9tjRCmxPeFa u24Mw97dgpQQ uE7dkZGR6td0 uvuImNbOYnu uBPdTCyOBvTe uGcaWnU9oUeQ uEOuuZYs9VsW uHWUfPiLHrRE uB0bGZ2n4XTk u4kzJqb3tcr2 uCFPI3vO7xff u6BHkZVeQ2wm uBkQyyO1v2IO
end PySem.W.Fast
open PySem PySem.W PyProof.Rows
set_option maxRecDepth 100000 in
set_option maxHeartbeats 0 in
theorem PySem.Challenge.cw_nestturn_k41_whole_one_pair_the_other_wa_holds : PySem.Challenge.rw_nestturn_k41_whole_one_pair_the_other_wa.Holds := by
 w_on; o_law; k_head; (case hw => w_witness2)
 k_fill
 refine RF.walk (l := PySem.Challenge.rw_nestturn_k41_whole_one_pair_the_other_wa) (lev := 11) (x := "_law_script") rfl rfl %[rfl, %[|1]| %[|1]] (λ w h Y => by first | exact PySem.W.kIn_of Y | exact PySem.W.km_in_of Y) ?F
 case F =>
  intro w mg fa h KX G hmg
  refine' K41.all_mk KX G hmg ?_ ?_ ?_ ?_ ?_ ?_ ?_ ?_ ?_ ?_ ?_ ?_ ?_ ?_ ?_ ?_ ?_ ?_ ?_ ?_ ?_ ?_ ?_ ?_ ?_ ?_ ?_ ?_ ?_ ?_ ?_ ?_ ?_ ?_ ?_ ?_ ?_ ?_ ?_ ?_ ?_ ?_ ?_ ?_ ?_ ?_ ?_ ?_ ?_ ?_ ?_ ?_ ?_ ?_ ?_ ?_ ?_ ?_ ?_ ?_ ?_ ?_ ?_ ?_ ?_ ?_ ?_ ?_ ?_ ?_ ?_ ?_ ?_ ?_ ?_ ?_ ?_ ?_ ?_ ?_ ?_ ?_ ?_ ?_
  all_goals try first | (refine' K41.FI.mk ?a ?l ?c ?k; (case a => k_is); (case l => k_is); (case c => k_is); (case k => k_is)) | (show _ = _; k_is)
