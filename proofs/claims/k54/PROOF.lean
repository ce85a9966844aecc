import PyProof.Rows.All
import Wide.All
import OpenK.AllK
import Wide.FinOn
import Lean
import PyProof.EqAt
import PyProof.EqKinds
import PyProof.TupleCall
import KE.KEqDict
import PyProof.ZipIter
import PyProof.ListMulAny
import KE.KTryMore
import PyProof.NsDelKeeps
import KE.KUnpack
import KE.KRevIter
import PyProof.DictUpdate
import PyProof.ListRange
import PyProof.Rows.CallKwBuiltin
import PyProof.WalkInts
import KE.KSortTup
import KE.KLam
import KE.KNestM
import PyProof.CollectIter
import PyProof.StrCalls
import PyProof.StrCalls2
import PyProof.StrOps
import PyProof.Rows.StrSplitJoin
import KE.KIntText
import PyProof.StrWalks
import PyProof.FString
import PyProof.StrBlockI
import PyProof.FactsAll.tuple_2
import PyProof.FactsAll.tuple_3
import PyProof.StrLawsChain
import PyProof.StrLawsTight
import PyProof.StrLawsIn
import KE.IntTextLaws
import PyProof.Rows.ReprOcc
import KE.KTryOn
import PySem.Challenge.RW_nestturn_k54_texts_of_no_program
set_option bootstrap.genMatcherCode false
set_option compiler.extract_closed false
set_option genSizeOfSpec false
set_option genSizeOf false
def ZA:=@PySem.wpAny_bind
def ZB:=@PySem.wpAny_pure
def ZC:=@PySem.Heap.get?_push_of_some
def ZD:=@PySem.Heap.get?_push_size
def ZE:=@PySem.Heap.lt_size
def ZF:=@of_decide_eq_true
def ZG:=@decide_eq_true
def ZH:=@decide_eq_false
def ZI:=@eq_of_beq
def ZJ:=@List.mem_cons
def ZK:=@List.mem_append
def ZL:=@List.mem_singleton
def ZM:=@Nat.lt_of_lt_of_le
def ZN:=@Nat.ne_of_lt
def ZO:=@List.mem_map
def ZP:=@PySem.wpAny_call_entry
def ZQ:=@PySem.wpAny_holding
def ZR:=@List.getElem?_of_mem
theorem fE{α:Prop}(h:false=true):α:=(Bool.false_ne_true h).elim
noncomputable section
set_option Elab.async false
set_option linter.all false
set_option hygiene false
local macro_rules
| `(%[|0]) => `(List Str)
| `(%[|1]) => `(by omega)
| `(%[|2]) => `(by decide)
| `(%[|3]) => `(Ex.var 0)
| `(%[|4]) => `(Inv X pins σ H s)
| `(%[|5]) => `(Bi Ω.mg Ω.K)
| `(%[|6]) => `(List Int)
| `(%[|7]) => `(by sleep 4)
local macro_rules
| `(%[|8]) => `(Ex.var 1)
| `(%[|9]) => `(model X.prog X.w)
| `(%[|10]) => `(Ex.int 1)
| `(%[|11]) => `(List Value)
| `(%[|12]) => `(List Expr)
| `(%[|13]) => `(Store->Prop)
| `(%[|14]) => `(Ω.cd=none)
| `(%[|15]) => `(by kernel_rfl!)
local macro_rules
| `(%[|16]) => `(Value->Shared->Prop)
| `(%[|17]) => `(Option Int)
| `(%[|18]) => `(ZI h1)
| `(%[|19]) => `(some .cell)
| `(%[|20]) => `(env.mono st1)
| `(%[|21]) => `(List (Addr×Obj))
| `(%[|22]) => `(Str->Option Value)
| `(%[|23]) => `(StOk X.K O H S)
local macro_rules
| `(%[|24]) => `(⟨_,rfl⟩)
| `(%[|25]) => `(λ _ _=>False)
| `(%[|26]) => `(frs X.stack)
| `(%[|27]) => `(ExF Ω.mg Ω.K XL XT)
| `(%[|28]) => `(Bool->%[|13])
| `(%[|29]) => `(.type "tuple")
| `(%[|30]) => `(λ _ _ z=>z.elim)
| `(%[|31]) => `(List D->%[|13])
local macro_rules
| `(%[|32]) => `(List (Option Nat))
| `(%[|33]) => `(ds[i]? =some d)
| `(%[|34]) => `(ZD _ rfl)
| `(%[|35]) => `(EnvOk X.K O H σ Γ)
| `(%[|36]) => `(Cal Ω "_law_take" 2 2 Fq16)
| `(%[|37]) => `(ZE e)
| `(%[|38]) => `(Str.ofString ".")
| `(%[|39]) => `(sc.names.lookup x)
local macro_rules
| `(%[|40]) => `(⟨Ac,%[|78]⟩)
| `(%[|41]) => `(Ar.cons %[|8] Ar.nil)
| `(%[|42]) => `(At Ω X r top N nm)
| `(%[|43]) => `(Str.ofString "loop")
| `(%[|44]) => `(s2.heap.objs.size+1)
| `(%[|45]) => `(h pins s σ H O I env st)
| `(%[|46]) => `(F0.binds λ _ _ _ _ _ _=>by2 λ _ _=>rfl)
| `(%[|47]) => `(Str.ofString "set")
local macro_rules
| `(%[|48]) => `(Str.ofString "and")
| `(%[|49]) => `(by rw[←hX'];rfl)
| `(%[|50]) => `(aG I q (by simp))
| `(%[|51]) => `(Ar.cons %[|3] Ar.nil)
| `(%[|52]) => `(F0.binds λ _ _ _ _ _ _=>by1 λ _=>rfl)
| `(%[|53]) => `(X.env.cells.lookup x=some c)
| `(%[|54]) => `(⟨%[|1],%[|1]⟩)
| `(%[|55]) => `((x==("__debug__":Str))=false)
local macro_rules
| `(%[|56]) => `(s.heap.get? b=some o)
| `(%[|57]) => `(Str.ofString "nest")
| `(%[|58]) => `(thn %[|45] λ u s1 hq_=>?_)
| `(%[|59]) => `(.ref s.heap.objs.size)
| `(%[|60]) => `(ds.length≤1000000)
| `(%[|61]) => `(⟨_,aA (j:=0) rfl,?_⟩)
| `(%[|62]) => `(List (Str×NameKind))
| `(%[|63]) => `(Ar.cons (Ex.var 2) Ar.nil)
local macro_rules
| `(%[|64]) => `(closes X.env sc.names [])
| `(%[|65]) => `(some %[|77])
| `(%[|66]) => `(show s.heap.IsTuple _ its2.toArray from p2)
| `(%[|67]) => `(h pins s σ H O I env ok)
| `(%[|68]) => `(Cal Ω "is_tuple_of" 1 3 Fq37)
| `(%[|69]) => `(AutoSeq1.wpAny_loadPart' hl)
| `(%[|70]) => `(Ar.cons (Ex.int 3) Ar.nil)
| `(%[|71]) => `(a.chk top N nm l&&b.chk top N nm r)
local macro_rules
| `(%[|72]) => `(X.env.frame=some X.env.locals)
| `(%[|73]) => `(s2.heap.push {cls:=.type "list",dict:=none,data:=.seq ([]:%[|11]).toArray})
| `(%[|74]) => `(λ y S4=>Pv (i+1) (acc++[y]) S4)
| `(%[|75]) => `(absurd (show false=true from hs) x5)
| `(%[|76]) => `(backTo pos (starEach es X.env))
| `(%[|77]) => `(.loc S.length)
| `(%[|78]) => `(s2.heap.objs.size::O2.B)
| `(%[|79]) => `(starEach (e::es) X.env=(false,eval e X.env)::starEach es X.env)
local macro_rules
| `(%[|80]) => `({W with nx:=Pv (i+1),ct:=Pv (i+1),bk:=W.nx})
| `(%[|81]) => `(λ b o e=>ZC _ e)
| `(%[|82]) => `(bW (CXE P w) P w K mg base N qual sc f cd A outer s H E)
| `(%[|83]) => `(%[|84].push {cls:=.type c2,data:=.fields #[.ref l2,.int 0 0]})
| `(%[|84]) => `(h.push {cls:=.type c1,data:=.fields #[.ref l1,.int 0 0]})
| `(%[|85]) => `(X.fn x=true∨X.env.scope.names.lookup x=some .local)
local macro_rules
| `(tactic| sleep 0) => `(tactic| (intro pins s σ H O I env st))
| `(tactic| sleep 1) => `(tactic| (obtain⟨h1,h2⟩:=aa hc))
| `(tactic| sleep 2) => `(tactic| (intro X r top N nm e Γ S W A hl hc hw))
| `(tactic| sleep 3) => `(tactic| (obtain⟨l1,l2⟩:=lv2 hl))
| `(tactic| sleep 4) => `(tactic| (decide+kernel))
| `(tactic| sleep 5) => `(tactic| (obtain⟨h2,h3⟩:=aa h2))
| `(tactic| sleep 6) => `(tactic| (obtain⟨t',rfl⟩:=ru'))
| `(tactic| sleep 7) => `(tactic| (intro pins s σ H O I env ok))
local macro_rules
| `(tactic| sleep 8) => `(tactic| (intro X r top N nm sts Γ S W WE A hl hc hw))
| `(tactic| sleep 9) => `(tactic| (intro pins s σ H O v w' u u' I st r1 r2 r3 r4))
set_option hygiene true
def z0:=@List.getElem?_eq_some_iff
def y8:=@List.getElem?_eq_getElem
def y9:=@List.mem_of_getElem?
def x5:=@Bool.false_ne_true
def x6:=@List.length_map
def x8:=@List.getElem?_map
def x9:=@Nat.le_refl
def w9:=@List.mem_cons_of_mem
set_option bootstrap.genMatcherCode false
set_option maxRecDepth 100000
theorem hideG {G : Prop} (h : ∀ G2 : Prop, (G → G2) → G2) : G := h G id
local macro_rules | `(tactic| obtain ⟨$a:rcasesPatLo,$b:rcasesPatLo,$c:rcasesPatLo,$d:rcasesPatLo,$es:rcasesPatLo,*⟩ := $v) => `(tactic| (refine hideG fun G_ k_ => ?_; rcases $v:term with ⟨$a,$b,$c,$d,$es,*⟩ <;> (refine k_ ?_; clear k_ G_)))
local macro_rules | `(tactic| rintro $p:rintroPat $q:rintroPat $ps*) => `(tactic| (rintro $p; rintro $q $ps*))
local macro_rules | `(tactic| rintro ⟨$a:rcasesPatLo,$b:rcasesPatLo,$c:rcasesPatLo,$d:rcasesPatLo,$es:rcasesPatLo,*⟩) => `(tactic| (intro z_; obtain ⟨$a,$b,$c,$d,$es,*⟩ := z_))
local macro_rules | `(tactic| omega) => `(tactic| first | with_reducible assumption | with_reducible exact Int.natCast_nonneg _ | with_reducible exact Nat.le_trans (by assumption) (by decide) | with_reducible exact Int.le_trans (by decide) (Int.natCast_nonneg _) | lia)
local macro_rules|`(def $i:declId $s:optDeclSig $v:declVal)=>`(noncomputable def $i:declId $s:optDeclSig $v:declVal)
local macro_rules|`(abbrev $i:declId $s:optDeclSig $v:declVal)=>`(noncomputable abbrev $i:declId $s:optDeclSig $v:declVal)
namespace L2
open PySem PySem.Spec PyProof.Rows
abbrev Key:=Sum Int Str
def Nf:Key->Value->Bool
 | .inl k,v=>Value.isInt k v
 | .inr x,v=>Value.isStrOf x v
def WY(w:World):Key->Int
 | .inl k=>hashInt k
 | .inr x=>hashStr w x
theorem bj:∀{k:Key}{v:Value},Nf k v=true->(∃i t,k=Sum.inl i/\v=Value.int i t)∨(∃x t,k=Sum.inr x/\v=Value.str x t)
 | .inl i,v,h=>by
   obtain⟨t,e⟩:=Value.isInt_shape (k:=i) (v:=v) h
   exact .inl ⟨i,t,rfl,e⟩
 | .inr x,v,h=>by
   obtain⟨t,e⟩:=Value.isStrOf_shape (x:=x) (v:=v) h
   exact .inr ⟨x,t,rfl,e⟩
theorem QD(a b:Int):decide ((Sum.inl a:Key)=Sum.inl b)=(a==b):=by
 by_cases e:a=b
 . subst e;simp
 . have h:¬(Sum.inl a:Key)=Sum.inl b:=λ q=>e (Sum.inl.inj q)
   rw[ZH h]
   exact(beq_eq_false_iff_ne.mpr e).symm
theorem UW(a b:Str):decide ((Sum.inr a:Key)=Sum.inr b)=decide (a=b):=by
 by_cases e:a=b
 . subst e;simp
 . have h:¬(Sum.inr a:Key)=Sum.inr b:=λ q=>e (Sum.inr.inj q)
   rw[ZH h,ZH e]
theorem RC(a:Int)(b:Str):decide ((Sum.inl a:Key)=Sum.inr b)=false:=ZH (λ q=>nomatch q)
theorem Th(a:Str)(b:Int):decide ((Sum.inr a:Key)=Sum.inl b)=false:=ZH (λ q=>nomatch q)
def dI(prog:Program)(w:World):PySem.KeyKind prog w Key where
 is:=Nf
 hash:=WY w
 inj:=λ v a b ha hb=>by
  rcases bj ha with⟨i,t,rfl,rfl⟩ | ⟨x,t,rfl,rfl⟩
  . rcases bj hb with⟨j,u,rfl,e⟩ | ⟨y,u,rfl,e⟩
    . injection e with e1 _;rw[e1]
    . exact nomatch e
  . rcases bj hb with⟨j,u,rfl,e⟩ | ⟨y,u,rfl,e⟩
    . exact nomatch e
    . injection e with e1 _;rw[e1]
 byValue:=λ k v h=>by
  rcases bj h with⟨i,t,rfl,rfl⟩ | ⟨x,t,rfl,rfl⟩<;>rfl
 pyHash:=λ hv h=>by
  rcases bj hv with⟨i,t,rfl,rfl⟩ | ⟨x,t,rfl,rfl⟩
  . exact wpAny_pyHash_int h
  . exact wpAny_pyHash_str h
 eqBool:=λ hu hv h=>by
  rcases bj hu with⟨i,t,rfl,rfl⟩ | ⟨x,t,rfl,rfl⟩
  . rcases bj hv with⟨j,u,rfl,rfl⟩ | ⟨y,u,rfl,rfl⟩
    . rw[QD]at h;exact wpAny_eqBool_int h
    . rw[RC]at h;exact SeqAt.EqAt.int_str i t y u _ _ _ _ h
  . rcases bj hv with⟨j,u,rfl,rfl⟩ | ⟨y,u,rfl,rfl⟩
    . rw[Th]at h;exact SeqAt.EqAt.str_int x t j u _ _ _ _ h
    . rw[UW]at h;exact wpAny_eqBool_str h
 «strs»:=λ k x t v h=>by
  rcases bj h with⟨i,u,rfl,e⟩ | ⟨y,u,rfl,e⟩
  . exact nomatch e
  . injection e with e1 _
    subst e1
    cases v<;>rfl
variable {b : Addr}
inductive V where
 | non | bl(b:Bool) | int(i:Int) | str(x:Str) | byt(b:Array UInt8) | flt(b:UInt64) | ref(a:Addr) | ty(n:String)
 deriving DecidableEq
def RelV:V->Value->Prop
 | .non,u=>u=Value.none
 | .bl b,u=>u=Value.bool b
 | .int i,u=>∃t,u=Value.int i t
 | .str x,u=>∃t,u=Value.str x t
 | .byt b,u=>∃t,u=Value.bytes b t
 | .flt b,u=>∃t,u=Value.float b t
 | .ref a,u=>u=Value.ref a
 | .ty n,u=>u=Value.type n
abbrev Vals:List V->%[|11]->Prop:=Paired RelV
theorem Vals.length{xs:List V}{us:%[|11]}(r:Vals xs us):xs.length=us.length:=Paired.length r
theorem Vals.get:∀{xs:List V}{us:%[|11]}{i:Nat}{x:V},Vals xs us->xs[i]? =some x->∃u,us[i]? =some u/\RelV x u
 | _,_,_,_,.nil,e=>by simp at e
 | _,_,0,_,.cons r _,e=>by simp at e;subst e;exact⟨_,rfl,r⟩
 | _,_,i+1,x,.cons _ t,e=>by
   obtain⟨u,h1,h2⟩:=Vals.get (i:=i) (x:=x) t (by simpa using e)
   exact⟨u,by simpa using h1,h2⟩
theorem Vals.set{x:V}{u:Value}(r:RelV x u):∀{xs:List V}{us:%[|11]}(i:Nat),Vals xs us->Vals (xs.set i x) (us.set i u)
 | _,_,_,.nil=>.nil
 | _,_,0,.cons _ t=>.cons r t
 | _,_,i+1,.cons q t=>.cons q (Vals.set r i t)
theorem Vals.append:∀{xs ys:List V}{us ws:%[|11]},Vals xs us->Vals ys ws->Vals (xs++ys) (us++ws)
 | _,_,_,_,.nil,s=>s
 | _,_,_,_,.cons r t,s=>.cons r (Vals.append t s)
theorem Vals.take:∀{xs:List V}{us:%[|11]}(n:Nat),Vals xs us->Vals (xs.take n) (us.take n)
 | _,_,0,_=>.nil
 | _,_,_+1,.nil=>.nil
 | _,_,n+1,.cons r t=>.cons r (Vals.take n t)
theorem Vals.drop:∀{xs:List V}{us:%[|11]}(n:Nat),Vals xs us->Vals (xs.drop n) (us.drop n)
 | _,_,0,r=>r
 | _,_,_+1,.nil=>.nil
 | _,_,n+1,.cons _ t=>Vals.drop n t
def T5:Option V->Option Value->Prop
 | some v,some u=>RelV v u
 | none,none=>True
 | _,_=>False
def KV{κ:Type}:List (κ×V)->List (κ×Value)->Prop:=Paired λ(p:κ×V) (q:κ×Value)=>p.1=q.1/\RelV p.2 q.2
def kV:Key->V
 | .inl i=>.int i
 | .inr x=>.str x
inductive HO where
 /-- a list -/
 | lst(xs:List V)
 /-- a tuple (never changes) -/
 | tup(xs:List V)
 /-- a dict whose keys are ints and texts; one whose keys are tuples of ints and texts (the empty one is both) -/
 | dK(kvs:List (Key×V)) | dT(kvs:List (List Key×V))
 /-- a set of ints: its members, its size -/
 | set(S:Int->Bool)(n:Nat)
 /-- an instance of the class at C, its dict at dx, its attributes -/
 | ins(C dx:Addr)(fs:List (Str×V))
 /-- the dict of the instance at x -/
 | own(x:Addr)
 /-- the dict of an exception -/
 | xd(fs:List (Str×V))
 /-- a bound method, f of x -/
 | met(f x:Addr)
 /-- a range object lo, lo + 1, .. below hi -/
 | rng(lo hi:Int)
 /-- a thing that is known to the object (the script; a dict while a loop walks it): read, never written while it is so -/
 | frz(o:Obj)(u:HO)
 /-- a code object's table -/
 | tbl(ps:Array Value)
 /-- any other thing, by what is true of its one object (a def of one's own: SetO a S n := HO.ext λ h => ..) -/
 | ext(φ:Heap->Prop)
abbrev Hp:=Addr->Option HO
def upd(H:Hp)(a:Addr)(o:HO):Hp:=λ b=>if b=a then some o else H b
theorem aB{H:Hp}{a:Addr}{o:HO}:upd H a o a=some o:=by unfold upd;rw[if_pos rfl]
theorem aj{H:Hp}{a:Addr}{o:HO}(h:b≠a):upd H a o b=H b:=by unfold upd;rw[if_neg h]
theorem aC{H:Hp}{a:Addr}{o:HO}(h:H a=some o)(h':H b=none):a≠b:=by
 intro e;subst e;rw[h]at h';cases h'
section
variable (P : Program) (w : World)
def aZ(H:Hp)(h:Heap)(a:Addr):HO->Prop
 | .lst xs=>xs.length≤sizeLine/\∃(its:%[|11]) (n:Nat),Vals xs its/\h.get? a=some {cls:=.type "list",data:=.seq its.toArray n}
 | .tup xs=>xs.length≤sizeLine/\∃its:%[|11],Vals xs its/\IsTup h a its.toArray
 | .dK kvs=>kvs.length≤sizeLine/\(a==sysModules)=false/\∃vs,KV kvs vs/\h.DictOf (dI P w) a vs
 | .dT kvs=>kvs.length≤sizeLine/\(a==sysModules)=false/\∃xs:List (List Key×Addr×Value),
  Paired (λ(p:List Key×V) (q:List Key×Addr×Value)=>p.1=q.1/\H q.2.1=some (.tup (p.1.map kV))/\RelV p.2 q.2.2) kvs xs/\
  ∃o es ep,h.get? a=some o/\o.ExactDict/\o.data=.dict es ep/\es.toList=xs.map (entryOfKey (tupleKind (dI P w)))/\(xs.map (·.1)).Nodup
 | .set S n=>h.SetOf (intKind P w) a S n
 | .ins C dx fs=>H dx=some (.own a)/\fs.length≤1000/\dx≠a/\h.get? a=some (PySem.W.instObj C dx)/\
  ∃mA,h.Ns1 dx mA/\(∀f,T5 (fs.lookup f) (mA f))/\PySem.Within mA (fs.map (·.1))
 | .own _=>∃o,h.get? a=some o
 | .xd fs=>∃mA,h.Ns1 a mA/\∀f,T5 (fs.lookup f) (mA f)
 | .rng lo hi=>∃t u v,h.get? a=some {cls:=.type "range",data:=.fields #[.int lo t,.int hi u,.int 1 v]}
 | .frz o u=>h.get? a=some o/\aZ H h a u
 | .tbl ps=>h.get? a=some {cls:=.none,data:=.fields ps}
 | .met f x=>h.get? a=some (PySem.W.methodObj (.ref f) (.ref x))
 | .ext φ=>φ h/\(∃o,h.get? a=some o)/\∀h1 h2:Heap,φ h1->(∀o,h1.get? a=some o->h2.get? a=some o)->φ h2
def HOk(H:Hp)(h:Heap):Prop:=∀a o,H a=some o->aZ P w H h a o
end
section
variable {P : Program} {w : World} {H H' : Hp} {h h' : Heap} {a : Addr} {o : HO}
theorem aZ.lt(x:aZ P w H h a o):a<h.objs.size:=by
 cases o with
 | lst xs=>obtain⟨_,_,_,_,e⟩:=x;exact %[|37]
 | tup xs=>obtain⟨_,_,_,p⟩:=x;exact p.lt
 | dK kvs=>obtain⟨_,_,_,_,o,_,_,e,_⟩:=x;exact %[|37]
 | dT kvs=>obtain⟨_,_,_,_,o,_,_,e,_⟩:=x;exact %[|37]
 | set S n=>obtain⟨o,_,_,_,e,_⟩:=x;exact %[|37]
 | ins C dx fs=>obtain⟨_,_,_,e,_⟩:=x;exact %[|37]
 | own y=>obtain⟨_,e⟩:=x;exact %[|37]
 | xd fs=>obtain⟨_,⟨_,_,_,e,_⟩,_⟩:=x;exact %[|37]
 | rng lo hi=>obtain⟨_,_,_,e⟩:=x;exact %[|37]
 | frz ob u=>obtain⟨e,_⟩:=x;exact %[|37]
 | tbl ps=>exact ZE (show h.get? a=some _ from x)
 | met f y=>exact ZE (show h.get? a=some _ from x)
 | ext φ=>obtain⟨_,⟨_,e⟩,_⟩:=x;exact %[|37]
theorem Paired.mapP{α β:Type}{F G:α->β->Prop}:∀{l₁:List α}{l₂:List β},Paired F l₁ l₂->(∀a b,F a b->G a b)->Paired G l₁ l₂
 | _,_,.nil,_=>.nil
 | _,_,.cons r t,f=>.cons (f _ _ r) (Paired.mapP t f)
theorem aZ.stay(x:aZ P w H h a o)(k:∀b u,(b=a∨H b=some (.own a))->h.get? b=some u->h'.get? b=some u)
 (ho:∀b,H b=some (.own a)->H' b=some (.own a))(ht:∀b xs,H b=some (.tup xs)->H' b=some (.tup xs)):aZ P w H' h' a o:=by
 induction o with
 | lst xs=>obtain⟨z,its,n,r,e⟩:=x;exact⟨z,its,n,r,k _ _ (.inl rfl) e⟩
 | tup xs=>obtain⟨z,its,r,ob,e,c⟩:=x;exact⟨z,its,r,ob,k _ _ (.inl rfl) e,c⟩
 | dK kvs=>obtain⟨z,y,vs,r,ob,es,ep,e,c⟩:=x;exact⟨z,y,vs,r,ob,es,ep,k _ _ (.inl rfl) e,c⟩
 | dT kvs=>
   obtain⟨z,y,xs,r,ob,es,ep,e,c⟩:=x
   exact⟨z,y,xs,Paired.mapP r λ p q z=>⟨z.1,ht _ _ z.2.1,z.2.2⟩,ob,es,ep,k _ _ (.inl rfl) e,c⟩
 | set S n=>obtain⟨ob,es,ep,t,e,c⟩:=x;exact⟨ob,es,ep,t,k _ _ (.inl rfl) e,c⟩
 | ins C dx fs=>
   obtain⟨d,z,ne,e,mA,⟨od,es,ep,e2,c⟩,r⟩:=x
   exact⟨ho _ d,z,ne,k _ _ (.inl rfl) e,mA,⟨od,es,ep,k _ _ (.inr d) e2,c⟩,r⟩
 | own y=>obtain⟨ob,e⟩:=x;exact⟨ob,k _ _ (.inl rfl) e⟩
 | xd fs=>obtain⟨mA,⟨od,es,ep,e,c⟩,r⟩:=x;exact⟨mA,⟨od,es,ep,k _ _ (.inl rfl) e,c⟩,r⟩
 | rng lo hi=>obtain⟨t,u,v,e⟩:=x;exact⟨t,u,v,k _ _ (.inl rfl) e⟩
 | frz ob u ih=>obtain⟨e,q⟩:=x;exact⟨k _ _ (.inl rfl) e,ih q⟩
 | tbl ps=>
   have e:h.get? a=some {cls:=.none,data:=.fields ps}:=x
   show h'.get? a=some {cls:=.none,data:=.fields ps}
   exact k a _ (.inl rfl) e
 | met f y=>
   have e:h.get? a=some (PySem.W.methodObj (.ref f) (.ref y)):=x
   show h'.get? a=some (PySem.W.methodObj (.ref f) (.ref y))
   exact k a _ (.inl rfl) e
 | ext φ=>obtain⟨p,⟨o,e⟩,st⟩:=x;exact⟨st _ _ p λ o q=>k _ _ (.inl rfl) q,⟨o,k _ _ (.inl rfl) e⟩,st⟩
theorem HOk.lt(x:HOk P w H h)(e:H a=some o):a<h.objs.size:=(x a o e).lt
theorem HOk.fresh(x:HOk P w H h)(e:h.objs.size≤a):H a=none:=by
 cases q:H a with
 | none=>rfl
 | some u=>exact absurd (ZM (x.lt q) e) (Nat.lt_irrefl _)
theorem HOk.kept(x:HOk P w H h)(k:∀b u,h.get? b=some u->h'.get? b=some u):HOk P w H h':=λ a o e=>
 (x a o e).stay (λ b u _ q=>k b u q) (λ _ q=>q) λ _ _ q=>q
theorem HOk.laid(x:HOk P w H h)(k:∀b u,h.get? b=some u->h'.get? b=some u)(hp:h.objs.size≤a)(new:aZ P w (upd H a o) h' a o):HOk P w (upd H a o) h':=λ b u e=>by
 have hn:=x.fresh hp
 by_cases hb:b=a
 . subst hb;rw[aB]at e;cases e;exact new
 . rw[aj hb]at e
   exact(x b u e).stay (λ c v _ q=>k c v q) (λ c q=>by rw[aj (aC q hn)];exact q) λ c xs q=>by rw[aj (aC q hn)];exact q
end
def Rd(H:Hp)(a:Addr)(u:HO):Prop:=H a=some u∨∃o,H a=some (.frz o u)
theorem Rd.ok{P:Program}{w:World}{H:Hp}{h:Heap}{a:Addr}{u:HO}(r:Rd H a u)(x:HOk P w H h):aZ P w H h a u:=by
 rcases r with r | ⟨o,r⟩
 . exact x a u r
 . obtain⟨_,q⟩:=x a _ r
   exact q
def Mut:Option HO->Prop
 | some (.lst _)=>True
 | some (.dK _)=>True
 | some (.dT _)=>True
 | some (.set _ _)=>True
 | some (.ins _ _ _)=>True
 | some (.ext _)=>True
 | _=>False
section
variable {P : Program} {w : World} {H : Hp} {h h' : Heap} {x e : Addr} {o' : HO}
theorem HOk.write(ok:HOk P w H h)(mu:Mut (H x))(he:e=x∨H e=some (.own x))(k:∀b u,b≠e->h.get? b=some u->h'.get? b=some u)(heo:∃u,h'.get? e=some u)
 (new:aZ P w (upd H x o') h' x o'):HOk P w (upd H x o') h':=λ b u q=>by
 have nown:∀c y,H c=some (.own y)->c≠x:=λ c y r z=>by subst z;rw[r]at mu;exact mu
 have ntup:∀c xs,H c=some (.tup xs)->c≠x:=λ c xs r z=>by subst z;rw[r]at mu;exact mu
 by_cases hb:b=x
 . subst hb;rw[aB]at q;cases q;exact new
 . rw [aj hb]at q
   by_cases hbe:b=e
   . have q':H b=some (.own x):=by
      rcases he with z | z
      . exact absurd (hbe.trans z) hb
      . rw[hbe];exact z
     rw[q]at q';cases q'
     obtain⟨v,hv⟩:=heo
     exact⟨v,by rw[hbe];exact hv⟩
   . refine(ok b u q).stay (λ c v hc r=>k c v ?_ r) (λ c r=>by rw[aj (nown c b r)];exact r) λ c xs r=>by rw[aj (ntup c xs r)];exact r
     rcases hc with rfl | hc
     . exact hbe
     . rintro rfl
       rcases he with z | z
       . exact nown c b hc z
       . rw[hc]at z;cases z;exact hb rfl
end
structure Un(fs ex:List Addr)(H H':Hp)(h h':Heap):Prop where
 keep:∀b o,h.get? b=some o->H b=none->b∉fs->b∉ex->h'.get? b=some o
 slot:∀b o,h.get? b=some o->H b=none->b∈fs->b∉ex->∃sl,h'.get? b=some {o with slots:=sl}
 free:∀b o,h.get? b=some o->H b=none->b∉ex->H' b=none
 there:∀b o,h.get? b=some o->b∉ex->∃o',h'.get? b=some o'
 tups:∀b xs,H b=some (.tup xs)->H' b=some (.tup xs)
 frzs:∀b o u,H b=some (.frz o u)->H' b=some (.frz o u)
 tbls:∀b ps,H b=some (.tbl ps)->∃more,H' b=some (.tbl (ps++more))
section
variable {fs fs' ex ex' : List Addr} {H H1 H2 : Hp} {h h1 h2 h' : Heap} {a x e : Addr} {o : HO}
theorem Un.any(u:Un fs ex H H1 h h1){b:Addr}{ob:Obj}(q:h.get? b=some ob)(n:H b=none)(hx:b∉ex):∃sl,h1.get? b=some {ob with slots:=sl}:=by
 by_cases hb:b∈fs
 . exact u.slot b ob q n hb hx
 . exact⟨ob.slots,u.keep b ob q n hb hx⟩
theorem Un.kept(k:∀b u,h.get? b=some u->h'.get? b=some u):Un fs ex H H h h':=
 ⟨λ b ob q _ _ _=>k b ob q,λ b ob q _ _ _=>⟨ob.slots,k b ob q⟩,λ _ _ _ n _=>n,λ b ob q _=>⟨ob,k b ob q⟩,λ _ _ q=>q,λ _ _ _ q=>q,λ _ ps q=>⟨#[],by rw[q];simp⟩⟩
theorem Un.refl:Un fs ex H H h h:=Un.kept λ _ _ q=>q
theorem Un.laid(k:∀b u,h.get? b=some u->h'.get? b=some u)(hp:h.objs.size≤a)(hn:H a=none):Un fs ex H (upd H a o) h h' where
 keep:=λ b u q _ _ _=>k b u q
 slot:=λ b u q _ _ _=>⟨u.slots,k b u q⟩
 free:=λ b u q n _=>by rw[aj (ZN (ZM (ZE q) hp))];exact n
 there:=λ b u q _=>⟨u,k b u q⟩
 tups:=λ b xs q=>by rw[aj (aC q hn)];exact q
 frzs:=λ b u xs q=>by rw[aj (aC q hn)];exact q
 tbls:=λ b ps q=>⟨#[],by rw[aj (aC q hn),q];simp⟩
theorem Un.write(mu:Mut (H x))(he:e=x∨H e=some (.own x))(k:∀b u,b≠e->h.get? b=some u->h'.get? b=some u)(heo:∃u,h'.get? e=some u):Un fs ex H (upd H x o) h h':=by
 have hx:∀b,H b=none->b≠x:=λ b n z=>by subst z;rw[n]at mu;exact mu
 have hb:∀b,H b=none->b≠e:=λ b n z=>by
  subst z
  rcases he with r | r
  . exact hx b n r
  . rw[n]at r;cases r
 have hm:∀b u,H b=some u->¬Mut (some u)->b≠x:=λ b u q nm z=>by subst z;rw[q]at mu;exact nm mu
 refine⟨λ b u q n _ _=>k b u (hb b n) q,λ b u q n _ _=>⟨u.slots,k b u (hb b n) q⟩,λ b u q n _=>by rw[aj (hx b n)];exact n,λ b u q _=>?_,
  λ b xs q=>by rw[aj (hm b _ q λ z=>z)];exact q,λ b u xs q=>by rw[aj (hm b _ q λ z=>z)];exact q,λ b ps q=>⟨#[],by rw[aj (hm b _ q λ z=>z),q];simp⟩⟩
 by_cases hbe:b=e
 . subst hbe;exact heo
 . exact⟨u,k b u hbe q⟩
end
def trk(h:Heap)(H:Hp):List Addr:=(List.range h.objs.size).filter λ a=>(H a).isSome
def kh(h:Heap)(H:Hp):Heap:=PySem.W.hideAll h (trk h H)
theorem JD(h:Heap)(H:Hp):(kh h H).objs.size=h.objs.size:=PySem.W.hideAll_size _ _
theorem K1{h:Heap}{H:Hp}{o:Obj}(e:h.get? b=some o)(n:H b=none):(kh h H).get? b=some o:=
 PySem.W.hideAll_get _ e λ hm=>by
  have q:(H b).isSome=true:=(List.mem_filter.mp hm).2
  rw[n]at q;simp at q
theorem Pz{h:Heap}{H:Hp}{o:Obj}(e:(kh h H).get? b=some o):h.get? b=some o/\H b=none:=by
 have e':h.get? b=some o:=PySem.W.of_hideAll (trk h H) e
 refine⟨e',?_⟩
 cases q:H b with
 | none=>rfl
 | some x=>
   have hm:b∈trk h H:=List.mem_filter.mpr ⟨List.mem_range.mpr (ZE e'),by simp[q]⟩
   have z:(kh h H).get? b=none:=PySem.W.hideAll_none (trk h H) hm
   rw[z]at e;cases e
end L2
namespace L2
open PySem PySem.Spec PyProof.Rows
variable {t' : Nat}
structure Mod(K:PySem.W.Frag)(mg:%[|22])(base:Heap):Prop where
 kin:K.In base
 glob:base.Ns mainGlobals mg
 blt:∃mb,base.Ns builtinsNs mb/\∀x:Str,x≠"__name__"->mb x=bootBuiltins x
 nolimit:base.NoLimit
set_option genInjectivity false in
structure Cx where
 prog:Program
 w:World
 K:PySem.W.Frag
 mg:%[|22]
 base:Heap
 A:Around
 N:%[|0]
 s₀:Shared
 H₀:Hp
 env:Env
 outer:List Env
 stack:List Env
 ex:List Addr
 fn:Str->Bool
 calm:Bool
 pn:%[|21]
 xe:%[|16]
def frs(l:List Env):List Addr:=l.filterMap (·.frame)
abbrev Cx.fs(X:Cx):List Addr:=frs X.outer
def Vis(sc:Scope)(x:Str):Prop:=%[|39]=some .local∨%[|39]=%[|19]∨%[|39]=some .free
def Loc(sc:Scope)(x:Str):Prop:=%[|39]=some .local∨%[|39]=%[|19]
def Look(env:Env)(h:Heap)(m:%[|22])(x:Str)(u:Value):Prop:=
 (env.kindOf x=some .local/\m x=some u)∨((env.kindOf x=%[|19]∨env.kindOf x=some .free)/\∃c,env.cells.lookup x=some c/\h.IsCell c (some u))
structure Cx.Ok(X:Cx):Prop where
 mod:Mod X.K X.mg X.base
 kind:X.env.scope.kind=.function
 glob:X.env.globals=mainGlobals
 blt:X.env.builtins=builtinsNs
 above:X.s₀.heap.objs.size≤X.env.locals
 inj:∀x y c,%[|53]->X.env.cells.lookup y=some c->x=y
 has:∀x,(X.env.kindOf x=%[|19]∨X.env.kindOf x=some .free)->∃c,%[|53]
 cab:∀x c,X.fn x=true->%[|53]->X.s₀.heap.objs.size≤c
 hd:X.calm=true->X.A.handled=none
 frames:X.A.frames=some X.stack
 stk:X.stack=X.outer∨(X.stack=X.env::X.outer/\%[|72])
 exf:∀b∈X.ex,b≠X.env.locals/\∀x c,%[|53]->c≠b
 bs:∀b o,X.base.get? b=some o->X.s₀.heap.get? b=some o/\X.H₀ b=none
 bsz:X.base.objs.size≤X.s₀.heap.objs.size
 noex:∀b o,X.base.get? b=some o->b∉X.ex
 exfs:∀b∈X.ex,b∉X.fs
 funs:X.s₀.heap.FunFrames X.base X.outer
 frf:∀b∈X.fs,X.H₀ b=none
structure Inv(X:Cx)(pins:%[|21])(σ:List (Option V))(H:Hp)(s:Shared):Prop where
 ok:X.Ok
 os:s.os=X.s₀.os
 bare:AllBare s.gens
 base:Un X.fs X.ex X.H₀ H X.s₀.heap s.heap
 loc:∃m,s.heap.Ns X.env.locals m/\∀(i:Nat)(x:Str)(v:V),X.N[i]? =some x->σ[i]? =some (some v)->Vis X.env.scope x->∃u,RelV v u/\Look X.env s.heap m x u
 cell:∀x c,%[|53]->∃v,s.heap.IsCell c v
 free:H X.env.locals=none
 freeC:∀x c,%[|53]->H c=none
 pin:∀p∈X.pn++pins,s.heap.get? p.1=some p.2/\H p.1=none/\p.1≠X.env.locals/\p.1∉X.fs/\∀v,p.2.data≠.cell v
 hok:HOk X.prog X.w H s.heap
 len:σ.length=X.N.length
section
variable {X : Cx} {pins : List (Addr × Obj)} {σ : List (Option V)} {H H' : Hp} {s : Shared} {h' : Heap}
theorem Cx.Ok.nofr(ok:X.Ok){b:Addr}{o:Obj}(e:X.base.get? b=some o):b∉X.fs:=λ hb=>by
 have:=(ok.funs.mem hb).1
 rw[e]at this;cases this
theorem Inv.bs(I:%[|4]):∀b o,X.base.get? b=some o->%[|56]/\H b=none:=λ b o e=>
 ⟨I.base.keep b o (I.ok.bs b o e).1 (I.ok.bs b o e).2 (I.ok.nofr e) (I.ok.noex b o e),I.base.free b o (I.ok.bs b o e).1 (I.ok.bs b o e).2 (I.ok.noex b o e)⟩
theorem Inv.bk(I:%[|4]):∀b o,X.base.get? b=some o->%[|56]:=λ b o e=>(I.bs b o e).1
theorem Inv.mod(I:%[|4]):Mod X.K X.mg X.base:=I.ok.mod
theorem Inv.kIn(I:%[|4]):X.K.In s.heap:=I.ok.mod.kin.keeps I.bk
theorem Inv.lt(I:%[|4]):X.env.locals<s.heap.objs.size:=let ⟨_,hn,_⟩:=I.loc;hn.lt
theorem Inv.sz(I:%[|4]):X.s₀.heap.objs.size≤s.heap.objs.size:=Nat.le_trans I.ok.above (Nat.le_of_lt I.lt)
theorem Inv.nofs(I:%[|4]){a:Addr}(h:s.heap.objs.size≤a):a∉X.fs:=λ hb=>by
 obtain⟨_,o,ho,_⟩:=I.ok.funs.mem hb
 exact absurd (ZM (ZE ho) (Nat.le_trans I.sz h)) (Nat.lt_irrefl _)
theorem Inv.cne(I:%[|4]):∀x c,%[|53]->c≠X.env.locals:=λ x c e z=>by
 obtain⟨v,o,ho,hd⟩:=I.cell x c e
 obtain⟨m,⟨o',es,ep,ho',hd',_⟩,_⟩:=I.loc
 rw[z,ho']at ho;cases ho;rw[hd']at hd;cases hd
theorem Inv.funs(I:%[|4]):s.heap.FunFrames X.base X.outer:=by
 have all:∀(l:List Env),(∀b∈frs l,b∈X.fs)->X.s₀.heap.FunFrames X.base l->s.heap.FunFrames X.base l:=by
  intro l
  induction l with
  | nil=>intro _ _;trivial
  | cons env r ih=>
    intro hs hl
    obtain⟨hk,⟨L,o,hf,hn,ho,hd⟩,hr⟩:=hl
    have hL:L∈X.fs:=hs L (by unfold frs;rw[List.filterMap_cons,hf];exact List.mem_cons_self)
    obtain⟨sl,e⟩:=I.base.slot L o ho (I.ok.frf L hL) hL λ z=>I.ok.exfs L z hL
    exact⟨hk,⟨L,_,hf,hn,e,hd⟩,ih (λ b hb=>hs b (by unfold frs;rw[List.filterMap_cons,hf];exact w9 _ hb)) hr⟩
 exact all X.outer (λ _ hb=>hb) I.ok.funs
theorem Inv.stack(I:%[|4]):s.heap.FunFrames X.base X.stack:=by
 rcases I.ok.stk with e | ⟨e,hf⟩
 . rw[e];exact I.funs
 . rw[e]
   obtain⟨m,hn,_⟩:=I.loc
   refine .cons (by rw[I.ok.kind];decide) hf hn ?_ I.funs
   exact Heap.get?_none_of_le (Nat.le_trans I.ok.bsz I.ok.above)
theorem Inv.stkSub(I:%[|4]):∀b∈%[|26],b∈X.env.locals::X.fs:=λ b hb=>by
 rcases I.ok.stk with e | ⟨e,hf⟩
 . rw[e]at hb;exact w9 _ hb
 . rw[e]at hb
   unfold frs at hb
   rw[List.filterMap_cons,hf]at hb
   exact hb
theorem Inv.stkFree(I:%[|4]):∀b∈%[|26],H b=none:=λ b hb=>by
 rcases ZJ.mp (I.stkSub b hb)with e | hb
 . rw[e];exact I.free
 . obtain⟨_,o,ho,_⟩:=I.ok.funs.mem hb
   exact I.base.free b o ho (I.ok.frf b hb) λ z=>I.ok.exfs b z hb
theorem Inv.step{g':Array GenState}{d':Drawn}{ch:List Addr}(I:%[|4])
 (hch:∀b∈ch,(b∈X.ex∨X.s₀.heap.objs.size≤b)/\b≠X.env.locals/\(∀x c,%[|53]->c≠b)/\∀p∈X.pn++pins,p.1≠b)
 (keep:∀b o,b≠X.env.locals->b∉X.fs->b∉ch->%[|56]->H b=none->h'.get? b=some o)
 (slot:∀b o,b≠X.env.locals->b∈X.fs->b∉ch->%[|56]->H b=none->∃sl,h'.get? b=some {o with slots:=sl})(free:∀b o,b∉ch->%[|56]->H b=none->H' b=none)
 (there:∀b o,b∉ch->%[|56]->∃o',h'.get? b=some o')
 (tups:∀b xs,H b=some (.tup xs)->H' b=some (.tup xs))(frzs:∀b o u,H b=some (.frz o u)->H' b=some (.frz o u))(tbls:∀b ps,H b=some (.tbl ps)->∃more,H' b=some (.tbl (ps++more)))
 (ns:∀m,s.heap.Ns X.env.locals m->h'.Ns X.env.locals m)(hok:HOk X.prog X.w H' h')(hg:AllBare g'):
 Inv X pins σ H' {s with heap:=h',gens:=g',drawn:=d',toks:=t'}:=by
 have neL:∀b o,X.s₀.heap.get? b=some o->b≠X.env.locals:=λ b o e=>ZN (ZM %[|37] I.ok.above)
 have neC:∀b o,X.s₀.heap.get? b=some o->b∉X.ex->b∉ch:=λ b o e hx hb=>by
  rcases(hch b hb).1 with z | z
  . exact hx z
  . exact absurd (ZM %[|37] z) (Nat.lt_irrefl _)
 have cellK:∀x c,%[|53]->∀v,s.heap.IsCell c v->h'.IsCell c v:=λ x c e v ⟨o,ho,hd⟩=>by
  have nch:c∉ch:=λ z=>(hch c z).2.2.1 x c e rfl
  by_cases hc:c∈X.fs
  . obtain⟨sl,q⟩:=slot c o (I.cne x c e) hc nch ho (I.freeC x c e)
    exact⟨_,q,hd⟩
  . exact⟨o,keep c o (I.cne x c e) hc nch ho (I.freeC x c e),hd⟩
 refine⟨I.ok,I.os,hg,⟨λ b o e n hb hx=>?_,λ b o e n hb hx=>?_,λ b o e n hx=>?_,λ b o e hx=>?_,λ b xs e=>tups b xs (I.base.tups b xs e),λ b o xs e=>frzs b o xs (I.base.frzs b o xs e),λ b ps e=>?_⟩,?_,λ x c e=>?_,?_,λ x c e=>?_,λ p hp=>?_,hok,I.len⟩
 . exact keep b o (neL b o e) hb (neC b o e hx) (I.base.keep b o e n hb hx) (I.base.free b o e n hx)
 . obtain⟨sl,e1⟩:=I.base.slot b o e n hb hx
   obtain⟨sl',e2⟩:=slot b _ (neL b o e) hb (neC b o e hx) e1 (I.base.free b o e n hx)
   exact⟨sl',e2⟩
 . obtain⟨o',e1⟩:=I.base.there b o e hx
   exact free b o' (neC b o e hx) e1 (I.base.free b o e n hx)
 . obtain⟨o',e1⟩:=I.base.there b o e hx
   exact there b o' (neC b o e hx) e1
 . obtain⟨m1,e1⟩:=I.base.tbls b ps e
   obtain⟨m2,e2⟩:=tbls b _ e1
   exact⟨m1++m2,by rw[e2,Array.append_assoc]⟩
 . obtain⟨m,hn,hl⟩:=I.loc
   refine⟨m,ns m hn,λ i x v e1 e2 e3=>?_⟩
   obtain⟨u,r,l⟩:=hl i x v e1 e2 e3
   refine⟨u,r,?_⟩
   rcases l with l | ⟨k,c,e,z⟩
   . exact .inl l
   . exact .inr ⟨k,c,e,cellK x c e _ z⟩
 . obtain⟨v,z⟩:=I.cell x c e
   exact⟨v,cellK x c e v z⟩
 . obtain⟨m,⟨o,_,_,ho,_⟩,_⟩:=I.loc
   exact free _ o (λ z=>(hch _ z).2.1 rfl) ho I.free
 . obtain⟨v,o,ho,hd⟩:=I.cell x c e
   exact free c o (λ z=>(hch c z).2.2.1 x c e rfl) ho (I.freeC x c e)
 . obtain⟨e,n,ne,nf,d⟩:=I.pin p hp
   have nch:p.1∉ch:=λ z=>(hch p.1 z).2.2.2 p hp rfl
   exact⟨keep p.1 p.2 ne nf nch e n,free p.1 p.2 nch e n,ne,nf,d⟩
theorem Inv.un(I:%[|4])(u:Un X.fs [] H H' s.heap h')(hok:HOk X.prog X.w H' h'):Inv X pins σ H' {s with heap:=h',toks:=t'}:=by
 obtain⟨m,⟨o,es,ep,ho,r⟩,_⟩:=id I.loc
 obtain⟨sl,hL⟩:=u.any ho I.free (by simp)
 exact I.step (g':=s.gens) (d':=s.drawn) (ch:=[]) (λ _ z=>nomatch z) (λ b o _ hb _ e n=>u.keep b o e n hb (by simp)) (λ b o _ hb _ e n=>u.slot b o e n hb (by simp)) (λ b o _ e n=>u.free b o e n (by simp)) (λ b o _ e=>u.there b o e (by simp)) u.tups u.frzs u.tbls (λ m' hm=>by
  obtain⟨o',es',ep',ho',r'⟩:=hm
  rw[ho]at ho';cases ho'
  exact⟨_,es',ep',hL,r'⟩) hok I.bare
theorem Inv.call{g':Array GenState}{d':Drawn}{ch:List Addr}(I:%[|4])(u:Un %[|26] ch H H' s.heap h')(hok:HOk X.prog X.w H' h')(hg:AllBare g')
 (hch:∀b∈ch,(b∈X.ex∨X.s₀.heap.objs.size≤b)/\b≠X.env.locals/\(∀x c,%[|53]->c≠b)/\∀p∈X.pn++pins,p.1≠b):
 Inv X pins σ H' {s with heap:=h',gens:=g',drawn:=d',toks:=t'}:=by
 obtain⟨m,⟨o,es,ep,ho,r⟩,_⟩:=id I.loc
 obtain⟨sl,hL⟩:=u.any ho I.free λ z=>(hch _ z).2.1 rfl
 exact I.step (ch:=ch) hch (λ b o hL hb hc e n=>u.keep b o e n (λ z=>(ZJ.mp (I.stkSub b z)).elim hL hb) hc) (λ b o _ _ hc e n=>u.any e n hc) (λ b o hc e n=>u.free b o e n hc) (λ b o hc e=>u.there b o e hc) u.tups u.frzs u.tbls (λ m' hm=>by
  obtain⟨o',es',ep',ho',r'⟩:=hm
  rw[ho]at ho';cases ho'
  exact⟨_,es',ep',hL,r'⟩) hok hg
theorem Inv.turned{it:Addr}(I:%[|4])(k:∀b o,b≠it->%[|56]->h'.get? b=some o)(hn:H it=none)(hL:it≠X.env.locals)
 (h1:it∈X.ex∨X.s₀.heap.objs.size≤it)(h2:∀x c,%[|53]->c≠it)(h3:∀p∈X.pn++pins,p.1≠it):Inv X pins σ H {s with heap:=h',toks:=t'}:=by
 have nit:∀b u,H b=some u->b≠it:=λ b u e z=>by rw[z,hn]at e;cases e
 refine I.step (g':=s.gens) (d':=s.drawn) (ch:=[it]) (λ b hb=>?_) (λ b o _ _ hc e _=>k b o (λ z=>hc (by simp[z])) e) (λ b o _ _ hc e _=>⟨o.slots,k b o (λ z=>hc (by simp[z])) e⟩) (λ _ _ _ _ n=>n)
  (λ b o hc e=>⟨o,k b o (λ z=>hc (by simp[z])) e⟩) (λ _ _ e=>e) (λ _ _ _ e=>e) (λ b ps e=>⟨#[],by rw[e];simp⟩) (λ m hm=>?_) (λ b u e=>?_) I.bare
 . have e:b=it:=by simpa using hb
   subst e
   exact⟨h1,hL,h2,h3⟩
 . obtain⟨o,es,ep,ho,r⟩:=hm
   exact⟨o,es,ep,k _ o (Ne.symm hL) ho,r⟩
 . refine(I.hok b u e).stay (λ c v hc q=>k c v ?_ q) (λ _ q=>q) λ _ _ q=>q
   rcases hc with z | z
   . rw[z];exact nit b u e
   . exact nit c _ z
theorem Inv.tok(I:%[|4])(t:Nat):Inv X pins σ H {s with toks:=t}:=I.un (h':=s.heap) (t':=t) Un.refl I.hok
theorem Inv.kept(I:%[|4])(k:∀b u,s.heap.get? b=some u->h'.get? b=some u):Inv X pins σ H {s with heap:=h',toks:=t'}:=I.un (Un.kept k) (I.hok.kept k)
theorem Inv.laid{a:Addr}{o:HO}(I:%[|4])(k:∀b u,s.heap.get? b=some u->h'.get? b=some u)(hp:s.heap.objs.size≤a)(new:aZ X.prog X.w (upd H a o) h' a o):
 Inv X pins σ (upd H a o) {s with heap:=h',toks:=t'}:=I.un (Un.laid k hp (I.hok.fresh hp)) (I.hok.laid k hp new)
theorem Inv.write{x e:Addr}{o:HO}(I:%[|4])(mu:Mut (H x))(he:e=x∨H e=some (.own x))(k:∀b u,b≠e->s.heap.get? b=some u->h'.get? b=some u)(heo:∃u,h'.get? e=some u)
 (new:aZ X.prog X.w (upd H x o) h' x o):Inv X pins σ (upd H x o) {s with heap:=h',toks:=t'}:=I.un (Un.write mu he k heo) (I.hok.write mu he k heo new)
theorem Inv.pins_of{pins':%[|21]}(I:%[|4])(h:∀p∈pins',s.heap.get? p.1=some p.2/\H p.1=none/\p.1≠X.env.locals/\p.1∉X.fs/\∀v,p.2.data≠.cell v):Inv X pins' σ H s:=
 ⟨I.ok,I.os,I.bare,I.base,I.loc,I.cell,I.free,I.freeC,λ p hp=>(ZK.mp hp).elim (λ z=>I.pin p (List.mem_append_left _ z)) (h p),I.hok,I.len⟩
theorem pH{N:%[|0]}(hN:N.Nodup){i j:Nat}{x:Str}(a:N[i]? =some x)(b:N[j]? =some x):i=j:=by
 obtain⟨h1,e1⟩:=z0.mp a
 obtain⟨h2,e2⟩:=z0.mp b
 exact(List.getElem_inj hN).mp (e1.trans e2.symm)
theorem vK{M:Model}{A:Around}{E:%[|16]}{i:Nat}{x:Str}{v:V}{u:Value}{Q:Unit->Shared->Prop}(I:%[|4])(hN:X.N.Nodup)(hi:X.N[i]? =some x)(hx:Loc X.env.scope x)(r:RelV v u)
 (h:∀s',Inv X pins (σ.set i (some v)) H s'->(∃a,Heap.SameBut a s.heap s'.heap/\(a=X.env.locals∨X.env.cells.lookup x=some a))->Q () s')(hf:%[|85]:=by first | exact .inl rfl | exact .inr rfl | assumption):wpAny M A (storeName X.env x u) Q E s:=by
 obtain⟨m,hn,hl⟩:=id I.loc
 have hcls:(X.env.scope.kind==.class||(X.env.scope.kind==.module&&X.env.locals !=X.env.globals))=false:=by rw[I.ok.kind];rfl
 have hiσ:i<σ.length:=by rw[I.len];exact(z0.mp hi).1
 have cne:=I.cne
 have tracked:∀{a:Addr}{h':Heap},(∃o,s.heap.get? a=some o/\H a=none)->Heap.SameBut a s.heap h'->HOk X.prog X.w H h':=λ{a h'} ha hs b ob e=>by
  obtain⟨_,_,hfree⟩:=ha
  refine(I.hok b ob e).stay (λ c w' hc q=>(hs.2 c ?_).trans q) (λ _ q=>q) λ _ _ q=>q
  rintro rfl
  rcases hc with rfl | hc
  . rw[hfree]at e;cases e
  . rw[hfree]at hc;cases hc
 rcases hx with hk | hk
 . refine wpAny_storeName_local hk hn (λ h' hn' hs=>?_) hcls
   obtain⟨oL,_,_,hoL,_⟩:=id hn
   refine h _ ⟨I.ok,I.os,I.bare,⟨λ b o e n hb hx=>?_,λ b o e n hb hx=>?_,I.base.free,λ b o e hx=>?_,I.base.tups,I.base.frzs,I.base.tbls⟩,⟨_,hn',λ j y v' e1 e2 e3=>?_⟩,λ y c e=>?_,I.free,I.freeC,λ p hp=>?_,tracked ⟨oL,hoL,I.free⟩ hs,by simpa using I.len⟩ ⟨_,hs,.inl rfl⟩
   . exact(hs.2 b (ZN (ZM %[|37] I.ok.above))).trans (I.base.keep b o e n hb hx)
   . obtain⟨sl,e1⟩:=I.base.slot b o e n hb hx
     exact⟨sl,(hs.2 b (ZN (ZM %[|37] I.ok.above))).trans e1⟩
   . obtain⟨o',e1⟩:=I.base.there b o e hx
     exact⟨o',(hs.2 b (ZN (ZM %[|37] I.ok.above))).trans e1⟩
   . by_cases hj:j=i
     . subst hj
       rw[hi]at e1;cases e1
       rw[List.getElem?_set_self hiσ]at e2
       cases e2
       exact⟨u,r,.inl ⟨hk,by simp⟩⟩
     . rw[List.getElem?_set_ne (Ne.symm hj)]at e2
       obtain⟨u',r',q⟩:=hl j y v' e1 e2 e3
       refine⟨u',r',?_⟩
       rcases q with⟨k,e⟩ | ⟨k,c,e,z⟩
       . refine .inl ⟨k,?_⟩
         have:y≠x:=λ e=>hj (pH hN e1 (e▸hi))
         simp[this,e]
       . exact .inr ⟨k,c,e,z.sameBut hs (cne y c e)⟩
   . obtain⟨w',z⟩:=I.cell y c e
     exact⟨w',z.sameBut hs (cne y c e)⟩
   . obtain⟨e,n,ne,nf,d⟩:=I.pin p hp
     exact⟨(hs.2 p.1 ne).trans e,n,ne,nf,d⟩
 . have hfn:X.fn x=true:=by
    rcases hf with z | z
    . exact z
    . rw[z]at hk;cases hk
   obtain⟨c,hc⟩:=I.ok.has x (.inl hk)
   obtain⟨w',z⟩:=I.cell x c hc
   refine wpAny_storeName_cell I.ok.kind hk hc z (λ h' hc' hs=>?_)
   obtain⟨oc,hoc,hocd⟩:=id z
   refine h {s with heap:=h'} ⟨I.ok,I.os,I.bare,⟨λ b o e n hb hx=>?_,λ b o e n hb hx=>?_,I.base.free,λ b o e hx=>?_,I.base.tups,I.base.frzs,I.base.tbls⟩,⟨m,hn.sameBut hs (Ne.symm (cne x c hc)),λ j y v' e1 e2 e3=>?_⟩,λ y c' e=>?_,I.free,I.freeC,λ p hp=>?_,tracked ⟨oc,hoc,I.freeC x c hc⟩ hs,by simpa using I.len⟩ ⟨c,hs,.inr hc⟩
   . exact(hs.2 b (ZN (ZM %[|37] (I.ok.cab x c hfn hc)))).trans (I.base.keep b o e n hb hx)
   . obtain⟨sl,e1⟩:=I.base.slot b o e n hb hx
     exact⟨sl,(hs.2 b (ZN (ZM %[|37] (I.ok.cab x c hfn hc)))).trans e1⟩
   . obtain⟨o',e1⟩:=I.base.there b o e hx
     exact⟨o',(hs.2 b (ZN (ZM %[|37] (I.ok.cab x c hfn hc)))).trans e1⟩
   . by_cases hj:j=i
     . subst hj
       rw[hi]at e1;cases e1
       rw[List.getElem?_set_self hiσ]at e2
       cases e2
       exact⟨u,r,.inr ⟨.inl hk,c,hc,hc'⟩⟩
     . rw[List.getElem?_set_ne (Ne.symm hj)]at e2
       obtain⟨u',r',q⟩:=hl j y v' e1 e2 e3
       refine⟨u',r',?_⟩
       rcases q with q | ⟨k,c',e,z'⟩
       . exact .inl q
       . refine .inr ⟨k,c',e,z'.sameBut hs ?_⟩
         rintro rfl
         exact hj (pH hN e1 (I.ok.inj _ _ _ e hc▸hi))
   . by_cases hcc:c'=c
     . subst hcc;exact⟨_,hc'⟩
     . obtain⟨w2,z2⟩:=I.cell y c' e
       exact⟨w2,z2.sameBut hs hcc⟩
   . obtain⟨e,n,ne,nf,d⟩:=I.pin p hp
     refine⟨(hs.2 p.1 ?_).trans e,n,ne,nf,d⟩
     intro q
     rw[q,hoc]at e
     have q':oc=p.2:=Option.some.inj e
     exact d w' (by rw[←q'];exact hocd)
theorem fj{M:Model}{A:Around}{E:%[|16]}{i:Nat}{x:Str}{v:V}{u:Value}{Q:Unit->Shared->Prop}(I:%[|4])(hN:X.N.Nodup)(hi:X.N[i]? =some x)(hx:Loc X.env.scope x)(r:RelV v u)
 (h:∀s',Inv X pins (σ.set i (some v)) H s'->Q () s')(hf:%[|85]:=by first | exact .inl rfl | exact .inr rfl | assumption):wpAny M A (storeName X.env x u) Q E s:=
 vK I hN hi hx r (λ s' I' _=>h s' I') hf
theorem Inv.call'{s':Shared}{ch:List Addr}(I:%[|4])(ho:s'.os=s.os)(u:Un %[|26] ch H H' s.heap s'.heap)(hok:HOk X.prog X.w H' s'.heap)(hg:AllBare s'.gens)
 (hch:∀b∈ch,(b∈X.ex∨X.s₀.heap.objs.size≤b)/\b≠X.env.locals/\(∀x c,%[|53]->c≠b)/\∀p∈X.pn++pins,p.1≠b):Inv X pins σ H' s':=by
 obtain⟨h',g',d',t',o'⟩:=s'
 have e:o'=s.os:=ho
 subst e
 exact I.call (g':=g') (t':=t') (d':=d') u hok hg hch
end
abbrev XK:=Value->Option Addr->Hp->Prop
abbrev St:=List (Option V)
abbrev VK:=V->Hp->Prop
abbrev TE:=St->Hp->VK->Prop
abbrev TT:=St->Hp->(Bool->Hp->Prop)->Prop
abbrev TA:=St->Hp->(List V->Hp->Prop)->Prop
structure Ends where
 nx:St->Hp->Prop
 rt:VK
 bk:St->Hp->Prop:=%[|25]
 ct:St->Hp->Prop:=%[|25]
abbrev TS:=Ends->St->Hp->Prop
def EP(X:Cx)(pins:%[|21])(σ:St)(Q:VK)(u:Value)(s':Shared):Prop:=∃v H',Inv X pins σ H' s'/\RelV v u/\Q v H'
def TP(X:Cx)(pins:%[|21])(σ:St)(Q:Bool->Hp->Prop)(b:Bool)(s':Shared):Prop:=∃H',Inv X pins σ H' s'/\Q b H'
def AP(X:Cx)(pins:%[|21])(σ:St)(Q:List V->Hp->Prop)(us:%[|11])(s':Shared):Prop:=∃vs H',Inv X pins σ H' s'/\Vals vs us/\Q vs H'
def SP(X:Cx)(pins:%[|21])(D:Ends)(f:Flow)(s':Shared):Prop:=
 match f with
 | .next=>∃σ' H',Inv X pins σ' H' s'/\D.nx σ' H'
 | .brk=>∃σ' H',Inv X pins σ' H' s'/\D.bk σ' H'
 | .cont=>∃σ' H',Inv X pins σ' H' s'/\D.ct σ' H'
 | .ret u=>∃v σ' H',Inv X pins σ' H' s'/\RelV v u/\D.rt v H'
def PE(X:Cx)(e:Expr)(t:TE):Prop:=
 ∀(pins:%[|21])(s:Shared)(σ:St)(H:Hp)(Q:VK),%[|4]->t σ H Q->wpAny %[|9] X.A (eval e X.env) (EP X pins σ Q) X.xe s
def PA(X:Cx)(es:%[|12])(t:TA):Prop:=
 ∀(pos:Pos)(pins:%[|21])(s:Shared)(σ:St)(H:Hp)(Q:List V->Hp->Prop),%[|4]->t σ H Q->wpAny %[|9] X.A (spliced %[|76]) (AP X pins σ Q) X.xe s
def PS(X:Cx)(st:Stmt)(t:TS):Prop:=
 ∀(pins:%[|21])(s:Shared)(σ:St)(H:Hp)(D:Ends),%[|4]->t D σ H->wpAny %[|9] X.A (exec st X.env) (SP X pins D) X.xe s
def PSs(X:Cx)(st:List Stmt)(t:TS):Prop:=
 ∀(pins:%[|21])(s:Shared)(σ:St)(H:Hp)(D:Ends),%[|4]->t D σ H->wpAny %[|9] X.A (execs st X.env) (SP X pins D) X.xe s
theorem thn{α:Type}{t:Sem α}{Q Q':α->Shared->Prop}{M:Model}{A:Around}{E:%[|16]}{s:Shared}(h:wpAny M A t Q E s)(hQ:∀a s,Q a s->Q' a s):wpAny M A t Q' E s:=wpAny_mono h hQ λ _ _ x=>x
end L2
namespace L2
open PySem PySem.Spec PyProof.Rows
variable {x : Str} {u : Value}
section
variable {X : Cx}
def WN(i:Nat):TE:=λ σ H Q=>∃v,σ[i]? =some (some v)/\Q v H
def tC(v:V):TE:=λ _ H Q=>Q v H
theorem mz{i:Nat}{pos:Pos}(hN:X.N[i]? =some x)(hv:Vis X.env.scope x)(hd:%[|55]:=by decide)(hcd:(x==("__classdict__":Str))=false:=by decide):PE X (.Name x pos) (WN i):=by
 intro pins s σ H Q I h
 obtain⟨v,e,h⟩:=h
 obtain⟨m,hn,hl⟩:=I.loc
 obtain⟨u,r,l⟩:=hl i x v hN e hv
 have fin:EP X pins σ Q u s:=⟨v,H,I,r,h⟩
 rcases l with⟨hk,hm⟩ | ⟨hk,c,hc,hcell⟩
 . exact wpAny_Name (wpAny_loadName_local I.ok.kind hk hn hm fin) hd
 . rcases hk with hk | hk
   . exact wpAny_Name (wpAny_loadName_cell I.ok.kind hk hc hcell fin) hd
   . exact wpAny_Name (wpAny_loadName_free I.ok.kind hk hc hcell fin hcd) hd
theorem Hk{i j pos}:PE X (.Constant (.int i) j pos) (tC (.int i)):=λ _ _ _ H _ I h=>wpAny_Constant_int ⟨.int i,H,I.tok _,%[|24],h⟩
theorem yj{b j pos}:PE X (.Constant (.bool b) j pos) (tC (.bl b)):=λ _ _ _ H _ I h=>Constant_bool ⟨.bl b,H,I,rfl,h⟩
theorem Io{j pos}:PE X (.Constant .none j pos) (tC .non):=λ _ _ _ H _ I h=>Constant_none ⟨.non,H,I,rfl,h⟩
theorem Ik{x j pos}:PE X (.Constant (.str x) j pos) (tC (.str x)):=λ _ _ _ H _ I h=>Calls.Constant_str ⟨.str x,H,I.tok _,%[|24],h⟩
def Gl(X:Cx)(x:Str):Prop:=X.env.kindOf x=some .globalImplicit
theorem jK{E:%[|16]}{pins:%[|21]}{s:Shared}{σ:St}{H:Hp}{pos:Pos}{Q:%[|16]}(I:%[|4])(hg:Gl X x)(hm:X.mg x=some u)(h:Q u s)
 (hd:%[|55]:=by decide):wpAny %[|9] X.A (eval (.Name x pos) X.env) Q E s:=
 Calls.Name_function_global I.ok.kind hg (Calls.loadGlobal_global (by rw[I.ok.glob];exact I.mod.glob.keeps I.bk) hm h) hd
theorem eG{E:%[|16]}{pins:%[|21]}{s:Shared}{σ:St}{H:Hp}{pos:Pos}{Q:%[|16]}(I:%[|4])(hg:Gl X x)(hm:X.mg x=none)(hv:bootBuiltins x=some u)(h:Q u s)
 (hn:x≠"__name__":=by decide)(hd:%[|55]:=by decide):wpAny %[|9] X.A (eval (.Name x pos) X.env) Q E s:=by
 obtain⟨mb,h1,h2⟩:=I.mod.blt
 exact Calls.Name_function_global I.ok.kind hg (Calls.loadGlobal_builtin (by rw[I.ok.glob];exact I.mod.glob.keeps I.bk) hm (by rw[I.ok.blt];exact h1.keeps I.bk) ((h2 x hn).trans hv) h) hd
theorem jC{v:V}{pos:Pos}(hg:Gl X x)(hm:X.mg x=some u)(r:RelV v u)(hd:%[|55]:=by decide):PE X (.Name x pos) (tC v):=
 λ _ _ _ H _ I h=>jK I hg hm ⟨v,H,I,r,h⟩ hd
theorem ug{v:V}{pos:Pos}(hg:Gl X x)(hm:X.mg x=none)(hv:bootBuiltins x=some u)(r:RelV v u)(hn:x≠"__name__":=by decide)(hd:%[|55]:=by decide):PE X (.Name x pos) (tC v):=
 λ _ _ _ H _ I h=>eG I hg hm hv ⟨v,H,I,r,h⟩ hn hd
variable {a b : Expr} {ta tb : TE} {pos : Pos}
variable {tA tB' : TT} {rest : %[|12]}
end
end L2
namespace L2
open PySem PySem.Spec PyProof.Rows
variable {K : PySem.W.Frag} {tg : Expr}
def SqL(K:PySem.W.Frag)(H:Hp)(a:Addr)(xs:List V):Prop:=
 Rd H a (.lst xs)∨
  ∃(o:Obj) (its:Array Value) (n:Nat),K.lookup a=some o/\o.cls=.type "list"/\o.dict=none/\o.data=.seq its n/\its.size≤sizeLine/\Vals xs its.toList
def SqT(K:PySem.W.Frag)(H:Hp)(a:Addr)(xs:List V):Prop:=
 Rd H a (.tup xs)∨
  ∃(o:Obj) (its:Array Value) (n:Nat),K.lookup a=some o/\o.cls=%[|29]/\o.data=.seq its n/\its.size≤sizeLine/\Vals xs its.toList
def WP:Value->Option V
 | .none=>some .non
 | .bool b=>some (.bl b)
 | .int i _=>some (.int i)
 | .str x _=>some (.str x)
 | .bytes b _=>some (.byt b)
 | .float b _=>some (.flt b)
 | .ref a=>some (.ref a)
 | .type n=>some (.ty n)
 | _=>none
theorem RelV.abs{x:V}{u:Value}(r:RelV x u):WP u=some x:=by
 cases x with
 | non=>cases r;rfl
 | bl _=>cases r;rfl
 | int _=>obtain⟨t,rfl⟩:=r;rfl
 | str _=>obtain⟨t,rfl⟩:=r;rfl
 | byt _=>obtain⟨t,rfl⟩:=r;rfl
 | flt _=>obtain⟨t,rfl⟩:=r;rfl
 | ref _=>cases r;rfl
 | ty _=>cases r;rfl
theorem RelV.inj{x y:V}{u:Value}(r:RelV x u)(q:RelV y u):x=y:=Option.some.inj (r.abs.symm.trans q.abs)
theorem Vals.inj:∀{xs ys:List V}{us:%[|11]},Vals xs us->Vals ys us->xs=ys
 | _,_,_,.nil,.nil=>rfl
 | _,_,_,.cons r t,.cons r' t'=>by rw[r.inj r',Vals.inj t t']
section
variable {X : Cx} {pins : List (Addr × Obj)} {σ : St} {H : Hp} {s : Shared} {a : Addr} {xs ys : List V}
theorem SqL.of(h:H a=some (.lst xs)):SqL K H a xs:=.inl (.inl h)
theorem SqT.of(h:H a=some (.tup xs)):SqT K H a xs:=.inl (.inl h)
theorem Inv.list(I:%[|4])(h:SqL X.K H a xs):∃its:%[|11],Vals xs its/\PlainL s.heap a its.toArray/\xs.length≤sizeLine:=by
 rcases h with h | ⟨o,its,n,hk,hc,hd,hs,hz,r⟩
 . obtain⟨z,its,n,r,e⟩:=h.ok I.hok
   exact⟨its,r,⟨_,n,e,rfl,rfl,rfl⟩,z⟩
 . refine⟨its.toList,r,⟨o,n,I.kIn a o hk,hc,hd,by simpa using hs⟩,?_⟩
   have e:=r.length
   simp only[Array.length_toList]at e
   omega
theorem Inv.tuple(I:%[|4])(h:SqT X.K H a xs):∃its:%[|11],Vals xs its/\IsTup s.heap a its.toArray/\xs.length≤sizeLine:=by
 rcases h with h | ⟨o,its,n,hk,hc,hs,hz,r⟩
 . obtain⟨z,its,r,p⟩:=h.ok I.hok
   exact⟨its,r,p,z⟩
 . refine⟨its.toList,r,⟨o,I.kIn a o hk,hc,n,by simpa using hs⟩,?_⟩
   have e:=r.length
   simp only[Array.length_toList]at e
   omega
theorem Inv.list_inj(I:%[|4])(h:SqL X.K H a xs)(h':SqL X.K H a ys):xs=ys:=by
 obtain⟨its,r,⟨o,n,e,_,_,d⟩,_⟩:=I.list h
 obtain⟨its',r',⟨o',n',e',_,_,d'⟩,_⟩:=I.list h'
 rw[e]at e';cases e'
 rw[d]at d'
 injection d' with d1 _
 have:its=its':=by simpa using congrArg Array.toList d1
 subst this
 exact r.inj r'
theorem Inv.tuple_inj(I:%[|4])(h:SqT X.K H a xs)(h':SqT X.K H a ys):xs=ys:=by
 obtain⟨its,r,⟨o,e,_,n,d⟩,_⟩:=I.tuple h
 obtain⟨its',r',⟨o',e',_,n',d'⟩,_⟩:=I.tuple h'
 rw[e]at e';cases e'
 rw[d]at d'
 injection d' with d1 _
 have:its=its':=by simpa using congrArg Array.toList d1
 subst this
 exact r.inj r'
end
abbrev Cx.wish(X:Cx)(E:%[|16]):Cx:={X with xe:=E}
abbrev Cx.nox(X:Cx):Cx:=X.wish %[|25]
theorem Cx.Ok.wish{X:Cx}(ok:X.Ok)(E:%[|16]):(X.wish E).Ok:=
 ⟨ok.mod,ok.kind,ok.glob,ok.blt,ok.above,ok.inj,ok.has,ok.cab,ok.hd,ok.frames,ok.stk,ok.exf,ok.bs,ok.bsz,ok.noex,ok.exfs,ok.funs,ok.frf⟩
theorem Cx.Ok.unwish{X:Cx}{E:%[|16]}(ok:(X.wish E).Ok):X.Ok:=
 ⟨ok.mod,ok.kind,ok.glob,ok.blt,ok.above,ok.inj,ok.has,ok.cab,ok.hd,ok.frames,ok.stk,ok.exf,ok.bs,ok.bsz,ok.noex,ok.exfs,ok.funs,ok.frf⟩
section
variable {X : Cx} {pins : List (Addr × Obj)} {σ : St} {H : Hp} {s : Shared} {E : Value -> Shared -> Prop}
theorem Inv.wish(I:%[|4])(E:%[|16]):Inv (X.wish E) pins σ H s:=⟨I.ok.wish E,I.os,I.bare,I.base,I.loc,I.cell,I.free,I.freeC,I.pin,I.hok,I.len⟩
theorem Inv.unwish(I:Inv (X.wish E) pins σ H s):%[|4]:=⟨I.ok.unwish,I.os,I.bare,I.base,I.loc,I.cell,I.free,I.freeC,I.pin,I.hok,I.len⟩
theorem SP.unwish{D:Ends}{f:Flow}{s':Shared}(h:SP (X.wish E) pins D f s'):SP X pins D f s':=by
 cases f with
 | next=>obtain⟨σ',H',I,q⟩:=h;exact⟨σ',H',I.unwish,q⟩
 | brk=>obtain⟨σ',H',I,q⟩:=h;exact⟨σ',H',I.unwish,q⟩
 | cont=>obtain⟨σ',H',I,q⟩:=h;exact⟨σ',H',I.unwish,q⟩
 | ret u=>obtain⟨v,σ',H',I,r,q⟩:=h;exact⟨v,σ',H',I.unwish,r,q⟩
theorem PSs.nox{st:List Stmt}{t:TS}(h:PSs X.nox st t):PSs X st t:=λ pins s σ H D I hw=>
 wpAny_mono (h pins s σ H D (I.wish _) hw) (λ _ _ q=>q.unwish) λ _ _ z=>False.elim z
end
section
variable {X : Cx} {st : Stmt} {rest : List Stmt} {t u : TS} {e : Expr} {te : TE} {pos : Pos}
theorem Inv.quiet{pins:%[|21]}{σ:St}{H:Hp}{s:Shared}(I:%[|4]):interactive X.env=false:=by simp[interactive,I.ok.kind]
end
abbrev TG:=V->St->Hp->(St->Hp->Prop)->Prop
def PG(X:Cx)(target:Expr)(t:TG):Prop:=
 ∀ (pins:%[|21])(s:Shared)(σ:St)(H:Hp)(v:V)(u:Value)(Q:St->Hp->Prop),%[|4]->RelV v u->t v σ H Q->
   wpAny %[|9] X.A (assign target X.env u) (λ _ s'=>∃σ' H',Inv X pins σ' H' s'/\Q σ' H') X.xe s
abbrev Wn:=V->V->V->Hp->(Hp->Prop)->Prop
def Xg(X:Cx)(t:Wn):Prop:=
 ∀ (pins:%[|21])(s:Shared)(σ:St)(H:Hp)(o i v:V)(ov iv u:Value)(Q:Hp->Prop),%[|4]->RelV o ov->RelV i iv->RelV v u->t o i v H Q->
   wpAny %[|9] X.A (setItem ov iv u) (λ _ s'=>∃H',Inv X pins σ H' s'/\Q H') X.xe s
section
variable {X : Cx} {pos : Pos}
def Vg(i:Nat):TG:=λ v σ H Q=>Q (σ.set i (some v)) H
def Xc(te:TE)(g:TG):TS:=λ D σ H=>te σ H λ x H1=>g x σ H1 D.nx
theorem RK{i:Nat}{x:Str}{e:Expr}{te:TE}{pos':Pos}(hN:X.N.Nodup)(hi:X.N[i]? =some x)(hx:Loc X.env.scope x)(he:PE X e te)(hs:swapsWith e (some (.Name x pos')) pos.line X.env=pure false:=by rfl)(hf:%[|85]:=by first | exact .inl rfl | exact .inr rfl | assumption):
 PS X (.Assign [.Name x pos'] e pos) (Xc te (Vg i)):=by
 intro pins s σ H D I h
 refine wpAny_Assign_Name (thn (he pins s σ H _ I h) λ v s1 ⟨y,H1,I1,r1,q1⟩=>?_) hs
 exact fj I1 hN hi hx r1 (λ s2 I2=>⟨_,H1,I2,q1⟩) hf
end
structure It where
 go:Nat->Hp->Prop
 yld:Nat->Hp->V->Hp->Prop
 stop:Nat->Hp->Prop
def cW(X:Cx)(pins:%[|21])(H:Hp)(b:Addr):Prop:=
 H b=none/\b≠X.env.locals/\b∉X.fs/\(b∈X.ex∨X.s₀.heap.objs.size≤b)/\(∀x c,%[|53]->c≠b)/\∀p∈X.pn++pins,p.1≠b
theorem Inv.fpOk{X:Cx}{pins:%[|21]}{σ:St}{H H':Hp}{s:Shared}{b:Addr}(I:%[|4])(hb:s.heap.objs.size≤b)(hn:H' b=none):cW X pins H' b:=by
 refine⟨hn,Nat.ne_of_gt (ZM I.lt hb),I.nofs hb,.inr (Nat.le_trans I.sz hb),λ x c e z=>?_,λ p hp z=>?_⟩
 . obtain⟨v,q⟩:=I.cell x c e
   exact absurd (ZM q.lt (by rw[z];exact hb)) (Nat.lt_irrefl _)
 . exact absurd (ZM (ZE (I.pin p hp).1) (by rw[z];exact hb)) (Nat.lt_irrefl _)
structure Turn(P:Program)(w:World)(K:PySem.W.Frag)(tg:Expr)(J:It)(fp:List Addr)(it:Addr)(tn:Nat->Heap->Prop):Prop where
 mem:it∈fp
 obj:∀i h,tn i h->∀b∈fp,∃o,h.get? b=some o/\∀v,o.data≠.cell v
 keep:∀i h h',tn i h->(∀b∈fp,∀o,h.get? b=some o->h'.get? b=some o)->tn i h'
 item:∀(X:Cx),X.prog=P->X.w=w->X.K=K->X.calm=true->∀(i:Nat)(pins:%[|21])(s:Shared)(σ:St)(H:Hp)(E:%[|16]),%[|4]->(∀b∈fp,cW X pins H b)->tn i s.heap->J.go i H->
  wpAny (model P w) X.A (pyNext (.ref it)) (λ r s1=>∃u,r=some u/\
   wpAny (model P w) X.A (letOwnedTupleGo tg (.ref it) u) (λ _ s2=>∃x H',Inv X pins σ H' s2/\RelV x u/\J.yld i H x H'/\tn (i+1) s2.heap/\∀b∈fp,H' b=none) E s1) E s
 done:∀(X:Cx),X.prog=P->X.w=w->X.K=K->X.calm=true->∀(i:Nat)(pins:%[|21])(s:Shared)(σ:St)(H:Hp)(E:%[|16]),%[|4]->(∀b∈fp,cW X pins H b)->tn i s.heap->J.stop i H->
  wpAny (model P w) X.A (pyNext (.ref it)) (λ r s1=>r=none/\Inv X pins σ H s1) E s
 self:∀(A:Around)(i:Nat)(s:Shared)(Q:%[|16])(E:%[|16]),tn i s.heap->Q (.ref it) s->wpAny (model P w) A (pyIter (.ref it)) Q E s
abbrev TI:=St->Hp->(It->Hp->Prop)->Prop
def PIE(X:Cx)(pins:%[|21])(σ:St)(tg:Expr)(R:It->Hp->Prop)(itv:Value)(s2:Shared):Prop:=
 ∃(it:Addr) (fp:List Addr) (tn:Nat->Heap->Prop) (J:It) (H':Hp),itv=.ref it/\Inv X pins σ H' s2/\Turn X.prog X.w X.K tg J fp it tn/\tn 0 s2.heap/\(∀b∈fp,cW X pins H' b)/\R J H'
def PI(X:Cx)(tg iter:Expr)(wi:TI):Prop:=
 ∀ (pins:%[|21])(s:Shared)(σ:St)(H:Hp)(R:It->Hp->Prop),%[|4]->wi σ H R->
   wpAny %[|9] X.A (eval iter X.env) (λ v s1=>wpAny %[|9] X.A (pyIter v) (PIE X pins σ tg R) X.xe s1) X.xe s
theorem yp{M:Model}{A:Around}{E:%[|16]}{s:Shared}{it:Addr}{u:Value}{o:Obj}{n:String}{vs:Array Value}{Q:Unit->Shared->Prop}(ho:s.heap.get? it=some o)(hc:o.cls=.type n)(hd:o.data=.fields vs)
 (hn:["enumerate","zip","dict_itemiterator","dict_reverseitemiterator","odict_iterator","itertools.zip_longest","itertools.pairwise"].contains n=false)(hQ:Q () s):wpAny M A (letOwnedTupleGo tg (.ref it) u) Q E s:=by
 unfold letOwnedTupleGo
 cases tg<;>first
  | exact ZB hQ
  | (cases u<;>first
   | exact ZB hQ
   | (refine ZA (wpAny_load ho ?_)
      rw[hc,hd]
      show wpAny M A (if(["enumerate","zip","dict_itemiterator","dict_reverseitemiterator","odict_iterator","itertools.zip_longest","itertools.pairwise"].contains n&&vs[0]? ==some (rawInt _))=true then _ else _) Q E s
      rw[if_neg (by intro h;rw[hn,Bool.false_and]at h;cases h)]
      exact ZB hQ))
def Itl(K:PySem.W.Frag)(a:Addr):It:=
 ⟨λ i H=>∃xs x,SqL K H a xs/\xs[i]? =some x,λ i H x H'=>H'=H/\∀xs,SqL K H a xs->xs[i]? =some x,λ i H=>∃xs,SqL K H a xs/\xs.length≤i⟩
def Itt(K:PySem.W.Frag)(a:Addr):It:=
 ⟨λ i H=>∃xs x,SqT K H a xs/\xs[i]? =some x,λ i H x H'=>H'=H/\∀xs,SqT K H a xs->xs[i]? =some x,λ i H=>∃xs,SqT K H a xs/\xs.length≤i⟩
def Itr(lo:Int)(n:Nat):It:=⟨λ i _=>i<n,λ i H x H'=>H'=H/\x=.int (lo+i),λ i _=>n≤i⟩
theorem mj{P:Program}{w:World}(a it:Addr):Turn P w K tg (Itl K a) [it] it (λ i h=>h.IsListIter it a i) where
 mem:=by simp
 obj:=λ i h st b hb=>by
  have e:b=it:=by simpa using hb
  subst e
  obtain⟨o,e,c,d⟩:=st
  exact⟨o,e,λ v z=>by rw[d]at z;cases z⟩
 keep:=λ i h h' st k=>st.at λ o e=>k it (by simp) o e
 item:=by
  intro X hP hw hK hc i pins s σ H E I hf st hg
  subst hP hw hK
  obtain⟨xs,x,hq,hx⟩:=hg
  obtain⟨its,rv,p,hz⟩:=I.list hq
  obtain⟨u,hu,ru⟩:=rv.get hx
  obtain⟨f0,f1,f2,f3,f4,f5⟩:=hf it (by simp)
  refine wpAny_pyNext_list_item st p.isList (x:=u) (by simpa using hu) λ h' st' sb=>?_
  have I1:Inv X pins σ H {s with heap:=h'}:=I.turned (t':=s.toks) (λ b o hb e=>(sb.2 b hb).trans e) f0 f1 f3 f4 f5
  obtain⟨o,e,c,d⟩:=id st'
  exact⟨u,rfl,yp (s:={s with heap:=h'}) e c d %[|2] ⟨x,H,I1,ru,⟨rfl,λ ys hy=>by rw[I.list_inj hy hq];exact hx⟩,st',λ b hb=>(hf b hb).1⟩⟩
 done:=by
  intro X hP hw hK hc i pins s σ H E I hf st hg
  subst hP hw hK
  obtain⟨xs,hq,hx⟩:=hg
  obtain⟨its,rv,p,hz⟩:=I.list hq
  obtain⟨f0,f1,f2,f3,f4,f5⟩:=hf it (by simp)
  have hl:=rv.length
  exact wpAny_pyNext_list_end (I.ok.hd hc) st p.isList (by simp;omega) λ h' eb=>⟨rfl,I.turned (t':=s.toks) (λ b o hb e=>eb b o hb e) f0 f1 f3 f4 f5⟩
 self:=λ _ _ _ _ _ st h=>wpAny_pyIter_listiter st h
theorem rF{P:Program}{w:World}(a it:Addr):Turn P w K tg (Itt K a) [it] it (λ i h=>h.IsTupleIter it a i) where
 mem:=by simp
 obj:=λ i h st b hb=>by
  have e:b=it:=by simpa using hb
  subst e
  obtain⟨o,e,c,d⟩:=st
  exact⟨o,e,λ v z=>by rw[d]at z;cases z⟩
 keep:=λ i h h' st k=>st.at λ o e=>k it (by simp) o e
 item:=by
  intro X hP hw hK hc i pins s σ H E I hf st hg
  subst hP hw hK
  obtain⟨xs,x,hq,hx⟩:=hg
  obtain⟨its,rv,p,hz⟩:=I.tuple hq
  obtain⟨u,hu,ru⟩:=rv.get hx
  obtain⟨f0,f1,f2,f3,f4,f5⟩:=hf it (by simp)
  refine wpAny_pyNext_tuple_item st (show s.heap.IsTuple a its.toArray from p) (x:=u) (by simpa using hu) λ h' st' sb=>?_
  have I1:Inv X pins σ H {s with heap:=h'}:=I.turned (t':=s.toks) (λ b o hb e=>(sb.2 b hb).trans e) f0 f1 f3 f4 f5
  obtain⟨o,e,c,d⟩:=id st'
  exact⟨u,rfl,yp (s:={s with heap:=h'}) e c d %[|2] ⟨x,H,I1,ru,⟨rfl,λ ys hy=>by rw[I.tuple_inj hy hq];exact hx⟩,st',λ b hb=>(hf b hb).1⟩⟩
 done:=by
  intro X hP hw hK hc i pins s σ H E I hf st hg
  subst hP hw hK
  obtain⟨xs,hq,hx⟩:=hg
  obtain⟨its,rv,p,hz⟩:=I.tuple hq
  obtain⟨f0,f1,f2,f3,f4,f5⟩:=hf it (by simp)
  have hl:=rv.length
  exact wpAny_pyNext_tuple_end (I.ok.hd hc) st (show s.heap.IsTuple a its.toArray from p) (by simp;omega) λ h' eb=>⟨rfl,I.turned (t':=s.toks) (λ b o hb e=>eb b o hb e) f0 f1 f3 f4 f5⟩
 self:=λ _ _ _ _ _ st h=>wpAny_pyIter_tupleiter st h
theorem Es{P:Program}{w:World}(it:Addr)(lo:Int)(n:Nat):Turn P w K tg (Itr lo n) [it] it (λ i h=>IsRangeIter h it (lo+(i:Nat)*1) ((n:Int)-(i:Nat)) 1) where
 mem:=by simp
 obj:=λ i h st b hb=>by
  have e:b=it:=by simpa using hb
  subst e
  exact⟨_,st,λ v z=>by
   have z':Data.fields _=Data.cell v:=z
   cases z'⟩
 keep:=λ i h h' st k=>k it (by simp) _ st
 item:=by
  intro X hP hw hK hc i pins s σ H E I hf st hg
  subst hP hw hK
  obtain⟨f0,f1,f2,f3,f4,f5⟩:=hf it (by simp)
  have W:=Walks.range (prog:=X.prog) (w:=X.w) (I.ok.hd hc) it lo 1 n
  refine W.item i s _ _ hg st λ v h' tk hv st' kk=>?_
  obtain⟨t,rfl⟩:=hv
  have I1:Inv X pins σ H {s with heap:=h',toks:=tk}:=I.turned (λ b o hb e=>kk b o (by simpa using hb) e) f0 f1 f3 f4 f5
  refine⟨_,rfl,yp (s:={s with heap:=h',toks:=tk}) (n:="range_iterator") st' rfl rfl %[|2] ⟨.int (lo+i),H,I1,⟨t,?_⟩,⟨rfl,rfl⟩,st',λ b hb=>(hf b hb).1⟩⟩
  rw[Int.mul_one]
 done:=by
  intro X hP hw hK hc i pins s σ H E I hf st hg
  subst hP hw hK
  obtain⟨f0,f1,f2,f3,f4,f5⟩:=hf it (by simp)
  exact wpAny_pyNext_range_end (I.ok.hd hc) st (by have:n≤i:=hg;omega) λ h' eb=>⟨rfl,I.turned (t':=s.toks) (λ b o hb e=>eb b o hb e) f0 f1 f3 f4 f5⟩
 self:=λ _ _ _ _ _ st h=>wpAny_pyIter_rangeiter st h
end L2
namespace L2
open PySem PySem.Spec PyProof.Rows
section
variable {X : Cx} {tg : Expr}
theorem Az{pins:%[|21]}{σ:St}{H:Hp}{s:Shared}{R:It->Hp->Prop}{E:%[|16]}{lo hi:Int}{t u v:Tok}{tk:Nat}(I:%[|4])(h1: -(2 ^ 62)≤lo)(h2:lo<2 ^ 62)(h3: -(2 ^ 62)≤hi)(h4:hi<2 ^ 62)
 (q:R (Itr lo (hi-lo).toNat) H):wpAny %[|9] X.A (pyIter %[|59]) (PIE X pins σ tg R) E {s with heap:=s.heap.push {cls:=.type "range",data:=.fields #[.int lo t,.int hi u,.int 1 v]},toks:=tk}:=by
 refine wpAny_pyIter_range (IsRange.new ..) (small_one h1 h2 h3 h4) ?_
 have I1:Inv X pins σ H {s with heap:=s.heap.push {cls:=.type "range",data:=.fields #[.int lo t,.int hi u,.int 1 v]},toks:=tk}:=I.kept %[|81]
 refine⟨(s.heap.push {cls:=.type "range",data:=.fields #[.int lo t,.int hi u,.int 1 v]}).objs.size,[(s.heap.push {cls:=.type "range",data:=.fields #[.int lo t,.int hi u,.int 1 v]}).objs.size],_,_,H,rfl,
  I1.kept (t':=tk) %[|81],Es _ lo (hi-lo).toNat,?_,λ b hb=>?_,q⟩
 . have e1:lo+((0:Nat):Int)*1=lo:=by simp
   have e2:(((hi-lo).toNat:Nat):Int)-((0:Nat):Int)=Builtin.Range.rangeSize lo hi 1:=by rw[rangeSize_one];split<;>omega
   show IsRangeIter _ _ (lo+((0:Nat):Int)*1) ((((hi-lo).toNat:Nat):Int)-((0:Nat):Int)) 1
   rw[e1,e2]
   exact %[|34]
 . have e:b=(s.heap.push {cls:=.type "range",data:=.fields #[.int lo t,.int hi u,.int 1 v]}).objs.size:=by simpa using hb
   subst e
   exact I1.fpOk (x9 _) (I1.hok.fresh (x9 _))
def Vf(ta:TA):TI:=λ σ H R=>ta σ H λ vs H1=>∃j:Int,vs=[.int j]/\ -(2 ^ 62)≤j/\j<2 ^ 62/\R (Itr 0 j.toNat) H1
def We(ta:TA):TI:=λ σ H R=>ta σ H λ vs H1=>∃i j:Int,vs=[.int i,.int j]/\(-(2 ^ 62)≤i/\i<2 ^ 62/\ -(2 ^ 62)≤j/\j<2 ^ 62)/\R (Itr i (j-i).toNat) H1
theorem Jm{a:Expr}{ta:TA}{p pos:Pos}(hg:Gl X "range")(hm:X.mg "range"=none)(ha:PA X [a] ta)(hs:starEach [a] X.env=[(false,eval a X.env)]:=by rfl):PI X tg (.Call (.Name "range" p) [a] [] pos) (Vf ta):=by
 intro pins s σ H R I h
 refine Call_ (eG I hg hm boot_range (PyProof.Rows.callWith_type1 (thn (ha pos pins s σ H _ I h) λ us s1 ⟨vs,H1,I1,r1,q1⟩=>?_) hs rfl))
 obtain⟨j,e,q1,q2,q⟩:=q1
 subst e
 cases r1 with
 | cons r rr=>
   cases rr
   obtain⟨t,rfl⟩:=r
   exact call_range_1 (Az I1 %[|1] %[|1] q1 q2 (by simpa using q))
theorem Jv{a b:Expr}{ta:TA}{p pos:Pos}(hg:Gl X "range")(hm:X.mg "range"=none)(ha:PA X [a,b] ta)(hs:starEach [a,b] X.env=[(false,eval a X.env),(false,eval b X.env)]:=by rfl)(hs2:starEach [b] X.env=[(false,eval b X.env)]:=by rfl):
 PI X tg (.Call (.Name "range" p) [a,b] [] pos) (We ta):=by
 intro pins s σ H R I h
 refine Call_ (eG I hg hm boot_range (PyProof.Rows.callWith_type1 (thn (ha pos pins s σ H _ I h) λ us s1 ⟨vs,H1,I1,r1,q1⟩=>?_) (by rw[hs,hs2]) (by rw[hs2];rfl)))
 obtain⟨i,j,e,⟨q1,q2,q3,q4⟩,q⟩:=q1
 subst e
 cases r1 with
 | cons r rr=>
   cases rr with
   | cons r' rr=>
     cases rr
     obtain⟨t,rfl⟩:=r
     obtain⟨t',rfl⟩:=r'
     exact call_range_2 (Az I1 q1 q2 q3 q4 q)
def WW(wi:TI)(g:TG)(tb:TS):TS:=λ D σ H=>wi σ H λ J H1=>∃W:Nat->Nat->St->Hp->Prop,(∃m,W 0 m σ H1)/\∀i m σ H,W i m σ H->
 (J.stop i H/\D.nx σ H)∨(J.go i H/\∃N:St->Hp->Prop,(∀σ' H',N σ' H'->∃m',m'<m/\W (i+1) m' σ' H')/\∀x H',J.yld i H x H'->g x σ H' λ σ2 H2=>tb {D with nx:=N,ct:=N,bk:=D.nx} σ2 H2)
def jO(fp:List Addr)(h:Heap):%[|21]:=fp.filterMap λ b=>(h.get? b).map λ o=>(b,o)
theorem cP{fp:List Addr}{h:Heap}{b:Addr}{o:Obj}(hb:b∈fp)(e:h.get? b=some o):(b,o)∈jO fp h:=List.mem_filterMap.mpr ⟨b,hb,by rw[e];rfl⟩
theorem Hw{fp:List Addr}{h:Heap}{p:Addr×Obj}(hp:p∈jO fp h):p.1∈fp/\h.get? p.1=some p.2:=by
 obtain⟨b,hb,e⟩:=List.mem_filterMap.mp hp
 cases q:h.get? b with
 | none=>rw[q]at e;cases e
 | some o=>
   rw[q]at e
   have e':(b,o)=p:=Option.some.inj e
   subst e'
   exact⟨hb,q⟩
theorem Inv.pinned{pins:%[|21]}{σ:St}{H:Hp}{s:Shared}{fp:List Addr}(I:%[|4])(hf:∀b∈fp,cW X pins H b)(ho:∀b∈fp,∃o,%[|56]/\∀v,o.data≠.cell v):Inv X (pins++jO fp s.heap) σ H s:=
 I.pins_of λ p hp=>(ZK.mp hp).elim (λ z=>I.pin p (List.mem_append_right _ z)) λ z=>by
  obtain⟨hb,e⟩:=Hw z
  obtain⟨f0,f1,f2,_⟩:=hf p.1 hb
  obtain⟨o,e',d⟩:=ho p.1 hb
  rw[e]at e';cases e'
  exact⟨e,f0,f1,f2,d⟩
theorem Inv.unpinned{pins pl:%[|21]}{σ:St}{H:Hp}{s:Shared}(I:Inv X (pins++pl) σ H s):%[|4]:=I.pins_of λ p hp=>I.pin p (List.mem_append_right _ (List.mem_append_left _ hp))
theorem zx{iter:Expr}{body:List Stmt}{wi:TI}{g:TG}{tb:TS}{pos:Pos}(hp:PassesOwn %[|9] X.A X.env X.xe)(hc:X.calm=true)(hi:PI X tg iter wi)(hg:PG X tg g)(hb:PSs X body tb)
 (hs:∀x,foldedSetIterable iter X.env x=pure x:=by intro _;rfl):PS X (.For tg iter body [] pos) (WW wi g tb):=by
 intro pins s σ H D I h
 refine wpAny_For (thn (hi pins s σ H _ I h) λ v s1 h1=>thn h1 λ itv s2 h2=>?_) hs
 obtain⟨it,fp,tn,J,H2,e,I2,T,st2,f2,W,⟨m0,w0⟩,turn⟩:=h2
 subst e
 have stat:∀{H':Hp},(∀b∈fp,H' b=none)->∀b∈fp,cW X pins H' b:=λ hn b hb=>⟨hn b hb,(f2 b hb).2⟩
 refine codeAny_forLoop_any (λ n s'=>∃i σ' H',Inv X pins σ' H' s'/\tn i s'.heap/\(∀b∈fp,H' b=none)/\W i n σ' H') ?_ m0 ⟨0,σ,H2,I2,st2,λ b hb=>(f2 b hb).1,w0⟩
 rintro n s3 ⟨i,σ3,H3,I3,st3,fr3,w3⟩
 rcases turn i n σ3 H3 w3 with⟨stop,qn⟩ | ⟨go,N,hN,step⟩
 . refine wpAny_passesOwn hp (thn (T.done X rfl rfl rfl hc i pins s3 σ3 H3 X.xe I3 (stat fr3) st3 stop) λ r s4 ⟨hr,I4⟩=>?_)
   subst hr
   exact wpAny_execs_nil ⟨σ3,H3,I4,qn⟩
 . refine wpAny_passesOwn hp (thn (T.item X rfl rfl rfl hc i pins s3 σ3 H3 X.xe I3 (stat fr3) st3 go) λ r s4 ⟨u,hr,h4⟩=>?_)
   subst hr
   refine wpAny_passesOwn hp (thn h4 λ _ s5 ⟨x,H5,I5,r5,y5,st5,fr5⟩=>?_)
   have I5':=I5.pinned (stat fr5) (T.obj _ _ st5)
   refine wpAny_passesOwn hp (thn (hg _ s5 σ3 H5 x u _ I5' r5 (step x H5 y5)) λ _ s6 ⟨σ6,H6,I6,q6⟩=>?_)
   refine wpAny_passesOwn hp (thn (hb _ s6 σ6 H6 _ I6 q6) λ f s7 q7=>?_)
   have again:∀{σ7:St}{H7:Hp},Inv X (pins++jO fp s5.heap) σ7 H7 s7->N σ7 H7->∃m,m<n/\∃i σ' H',Inv X pins σ' H' s7/\tn i s7.heap/\(∀b∈fp,H' b=none)/\W i m σ' H':=λ{σ7 H7} I7 n7=>by
    obtain⟨m',hm,w7⟩:=hN σ7 H7 n7
    refine⟨m',hm,i+1,σ7,H7,I7.unpinned,T.keep _ _ _ st5 λ b hb o e=>(I7.pin (b,o) (List.mem_append_right _ (List.mem_append_right _ (cP hb e)))).1,λ b hb=>?_,w7⟩
    obtain⟨o,e,d⟩:=T.obj _ _ st5 b hb
    exact(I7.pin (b,o) (List.mem_append_right _ (List.mem_append_right _ (cP hb e)))).2.1
   cases f with
   | next=>obtain⟨σ7,H7,I7,n7⟩:=q7;exact again I7 n7
   | cont=>obtain⟨σ7,H7,I7,n7⟩:=q7;exact again I7 n7
   | brk=>obtain⟨σ7,H7,I7,q7⟩:=q7;exact⟨σ7,H7,I7.unpinned,q7⟩
   | ret v=>obtain⟨x7,σ7,H7,I7,r7,q7⟩:=q7;exact⟨x7,σ7,H7,I7.unpinned,r7,q7⟩
end
abbrev R2:=V->V->Hp->VK->Prop
def OpR(X:Cx)(f:Value->Value->Sem Value)(r:R2):Prop:=
 ∀ (pins:%[|21])(s:Shared)(σ:St)(H:Hp)(x y:V)(v u:Value)(Q:VK),%[|4]->RelV x v->RelV y u->r x y H Q->
   wpAny %[|9] X.A (f v u) (EP X pins σ Q) X.xe s
def UnR(X:Cx)(f:Value->Sem Value)(r:V->Hp->VK->Prop):Prop:=
 ∀ (pins:%[|21])(s:Shared)(σ:St)(H:Hp)(x:V)(v:Value)(Q:VK),%[|4]->RelV x v->r x H Q->
   wpAny %[|9] X.A (f v) (EP X pins σ Q) X.xe s
def eQ(X:Cx)(f:Value)(r:List V->Hp->VK->Prop):Prop:=
 ∀ (pins:%[|21])(s:Shared)(σ:St)(H:Hp)(xs:List V)(us:%[|11])(Q:VK),%[|4]->Vals xs us->r xs H Q->
   wpAny %[|9] X.A (call f us) (EP X pins σ Q) X.xe s
def tOp(r:R2)(ta tb:TE):TE:=λ σ H Q=>ta σ H λ x H1=>tb σ H1 λ y H2=>r x y H2 Q
def rI(C:Int->Int->Prop)(g:Int->Int->V):R2:=λ x y H Q=>∃i j,x=.int i/\y=.int j/\C i j/\Q (g i j) H
def rI0(g:Int->Int->V):R2:=λ x y H Q=>∃i j,x=.int i/\y=.int j/\Q (g i j) H
def rU(g:Int->V):V->Hp->VK->Prop:=λ x H Q=>∃i,x=.int i/\Q (g i) H
section
variable {X : Cx} {a b c : Expr} {ta tb tc : TE} {pos : Pos}
theorem Wu(ha:PE X a ta)(hb:PE X b tb){pins:%[|21]}{s:Shared}{σ:St}{H:Hp}{R:V->V->Hp->Prop}(I:%[|4])
 (h:ta σ H λ x H1=>tb σ H1 λ y H2=>R x y H2){Q:%[|16]}{f:Value->Value->Sem Value}
 (hf:∀v u s2 x y H2,Inv X pins σ H2 s2->RelV x v->RelV y u->R x y H2->wpAny %[|9] X.A (f v u) Q X.xe s2):
 wpAny %[|9] X.A (eval a X.env) (λ v s₁=>wpAny %[|9] X.A (eval b X.env) (λ u s₂=>wpAny %[|9] X.A (f v u) Q X.xe s₂) X.xe s₁) X.xe s:=by
 refine thn (ha pins s σ H _ I h) λ v s1 ⟨x,H1,I1,r1,q1⟩=>?_
 refine thn (hb pins s1 σ H1 _ I1 q1) λ u s2 ⟨y,H2,I2,r2,q2⟩=>?_
 exact hf v u s2 x y H2 I2 r1 r2 q2
theorem opI{f:Value->Value->Sem Value}{C:Int->Int->Prop}{g:Int->Int->Int}
 (rule:∀(i j:Int)(t u:Tok)(s:Shared)(Q:%[|16])(E:%[|16]),C i j->Q (.int (g i j) s.toks) {s with toks:=s.toks+1}->wpAny %[|9] X.A (f (.int i t) (.int j u)) Q E s):
 OpR X f (rI C λ i j=>.int (g i j)):=by
 intro pins s σ H x y v u Q I rx ry h
 obtain⟨i,j,rfl,rfl,hc,q⟩:=h
 obtain⟨t,rfl⟩:=rx
 obtain⟨t',rfl⟩:=ry
 exact rule i j t t' s _ _ hc ⟨.int (g i j),H,I.tok _,%[|24],q⟩
theorem UT{f:Value->Value->Sem Value}{g:Int->Int->Int}
 (rule:∀(i j:Int)(t u:Tok)(s:Shared)(Q:%[|16])(E:%[|16]),Q (.int (g i j) s.toks) {s with toks:=s.toks+1}->wpAny %[|9] X.A (f (.int i t) (.int j u)) Q E s):
 OpR X f (rI0 λ i j=>.int (g i j)):=by
 intro pins s σ H x y v u Q I rx ry h
 obtain⟨i,j,rfl,rfl,q⟩:=h
 obtain⟨t,rfl⟩:=rx
 obtain⟨t',rfl⟩:=ry
 exact rule i j t t' s _ _ ⟨.int (g i j),H,I.tok _,%[|24],q⟩
theorem En{f:Value->Value->Sem Value}{g:Int->Int->Bool}
 (rule:∀(i j:Int)(t u:Tok)(s:Shared)(Q:%[|16])(E:%[|16]),Q (.bool (g i j)) s->wpAny %[|9] X.A (f (.int i t) (.int j u)) Q E s):
 OpR X f (rI0 λ i j=>.bl (g i j)):=by
 intro pins s σ H x y v u Q I rx ry h
 obtain⟨i,j,rfl,rfl,q⟩:=h
 obtain⟨t,rfl⟩:=rx
 obtain⟨t',rfl⟩:=ry
 exact rule i j t t' s _ _ ⟨.bl (g i j),H,I,rfl,q⟩
def W5(i j:Int):Prop:=0<j/\j<1073741824
def CPow(i j:Int):Prop:=0≤j/\j≤1000000/\i.natAbs<2 ^ 64
def CMul(i j:Int):Prop:=(-(2 ^ 64)<i/\i<2 ^ 64)∨(-(2 ^ 64)<j/\j<2 ^ 64)
theorem CMul.ok{i j:Int}(h:CMul i j):IntMulOk i j:=by
 rcases h with⟨h1,h2⟩ | ⟨h1,h2⟩
 . exact .of_left (intBits_le_64 h1 h2)
 . exact .of_right (intBits_le_64 h1 h2)
theorem QH:OpR X (binaryOp .Add) (rI0 λ i j=>.int (i+j)):=UT λ _ _ _ _ _ _ _ q=>add_int q
theorem Tq:OpR X (binaryOp .Sub) (rI0 λ i j=>.int (i-j)):=UT λ _ _ _ _ _ _ _ q=>sub_int q
theorem Rj:OpR X (binaryOp .Mult) (rI CMul λ i j=>.int (i*j)):=opI λ _ _ _ _ _ _ _ hc q=>mul_int q hc.ok
theorem Py:OpR X (binaryOp .FloorDiv) (rI W5 λ i j=>.int (i/j)):=opI λ i j _ _ _ _ _ hc q=>by
 have h1:(0:Int)<j:=hc.1
 have h2:j<1073741824:=hc.2
 exact floordiv_int %[|1] (by rw[Int.fdiv_eq_ediv_of_nonneg i %[|1]];exact q) (.inl (PyProof.noPylong_small %[|1]))
theorem Q5:OpR X (binaryOp .Mod) (rI (λ _ j=>0<j) λ i j=>.int (i % j)):=opI λ i j _ _ _ _ _ hc q=>by
 have h1:(0:Int)<j:=hc
 exact mod_int' %[|1] (by rw[Int.fmod_eq_emod_of_nonneg i %[|1]];exact q)
theorem Ut:OpR X (binaryOp .Pow) (rI CPow λ i j=>.int (i ^ j.toNat)):=opI λ _ _ _ _ _ _ _ hc q=>pow_int_small hc.1 hc.2.1 hc.2.2 q
theorem unI{f:Value->Sem Value}{g:Int->Int}
 (rule:∀(i:Int)(t:Tok)(s:Shared)(Q:%[|16])(E:%[|16]),Q (.int (g i) s.toks) {s with toks:=s.toks+1}->wpAny %[|9] X.A (f (.int i t)) Q E s):
 UnR X f (rU λ i=>.int (g i)):=by
 intro pins s σ H x v Q I rx h
 obtain⟨i,rfl,q⟩:=h
 obtain⟨t,rfl⟩:=rx
 exact rule i t s _ _ ⟨.int (g i),H,I.tok _,%[|24],q⟩
theorem Ss:UnR X (unaryOp .USub) (rU λ i=>.int (-i)):=unI λ _ _ _ _ _ q=>neg_int q
end
def Rz:V->V->Bool
 | .non,.non=>true | .non,.int _=>true | .int _,.non=>true | .non,.bl _=>true | .bl _,.non=>true | .non,.str _=>true | .str _,.non=>true
 | .int _,.int _=>true | .bl _,.bl _=>true | .str _,.str _=>true | .byt _,.byt _=>true
 | .int _,.str _=>true | .str _,.int _=>true | .bl _,.str _=>true | .str _,.bl _=>true
 | _,_=>false
def rEq:R2:=λ x y H Q=>Rz x y=true/\Q (.bl (decide (x=y))) H
def rNe:R2:=λ x y H Q=>Rz x y=true/\Q (.bl (!decide (x=y))) H
theorem m8{i j:Int}:decide (V.int i=V.int j)=(i==j):=by
 rw[Bool.eq_iff_iff]
 simp
theorem mG{i j:Bool}:decide (V.bl i=V.bl j)=(i==j):=by
 rw[Bool.eq_iff_iff]
 simp
theorem Dw{i j:Str}:decide (V.str i=V.str j)=(i==j):=by
 rw[Bool.eq_iff_iff]
 simp
theorem CJ{i j:Array UInt8}:decide (V.byt i=V.byt j)=(i.toList==j.toList):=by
 rw[Bool.eq_iff_iff]
 cases i
 cases j
 simp
section
variable {X : Cx} {a b c : Expr} {ta tb tc : TE} {pos : Pos}
theorem aG{pins:%[|21]}{σ:St}{H:Hp}{s:Shared}{Q:VK}{k k':Bool}(I:%[|4])(q:Q (.bl k) H)(e:k=k'):EP X pins σ Q (.bool k') s:=by
 subst e
 exact⟨.bl k,H,I,rfl,q⟩
theorem Ep:OpR X (compareOp .Eq) rEq:=by
 intro pins s σ H x y v u Q I rx ry h
 obtain⟨hs,q⟩:=h
 cases x with
 | non=>
   cases rx
   cases y with
   | non=>cases ry;exact PySem.EqNone.eq_none_none %[|50]
   | bl j=>cases ry;exact PySem.EqNone.eq_none_bool %[|50]
   | int j=>obtain⟨t',rfl⟩:=ry;exact PySem.EqNone.eq_none_int %[|50]
   | str j=>obtain⟨t',rfl⟩:=ry;exact PySem.EqNone.eq_none_str %[|50]
   | _=>exact %[|75]
 | bl i=>
   cases rx
   cases y with
   | non=>cases ry;exact PySem.EqNone.eq_bool_none %[|50]
   | bl j=>cases ry;exact eq_bool (aG I q mG)
   | str j=>obtain⟨t',rfl⟩:=ry;exact PySem.EqMixed.eq_bool_str %[|50]
   | _=>exact %[|75]
 | int i=>
   obtain⟨t,rfl⟩:=rx
   cases y with
   | non=>cases ry;exact PySem.EqNone.eq_int_none %[|50]
   | int j=>obtain⟨t',rfl⟩:=ry;exact eq_int (aG I q m8)
   | str j=>obtain⟨t',rfl⟩:=ry;exact PySem.EqMixed.eq_int_str %[|50]
   | _=>exact %[|75]
 | str i=>
   obtain⟨t,rfl⟩:=rx
   cases y with
   | non=>cases ry;exact PySem.EqNone.eq_str_none %[|50]
   | bl j=>cases ry;exact PySem.EqMixed.eq_str_bool %[|50]
   | int j=>obtain⟨t',rfl⟩:=ry;exact PySem.EqMixed.eq_str_int %[|50]
   | str j=>obtain⟨t',rfl⟩:=ry;exact eq_str (aG I q Dw)
   | _=>exact %[|75]
 | byt i=>
   obtain⟨t,rfl⟩:=rx
   cases y with
   | byt j=>obtain⟨t',rfl⟩:=ry;exact PySem.W.eq_bytes (aG I q CJ)
   | _=>exact %[|75]
 | _=>cases y<;>exact %[|75]
theorem GR:OpR X (compareOp .NotEq) rNe:=by
 intro pins s σ H x y v u Q I rx ry h
 obtain⟨hs,q⟩:=h
 cases x with
 | non=>
   cases rx
   cases y with
   | non=>cases ry;exact PySem.EqNone.ne_none_none %[|50]
   | bl j=>cases ry;exact PySem.EqNone.ne_none_bool %[|50]
   | int j=>obtain⟨t',rfl⟩:=ry;exact PySem.EqNone.ne_none_int %[|50]
   | str j=>obtain⟨t',rfl⟩:=ry;exact PySem.EqNone.ne_none_str %[|50]
   | _=>exact %[|75]
 | bl i=>
   cases rx
   cases y with
   | non=>cases ry;exact PySem.EqNone.ne_bool_none %[|50]
   | bl j=>cases ry;exact ne_bool (aG I q (congrArg not mG))
   | str j=>obtain⟨t',rfl⟩:=ry;exact PySem.EqMixed.ne_bool_str %[|50]
   | _=>exact %[|75]
 | int i=>
   obtain⟨t,rfl⟩:=rx
   cases y with
   | non=>cases ry;exact PySem.EqNone.ne_int_none %[|50]
   | int j=>obtain⟨t',rfl⟩:=ry;exact ne_int (aG I q (congrArg not m8))
   | str j=>obtain⟨t',rfl⟩:=ry;exact PySem.EqMixed.ne_int_str %[|50]
   | _=>exact %[|75]
 | str i=>
   obtain⟨t,rfl⟩:=rx
   cases y with
   | non=>cases ry;exact PySem.EqNone.ne_str_none %[|50]
   | bl j=>cases ry;exact PySem.EqMixed.ne_str_bool %[|50]
   | int j=>obtain⟨t',rfl⟩:=ry;exact PySem.EqMixed.ne_str_int %[|50]
   | str j=>obtain⟨t',rfl⟩:=ry;exact ne_str (aG I q (congrArg not Dw))
   | _=>exact %[|75]
 | byt i=>
   obtain⟨t,rfl⟩:=rx
   cases y with
   | byt j=>obtain⟨t',rfl⟩:=ry;exact PySem.W.ne_bytes (aG I q (congrArg not CJ))
   | _=>exact %[|75]
 | _=>cases y<;>exact %[|75]
theorem Wc:OpR X (compareOp .Lt) (rI0 λ i j=>.bl (decide (i<j))):=En λ _ _ _ _ _ _ _ q=>lt_int q
theorem Wa:OpR X (compareOp .LtE) (rI0 λ i j=>.bl (decide (i≤j))):=En λ _ _ _ _ _ _ _ q=>le_int q
theorem Wg:OpR X (compareOp .Gt) (rI0 λ i j=>.bl (decide (j<i))):=En λ _ _ _ _ _ _ _ q=>gt_int q
theorem Vs:OpR X (compareOp .GtE) (rI0 λ i j=>.bl (decide (j≤i))):=En λ _ _ _ _ _ _ _ q=>ge_int q
theorem RW:OpR X (compareOp .Is) (λ x y H Q=>y=.non/\Q (.bl (decide (x=.non))) H):=by
 intro pins s σ H x y v u Q I rx ry h
 obtain⟨rfl,q⟩:=h
 cases ry
 refine is_none_gen (aG I q ?_)
 cases x<;>first
  | (cases rx;rfl)
  | (obtain⟨t,rfl⟩:=rx;rfl)
theorem Qw:OpR X (compareOp .IsNot) (λ x y H Q=>y=.non/\Q (.bl (!decide (x=.non))) H):=by
 intro pins s σ H x y v u Q I rx ry h
 obtain⟨rfl,q⟩:=h
 cases ry
 refine isnot_none_gen (aG I q ?_)
 cases x<;>first
  | (cases rx;rfl)
  | (obtain⟨t,rfl⟩:=rx;rfl)
theorem Gp{xs:List V}{its:%[|11]}(r:Vals xs its):(!its.toArray.isEmpty)= !xs.isEmpty:=by
 cases r<;>simp
theorem mL:(sizeLine:Nat)<2 ^ 63:=by rw[sizeLine_eq];decide
theorem Ge:OpR X (binaryOp .Add) (λ x y H Q=>∃i j,x=.str i/\y=.str j/\i.length+j.length≤sizeLine/\Q (.str (i++j)) H):=by
 intro pins s σ H x y v u Q I rx ry h
 obtain⟨i,j,rfl,rfl,hz,q⟩:=h
 obtain⟨t,rfl⟩:=rx
 obtain⟨t',rfl⟩:=ry
 exact add_str (λ t' tk=>⟨.str (i++j),H,I.tok _,%[|24],q⟩) hz
theorem vals1{x:V}{us:%[|11]}(r:Vals [x] us):∃u,us=[u]/\RelV x u:=by
 cases r with
 | cons r1 r2=>cases r2;exact⟨_,rfl,r1⟩
theorem vals2{x y:V}{us:%[|11]}(r:Vals [x,y] us):∃u w',us=[u,w']/\RelV x u/\RelV y w':=by
 cases r with
 | cons r1 r2=>
   cases r2 with
   | cons r3 r4=>cases r4;exact⟨_,_,rfl,r1,r3⟩
theorem Ly:eQ X (.builtin "abs") (λ xs H Q=>∃i,xs=[.int i]/\Q (.int (if i<0 then-i else i)) H):=by
 intro pins s σ H xs us Q I r h
 obtain⟨i,rfl,q⟩:=h
 obtain⟨u,rfl,t,rfl⟩:=vals1 r
 exact call_abs_int λ u tk=>⟨.int (if i<0 then-i else i),H,I.tok _,%[|24],q⟩
theorem vQ:eQ X (.type "int") (λ xs H Q=>(∃i,xs=[.int i]/\Q (.int i) H)∨∃k,xs=[.bl k]/\Q (.int (if k then 1 else 0)) H):=by
 intro pins s σ H xs us Q I r h
 rcases h with⟨i,rfl,q⟩ | ⟨k,rfl,q⟩
 . obtain⟨u,rfl,t,rfl⟩:=vals1 r
   exact call_int_int ⟨.int i,H,I,%[|24],q⟩
 . obtain⟨u,rfl,r1⟩:=vals1 r
   cases r1
   exact call_int_bool ⟨.int (if k then 1 else 0),H,I.tok _,%[|24],q⟩
theorem yV:eQ X (.type "str") (λ xs H Q=>∃i,xs=[.int i]/\i.natAbs.log2<1920/\Q (.str (toString i)) H):=by
 intro pins s σ H xs us Q I r h
 obtain⟨i,rfl,hz,q⟩:=h
 obtain⟨u,rfl,t,rfl⟩:=vals1 r
 exact PySem.P.str_of_int hz ⟨.str _,H,I.tok _,%[|24],q⟩
end
structure Room(k:Nat)(A:Around):Prop where
 hd:A.handled=none
 dp:A.depth+3*k+5<recursionLimit
 un:A.units+16*k+200<cLine
theorem Room.mono{j k:Nat}{A:Around}(r:Room k A)(h:j≤k):Room j A:=⟨r.hd,by have:=r.dp;omega,by have:=r.un;omega⟩
theorem Room.deeper{k:Nat}{A:Around}(r:Room (k+1) A)(env:Env):Room k (A.deeper env):=
 ⟨r.hd,by have:=r.dp;show A.depth+1+3*k+5<_;omega,by have:=r.un;show A.units+3+16*k+200<_;omega⟩
theorem Room.depth{k:Nat}{A:Around}(r:Room k A):A.depth<recursionLimit:=by have:=r.dp;omega
def WK:TA:=λ _ H Q=>Q [] H
def Vt(ta:TE)(tr:TA):TA:=λ σ H Q=>ta σ H λ x H1=>tr σ H1 λ xs H2=>Q (x::xs) H2
section
variable {X : Cx} {e : Expr} {es : %[|12]} {te : TE} {t : TA} {pos : Pos}
theorem cH:PA X [] WK:=λ _ _ _ _ H Q I h=>Calls.spliced_nil ⟨[],H,I,.nil,h⟩
theorem aP(ha:PE X e te)(hr:PA X es t)(hs:%[|79]:=by rfl):PA X (e::es) (Vt te t):=by
 intro pos pins s σ H Q I h
 rw[hs]
 show wpAny _ _ (spliced ((false,eval e X.env)::%[|76])) _ _ s
 refine Calls.spliced_cons (thn (ha pins s σ H _ I h) λ u s1 ⟨x,H1,I1,r1,q1⟩=>?_)
 exact thn (hr pos pins s1 σ H1 _ I1 q1) λ us s2 ⟨xs,H2,I2,r2,q2⟩=>⟨x::xs,H2,I2,.cons r1 r2,q2⟩
def Wt(t:TA):TE:=λ σ H Q=>t σ H λ xs H1=>xs.length≤sizeLine/\∀p,H1 p=none->Q (.ref p) (upd H1 p (.tup xs))
def Xa(t:TA):TE:=λ σ H Q=>t σ H λ xs H1=>xs.length≤sizeLine/\∀p,H1 p=none->Q (.ref p) (upd H1 p (.lst xs))
theorem SJ{x1}(h:PA X es t):PE X (.Tuple es x1 pos) (Wt t):=by
 intro pins s σ H Q I hq
 refine wpAny_Tuple_spliced (thn (h pos pins s σ H _ I hq) λ us s1 ⟨xs,H1,I1,r,z,q⟩=>⟨by rw[←r.length];exact z,?_⟩)
 have hf:H1 s1.heap.objs.size=none:=I1.hok.fresh (x9 _)
 refine⟨.ref s1.heap.objs.size,upd H1 s1.heap.objs.size (.tup xs),I1.laid (t':=s1.toks) (λ b u e=>ZC _ e) (x9 _) ?_,rfl,q _ hf⟩
 exact⟨z,us,r,⟨_,%[|34],rfl,_,rfl⟩⟩
theorem Hm(h:PA X es t):PE X (.List es pos) (Xa t):=by
 intro pins s σ H Q I hq
 refine wpAny_List_spliced (thn (h pos pins s σ H _ I hq) λ us s1 ⟨xs,H1,I1,r,z,q⟩=>⟨by rw[←r.length];exact z,?_⟩)
 have hf:H1 s1.heap.objs.size=none:=I1.hok.fresh (x9 _)
 refine⟨.ref s1.heap.objs.size,upd H1 s1.heap.objs.size (.lst xs),I1.laid (t':=s1.toks) (λ b u e=>ZC _ e) (x9 _) ?_,rfl,q _ hf⟩
 exact⟨z,us,0,r,%[|34]⟩
end
abbrev Sp:=List V->Hp->VK->XK->Prop
abbrev CXT:=List Env->Hp->Shared->XK->%[|16]
structure Env0(P:Program)(w:World)(K:PySem.W.Frag)(mg:%[|22])(base:Heap)(A:Around)(outer:List Env)(s:Shared)(H:Hp):Prop where
 frames:A.frames=some outer
 mod:Mod K mg base
 bs:∀b o,base.get? b=some o->%[|56]/\H b=none
 bsz:base.objs.size≤s.heap.objs.size
 funs:s.heap.FunFrames base outer
 frf:∀b∈frs outer,H b=none
 hok:HOk P w H s.heap
 bare:AllBare s.gens
def CE(outer:List Env)(P:Program)(w:World)(H:Hp)(s:Shared)(Q:VK)(u:Value)(s':Shared):Prop:=
 ∃v H',s'.os=s.os/\AllBare s'.gens/\Un (frs outer) [] H H' s.heap s'.heap/\HOk P w H' s'.heap/\RelV v u/\Q v H'
def CR(CX:CXT)(outer:List Env)(P:Program)(w:World)(H:Hp)(s:Shared)(Q:VK)(E:XK)(r:Result)(s':Shared):Prop:=
 match r with
 | .ok (.ret u)=>CE outer P w H s Q u s'
 | .ok _=>False
 | .error e=>CX outer H s E e s'
structure FnOk(P:Program)(w:World)(K:PySem.W.Frag)(mg:%[|22])(base:Heap)(CX:CXT)(k:Nat)(f:Addr)(fd:FuncData)(ps:%[|0])(sp:Sp):Prop where
 len:∀vs H Q E,sp vs H Q E->vs.length=ps.length
 run:∀(A:Around)(outer:List Env)(s:Shared)(H:Hp)(args:Args)(us:%[|11])(vs:List V)(Q:VK)(E:XK),Room k A->Env0 P w K mg base A outer s H->BindsTo s fd args (ps.zip us)->Vals vs us->sp vs H Q E->
  codeAny (model P w) A (.call (.ref f) args) (CR CX outer P w H s Q E) s
section
variable {X : Cx} {pins : List (Addr × Obj)} {σ : St} {H : Hp} {s s' : Shared}
theorem Inv.env0(I:%[|4]):Env0 X.prog X.w X.K X.mg X.base X.A X.stack s H:=
 ⟨I.ok.frames,I.ok.mod,I.bs,Nat.le_trans I.ok.bsz I.sz,I.stack,I.stkFree,I.hok,I.bare⟩
theorem Inv.after{Q:VK}{u:Value}(I:%[|4])(h:CE X.stack X.prog X.w H s Q u s'):EP X pins σ Q u s':=by
 obtain⟨v,H',os,bare,un,hok,r,q⟩:=h
 obtain⟨hh,g,d,t,os'⟩:=s'
 obtain rfl:os'=s.os:=os
 exact⟨v,H',I.call (h':=hh) (g':=g) (d':=d) (t':=t) (ch:=[]) un hok bare (λ b z=>absurd z (by simp)),r,q⟩
end
def Binds(K:PySem.W.Frag)(fd:FuncData)(ps:%[|0])(ds:%[|11]):Prop:=
 ∀(s:Shared)(us:%[|11]),K.In s.heap->(us++ds).length=ps.length->BindsTo s fd ⟨us,[]⟩ (ps.zip (us++ds))
theorem Binds.all{K:PySem.W.Frag}{fd:FuncData}{ps:%[|0]}(h:∀us:%[|11],us.length=ps.length->bindArgs fd ⟨us,[]⟩=pure (ps.zip us)):Binds K fd ps []:=λ s us _ hl=>by
 rw[List.append_nil]at hl ⊢
 exact .of_eq (h us hl)
def JC(CX:CXT)(X:Cx)(E:XK):Prop:=∀(pins:%[|21])(σ:St)(H:Hp)(s:Shared)(e:Value)(s':Shared),%[|4]->CX X.stack H s E e s'->X.xe e s'
section
variable {X : Cx} {CX : CXT} {k : Nat} {f C : Addr} {fd : FuncData} {ps : %[|0]} {sp : Sp} {dvs : List V} {ds : %[|11]} {E : XK} {x m : Str} {p pos apos : Pos} {e o : Expr} {es : %[|12]} {ta : TE} {t : TA}
theorem Uj{pins:%[|21]}{σ:St}{H:Hp}{s:Shared}{Q:VK}{us:%[|11]}{vs:List V}(F:FnOk X.prog X.w X.K X.mg X.base CX k f fd ps sp)(hr:Room k X.A)(hb:Binds X.K fd ps ds)(hd:Vals dvs ds)(hx:JC CX X E)
 (I:%[|4])(r:Vals vs us)(h:sp (vs++dvs) H Q E):wpAny %[|9] X.A (call (.ref f) us) (EP X pins σ Q) X.xe s:=by
 have r2:Vals (vs++dvs) (us++ds):=r.append hd
 have hl:(us++ds).length=ps.length:=by rw[←r2.length];exact F.len _ _ _ _ h
 refine wpAny_call (codeAny_mono (F.run X.A X.stack s H ⟨us,[]⟩ (us++ds) (vs++dvs) Q E hr I.env0 (hb s us I.kIn hl) r2 h) λ r s' hq=>?_)
 cases r with
 | error e=>exact hx pins σ H s e s' I hq
 | ok fl=>
   cases fl with
   | ret u=>exact I.after hq
   | next=>exact False.elim hq
   | brk=>exact False.elim hq
   | cont=>exact False.elim hq
end
structure FnScope(N P:%[|0])(sc:Scope):Prop where
 kind:sc.kind=.function
 co:sc.isCoroutine=false
 gen:sc.isGenerator=false
 nd:N.Nodup
 pre:N.take P.length=P
 par:∀x∈P,%[|39]=some .local∨%[|39]=%[|19]
 nofree:∀y∈sc.names,y.2≠.free
theorem vO{kindOf:Str->Option NameKind}{x:Str}:∀{binds:List (Str×Value)}{m:%[|22]},(∀v,(x,v)∉binds)->bindL kindOf binds m x=m x
 | [],_,_=>rfl
 | (n,v)::r,m,h=>by
   unfold bindL
   rw[vO λ w hw=>h w (w9 _ hw)]
   split
   . have:x≠n:=by rintro rfl;exact h v List.mem_cons_self
     simp[this]
   . rfl
theorem vC{kindOf:Str->Option NameKind}{x:Str}:∀{binds:List (Str×Value)}{m:%[|22]},(∀v,(x,v)∉binds)->bindC kindOf binds m x=m x
 | [],_,_=>rfl
 | (n,v)::r,m,h=>by
   unfold bindC
   rw[vC λ w hw=>h w (w9 _ hw)]
   split
   . rfl
   . have:x≠n:=by rintro rfl;exact h v List.mem_cons_self
     simp[this]
theorem vB{kindOf:Str->Option NameKind}{x:Str}{v:Value}:∀{P:%[|0]}{vs:%[|11]}{i:Nat}{m:%[|22]},P.Nodup->P[i]? =some x->vs[i]? =some v->kindOf x=some .local->
 bindL kindOf (P.zip vs) m x=some v
 | [],_,_,_,_,h,_,_=>by simp at h
 | _::_,[],_,_,_,_,h,_=>by simp at h
 | p::P,w::vs,0,m,nd,h1,h2,hk=>by
   simp at h1 h2;subst h1;subst h2
   show bindL kindOf ((p,w)::P.zip vs) m p=_
   unfold bindL
   rw[vO λ v hv=>(List.nodup_cons.mp nd).1 (List.of_mem_zip hv).1,if_pos hk]
   simp
 | p::P,w::vs,i+1,m,nd,h1,h2,hk=>by
   show bindL kindOf ((p,w)::P.zip vs) m x=_
   unfold bindL
   exact vB (i:=i) (List.nodup_cons.mp nd).2 (by simpa using h1) (by simpa using h2) hk
theorem vN{kindOf:Str->Option NameKind}{x:Str}{v:Value}:∀{P:%[|0]}{vs:%[|11]}{i:Nat}{m:%[|22]},P.Nodup->P[i]? =some x->vs[i]? =some v->kindOf x≠some .local->
 bindC kindOf (P.zip vs) m x=some v
 | [],_,_,_,_,h,_,_=>by simp at h
 | _::_,[],_,_,_,_,h,_=>by simp at h
 | p::P,w::vs,0,m,nd,h1,h2,hk=>by
   simp at h1 h2;subst h1;subst h2
   show bindC kindOf ((p,w)::P.zip vs) m p=_
   unfold bindC
   rw[vC λ v hv=>(List.nodup_cons.mp nd).1 (List.of_mem_zip hv).1,if_neg hk]
   simp
 | p::P,w::vs,i+1,m,nd,h1,h2,hk=>by
   show bindC kindOf ((p,w)::P.zip vs) m x=_
   unfold bindC
   exact vN (i:=i) (List.nodup_cons.mp nd).2 (by simpa using h1) (by simpa using h2) hk
def start(N:%[|0])(vs:List V):St:=vs.map some++List.replicate (N.length-vs.length) none
def bW(CX:CXT)(P:Program)(w:World)(K:PySem.W.Frag)(mg:%[|22])(base:Heap)(N:%[|0])(qual:Str)(scope:Scope)(f:Addr)(cd:Value)(A:Around)(outer:List Env)(s:Shared)(H:Hp)(E:XK):Cx where
 prog:=P
 w:=w
 K:=K
 mg:=mg
 base:=base
 A:=A.deeper (envOfC qual scope s.heap.objs.size f cd)
 N:=N
 s₀:=s
 H₀:=H
 env:=envOfC qual scope s.heap.objs.size f cd
 outer:=outer
 stack:=envOfC qual scope s.heap.objs.size f cd::outer
 ex:=[]
 calm:=true
 fn:=λ _=>true
 pn:=[]
 xe:=λ e s'=>wpAny (model P w) (A.deeper (envOfC qual scope s.heap.objs.size f cd)) (leaving (envOfC qual scope s.heap.objs.size f cd) e) (λ _ s''=>CX outer H s E e s'') (λ e' s''=>CX outer H s E e' s'') s'
theorem zZ{sc:Scope}{n:Nat}{x:Str}(h:%[|39]=%[|19]):∃c,(cellsFrom n sc.names []).lookup x=some c:=by
 have q:=PySem.W.cellsFrom_some sc.names n [] (.inl h)
 exact Option.isSome_iff_exists.mp q
theorem IV{CX:CXT}{P:Program}{w:World}{K:PySem.W.Frag}{mg:%[|22]}{base:Heap}{N ps:%[|0]}{qual:Str}{scope:Scope}{f:Addr}{cd:Value}{A:Around}{outer:List Env}{s s1:Shared}{H:Hp}{E:XK}{us:%[|11]}{vs:List V}
 (S:FnScope N ps scope)(hd:A.handled=none)(e0:Env0 P w K mg base A outer s H)(hl:vs.length=ps.length)(r:Vals vs us)
 (x:InCallC s s.heap.objs.size (bindL (envOfC qual scope s.heap.objs.size f cd).kindOf (ps.zip us) λ _=>none) (cellsFrom (s.heap.objs.size+1) scope.names []) (bindC (envOfC qual scope s.heap.objs.size f cd).kindOf (ps.zip us) λ _=>none) s1):
 Inv (bW CX P w K mg base N qual scope f cd A outer s H E) [] (start N vs) H s1:=by
 have hpl:ps.length≤N.length:=by have:=congrArg List.length S.pre;rw[List.length_take]at this;omega
 obtain⟨h1,tk,rfl,hk⟩:=x.done
 have noA:∀b:Addr,b∉(bW CX P w K mg base N qual scope f cd A outer s H E).ex:=λ b z=>absurd (show b∈([]:List Addr)from z) (by simp)
 refine⟨⟨e0.mod,S.kind,rfl,rfl,x9 _,λ y z c h1 h2=>?_,λ y hy=>?_,λ y c _ h=>?_,λ _=>hd,Around.frames_deeper e0.frames,.inr ⟨rfl,rfl⟩,λ b z=>absurd z (noA b),e0.bs,e0.bsz,λ b _ _=>noA b,λ b z=>absurd z (noA b),e0.funs,e0.frf⟩,
  rfl,e0.bare,Un.kept hk,⟨_,x.toInCall.ns,λ i y v h1 h2 h3=>?_⟩,λ y c h=>⟨_,x.cell y c h⟩,e0.hok.fresh (x9 _),λ y c h=>?_,λ p hp=>absurd (show p∈([]:%[|21])from hp) (by simp),e0.hok.kept hk,?_⟩
 . exact name_of_addr x.apart (PySem.mem_of_lookup h1) (PySem.mem_of_lookup h2)
 . have hy:scope.names.lookup y=%[|19]∨scope.names.lookup y=some .free:=hy
   rcases hy with hy | hy
   . exact zZ hy
   . exact absurd rfl (S.nofree _ (PySem.mem_of_lookup hy))
 . exact Nat.le_of_lt (x.above y c (PySem.mem_of_lookup h))
 . have hi:i<vs.length:=by
    unfold start at h2
    by_cases hi:i<vs.length
    . exact hi
    . rw[List.getElem?_append_right (by simpa using hi)]at h2
      rw[List.getElem?_replicate]at h2
      split at h2<;>cases h2
   have ha:vs[i]? =some v:=by
    unfold start at h2
    rw[List.getElem?_append_left (by simpa using hi),x8]at h2
    cases e:vs[i]? with
    | none=>rw[e]at h2;cases h2
    | some a=>rw[e]at h2;cases h2;rfl
   obtain⟨u,hu,rv⟩:=r.get ha
   have hp:ps[i]? =some y:=by
    rw[←S.pre,List.getElem?_take_of_lt %[|1]];exact h1
   have ndP:ps.Nodup:=by rw[←S.pre];exact S.nd.sublist (List.take_sublist _ _)
   refine⟨u,rv,?_⟩
   rcases S.par y (y9 hp)with k | k
   . exact .inl ⟨k,vB ndP hp hu k⟩
   . obtain⟨c,e⟩:=zZ (n:=s.heap.objs.size+1) k
     refine .inr ⟨.inl k,c,e,?_⟩
     have q:=x.cell y c e
     rw[vN ndP hp hu (by show scope.names.lookup y≠_;rw[k];decide)]at q
     exact q
 . exact e0.hok.fresh (Nat.le_of_lt (x.above y c (PySem.mem_of_lookup h)))
 . unfold start
   show _=N.length
   rw[List.length_append,x6,List.length_replicate]
   omega
theorem Nu{CX:CXT}{P:Program}{w:World}{K:PySem.W.Frag}{mg:%[|22]}{base:Heap}{k:Nat}{f:Addr}{name qual:Str}{params:Arguments}{body:List Stmt}{scope:Scope}{dV kV doc pm cdv ct oc:Value}{an od:Option Addr}
 {osl:Array (Option Value)}{N ps:%[|0]}{sp:Sp}(lk:K.lookup f=some ⟨oc,od,.func (PySem.W.fnOf name qual params body scope dV kV doc pm an cdv ct),osl⟩)(hcd:PySem.W.codeIn K cdv qual=true)(S:FnScope N ps scope)
 (len:∀vs H Q E,sp vs H Q E->vs.length=ps.length)
 (hbody:∀(A:Around)(outer:List Env)(s:Shared)(H:Hp)(vs:List V)(Q:VK)(E:XK),Room k (A.deeper (envOfC qual scope s.heap.objs.size f cdv))->sp vs H Q E->
  ∃t,PSs (bW CX P w K mg base N qual scope f cdv A outer s H E) body t/\t {nx:=λ _ H'=>Q .non H',rt:=Q} (start N vs) H):
 FnOk P w K mg base CX (k+1) f (PySem.W.fnOf name qual params body scope dV kV doc pm an cdv ct) ps sp:=by
 refine⟨len,λ A outer s H args us vs Q E hr e0 hb r hsp=>?_⟩
 have hl:=len _ _ _ _ hsp
 have KX:K.In s.heap:=e0.mod.kin.keeps λ b o e=>(e0.bs b o e).1
 have lim:s.heap.NoLimit:=e0.mod.nolimit.keeps λ b o e=>(e0.bs b o e).1
 have hkind:∀y∈ps.zip us,scope.names.lookup y.1=some .local∨(scope.names.lookup y.1=%[|19]/\((cellsFrom (s.heap.objs.size+1) scope.names []).lookup y.1).isSome=true):=λ⟨n,v⟩ hy=>by
  rcases S.par n (List.of_mem_zip hy).1 with q | q
  . exact .inl q
  . exact .inr ⟨q,PySem.W.cellsFrom_some _ _ _ (.inl q)⟩
 refine codeAny_call_function hr.depth (KX _ _ lk) rfl S.co S.gen rfl (PySem.W.codeRec_of KX hcd) (hb _ _ _ _ ?_)
 refine wpAny_newFunctionEnv_cells S.kind hkind λ env he s1 x=>?_
 subst he
 refine⟨lim.keeps x.toInCall.keep,codeAny_func ?_⟩
 obtain⟨t,ht,hq⟩:=hbody A outer s H vs Q E (hr.deeper _) hsp
 have I:Inv (bW CX P w K mg base N qual scope f cdv A outer s H E) [] (start N vs) H s1:=IV S hr.hd e0 hl r x
 refine wpAny_mono (ht [] s1 (start N vs) H _ I hq) (λ fl s' hs=>?_) λ e s' hs=>hs
 have fin:∀{σ':St}{H':Hp}{v:V}{u:Value},Inv (bW CX P w K mg base N qual scope f cdv A outer s H E) [] σ' H' s'->RelV v u->Q v H'->CE outer P w H s Q u s':=
  λ{σ' H' v u} J rv q=>⟨v,H',J.os,J.bare,J.base,J.hok,rv,q⟩
 cases fl with
 | ret u=>
   obtain⟨v,σ',H',J,rv,q⟩:=hs
   exact fin J rv q
 | next=>
   obtain⟨σ',H',J,q⟩:=hs
   exact fin (v:=V.non) (u:=Value.none) J rfl q
 | brk=>
   obtain⟨_,_,_,q⟩:=hs
   exact False.elim q
 | cont=>
   obtain⟨_,_,_,q⟩:=hs
   exact False.elim q
section
variable {X : Cx} {x : Str} {p pos : Pos} {e : Expr} {es : %[|12]} {t : TA} {id T : String} {r : List V -> Hp -> VK -> Prop}
def tCB(r:List V->Hp->VK->Prop)(t:TA):TE:=λ σ H Q=>t σ H λ vs H1=>r vs H1 Q
theorem jZ(hc:eQ X (.builtin id) r)(hg:Gl X x)(hm:X.mg x=none)(hv:bootBuiltins x=some (.builtin id))(ha:PA X (e::es) t)(hn:x≠"__name__":=by decide)(hdb:%[|55]:=by decide)
 (he:%[|79]:=by rfl)(hpl:%[|76].any (·.1)=false:=by rfl):PE X (.Call (.Name x p) (e::es) [] pos) (tCB r t):=by
 intro pins s σ H Q I h
 refine wpAny_Call_Name_kw (eG I hg hm hv ?_ hn hdb)
 exact PyProof.Rows.callWith_builtin1 (thn (ha pos pins s σ H _ I h) λ us s1 ⟨vs,H1,I1,r1,q1⟩=>hc pins s1 σ H1 vs us Q I1 r1 q1) he hpl
end
end L2
namespace HT
open PySem PyProof.Rows
section
variable {prog : Program} {w : World} {A : Around} {E : Value -> Shared -> Prop} {s : Shared}
theorem cat_tup{t b:Addr}{vs ws:%[|11]}{Q:%[|16]}(ht:IsTup s.heap t vs.toArray)(hb:IsTup s.heap b ws.toArray)(hv:vs≠[])
 (h1:ws=[]->Q (.ref t) s)(h2:ws≠[]->Q %[|59] {s with heap:=s.heap.push {cls:=%[|29],data:=.seq (vs++ws).toArray}})
 (hsz:vs.length+ws.length≤sizeLine):wpAny (model prog w) A (binaryOp .Add (.ref t) (.ref b)) Q E s:=by
 obtain⟨⟨cls,dd,data,sl⟩,ho,hc,n,hd⟩:=id ht
 obtain⟨⟨cls2,dd2,data2,sl2⟩,ho2,hc2,n2,hd2⟩:=id hb
 simp only at hc hd hc2 hd2
 subst hc hd hc2 hd2
 have e:vs.toArray++ws.toArray=(vs++ws).toArray:=by simp
 by_cases hw:ws=[]
 . exact concat_meets ⟨_,ho,rfl⟩ ⟨_,ho2,rfl⟩ noFill_tuple_add seq_tuple_add PySem.F.slot_tuple_add PySem.F.entry_tuple_add (PySem.F.args_tuple_add_2 _ _)
    (tuple_addW1 t b vs.toArray ws.toArray n n2 dd dd2 sl sl2 (by simpa using hv) (by simp[hw])) ⟨ho,ho2,h1 hw⟩
 . refine concat_meets ⟨_,ho,rfl⟩ ⟨_,ho2,rfl⟩ noFill_tuple_add seq_tuple_add PySem.F.slot_tuple_add PySem.F.entry_tuple_add (PySem.F.args_tuple_add_2 _ _)
    (tuple_addW2 t b vs.toArray ws.toArray n n2 dd dd2 sl sl2 (by simpa using hv) (by simpa using hw) (by rw[List.size_toArray,List.size_toArray];exact hsz)) ⟨ho,ho2,?_⟩
   rw[e]
   exact h2 hw
def sIx(n d:Nat):%[|17]->Nat
 | none=>d
 | some v=>if v<0 then(v+(n:Int)).toNat else min v.toNat n
theorem sIx_none(n d:Nat):sIx n d none=d:=rfl
theorem sIx_nat(n d k:Nat):sIx n d (some (k:Int))=min k n:=by
 show(if(k:Int)<0 then((k:Int)+(n:Int)).toNat else min (k:Int).toNat n)=min k n
 rw[if_neg %[|1],Int.toNat_natCast]
theorem RL(n d:Nat)(hd:d≤n)(o:%[|17]):sIx n d o≤n:=by
 cases o with
 | none=>exact hd
 | some v=>
   show(if v<0 then(v+(n:Int)).toNat else min v.toNat n)≤n
   by_cases hv:v<0
   . rw[if_pos hv];omega
   . rw[if_neg hv];exact Nat.min_le_right _ _
theorem DX(v:Int)(n d:Nat):(if v<0 then max (v+(n:Int)) 0 else min v (n:Int))=((sIx n d (some v):Nat):Int):=by
 show(if v<0 then max (v+(n:Int)) 0 else min v (n:Int))=(((if v<0 then(v+(n:Int)).toNat else min v.toNat n):Nat):Int)
 by_cases hv:v<0
 . simp only[if_pos hv];omega
 . simp only[if_neg hv];omega
theorem GX(lo hi:%[|17])(n:Nat):Builtin.Slice.sliceAdjust lo hi 1 (n:Int)=(((sIx n 0 lo:Nat):Int),((sIx n n hi:Nat):Int)):=by
 have h1:¬((1:Int)<0):=%[|1]
 unfold Builtin.Slice.sliceAdjust
 simp only[h1,if_false]
 refine Prod.ext ?_ ?_
 . cases lo with
   | none=>rfl
   | some v=>exact DX v n 0
 . cases hi with
   | none=>rfl
   | some v=>exact DX v n n
theorem Gk(i j:Nat):Builtin.Slice.slicePlaces (i:Int) (j:Int) 1=j-i:=by
 unfold Builtin.Slice.slicePlaces
 have h1:(1:Int)>0:=%[|1]
 simp only[h1,if_true,Int.ediv_one]
 split<;>omega
theorem rO{v:Value}{o:%[|17]}{Q:%[|17]->Shared->Prop}(p:IsPart v o)(h:Q o s):wpAny (model prog w) A (Builtin.Slice.slicePartIndex v) Q E s:=by
 cases p with
 | none=>exact slicePart_none h
 | int i t=>exact slicePart_int h
theorem sliceApplied_gen{sl:Addr}{vl vu:Value}{lo hi:%[|17]}{n:Nat}{Q:Int×Int×Nat->Shared->Prop}(hs:s.heap.IsSliceOf sl vl vu .none)(pl:IsPart vl lo)(pu:IsPart vu hi)
 (h:Q (((sIx n 0 lo:Nat):Int),1,sIx n n hi-sIx n 0 lo) s):wpAny (model prog w) A (Builtin.Slice.sliceApplied (.ref sl) (pure (n:Int))) Q E s:=by
 obtain⟨os,hos,hcs,hds⟩:=id hs
 unfold Builtin.Slice.sliceApplied Builtin.Slice.sliceFields
 refine ZA (ZA (wpAny_field hos hds (x:=vl) rfl (ZA (wpAny_field hos hds (x:=vu) rfl (ZA (wpAny_field hos hds (x:=.none) rfl (ZB ?_)))))))
 refine ZA (slicePart_none ?_)
 show wpAny _ _ (if((1:Int)==0)=true then _ else _) _ _ s
 rw[if_neg %[|2]]
 refine ZA (rO pl (ZA (rO pu (ZA (ZB ?_)))))
 show wpAny _ _ (match Builtin.Slice.sliceAdjust lo hi 1 (n:Int)with | (lo,hi)=>pure (lo,(1:Int),Builtin.Slice.slicePlaces lo hi 1)) _ _ s
 rw[GX lo hi n]
 show wpAny _ _ (pure (((sIx n 0 lo:Nat):Int),(1:Int),Builtin.Slice.slicePlaces ((sIx n 0 lo:Nat):Int) ((sIx n n hi:Nat):Int) 1)) _ _ s
 rw[Gk]
 exact ZB h
theorem Mt(xs:Array Value)(i k:Nat):((List.range k).filterMap λ(m:Nat)=>xs[((i:Int)+(m:Int)*1).toNat]?).toArray=((xs.toList.drop i).take k).toArray:=by
 have e:(λ(m:Nat)=>xs[((i:Int)+(m:Int)*1).toNat]?)=λ m=>xs[i+m]?:=by
  funext m
  have:((i:Int)+(m:Int)*1).toNat=i+m:=%[|1]
  rw[this]
 rw[e]
 have:=pick_run xs i k
 rw[List.filterMap_map]at this
 have e2:((λ x=>xs[x]?) ∘ λ x=>i+x)=λ m=>xs[i+m]?:=rfl
 rw[e2]at this
 rw[this]
theorem getItem_tuple_cut{t sl:Addr}{items:Array Value}{vl vu:Value}{lo hi:%[|17]}{Q:%[|16]}(ht:IsTup s.heap t items)(hs:s.heap.IsSliceOf sl vl vu .none)(pl:IsPart vl lo)(pu:IsPart vu hi)
 (hw:¬(sIx items.size 0 lo=0/\sIx items.size items.size hi=items.size))
 (h:Q %[|59] {s with heap:=s.heap.push {cls:=%[|29],data:=.seq ((items.toList.drop (sIx items.size 0 lo)).take (sIx items.size items.size hi-sIx items.size 0 lo)).toArray}})
 (hsz:items.size≤sizeLine):wpAny (model prog w) A (getItem (.ref t) (.ref sl)) Q E s:=by
 have htake:sizeOk (.seq ((items.toList.drop (sIx items.size 0 lo)).take (sIx items.size items.size hi-sIx items.size 0 lo)).toArray):=by
  show((items.toList.drop (sIx items.size 0 lo)).take (sIx items.size items.size hi-sIx items.size 0 lo)).toArray.size≤sizeLine
  rw[List.size_toArray,List.length_take,List.length_drop,Array.length_toList]
  omega
 have hj:sIx items.size items.size hi≤items.size:=RL _ _ (x9 _) hi
 obtain⟨os,hos,hcs,hds⟩:=id hs
 have hTs:s.TypeIs (.ref sl) "slice":=⟨os,hos,hcs⟩
 unfold getItem
 try with_reducible refine ZQ ?_
 first | refine ZA (ZB ?_) | skip
 refine ZA (wpAny_sequenceKey ht.typeIs %[|2] ?_)
 refine ZA (wpAny_callSpecial?_slot (name:=Str.ofString "__getitem__") ht.typeIs PyProof.Rows.slot_tuple_getitem
  (ZP PyProof.Rows.slot_tuple_getitem ht.typeIs entry_tuple_getitem ?_ (args_tuple_getitem _ _)))
 show wpAny _ _ (Builtin.Tuple.tupleItemsOf (.ref t)>>=_) _ _ s
 refine ZA (tupleItemsOf_ ht ?_)
 refine ZA (wpAny_typeOf hTs ?_)
 rw[if_pos %[|2]]
 refine ZA (sliceApplied_gen hs pl pu ?_)
 have hno:¬((((sIx items.size 0 lo:Nat):Int)==0&&(1:Int)==1&&(sIx items.size items.size hi-sIx items.size 0 lo)==items.size)=true):=by
  intro q
  rw[Bool.and_eq_true,Bool.and_eq_true]at q
  have q1:((sIx items.size 0 lo:Nat):Int)=0:=ZI q.1.1
  have q2:sIx items.size items.size hi-sIx items.size 0 lo=items.size:=ZI q.2
  exact hw %[|54]
 show wpAny _ _ (if(((sIx items.size 0 lo:Nat):Int)==0&&(1:Int)==1&&(sIx items.size items.size hi-sIx items.size 0 lo)==items.size)=true then _ else _) _ _ s
 rw[if_neg hno,Mt]
 first
  | exact ZA (m:=Builtin.Tuple.tupleExact _) (wpAny_newObj_type (ZB ⟨_,rfl,ZB h⟩) htake)
  | exact ZA (m:=Builtin.Tuple.tupleExact _) (wpAny_newObj_type (ZA (ZB (ZB ⟨_,rfl,ZB h⟩))) htake)
  | exact ZA (ZA (m:=Builtin.Tuple.tupleExact _) (wpAny_newObj_type (ZB (ZB ⟨_,rfl,ZB h⟩)) htake))
  | exact ZA (ZA (m:=Builtin.Tuple.tupleExact _) (wpAny_newObj_type (ZB ⟨_,rfl,ZB h⟩) htake))
end
end HT
namespace L2
open PySem PySem.Spec PyProof.Rows
abbrev TO:=St->Hp->(%[|17]->Hp->Prop)->Prop
theorem intsAre_of{ns:%[|6]}:∀{us:%[|11]},Vals (ns.map V.int) us->IntsAre us ns:=by
 induction ns with
 | nil=>intro us r;rw[List.map_nil]at r;cases r;exact .nil
 | cons n ns ih=>
   intro us r
   rw[List.map_cons]at r
   cases r with
   | cons r1 r2=>
     obtain⟨t,e⟩:=r1
     subst e
     exact .cons n t (ih r2)
section
variable {X : Cx} {e : Expr} {te : TE} {lo hi : Option Expr} {tl th : TO} {pos p2 : Pos}
def SlR(X:Cx)(r:V->%[|17]->%[|17]->Hp->VK->Prop):Prop:=
 ∀ (pins:%[|21])(s:Shared)(σ:St)(H:Hp)(x:V)(v vl vu:Value)(lo hi:%[|17])(sl:Addr)(Q:VK),%[|4]->RelV x v->s.heap.IsSliceOf sl vl vu .none->IsPart vl lo->IsPart vu hi->r x lo hi H Q->
   ∃T id,typeLookup (.type T) "__getitem__"=pure (some (.builtin id))/\s.TypeIs v T/\wpAny %[|9] X.A (getItem v (.ref sl)) (EP X pins σ Q) X.xe s
def lL(xs:List V)(lo hi:%[|17]):List V:=(xs.drop (HT.sIx xs.length 0 lo)).take (HT.sIx xs.length xs.length hi-HT.sIx xs.length 0 lo)
theorem nQ(xs:List V)(lo hi:%[|17]):(lL xs lo hi).length≤xs.length:=by
 unfold lL
 rw[List.length_take,List.length_drop]
 omega
def Wr(K:PySem.W.Frag):V->%[|17]->%[|17]->Hp->VK->Prop:=λ x lo hi H Q=>∃a xs,x=.ref a/\SqT K H a xs/\
 ¬(HT.sIx xs.length 0 lo=0/\HT.sIx xs.length xs.length hi=xs.length)/\∀p,H p=none->Q (.ref p) (upd H p (.tup (lL xs lo hi)))
theorem Sw:SlR X (Wr X.K):=by
 intro pins s σ H x v vl vu lo hi sl Q I rx hs pl pu h
 obtain⟨a,xs,rfl,hx,hw,q⟩:=h
 cases rx
 obtain⟨its,r,ht,hz⟩:=I.tuple hx
 have hlen:its.toArray.size=xs.length:=by rw[List.size_toArray];exact r.length.symm
 refine⟨"tuple",_,PyProof.Rows.slot_tuple_getitem.lookup,ht.typeIs,?_⟩
 refine HT.getItem_tuple_cut ht hs pl pu (by rw[hlen];exact hw) ?_ (by rw[hlen];exact hz)
 rw[hlen]
 refine⟨%[|59],_,I.laid (t':=s.toks) (o:=.tup (lL xs lo hi)) (λ b ob q=>ZC _ q) (x9 _) ?_,rfl,q _ (I.hok.fresh (x9 _))⟩
 exact⟨Nat.le_trans (nQ xs lo hi) hz,_,(r.drop (HT.sIx xs.length 0 lo)).take (HT.sIx xs.length xs.length hi-HT.sIx xs.length 0 lo),IsTup.new _ _⟩
def Vx(K:PySem.W.Frag):R2:=λ x y H Q=>∃a b xs ys,x=.ref a/\y=.ref b/\SqT K H a xs/\SqT K H b ys/\xs≠[]/\xs.length+ys.length≤sizeLine/\
 (ys=[]->Q (.ref a) H)/\(ys≠[]->∀p,H p=none->Q (.ref p) (upd H p (.tup (xs++ys))))
theorem Vals.nil_iff{xs:List V}{us:%[|11]}(r:Vals xs us):us=[]↔xs=[]:=by
 cases r with
 | nil=>simp
 | cons _ _=>simp
theorem PB:OpR X (binaryOp .Add) (Vx X.K):=by
 intro pins s σ H x y v u Q I rx ry h
 obtain⟨a,b,xs,ys,rfl,rfl,ha,hb,hx,hz,q1,q2⟩:=h
 cases rx
 cases ry
 obtain⟨its,r1,p1,_⟩:=I.tuple ha
 obtain⟨its2,r2,p2,_⟩:=I.tuple hb
 refine HT.cat_tup p1 p2 (λ z=>hx (r1.nil_iff.mp z)) (λ z=>⟨.ref a,H,I,rfl,q1 (r2.nil_iff.mp z)⟩) (λ z=>?_) (by rw[←r1.length,←r2.length];exact hz)
 refine⟨%[|59],_,I.laid (t':=s.toks) (o:=.tup (xs++ys)) (λ b ob q=>ZC _ q) (x9 _) ?_,rfl,q2 (λ w=>z (r2.nil_iff.mpr w)) _ (I.hok.fresh (x9 _))⟩
 exact⟨by rw[List.length_append];exact hz,_,r1.append r2,IsTup.new _ _⟩
end
variable {s : Shared}
def ixN(n:Nat)(i:Int):Option Nat:=if 0≤i then(if i<n then some i.toNat else none)else if-(n:Int)≤i then some (i+n).toNat else none
def atI{α:Type}(xs:List α)(i:Int):Option α:=(ixN xs.length i).bind λ j=>xs[j]?
theorem DQ{n:Nat}{i:Int}{j:Nat}(h:ixN n i=some j):seqIndex? i n=some j/\j<n/\ -(n:Int)≤i/\i<n:=by
 unfold ixN at h
 by_cases h0:0≤i
 . rw[if_pos h0]at h
   by_cases h1:i<n
   . rw[if_pos h1]at h
     have e:i.toNat=j:=Option.some.inj h
     exact⟨by rw[seqIndex_of h0 h1,e],%[|1],%[|1],h1⟩
   . rw[if_neg h1]at h;cases h
 . rw[if_neg h0]at h
   by_cases h1: -(n:Int)≤i
   . rw[if_pos h1]at h
     have e:(i+n).toNat=j:=Option.some.inj h
     exact⟨by rw[seqIndex_neg %[|1] h1,e],%[|1],h1,%[|1]⟩
   . rw[if_neg h1]at h;cases h
theorem ue{α:Type}{xs:List α}{i:Int}{v:α}(h:atI xs i=some v):∃j,seqIndex? i xs.length=some j/\xs[j]? =some v/\j<xs.length/\ -(xs.length:Int)≤i/\i<xs.length:=by
 unfold atI at h
 cases e:ixN xs.length i with
 | none=>rw[e]at h;cases h
 | some j=>
   rw[e]at h
   obtain⟨h1,h2,h3,h4⟩:=DQ e
   exact⟨j,h1,h,h2,h3,h4⟩
theorem aA{α:Type}{xs:List α}{j:Nat}{v:α}(h:xs[j]? =some v):atI xs (j:Int)=some v:=by
 have hj:j<xs.length:=(z0.mp h).1
 have e:ixN xs.length (j:Int)=some j:=by
  unfold ixN
  rw[if_pos %[|1],if_pos %[|1]];simp
 unfold atI;rw[e];exact h
def tD(b:Expr):Prop:=∀o i,subscripted b false o i=operate [o,i] (getItem o i)
def IxR(X:Cx)(r:R2):Prop:=
 ∀ (value slice:Expr)(pins:%[|21])(s:Shared)(σ:St)(H:Hp)(x y:V)(v u:Value)(Q:VK),%[|4]->RelV x v->RelV y u->r x y H Q->
   subscripted slice false v u=operate [v,u] (getItem v u)->wpAny %[|9] X.A (subscriptTail value slice v u) (EP X pins σ Q) X.xe s
def MtR(X:Cx)(id:String)(r:V->List V->Hp->VK->Prop):Prop:=
 ∀ (pins:%[|21])(s:Shared)(σ:St)(H:Hp)(x:V)(xs:List V)(v:Value)(us:%[|11])(Q:VK),%[|4]->RelV x v->Vals xs us->r x xs H Q->
   wpAny %[|9] X.A (call (.builtin id) (v::us)) (EP X pins σ Q) X.xe s
section
variable {X : Cx} {a b : Expr} {ta tb : TE} {pos : Pos}
theorem VL{r:R2}(hr:IxR X r)(ha:PE X a ta)(hb:PE X b tb)(hs:tD b):PE X (.Subscript a b pos) (tOp r ta tb):=by
 intro pins s σ H Q I h
 exact Subscript_ (Wu ha hb I h λ v u s2 x y H2 I2 rx ry q=>hr a b pins s2 σ H2 x y v u Q I2 rx ry q (hs _ _))
def Wq(K:PySem.W.Frag):R2:=λ x y H Q=>∃p xs i v,x=.ref p/\y=.int i/\SqL K H p xs/\atI xs i=some v/\Q v H
def W2(K:PySem.W.Frag):R2:=λ x y H Q=>∃p xs i v,x=.ref p/\y=.int i/\SqT K H p xs/\atI xs i=some v/\Q v H
def Xb:R2:=λ x y H Q=>∃z i c,x=.str z/\y=.int i/\z.length≤sizeLine/\atI z.cps.toList i=some c/\Q (.str ⟨#[c]⟩) H
theorem uD:IxR X (Wq X.K):=by
 intro value slice pins s σ H x y v u Q I rx ry h hs
 obtain⟨p,xs,i,z,rfl,rfl,hq,he,q⟩:=h
 cases rx
 obtain⟨t,rfl⟩:=ry
 obtain⟨its,r,pl,hz⟩:=I.list hq
 obtain⟨j,h1,h2,h3,h4,h5⟩:=ue he
 obtain⟨w,ew,rw'⟩:=r.get h2
 have hl:=r.length
 have hn:=mL
 have fin:EP X pins σ Q w s:=⟨z,H,I,rw',q⟩
 by_cases h0:0≤i
 . have hj:i.toNat=j:=by
    rw[seqIndex_of h0 h5]at h1
    exact Option.some.inj h1
   exact item_listR pl.isList h0 %[|1] (by rw[hj];simpa using ew) fin hs
 . have hj:(i+(its.toArray.size:Int)).toNat=j:=by
    rw[seqIndex_neg %[|1] h4]at h1
    rw[List.size_toArray,←hl]
    exact Option.some.inj h1
   exact subscriptTail_builtinR (x:=w) pl.isList.typeIs slot_list_getitem.lookup
    (wpAny_getItem_list_neg (Q:=λ r s'=>r=w/\EP X pins σ Q r s') pl.isList %[|1] (by rw[List.size_toArray]<;>omega) %[|1] (by rw[hj];simpa using ew) ⟨rfl,fin⟩) hs
theorem U4:IxR X (W2 X.K):=by
 intro value slice pins s σ H x y v u Q I rx ry h hs
 obtain⟨p,xs,i,z,rfl,rfl,hq,he,q⟩:=h
 cases rx
 obtain⟨t,rfl⟩:=ry
 obtain⟨its,r,pl,hz⟩:=I.tuple hq
 obtain⟨j,h1,h2,h3,h4,h5⟩:=ue he
 obtain⟨w,ew,rw'⟩:=r.get h2
 have hl:=r.length
 have hn:=mL
 have fin:EP X pins σ Q w s:=⟨z,H,I,rw',q⟩
 exact subscriptTail_builtinR (x:=w) pl.typeIs slot_tuple_getitem.lookup
  (getItem_tuple (j:=j) (Q:=λ r s'=>r=w/\EP X pins σ Q r s') pl %[|1] %[|1] (by rw[List.size_toArray,←hl];exact h1) (by simpa using ew) ⟨rfl,fin⟩) hs
theorem Sg:IxR X Xb:=by
 intro value slice pins s σ H x y v u Q I rx ry h hs
 obtain⟨z,i,c,rfl,rfl,hz,he,q⟩:=h
 obtain⟨t,rfl⟩:=rx
 obtain⟨t',rfl⟩:=ry
 obtain⟨j,h1,h2,h3,h4,h5⟩:=ue he
 have hl:z.cps.toList.length=z.length:=by simp[Str.length]
 rw[hl]at h1 h4 h5
 have hn:=mL
 exact tail_any (typeIs_str s z t) slot_str_getitem.lookup (getItem_str (c:=c) (by
  have e1:decide (i< -(2 ^ 63:Int))=false:=ZH %[|1]
  have e2:decide (i≥2 ^ 63)=false:=ZH %[|1]
  rw[e1,e2,Bool.or_false]) (by rw[h1];simpa using h2) ⟨.str ⟨#[c]⟩,H,I.tok _,%[|24],q⟩) hs
theorem Fy(its:%[|11])(n j:Nat)(u:Value):Obj.mapSeq (·.setIfInBounds j u) {cls:=.type "list",data:=.seq its.toArray n}={cls:=.type "list",data:=.seq (its.set j u).toArray n}:=by
 simp[Obj.mapSeq]
theorem Inv.lst{pins:%[|21]}{σ:St}{H:Hp}{p:Addr}{xs:List V}(I:%[|4])(h:H p=some (.lst xs)):
 ∃(its:%[|11]) (n:Nat),Vals xs its/\s.heap.get? p=some {cls:=.type "list",data:=.seq its.toArray n}/\xs.length≤sizeLine:=by
 obtain⟨z,its,n,r,e⟩:=I.hok p _ h
 exact⟨its,n,r,e,z⟩
theorem Inv.lstUpd{pins:%[|21]}{σ:St}{H:Hp}{p:Addr}{xs ys:List V}{its its':%[|11]}{n n':Nat}{f:Obj->Obj}(I:%[|4])(h:H p=some (.lst xs))
 (ho:s.heap.get? p=some {cls:=.type "list",data:=.seq its.toArray n})(hf:f {cls:=.type "list",data:=.seq its.toArray n}={cls:=.type "list",data:=.seq its'.toArray n'})(r:Vals ys its')(hz:ys.length≤sizeLine)(t:Nat):
 Inv X pins σ (upd H p (.lst ys)) {s with heap:=s.heap.update p f,toks:=t}:=by
 have e:(s.heap.update p f).get? p=some {cls:=.type "list",data:=.seq its'.toArray n'}:=by
  rw[Heap.get?_update_self f ho (by rw[hf]<;>rfl),hf]
 refine I.write (x:=p) (e:=p) (by rw[h];trivial) (.inl rfl) (λ b u hb q=>(Heap.get?_update_other _ _ (Ne.symm hb)).trans q) ⟨_,e⟩ ?_
 exact⟨hz,its',n',r,e⟩
def Vv:V->V->V->Hp->(Hp->Prop)->Prop:=λ o i v H Q=>∃p xs k j,o=.ref p/\i=.int k/\H p=some (.lst xs)/\ixN xs.length k=some j/\Q (upd H p (.lst (xs.set j v)))
theorem set_list:Xg X Vv:=by
 intro pins s σ H o i v ov iv u Q I ro ri rv h
 obtain⟨p,xs,k,j,rfl,rfl,hp,hj,q⟩:=h
 cases ro
 obtain⟨t,rfl⟩:=ri
 obtain⟨its,n,r,ho,hz⟩:=I.lst hp
 obtain⟨h1,h2,h3,h4⟩:=DQ hj
 have hl:=r.length
 have hn:=mL
 have I':Inv X pins σ (upd H p (.lst (xs.set j v))) {s with heap:=s.heap.update p (Obj.mapSeq (·.setIfInBounds j u))}:=
  I.lstUpd hp ho (Fy its n j u) (r.set rv j) (by rw[List.length_set];exact hz) s.toks
 by_cases h0:0≤k
 . have hk:k.toNat=j:=by
    rw[seqIndex_of h0 h4]at h1
    exact Option.some.inj h1
   exact PySem.W.ki_setAt ho h0 %[|1] (by rw[List.size_toArray,←hl];exact h4) (by rw[hk];exact⟨_,I',q⟩)
 . have hk:(k+(its.toArray.size:Int)).toNat=j:=by
    rw[seqIndex_neg %[|1] h3]at h1
    rw[List.size_toArray,←hl]
    exact Option.some.inj h1
   exact PySem.W.ki_setBack ho %[|1] (by rw[List.size_toArray,←hl];exact h3) %[|1] (by rw[hk];exact⟨_,I',q⟩)
theorem zc(lo hi:%[|17])(n:Nat):(sliceBounds lo hi none n).1=((HT.sIx n 0 lo:Nat):Int)/\(sliceBounds lo hi none n).2.1=((HT.sIx n n hi:Nat):Int)/\(sliceBounds lo hi none n).2.2=1:=by
 refine⟨?_,?_,rfl⟩
 . cases lo with
   | none=>simp[sliceBounds,HT.sIx]
   | some i=>
     simp only[sliceBounds,HT.sIx,Option.getD_none,show(1:Int)>0 by decide,if_true]
     by_cases h:i<0
     . simp only[h,if_true]<;>omega
     . simp only[h,if_false]<;>omega
 . cases hi with
   | none=>simp[sliceBounds,HT.sIx]
   | some i=>
     simp only[sliceBounds,HT.sIx,Option.getD_none,show(1:Int)>0 by decide,if_true]
     by_cases h:i<0
     . simp only[h,if_true]<;>omega
     . simp only[h,if_false]<;>omega
theorem xY(its:%[|11])(lo hi:%[|17]):slicePick its.toArray lo hi none=((its.drop (HT.sIx its.length 0 lo)).take (HT.sIx its.length its.length hi-HT.sIx its.length 0 lo)).toArray:=by
 obtain⟨h1,h2,h3⟩:=zc lo hi its.toArray.size
 unfold slicePick
 rw[h1,h2,h3]
 simp only[sliceRange_one,pick_run,List.size_toArray]<;>rfl
def WF(K:PySem.W.Frag):V->%[|17]->%[|17]->Hp->VK->Prop:=λ x lo hi H Q=>∃a xs,x=.ref a/\SqL K H a xs/\∀p,H p=none->Q (.ref p) (upd H p (.lst (lL xs lo hi)))
theorem CQ:SlR X (WF X.K):=by
 intro pins s σ H x v vl vu lo hi sl Q I rx hs pl pu h
 obtain⟨a,xs,rfl,hx,q⟩:=h
 cases rx
 obtain⟨its,r,ht,hz⟩:=I.list hx
 have hlen:=r.length
 refine⟨"list",_,slot_list_getitem.lookup,ht.isList.typeIs,?_⟩
 refine wpAny_getItem_list_slice ht.isList hs pl pu .none (by simp) ?_ (by rw[List.size_toArray]<;>omega)
 rw[xY,←hlen]
 refine⟨%[|59],_,I.laid (t':=s.toks) (o:=.lst (lL xs lo hi)) (λ b ob q=>ZC _ q) (x9 _) ?_,rfl,q _ (I.hok.fresh (x9 _))⟩
 exact⟨Nat.le_trans (nQ xs lo hi) hz,_,0,(r.drop (HT.sIx xs.length 0 lo)).take (HT.sIx xs.length xs.length hi-HT.sIx xs.length 0 lo),%[|34]⟩
def fQ:V->Bool
 | .non=>true
 | .bl _=>true
 | .int _=>true
 | .str _=>true
 | _=>false
def eqV:V->V->Bool
 | .non,.non=>true
 | .bl a,.bl b=>a==b
 | .bl a,.int b=>(if a then 1 else 0)==b
 | .int a,.bl b=>a==(if b then 1 else 0)
 | .int a,.int b=>a==b
 | .str a,.str b=>a==b
 | _,_=>false
theorem RJ{A:Around}{y x:V}{u v:Value}(ry:RelV y u)(rx:RelV x v)(fy:fQ y=true)(fx:fQ x=true):SeqAt.EqAt A s u v (eqV y x):=by
 cases y with
 | non=>
   cases ry
   cases x with
   | non=>cases rx;exact SeqAt.EqAt.same _
   | bl b=>cases rx;exact SeqAt.EqAt.none_bool b
   | int b=>obtain⟨t,rfl⟩:=rx;exact SeqAt.EqAt.none_int b t
   | str b=>obtain⟨t,rfl⟩:=rx;exact SeqAt.EqAt.none_str b t
   | _=>exact absurd (show false=true from fx) x5
 | bl a=>
   cases ry
   cases x with
   | non=>cases rx;exact SeqAt.EqAt.bool_none a
   | bl b=>cases rx;exact SeqAt.EqAt.bool_bool a b
   | int b=>obtain⟨t,rfl⟩:=rx;exact SeqAt.EqAt.bool_int a b t
   | str b=>obtain⟨t,rfl⟩:=rx;exact SeqAt.EqAt.bool_str a b t
   | _=>exact absurd (show false=true from fx) x5
 | int a=>
   obtain⟨t',rfl⟩:=ry
   cases x with
   | non=>cases rx;exact SeqAt.EqAt.int_none a t'
   | bl b=>cases rx;exact SeqAt.EqAt.int_bool a t' b
   | int b=>obtain⟨t,rfl⟩:=rx;exact SeqAt.EqAt.int_int a t' b t
   | str b=>obtain⟨t,rfl⟩:=rx;exact SeqAt.EqAt.int_str a t' b t
   | _=>exact absurd (show false=true from fx) x5
 | str a=>
   obtain⟨t',rfl⟩:=ry
   cases x with
   | non=>cases rx;exact SeqAt.EqAt.str_none a t'
   | bl b=>cases rx;exact SeqAt.EqAt.str_bool a t' b
   | int b=>obtain⟨t,rfl⟩:=rx;exact SeqAt.EqAt.str_int a t' b t
   | str b=>obtain⟨t,rfl⟩:=rx;exact SeqAt.EqAt.str_str a t' b t
   | _=>exact absurd (show false=true from fx) x5
 | _=>exact absurd (show false=true from fy) x5
def eqU(x:V)(u:Value):Bool:=match u with
 | .none=>eqV .non x
 | .bool b=>eqV (.bl b) x
 | .int i _=>eqV (.int i) x
 | .str z _=>eqV (.str z) x
 | _=>false
theorem zF{x y:V}{u:Value}(r:RelV y u)(f:fQ y=true):eqU x u=eqV y x:=by
 cases y with
 | non=>cases r;rfl
 | bl b=>cases r;rfl
 | int i=>obtain⟨t,rfl⟩:=r;rfl
 | str z=>obtain⟨t,rfl⟩:=r;rfl
 | _=>exact absurd (show false=true from f) x5
theorem jF{x:V}:∀{xs:List V}{us:%[|11]},Vals xs us->xs.all fQ=true->us.any (eqU x)=xs.any λ y=>eqV y x
 | _,_,.nil,_=>rfl
 | y::xs,u::us,.cons r t,f=>by
   rw[List.all_cons,Bool.and_eq_true]at f
   rw[List.any_cons,List.any_cons,zF r f.1,jF t f.2]
theorem fH{A:Around}{s:Shared}{x:V}{v:Value}(rx:RelV x v)(fx:fQ x=true):∀{xs:List V}{us:%[|11]},Vals xs us->xs.all fQ=true->∀u∈us,SeqAt.EqAt A s u v (eqU x u)
 | _,_,.nil,_=>λ u hu=>by cases hu
 | y::xs,u::us,.cons r t,f=>λ u' hu=>by
   rw[List.all_cons,Bool.and_eq_true]at f
   rcases ZJ.mp hu with rfl | hu
   . rw[zF r f.1];exact RJ r rx f.1 fx
   . exact fH rx fx t f.2 u' hu
def inV(x:V)(xs:List V):Bool:=xs.any λ y=>eqV y x
def rIn(K:PySem.W.Frag)(neg:Bool):R2:=λ x y H Q=>∃p xs,y=.ref p/\(SqL K H p xs∨SqT K H p xs)/\fQ x=true/\xs.all fQ=true/\Q (.bl (if neg then !inV x xs else inV x xs)) H
theorem HF:OpR X (compareOp .In) (rIn X.K false):=by
 intro pins s σ H x y v u Q I rx ry h
 obtain⟨p,xs,rfl,hq,fx,fs,q⟩:=h
 cases ry
 rcases hq with hq | hq
 . obtain⟨its,r,pl,hz⟩:=I.list hq
   refine SeqAt.in_listAt (eqU x) pl.isList (λ w hw=>fH rx fx r fs w (by simpa using hw)) ⟨.bl _,H,I,rfl,?_⟩
   rw[show its.toArray.any (eqU x)=its.any (eqU x) by simp,jF r fs]
   exact q
 . obtain⟨its,r,pl,hz⟩:=I.tuple hq
   refine SeqAt.in_tupleAt (eqU x) pl (λ w hw=>fH rx fx r fs w (by simpa using hw)) ⟨.bl _,H,I,rfl,?_⟩
   rw[show its.toArray.any (eqU x)=its.any (eqU x) by simp,jF r fs]
   exact q
theorem zY:OpR X (compareOp .NotIn) (rIn X.K true):=by
 intro pins s σ H x y v u Q I rx ry h
 obtain⟨p,xs,rfl,hq,fx,fs,q⟩:=h
 cases ry
 rcases hq with hq | hq
 . obtain⟨its,r,pl,hz⟩:=I.list hq
   refine SeqAt.notIn_listAt (eqU x) pl.isList (λ w hw=>fH rx fx r fs w (by simpa using hw)) ⟨.bl _,H,I,rfl,?_⟩
   rw[show its.toArray.any (eqU x)=its.any (eqU x) by simp,jF r fs]
   exact q
 . obtain⟨its,r,pl,hz⟩:=I.tuple hq
   refine SeqAt.notIn_tupleAt (eqU x) pl (λ w hw=>fH rx fx r fs w (by simpa using hw)) ⟨.bl _,H,I,rfl,?_⟩
   rw[show its.toArray.any (eqU x)=its.any (eqU x) by simp,jF r fs]
   exact q
theorem iU:eQ X (.builtin "len") (λ xs H Q=>∃p ys,xs=[.ref p]/\(SqL X.K H p ys∨SqT X.K H p ys)/\Q (.int ys.length) H):=by
 intro pins s σ H xs us Q I r h
 obtain⟨p,ys,rfl,hq,q⟩:=h
 obtain⟨u,rfl,rx⟩:=vals1 r
 cases rx
 have hn:=mL
 rcases hq with hq | hq
 . obtain⟨its,r',pl,hz⟩:=I.list hq
   have hlen:=r'.length
   exact Calls.call_len_list pl.isList (by simp only[List.size_toArray]<;>omega) ⟨.int ys.length,H,I.tok _,⟨s.toks+1,by rw[List.size_toArray,hlen]⟩,q⟩
 . obtain⟨its,r',pl,hz⟩:=I.tuple hq
   have hlen:=r'.length
   exact len_tuple pl (by simp only[List.size_toArray]<;>omega) ⟨.int ys.length,H,I.tok _,⟨s.toks+1,by rw[List.size_toArray,hlen]⟩,q⟩
theorem lq:eQ X %[|29] (λ xs H Q=>∃p ys,xs=[.ref p]/\((SqL X.K H p ys/\∀l,H l=none->Q (.ref l) (upd H l (.tup ys)))∨(SqT X.K H p ys/\Q (.ref p) H))):=by
 intro pins s σ H xs us Q I r h
 obtain⟨p,ys,rfl,h⟩:=h
 obtain⟨u,rfl,rx⟩:=vals1 r
 cases rx
 rcases h with⟨hq,q⟩ | ⟨hq,q⟩
 . obtain⟨its,r',pl,hz⟩:=I.list hq
   have hlen:=r'.length
   refine call_tuple_list pl.isList (λ h' kp=>?_) (by simp only[List.size_toArray]<;>omega)
   have I1:Inv X pins σ H {s with heap:=h'}:=I.kept (t':=s.toks) kp
   have I2:Inv X pins σ (upd H h'.objs.size (.tup ys)) {s with heap:=h'.push {cls:=%[|29],data:=.seq its.toArray}}:=
    I1.laid (t':=s.toks) %[|81] (x9 _) (show aZ X.prog X.w _ _ _ (.tup ys)from⟨hz,its,r',IsTup.new _ _⟩)
   exact⟨.ref h'.objs.size,_,I2,rfl,q _ (I1.hok.fresh (x9 _))⟩
 . obtain⟨its,r',pl,hz⟩:=I.tuple hq
   exact call_tuple_same pl ⟨.ref p,H,I,rfl,q⟩
def tyV(K:PySem.W.Frag)(T:String)(x:V)(H:Hp):Prop:=match x with
 | .str _=>T="str"
 | .int _=>T="int"
 | .ref p=>(T="list"/\∃xs,SqL K H p xs)∨(T="tuple"/\∃o,K.lookup p=some o/\o.cls=%[|29]/\o.dict=none)∨
  (T="dict"/\((∃kvs,H p=some (.dK kvs))∨∃kvs,H p=some (.dT kvs)))∨(T="set"/\∃S n,H p=some (.set S n))
 | _=>False
theorem Hq{pins:%[|21]}{σ:St}{H:Hp}{T:String}{x:V}{v:Value}(I:%[|4])(r:RelV x v)(ty:tyV X.K T x H):
 s.TypeIs v T/\∀a,v=.ref a->∃ob,s.heap.get? a=some ob/\ob.dict=none:=by
 cases x with
 | str z=>
   obtain⟨t,rfl⟩:=r
   cases (show T="str" from ty)
   exact⟨typeIs_str s z t,λ _ e=>nomatch e⟩
 | int i=>
   obtain⟨t,rfl⟩:=r
   cases (show T="int" from ty)
   exact⟨typeIs_int s i t,λ _ e=>nomatch e⟩
 | ref p=>
   cases r
   rcases ty with⟨rfl,xs,hq⟩ | ⟨rfl,o,hk,hc,hd⟩ | ⟨rfl,hk⟩ | ⟨rfl,S,n,hk⟩
   . obtain⟨its,_,pl,_⟩:=I.list hq
     refine⟨pl.isList.typeIs,λ a e=>?_⟩
     cases e
     obtain⟨o,n,e,c,hd,_⟩:=pl
     exact⟨o,e,hd⟩
   . refine⟨⟨o,I.kIn p o hk,hc⟩,λ a e=>?_⟩
     cases e
     exact⟨o,I.kIn _ o hk,hd⟩
   . have z:∃o,s.heap.get? p=some o/\o.ExactDict:=by
      rcases hk with⟨kvs,hk⟩ | ⟨kvs,hk⟩
      . obtain⟨_,_,_,_,o,_,_,e,ex,_⟩:=I.hok p _ hk
        exact⟨o,e,ex⟩
      . obtain⟨_,_,_,_,o,_,_,e,ex,_⟩:=I.hok p _ hk
        exact⟨o,e,ex⟩
     obtain⟨o,e,ex⟩:=z
     refine⟨⟨o,e,ex.1⟩,λ a e2=>?_⟩
     cases e2
     exact⟨o,e,ex.2.1⟩
   . obtain⟨o,_,_,_,e,ex,_⟩:=I.hok p _ hk
     refine⟨⟨o,e,ex.1⟩,λ a e2=>?_⟩
     cases e2
     exact⟨o,e,ex.2.1⟩
 | _=>exact False.elim ty
def Xe(K:PySem.W.Frag)(T:String)(r:V->List V->Hp->VK->Prop)(to:TE):TE:=λ σ H Q=>to σ H λ x H1=>tyV K T x H1/\r x [] H1 Q
def tBM(K:PySem.W.Frag)(T:String)(r:V->List V->Hp->VK->Prop)(to:TE)(t:TA):TE:=λ σ H Q=>to σ H λ x H1=>tyV K T x H1/\t σ H1 λ xs H2=>r x xs H2 Q
variable {o e : Expr} {es : %[|12]} {to : TE} {t : TA} {name : Str} {apos cpos : Pos} {T id : String} {r : V -> List V -> Hp -> VK -> Prop}
theorem Qz(pa:PlainAttrs T)(slot:Slot T name id)(hty:typeOf (.builtin id)=pure (.type "method_descriptor"))(hm:MtR X id r)(ho:PE X o to)
 (hbase:attributeBase o name X.env (eval o X.env)=eval o X.env:=by rfl)(hline:(apos.endLine==cpos.line)=true:=by rfl):PE X (.Call (.Attribute o name apos) [] [] cpos) (Xe X.K T r to):=by
 intro pins s σ H Q I h
 refine wpAny_Call_method0_late hbase hline (thn (ho pins s σ H _ I h) λ v s1 ⟨x,H1,I1,r1,ty,q1⟩=>?_)
 obtain⟨h1,h2⟩:=Hq I1 r1 ty
 exact⟨T,id,pa,slot,hty,h1,h2,Calls.callWith_builtin rfl (PySem.evalArgs_none (hm pins s1 σ H1 x [] v [] Q I1 r1 .nil q1))⟩
theorem rD(pa:PlainAttrs T)(slot:Slot T name id)(hty:typeOf (.builtin id)=pure (.type "method_descriptor"))(hm:MtR X id r)(ho:PE X o to)(ha:PA X (e::es) t)
 (hbase:attributeBase o name X.env (eval o X.env)=eval o X.env:=by rfl)
 (hfew:((backTo cpos (starEach (e::es) X.env)).all (λ x=>!x.1)&&(backToKw cpos (keywordEach [] X.env)).all (λ x=>x.1.isSome)
  &&decide ((e::es).length+([]:List Keyword).length+(if([]:List Keyword).isEmpty then 0 else 1)<30))=true:=by rfl)
 (hline:(apos.endLine==cpos.line)=true:=by rfl)(hs:%[|79]:=by rfl)(hplain:(backTo cpos (starEach es X.env)).any (·.1)=false:=by rfl):
 PE X (.Call (.Attribute o name apos) (e::es) [] cpos) (tBM X.K T r to t):=by
 intro pins s σ H Q I h
 refine wpAny_Call_method_late hbase hfew hline rfl (thn (ho pins s σ H _ I h) λ v s1 ⟨x,H1,I1,r1,ty,q1⟩=>?_)
 obtain⟨h1,h2⟩:=Hq I1 r1 ty
 refine⟨T,id,pa,slot,hty,h1,h2,?_⟩
 have hA:=ha cpos pins s1 σ H1 _ I1 q1
 rw[hs]at hA ⊢
 refine Calls.callWith_builtin (by show(false||(backTo cpos (starEach es X.env)).any (·.1))=false;rw[hplain]<;>rfl) (Calls.evalArgs_plain ?_)
 exact thn hA λ us s2 ⟨vs,H2,I2,r2,q2⟩=>hm pins s2 σ H2 x vs v us Q I2 r1 r2 q2
end
end L2
namespace L2
open PySem PySem.Spec PyProof.Rows
def MtM(X:Cx)(id:String)(r:V->List V->Hp->VK->Prop):Prop:=
 ∀ (pins:%[|21])(s:Shared)(σ:St)(H:Hp)(x:V)(xs:List V)(v:Value)(us:%[|11])(Q:VK),%[|4]->RelV x v->Vals xs us->r x xs H Q->
   wpAny %[|9] X.A (call (.builtin id) (v::us)) (EP X pins σ Q) X.xe s
theorem Vals.one:∀{x:V}{us:%[|11]},Vals [x] us->∃u,us=[u]/\RelV x u
 | _,_,.cons r .nil=>⟨_,rfl,r⟩
theorem Vals.rep{xs:List V}{us:%[|11]}(h:Vals xs us):∀k:Nat,Vals (List.replicate k xs).flatten (List.replicate k us).flatten
 | 0=>.nil
 | k+1=>by
   rw[List.replicate_succ,List.replicate_succ,List.flatten_cons,List.flatten_cons]
   exact Vals.append h (Vals.rep h k)
theorem foldl_rep(its:%[|11]):∀(k:Nat)(acc:%[|11]),
 List.foldl (λ x1 x2=>x1++x2) acc.toArray (List.replicate k its.toArray)=(acc++(List.replicate k its).flatten).toArray
 | 0,acc=>by simp
 | k+1,acc=>by
   have e:acc.toArray++its.toArray=(acc++its).toArray:=by simp
   have e2:(acc++its)++(List.replicate k its).flatten=acc++(List.replicate (k+1) its).flatten:=by
    rw[List.replicate_succ,List.flatten_cons,List.append_assoc]
   rw[←e2,←foldl_rep its k (acc++its),←e,List.replicate_succ,List.foldl_cons]
section
variable {X : Cx} {pins : List (Addr × Obj)} {σ : St} {H : Hp} {s : Shared} {l b : Addr} {xs ys zs : List V}
theorem Inv.lset{its its':%[|11]}{n:Nat}{f:Array Value->Array Value}{t':Nat}(I:%[|4])(hH:H l=some (.lst xs))
 (e:s.heap.get? l=some {cls:=.type "list",data:=.seq its.toArray n})(hf:f its.toArray=its'.toArray)(hv:Vals ys its')(hz:ys.length≤sizeLine):
 Inv X pins σ (upd H l (.lst ys)) {s with heap:=s.heap.update l (Obj.mapSeq f),toks:=t'}:=by
 have q:=PySem.IsL.update e f
 rw[hf]at q
 refine I.write (x:=l) (e:=l) (by rw[hH];exact trivial) (.inl rfl) (λ b' u hb hu=>(Heap.get?_update_other s.heap (Obj.mapSeq f) (Ne.symm hb)).trans hu) ⟨_,q⟩ ?_
 exact⟨hz,its',_,hv,q⟩
theorem Inv.lnew{its:%[|11]}{t':Nat}(I:%[|4])(hv:Vals ys its)(hz:ys.length≤sizeLine):
 Inv X pins σ (upd H s.heap.objs.size (.lst ys)) {s with heap:=s.heap.push {cls:=.type "list",data:=.seq its.toArray},toks:=t'}:=
 I.laid (λ _ _ q=>ZC _ q) (x9 _) ⟨hz,its,0,hv,%[|34]⟩
theorem Inv.fresh(I:%[|4]):H s.heap.objs.size=none:=I.hok.fresh (x9 _)
theorem Inv.lstM(I:%[|4])(hH:H l=some (.lst xs)):xs.length≤sizeLine/\∃(its:%[|11]) (n:Nat),Vals xs its/\xs.length=its.length/\s.heap.get? l=some {cls:=.type "list",data:=.seq its.toArray n}:=by
 obtain⟨z,its,n,r,e⟩:=I.hok l _ hH
 exact⟨z,its,n,r,r.length,e⟩
end
section
variable {X : Cx}
def NZ:V->List V->Hp->VK->Prop:=λ x vs H Q=>∃l xs y,x=.ref l/\vs=[y]/\H l=some (.lst xs)/\xs.length<sizeLine/\Q .non (upd H l (.lst (xs++[y])))
theorem lN:MtM X "list.append" NZ:=by
 intro pins s σ H x vs v us Q I rx rv h
 obtain⟨l,xs,y,rfl,rfl,hH,hz,q⟩:=h
 cases rx
 obtain⟨u,rfl,ru⟩:=rv.one
 obtain⟨z,its,n,r,hl,e⟩:=I.lstM hH
 refine call_meets F.slot_list_append ⟨_,e,rfl⟩ F.entry_list_append (F.args_list_append_2 _ _) (PySem.list_append l its.toArray n u (by rw[List.size_toArray];omega)) ⟨e,?_⟩
 refine⟨.non,_,I.lset (its':=its++[u]) hH e (by simp) (r.append (.cons ru .nil)) ?_,rfl,q⟩
 rw[List.length_append,List.length_singleton]
 omega
theorem len_rep{α:Type}(xs:List α)(k:Nat):(List.replicate k xs).flatten.length=k*xs.length:=by
 induction k with
 | zero=>simp
 | succ k ih=>rw[List.replicate_succ,List.flatten_cons,List.length_append,ih,Nat.succ_mul,Nat.add_comm]
end
end L2
namespace Att
open PySem PySem.W PySem.Calls PyProof.Rows
theorem sG{P:Params}{h:Heap}:∀(ns:%[|6])(vs:%[|11]),WellAll P h vs (ns.map WData.int)->IntsAre vs ns:=by
 intro ns
 induction ns with
 | nil=>
   intro vs w
   rw[List.map_nil]at w
   cases w
   exact .nil
 | cons n ns ih=>
   intro vs w
   rw[List.map_cons]at w
   cases w with
   | cons a b=>
     cases a
     exact .cons _ _ (ih _ b)
theorem G8{l:OpenLaw}{n:Nat}(hn:l.most=some n){P:Params}{h:Heap}{args:List WData}{vals:%[|11]}
 (hpre:l.row.toRowW.claim.pre args=true)(hwl:WellAll P h vals args):
 ∃a vs ns,vals=[Value.ref a]/\args=[WData.list (ns.map WData.int)]/\h.get? a=some {cls:=.type "list",data:=.seq vs.toArray}/\IntsAre vs ns/\ns.length≤n:=by
 have hsh:WShape.hasAll [] args [.list .int]=true:=(pre_splitW hpre).1
 have hc:l.pre.holds [] {args:=args}=true:=(pre_splitW hpre).2
 obtain⟨d,r,rfl,h1,h2⟩:=hasAllW_cons hsh
 obtain rfl:=hasAllW_nil h2
 obtain⟨xs,rfl,h3⟩:=hasW_list h1
 obtain⟨ns,rfl⟩:=items_int h3
 have hlen:ns.length≤n:=by
  unfold OpenLaw.pre at hc
  have h4:(WTm.not (.lt (.lit (.int (n:Int))) (.len (.arg 0)))).holds [] {args:=[.list (ns.map .int)]}=true:=by
   have h4:=(holds_andW hc).1
   rw[hn]at h4
   exact h4
  have h5:=condW_of h4 (w_not (w_lt w_lit (w_len_list (w_arg rfl))))
  rw[x6]at h5
  refine Nat.le_of_not_lt λ q=>?_
  have q':(n:Int)<((ns.length:Nat):Int):=%[|1]
  first
   | (rw[ZG q']at h5;exact absurd h5 %[|2])
   | (simp at h5;omega)
 cases hwl with
 | cons w1 w2=>
   cases w2
   cases w1 with
   | list ho hall=>exact⟨_,_,ns,rfl,rfl,ho,sG ns _ hall,hlen⟩
theorem Ii(l:OpenLaw)(args:List WData):l.row.toRowW.claim.post args (.bool true) args=true:=
 postW_of (r:=l.row.toRowW) (X:=(true==true))
  (show WShape.has [] (.bool true) .bool=true by first | rfl | decide | simp[WShape.has,WShape.arms,WShape.armsAll])
  (show(WTm.eq .res (.lit (.bool true))).value [] {args:=args,res:=some (.bool true),after:=args}=some (.bool (true==true))from w_eq_bool (w_res rfl) w_lit) rfl
theorem attach_call{l:OpenLaw}{n:Nat}{q:Program}{loose:%[|0]}{XP:%[|22]->Heap->Prop}{YP:World->Heap->Prop}{d:DefRec}
 (hn:l.most=some n)(hdf:d.params.defaults=[])
 (call:∀(w:World)(s₀ s₁:Shared)(mg mb:%[|22])(fa:Addr)(o:Obj)(pm cd doc:Value)(a:Addr)(vs:%[|11])(ns:%[|6]),
  Ground q loose [] XP w s₀ mg mb s₁.heap->YP w s₁.heap->
  s₁.heap.get? fa=some o->o.data=.func (docDef d.name d.params d.body d.scope pm cd doc)->s₁.heap.CodeRec cd d.name->mg d.name=some (.ref fa)->
  s₁.heap.get? a=some {cls:=.type "list",data:=.seq vs.toArray}->IntsAre vs ns->ns.length≤n->s₁.gens=#[]->
  codeAny (model l.prog w) callerA (.call (.ref fa) ⟨[.ref a],[]⟩) (λ r s'=>r=.ok (.ret (.bool true))/\OldK s₁.heap s'.heap/\s'.os=s₁.os/\AllBare s'.gens) s₁):
 WalkO q loose XP YP l.row.toRowW d [] (λ f vs=>PySem.call f vs):=by
 intro w s₀ s₁ mg mb G Y fa o pm cd doc dV kV ho hd hcd hD hmg hg args vals as hpre hlay hrd hwl hlo
 obtain rfl:dV=.none:=Dflts.none hD hdf
 obtain rfl:kV=.none:=Dflts.noKw hD
 obtain⟨a,vs,ns,rfl,rfl,hobj,hints,hlen⟩:=G8 hn hpre hwl
 refine enter_call (codeAny_mono (call w s₀ s₁ mg mb fa o pm cd doc a vs ns G Y ho (fd_plain hd) hcd hmg hobj hints hlen hg) λ r s' hq=>?_)
 obtain⟨rfl,h2,h3,h4⟩:=hq
 exact⟨.inl ⟨.bool true,.bool true,[],rfl,λ _=>rfl,.bool true,Ii l _,λ _=>⟨List.Pairwise.nil,λ _ hm=>(nomatch hm)⟩⟩,h2,h3,h4⟩
end Att
namespace L2
open PySem PySem.Spec PyProof.Rows
theorem vD:∀{vs:%[|11]}{ns:%[|6]},IntsAre vs ns->Vals (ns.map V.int) vs
 | _,_,.nil=>.nil
 | _,_,.cons n t h=>.cons ⟨t,rfl⟩ (vD h)
def Only(H:Hp):Prop:=∀b,H b=none∨∃o xs,H b=some (.frz o (.lst xs))
theorem Kc{P:Program}{w:World}{K:PySem.W.Frag}{mg mb:%[|22]}{CX:CXT}{k:Nat}{fa a:Addr}{fd:FuncData}{x:Str}{sp:Sp}{s₁:Shared}{vs:%[|11]}{ns:%[|6]}
 (KX:K.In s₁.heap)(hns:s₁.heap.Ns mainGlobals mg)(hb:s₁.heap.Ns builtinsNs mb)(hbb:∀x:Str,x≠"__name__"->mb x=bootBuiltins x)(hlim:s₁.heap.NoLimit)(hg:s₁.gens=#[])
 (ha:s₁.heap.get? a=some {cls:=.type "list",data:=.seq vs.toArray})(hi:IntsAre vs ns)(hl:ns.length≤sizeLine)(hr:Room k callerA)
 (F:∀base:Heap,K.In base->base.Ns mainGlobals mg->FnOk P w K mg base CX k fa fd [x] sp)(hbind:∀(s:Shared)(u:Value),BindsTo s fd ⟨[u],[]⟩ [(x,u)])
 (hsp:∀H:Hp,Only H->SqL K H a (ns.map V.int)->sp [.ref a] H (λ v _=>v=.bl true) λ _ _ _=>False)
 (hCX:∀H e s',CX [] H s₁ (λ _ _ _=>False) e s'->False):
 codeAny (model P w) callerA (.call (.ref fa) ⟨[.ref a],[]⟩) (λ r s'=>r=.ok (.ret (.bool true))/\OldK s₁.heap s'.heap/\s'.os=s₁.os/\AllBare s'.gens) s₁:=by
 have rv:=vD hi
 have lenV:=hi.length
 have core:∀H:Hp,Only H->SqL K H a (ns.map V.int)->HOk P w H s₁.heap->(∀b,H b≠none->b=a)->(H a≠none->K.lookup a=none)->
  codeAny (model P w) callerA (.call (.ref fa) ⟨[.ref a],[]⟩) (λ r s'=>r=.ok (.ret (.bool true))/\OldK s₁.heap s'.heap/\s'.os=s₁.os/\AllBare s'.gens) s₁:=by
  intro H hO hS hok hA hK
  have base_of:∀{b:Addr}{o:Obj},s₁.heap.get? b=some o->H b=none->(kh s₁.heap H).get? b=some o:=λ e n=>K1 e n
  have noA:∀{b:Addr}{o:Obj}{es:Array DictEntry}{ep:Nat},s₁.heap.get? b=some o->o.data=.dict es ep->H b=none:=λ{b o es ep} e d=>by
   cases q:H b with
   | none=>rfl
   | some u=>
     have e':b=a:=hA b (by rw[q];simp)
     subst e'
     rw[ha]at e;cases e
     have d':Data.seq vs.toArray _=Data.dict es ep:=d
     cases d'
  have nsK:∀{b:Addr}{m:%[|22]},s₁.heap.Ns b m->(kh s₁.heap H).Ns b m:=λ{b m} ⟨o,es,ep,e,d,r⟩=>⟨o,es,ep,base_of e (noA e d),d,r⟩
  have hKb:K.In (kh s₁.heap H):=λ b o e=>base_of (KX b o e) (by
   cases q:H b with
   | none=>rfl
   | some u=>
     have e':b=a:=hA b (by rw[q];simp)
     subst e'
     rw[hK (by rw[q];simp)]at e;cases e)
  have hM:Mod K mg (kh s₁.heap H):=⟨hKb,nsK hns,⟨mb,nsK hb,hbb⟩,let ⟨mc,h1,h2⟩:=hlim;⟨mc,nsK h1,h2⟩⟩
  have e0:Env0 P w K mg (kh s₁.heap H) callerA [] s₁ H:=⟨rfl,hM,λ b o e=>Pz e,Nat.le_of_eq (JD _ _),trivial,λ b hb=>absurd (show b∈([]:List Addr)from hb) (by simp),hok,.of_eq hg⟩
  refine codeAny_mono ((F _ hKb (nsK hns)).run callerA [] s₁ H ⟨[.ref a],[]⟩ [.ref a] [.ref a] _ _ hr e0 (hbind s₁ (.ref a)) (.cons rfl .nil) (hsp H hO hS)) λ r s' h=>?_
  cases r with
  | error e=>exact(hCX H e s' h).elim
  | ok fl =>
    cases fl with
    | next=>exact False.elim h
    | brk=>exact False.elim h
    | cont=>exact False.elim h
    | ret u=>
      obtain⟨v,H',os,bare,un,hok',r',q⟩:=h
      have q':v=.bl true:=q
      subst q'
      obtain rfl:u=Value.bool true:=r'
      refine⟨rfl,OldK.of_keep λ b o e=>?_,os,bare⟩
      cases q:H b with
      | none=>exact un.keep b o e q (by intro z;exact absurd (show b∈([]:List Addr)from z) (by simp)) (by simp)
      | some u=>
        rcases hO b with z | ⟨ob,xs,z⟩
        . rw[q]at z;cases z
        . have z2:=un.frzs b ob _ z
          obtain⟨e1,_⟩:=hok b _ z
          obtain⟨e2,_⟩:=hok' b _ z2
          rw[e]at e1;cases e1
          exact e2
 cases hk:K.lookup a with
 | some o=>
   have e:=KX a o hk
   rw[ha]at e
   cases e
   refine core (λ _=>none) (λ _=>.inl rfl) (.inr ⟨_,vs.toArray,_,hk,rfl,rfl,rfl,by rw[List.size_toArray,lenV];exact hl,by simpa using rv⟩) (λ b u z=>by have z':(none:Option HO)=some u:=z;cases z') (λ b z=>absurd rfl z) λ z=>absurd rfl z
 | none=>
   refine core (λ b=>if b=a then some (.frz {cls:=.type "list",data:=.seq vs.toArray} (.lst (ns.map V.int)))else none) (λ b=>?_) (.inl (.inr ⟨{cls:=.type "list",data:=.seq vs.toArray},if_pos rfl⟩)) (λ b u z=>?_) (λ b z=>?_) λ _=>hk
   . by_cases hb:b=a
     . exact .inr ⟨_,_,if_pos hb⟩
     . exact .inl (if_neg hb)
   . by_cases hb:b=a
     . have z':=(if_pos hb).symm.trans z
       cases z'
       subst hb
       exact⟨ha,by rw[x6];exact hl,vs,_,rv,ha⟩
     . have z':=(if_neg hb).symm.trans z
       cases z'
   . by_cases hb:b=a
     . exact hb
     . exact absurd (if_neg hb) z
abbrev KOf{K:PySem.W.Frag}{h:Heap}(_:K.In h):PySem.W.Frag:=K
theorem walk_of{l:PySem.W.OpenLaw}{n k:Nat}{q:Program}{loose:%[|0]}{XP:%[|22]->Heap->Prop}{YP:World->Heap->Prop}{d:DefRec}{K:Params->PySem.W.Frag}{CX:World->CXT}{sp:World->Sp}{x:Str}
 (hn:l.most=some n)(hn2:n≤sizeLine)(hdf:d.params.defaults=[])(hr:Room k callerA)
 (hY:∀(w:World)(h:Heap),YP w h->(K w.params).In h)
 (F :∀(w:World)(mg:%[|22])(fa:Addr)(h:Heap),(K w.params).In h->h.Ns mainGlobals mg->mg d.name=some (.ref fa)->
  ∃ fd:FuncData,(∀(s:Shared)(u:Value),BindsTo s fd ⟨[u],[]⟩ [(x,u)])/\
    ∀base:Heap,(K w.params).In base->base.Ns mainGlobals mg->FnOk l.prog w (K w.params) mg base (CX w) k fa fd [x] (sp w))
 (hsp:∀(w:World)(H:Hp)(a:Addr)(ns:%[|6]),ns.length≤n->Only H->SqL (K w.params) H a (ns.map V.int)->sp w [.ref a] H (λ v _=>v=.bl true) λ _ _ _=>False)
 (hCX:∀(w:World)(H:Hp)(s:Shared)(e:Value)(s':Shared),CX w [] H s (λ _ _ _=>False) e s'->False):
 PySem.W.WalkO q loose XP YP l.row.toRowW d [] (λ f vs=>PySem.call f vs):=by
 refine Att.attach_call hn hdf λ w s₀ s₁ mg mb fa o pm cd doc a vs ns G Y ho hd hcd hmg hobj hints hlen hg=>?_
 have KX:=hY w _ Y
 obtain⟨fd,hb,hF⟩:=F w mg fa _ KX G.T.g hmg
 exact Kc KX G.T.g G.T.b G.T.builtins G.T.nolimit hg hobj hints (Nat.le_trans hlen hn2) hr hF hb (λ H hO hS=>hsp w H a ns hlen hO hS) λ H e s'=>hCX w H s₁ e s'
def fC(s:Stmt):Arguments:=match s with
 | .FunctionDef _ a _ _ _ _ _ _ _ _=>a
 | _=>{posonlyargs:=[],args:=[],vararg:=none,kwonlyargs:=[],kw_defaults:=[],kwarg:=none,defaults:=[]}
def bu(s:Stmt):List Stmt:=match s with
 | .FunctionDef _ _ b _ _ _ _ _ _ _=>b
 | _=>[]
def ak(s:Stmt):Scope:=match s with
 | .FunctionDef _ _ _ _ _ _ sc _ _ _=>sc
 | _=>{kind:=.function,names:=[],isGenerator:=false,isCoroutine:=false}
abbrev CX0:CXT:=λ _ _ _ _ _ _=>False
abbrev E0:XK:=λ _ _ _=>False
theorem V0{X:Cx}:JC CX0 X E0:=λ _ _ _ _ _ _ _ h=>h.elim
structure Fun(K:PySem.W.Frag)(x qual:Str)(st:Stmt)(f:Addr)(fd:FuncData):Prop where
 ex:∃(oc:Value) (od:Option Addr) (kV doc pm:Value) (an:Option Addr) (cdv ct:Value) (osl:Array (Option Value)),
  fd=PySem.W.fnOf x qual (fC st) (bu st) (ak st) .none kV doc pm an cdv ct/\K.lookup f=some ⟨oc,od,.func fd,osl⟩/\PySem.W.codeIn K cdv qual=true
 kp:PySem.W.keepIn K (.ref f)=true
section
variable {P : Program} {w : World} {K : PySem.W.Frag} {mg : Str -> Option Value} {base : Heap}
theorem Fun.binds{x qual:Str}{st:Stmt}{f:Addr}{fd:FuncData}{ps:%[|0]}(F:Fun K x qual st f fd)
 (h:∀(kV doc pm:Value)(an:Option Addr)(cdv ct:Value)(us:%[|11]),us.length=ps.length->bindArgs (PySem.W.fnOf x qual (fC st) (bu st) (ak st) .none kV doc pm an cdv ct) ⟨us,[]⟩=pure (ps.zip us)):Binds K fd ps []:=by
 obtain⟨oc,od,kV,doc,pm,an,cdv,ct,osl,rfl,lk,hcd⟩:=F.ex
 exact .all (h kV doc pm an cdv ct)
theorem Jd{x qual:Str}{st:Stmt}{f:Addr}{oc:Value}{od an:Option Addr}{osl:Array (Option Value)}{kV doc pm cdv ct:Value}(l:K.lookup f=some ⟨oc,od,.func (PySem.W.fnOf x qual (fC st) (bu st) (ak st) .none kV doc pm an cdv ct),osl⟩)
 (c:PySem.W.codeIn K cdv qual=true)(k:PySem.W.keepIn K (.ref f)=true):Fun K x qual st f (PySem.W.fnOf x qual (fC st) (bu st) (ak st) .none kV doc pm an cdv ct):=⟨⟨oc,od,kV,doc,pm,an,cdv,ct,osl,rfl,l,c⟩,k⟩
end
def aQ(H H':Hp):Prop:=∀b o,H b=some o->H' b=some o
theorem aQ.refl(H:Hp):aQ H H:=λ _ _ h=>h
end L2
set_option maxHeartbeats 4000000
namespace DL
open PySem PySem.Spec L2
open PyProof.Rows
variable {a p : Addr} {K : PySem.W.Frag} {O O' : Own} {H H' : Hp} {xs : List V} {S : Store}
abbrev St:=L2.St
inductive D where
 | non | bl(b:Bool) | int(i:Int) | str(x:Str) | tup(ds:List D) | lst(ds:List D) | loc(k:Nat) | dic | dlo(k:Nat)
abbrev Store:=List (List D)
abbrev Gam:=List (Option D)
structure Own where
 A:List (Addr×Bool)
 B:List Addr
abbrev adr(A:List (Addr×Bool)):List Addr:=A.map Prod.fst
theorem d7{A:List (Addr×Bool)}{k:Nat}{q:Bool}(h:A[k]? =some (a,q)):a∈adr A:=ZO.mpr ⟨_,y9 h,rfl⟩
theorem dN(A N:List (Addr×Bool)):adr (A++N)=adr A++adr N:=List.map_append
abbrev Own.has(O:Own)(a:Addr):Prop:=a∈adr O.A∨a∈O.B
def Tp(K:PySem.W.Frag)(O:Own)(H:Hp)(a:Addr)(xs:List V):Prop:=¬O.has a/\H a=some (.tup xs)
def Ls(K:PySem.W.Frag)(O:Own)(H:Hp)(a:Addr)(xs:List V):Prop:=(¬O.has a/\Rd H a (.lst xs))∨SqL K (λ _=>none) a xs
theorem Tp.sq(h:Tp K O H a xs):SqT K H a xs:=.inl (.inl h.2)
theorem Ls.sq(h:Ls K O H a xs):SqL K H a xs:=by
 rcases h with⟨_,h⟩ | (h | h)
 . exact .inl h
 . rcases h with h | ⟨_,h⟩<;>cases h
 . exact .inr h
def Abv(K:PySem.W.Frag)(a:Addr):Prop:=∀c o,K.lookup c=some o->c<a
mutual
inductive Rep(K:PySem.W.Frag)(O:Own)(H:Hp):V->D->Prop
 | non:Rep K O H .non .non
 | bl(b:Bool):Rep K O H (.bl b) (.bl b)
 | int(i:Int):Rep K O H (.int i) (.int i)
 | str(x:Str):Rep K O H (.str x) (.str x)
 | tup{a:Addr}{xs:List V}{ds:List D}(h:Tp K O H a xs)(r:Reps K O H xs ds):Rep K O H (.ref a) (.tup ds)
 | lst{a:Addr}{xs:List V}{ds:List D}(h:Ls K O H a xs)(r:Reps K O H xs ds):Rep K O H (.ref a) (.lst ds)
 | loc{a:Addr}{k:Nat}(h:O.A[k]? =some (a,false)):Rep K O H (.ref a) (.loc k)
 | dlo{a:Addr}{k:Nat}(h:O.A[k]? =some (a,true))(n:Abv K a):Rep K O H (.ref a) (.dlo k)
 | dic{a:Addr}(h:¬O.has a)(e:H a=some (.dK [])):Rep K O H (.ref a) .dic
inductive Reps(K:PySem.W.Frag)(O:Own)(H:Hp):List V->List D->Prop
 | nil:Reps K O H [] []
 | cons{v:V}{d:D}{vs:List V}{ds:List D}(r:Rep K O H v d)(t:Reps K O H vs ds):Reps K O H (v::vs) (d::ds)
end
structure Step(O O':Own)(H H':Hp):Prop where
 kept:∀b o,b∉adr O.A->H b=some o->H' b=some o
 dom:∀b,H b≠none->H' b≠none
 ext:∃N,O'.A=O.A++N/\∀b∈adr N,H b=none
 hid:O'.B=O.B
theorem Step.refl(O:Own)(H:Hp):Step O O H H:=⟨λ _ _ _ h=>h,λ _ h=>h,⟨[],by simp,λ _ h=>nomatch h⟩,rfl⟩
theorem Step.trans{O1 O2:Own}{H1 H2:Hp}(a:Step O O1 H H1)(b:Step O1 O2 H1 H2):Step O O2 H H2:=by
 obtain⟨N1,e1,f1⟩:=a.ext
 obtain⟨N2,e2,f2⟩:=b.ext
 refine⟨λ c o hc h=>b.kept c o (λ z=>?_) (a.kept c o hc h),λ c h=>b.dom c (a.dom c h),⟨N1++N2,by rw[e2,e1,List.append_assoc],λ c hc=>?_⟩,b.hid.trans a.hid⟩
 . rw[e1,dN]at z
   rcases ZK.mp z with z | z
   . exact hc z
   . rw[f1 c z]at h;cases h
 . rw[dN]at hc
   rcases ZK.mp hc with z | z
   . exact f1 c z
   . cases q:H c with
     | none=>rfl
     | some o=>exact absurd (f2 c z) (a.dom c (by rw[q];simp))
theorem Step.nothas(s:Step O O' H H'){a:Addr}(h:¬O.has a)(t:H a≠none):¬O'.has a:=by
 obtain⟨N,e,f⟩:=s.ext
 rintro(z | z)
 . rw[e,dN]at z
   rcases ZK.mp z with z | z
   . exact h (.inl z)
   . exact t (f a z)
 . rw[s.hid]at z;exact h (.inr z)
structure Conv(O O':Own)(H H':Hp):Prop where
 tr:∀a u,¬O.has a->H a=some u->¬O'.has a/\H' a=some u
 lc:∀(k:Nat)(a:Addr×Bool),O.A[k]? =some a->O'.A[k]? =some a
theorem Step.conv(s:Step O O' H H'):Conv O O' H H':=
 ⟨λ a u h t=>⟨s.nothas h (by rw[t];simp),s.kept a u (λ z=>h (.inl z)) t⟩,λ k a h=>by
  obtain⟨N,e,_⟩:=s.ext
  rw[e,List.getElem?_append_left (z0.mp h).1];exact h⟩
theorem Rd.conv(s:Conv O O' H H'){a:Addr}{u:HO}(h:¬O.has a)(r:Rd H a u):¬O'.has a/\Rd H' a u:=by
 rcases r with r | ⟨o,r⟩
 . obtain⟨x,y⟩:=s.tr a _ h r
   exact⟨x,.inl y⟩
 . obtain⟨x,y⟩:=s.tr a _ h r
   exact⟨x,.inr ⟨o,y⟩⟩
theorem Tp.conv(h:Tp K O H a xs)(s:Conv O O' H H'):Tp K O' H' a xs:=s.tr a _ h.1 h.2
theorem Ls.conv(h:Ls K O H a xs)(s:Conv O O' H H'):Ls K O' H' a xs:=by
 rcases h with⟨n,r⟩ | h
 . exact .inl (Rd.conv s n r)
 . exact .inr h
mutual
theorem Rep.conv{K:PySem.W.Frag}{O O':Own}{H H':Hp}(s:Conv O O' H H'):∀{v:V}{d:D},Rep K O H v d->Rep K O' H' v d
 | _,_,.non=>.non
 | _,_,.bl b=>.bl b
 | _,_,.int i=>.int i
 | _,_,.str x=>.str x
 | _,_,.tup h r=>.tup (h.conv s) (Reps.conv s r)
 | _,_,.lst h r=>.lst (h.conv s) (Reps.conv s r)
 | _,_,.loc h=>.loc (s.lc _ _ h)
 | _,_,.dlo h n=>.dlo (s.lc _ _ h) n
 | _,_,.dic h e=>.dic (s.tr _ _ h e).1 (s.tr _ _ h e).2
theorem Reps.conv{K:PySem.W.Frag}{O O':Own}{H H':Hp}(s:Conv O O' H H'):∀{vs:List V}{ds:List D},Reps K O H vs ds->Reps K O' H' vs ds
 | _,_,.nil=>.nil
 | _,_,.cons r t=>.cons (Rep.conv s r) (Reps.conv s t)
end
theorem Rep.mono{v:V}{d:D}(h:Rep K O H v d)(s:Step O O' H H'):Rep K O' H' v d:=h.conv s.conv
theorem Reps.mono{v:List V}{d:List D}(h:Reps K O H v d)(s:Step O O' H H'):Reps K O' H' v d:=h.conv s.conv
abbrev Own.hide(O:Own)(p:Addr):Own:=⟨O.A,p::O.B⟩
theorem Conv.hide(h:H p=none)(o:HO):Conv O (O.hide p) H (upd H p o):=
 ⟨λ a u n t=>by
  have ne:a≠p:=aC t h
  refine⟨λ z=>?_,by rw[aj ne];exact t⟩
  rcases z with z | z
  . exact n (.inl z)
  . rcases ZJ.mp z with z | z
    . exact ne z
    . exact n (.inr z),λ _ _ h=>h⟩
theorem Conv.unhide{A:List (Addr×Bool)}{B:List Addr}:Conv ⟨A,p::B⟩ ⟨A,B⟩ H H:=
 ⟨λ a u n t=>⟨λ z=>n (z.elim .inl λ z=>.inr (w9 _ z)),t⟩,λ _ _ h=>h⟩
theorem Conv.updHid(h:p∈O.B)(o:HO):Conv O O H (upd H p o):=
 ⟨λ a u n t=>⟨n,by rw[aj (λ e=>n (.inr (by rw[e];exact h)))];exact t⟩,λ _ _ h=>h⟩
theorem Reps.length{K:PySem.W.Frag}{O:Own}{H:Hp}:∀{vs:List V}{ds:List D},Reps K O H vs ds->vs.length=ds.length
 | _,_,.nil=>rfl
 | _,_,.cons _ t=>by simp[Reps.length t]
theorem Reps.get{K:PySem.W.Frag}{O:Own}{H:Hp}:∀{vs:List V}{ds:List D}{i:Nat}{d:D},Reps K O H vs ds->%[|33]->∃v,vs[i]? =some v/\Rep K O H v d
 | _,_,_,_,.nil,e=>by simp at e
 | _,_,0,_,.cons r _,e=>by simp at e;subst e;exact⟨_,rfl,r⟩
 | _,_,i+1,d,.cons _ t,e=>by
   obtain⟨v,h1,h2⟩:=Reps.get (i:=i) (d:=d) t (by simpa using e)
   exact⟨v,by simpa using h1,h2⟩
theorem Reps.append{K:PySem.W.Frag}{O:Own}{H:Hp}:∀{vs ws:List V}{ds es:List D},Reps K O H vs ds->Reps K O H ws es->Reps K O H (vs++ws) (ds++es)
 | _,_,_,_,.nil,s=>s
 | _,_,_,_,.cons r t,s=>.cons r (Reps.append t s)
theorem Reps.take{K:PySem.W.Frag}{O:Own}{H:Hp}:∀{vs:List V}{ds:List D}(n:Nat),Reps K O H vs ds->Reps K O H (vs.take n) (ds.take n)
 | _,_,0,_=>.nil
 | _,_,_+1,.nil=>.nil
 | _,_,n+1,.cons r t=>.cons r (Reps.take n t)
theorem Reps.drop{K:PySem.W.Frag}{O:Own}{H:Hp}:∀{vs:List V}{ds:List D}(n:Nat),Reps K O H vs ds->Reps K O H (vs.drop n) (ds.drop n)
 | _,_,0,r=>r
 | _,_,_+1,.nil=>.nil
 | _,_,n+1,.cons _ t=>Reps.drop n t
theorem Reps.set{K:PySem.W.Frag}{O:Own}{H:Hp}{v:V}{d:D}(r:Rep K O H v d):∀{vs:List V}{ds:List D}(i:Nat),Reps K O H vs ds->Reps K O H (vs.set i v) (ds.set i d)
 | _,_,_,.nil=>.nil
 | _,_,0,.cons _ t=>.cons r t
 | _,_,i+1,.cons q t=>.cons q (Reps.set r i t)
theorem Reps.ints{K:PySem.W.Frag}{O:Own}{H:Hp}:∀{vs:List V}{ns:%[|6]},Reps K O H vs (ns.map D.int)->vs=ns.map V.int
 | _,[],.nil=>rfl
 | _,_::_,.cons r t=>by cases r;simp[Reps.ints t]
theorem Reps.of_ints{K:PySem.W.Frag}{O:Own}{H:Hp}:∀ns:%[|6],Reps K O H (ns.map V.int) (ns.map D.int)
 | []=>.nil
 | n::ns=>.cons (.int n) (Reps.of_ints ns)
theorem Reps.bools{K:PySem.W.Frag}{O:Own}{H:Hp}:∀{vs:List V}{ns:List Bool},Reps K O H vs (ns.map D.bl)->vs=ns.map V.bl
 | _,[],.nil=>rfl
 | _,_::_,.cons r t=>by cases r;simp[Reps.bools t]
def Wo(ns:%[|6]):List Key:=ns.map Sum.inl
inductive Kps(K:PySem.W.Frag)(O:Own)(H:Hp):List (List Key×V)->List D->Prop
 | nil:Kps K O H [] []
 | cons{ns:%[|6]}{v:V}{d:D}{kvs:List (List Key×V)}{ds:List D}(r:Rep K O H v d)(t:Kps K O H kvs ds):Kps K O H ((Wo ns,v)::kvs) (.tup [.tup (ns.map .int),d]::ds)
theorem Kps.conv{K:PySem.W.Frag}{O O':Own}{H H':Hp}(s:Conv O O' H H'):∀{kvs:List (List Key×V)}{ds:List D},Kps K O H kvs ds->Kps K O' H' kvs ds
 | _,_,.nil=>.nil
 | _,_,.cons r t=>.cons (r.conv s) (Kps.conv s t)
def hC0(c:Int×%[|6]):Int:=reduceHash (Builtin.Tuple.tupleHashOf [hashInt c.1,reduceHash (Builtin.Tuple.tupleHashOf (c.2.map hashInt))])
abbrev Cy:=List ((Int×%[|6])×Addr×Value)
def Rb(a:Addr)(ys:Cy)(h:Heap):Prop:=ys.length≤sizeLine/\(a==sysModules)=false/\(ys.map (·.1)).Nodup/\
 ∃o es ep,h.get? a=some o/\o.ExactDict/\o.data=.dict es ep/\es.toList=ys.map λ y=>(⟨hC0 y.1,.ref y.2.1,y.2.2⟩:DictEntry)
def T8(a:Addr)(ys:Cy)(h:Heap):Prop:=ys.length≤sizeLine/\(a==sysModules)=false/\(ys.map (·.1)).Nodup/\
 ∃o es,h.get? a=some o/\o.ExactDict/\o.data=.dict es ys.length/\es.toList=ys.map λ y=>(⟨hC0 y.1,.ref y.2.1,y.2.2⟩:DictEntry)
inductive Kcs(K:PySem.W.Frag)(O:Own)(H:Hp):Cy->List D->Prop
 | nil:Kcs K O H [] []
 | cons{c:Int×%[|6]}{b:Addr}{u:Value}{v:V}{k d:D}{ys:Cy}{ds:List D}(e:k=.tup [.int c.1,.tup (c.2.map .int)])(rk:Rep K O H (.ref b) k)(rv:RelV v u)(r:Rep K O H v d)(t:Kcs K O H ys ds):Kcs K O H ((c,b,u)::ys) (.tup [k,d]::ds)
theorem Kcs.conv{K:PySem.W.Frag}{O O':Own}{H H':Hp}(s:Conv O O' H H'):∀{ys:Cy}{ds:List D},Kcs K O H ys ds->Kcs K O' H' ys ds
 | _,_,.nil=>.nil
 | _,_,.cons e rk rv r t=>.cons e (rk.conv s) rv (r.conv s) (Kcs.conv s t)
def isO:%[|17]->Value->Bool
 | some i,.int j _=>decide (i=j)
 | none,.none=>true
 | _,_=>false
def hO0:%[|17]->Int
 | some i=>hashInt i
 | none=>4238894112
abbrev Oy:=List (%[|17]×Value)
inductive OEs:List DictEntry->Oy->Prop
 | nil:OEs [] []
 | cons{e:DictEntry}{k:%[|17]}{v:Value}{es:List DictEntry}{ys:Oy}(i:isO k e.key=true)(h:e.hash=hO0 k)(q:e.val=v)(t:OEs es ys):OEs (e::es) ((k,v)::ys)
def R1(a:Addr)(ys:Oy)(h:Heap):Prop:=ys.length≤sizeLine/\(a==sysModules)=false/\(ys.map (·.1)).Nodup/\
 ∃o es ep,h.get? a=some o/\o.ExactDict/\o.data=.dict es ep/\OEs es.toList ys
def oD:%[|17]->D
 | some i=>.int i
 | none=>.non
inductive Kos(K:PySem.W.Frag)(O:Own)(H:Hp):Oy->List D->Prop
 | nil:Kos K O H [] []
 | cons{c:%[|17]}{u:Value}{v:V}{k d:D}{ys:Oy}{ds:List D}(e:k=oD c)(rv:RelV v u)(r:Rep K O H v d)(t:Kos K O H ys ds):Kos K O H ((c,u)::ys) (.tup [k,d]::ds)
theorem Kos.conv{K:PySem.W.Frag}{O O':Own}{H H':Hp}(s:Conv O O' H H'):∀{ys:Oy}{ds:List D},Kos K O H ys ds->Kos K O' H' ys ds
 | _,_,.nil=>.nil
 | _,_,.cons e rv r t=>.cons e rv (r.conv s) (Kos.conv s t)
abbrev tbD(b:Bool)(l c:Nat)(q:Str)(z:Nat):List D:=[.bl b,.int l,.int c,.str q,.int z,.tup (List.replicate (sizeLine+1) .non)]
def V7(K:PySem.W.Frag)(z a:Addr):Prop:=∃o vs,K.lookup z=some o/\o.data=.fields vs/\vs[11]? =some (.ref a)
def Xd(x:Addr)(q:Str)(h:Heap):Prop:=h.CodeRec (.ref x) q
inductive DOb(K:PySem.W.Frag)(O:Own)(H:Hp)(a:Addr)(ds:List D):Prop
 | t(kvs:List (List Key×V))(e:H a=some (.dT kvs))(r:Kps K O H kvs ds):DOb K O H a ds
 | c(ys:Cy)(n:ys≠[])(e:H a=some (.ext (Rb a ys)))(r:Kcs K O H ys ds):DOb K O H a ds
 | o(ys:Oy)(n:ys≠[])(e:H a=some (.ext (R1 a ys)))(r:Kos K O H ys ds):DOb K O H a ds
 | m(ys:Cy)(ds':List D)(hd:ds=.non::ds')(e:H a=some (.ext (T8 a ys)))(r:Kcs K O H ys ds'):DOb K O H a ds
 | p(ps:Array Value)(n:¬Abv K a)(b:Bool)(l c z:Nat)(q:Str)(k:V7 K z a)(e:H a=some (.tbl ps))(hd:ds=tbD b l c q z)
   (g:(b=false/\ps=#[])∨(b=true/\∃x,ps=#[rawInt l,rawInt c,.ref x]/\¬O.has x/\H x=some (.ext (Xd x q)))):DOb K O H a ds
theorem DOb.move{ds:List D}(s:Conv O O' H H')(b:DOb K O H a ds)(h:∀o,H a=some o->H' a=some o):DOb K O' H' a ds:=by
 cases b with
 | t kvs e r=>exact .t kvs (h _ e) (r.conv s)
 | c ys n e r=>exact .c ys n (h _ e) (r.conv s)
 | o ys n e r=>exact .o ys n (h _ e) (r.conv s)
 | m ys d' hd e r=>exact .m ys d' hd (h _ e) (r.conv s)
 | p ps n b l c z q k e hd g=>exact .p ps n b l c z q k (h _ e) hd (g.imp id λ⟨g1,x,g2,g3,g4⟩=>⟨g1,x,g2,s.tr _ _ g3 g4⟩)
theorem DOb.there{ds:List D}(b:DOb K O H a ds):H a≠none:=by
 cases b with
 | t kvs e r=>rw[e];simp
 | c ys n e r=>rw[e];simp
 | o ys n e r=>rw[e];simp
 | m ys d' hd e r=>rw[e];simp
 | p ps n b l c z q k e hd g=>rw[e];simp
structure StOk(K:PySem.W.Frag)(O:Own)(H:Hp)(S:Store):Prop where
 nd:(adr O.A).Nodup
 len:O.A.length=S.length
 obj:∀(k:Nat)(a:Addr)(ds:List D),O.A[k]? =some (a,false)->S[k]? =some ds->∃xs,H a=some (.lst xs)/\Reps K O H xs ds
 dob:∀(k:Nat)(a:Addr)(ds:List D),O.A[k]? =some (a,true)->S[k]? =some ds->DOb K O H a ds
 apart:∀a∈adr O.A,a∉O.B
 hidden:∀b∈O.B,H b≠none
structure EnvOk(K:PySem.W.Frag)(O:Own)(H:Hp)(σ:St)(Γ:Gam):Prop where
 len:σ.length=Γ.length
 at_:∀(i:Nat)(d:D),Γ[i]? =some (some d)->∃v,σ[i]? =some (some v)/\Rep K O H v d
theorem EnvOk.mono{σ:St}{Γ:Gam}(e:EnvOk K O H σ Γ)(s:Step O O' H H'):EnvOk K O' H' σ Γ:=
 ⟨e.len,λ i d h=>let ⟨v,a,b⟩:=e.at_ i d h;⟨v,a,b.mono s⟩⟩
theorem EnvOk.set{σ:St}{Γ:Gam}(e:EnvOk K O H σ Γ){v:V}{d:D}(r:Rep K O H v d)(i:Nat):EnvOk K O H (σ.set i (some v)) (Γ.set i (some d)):=by
 refine⟨by simp[e.len],λ j c h=>?_⟩
 by_cases hj:i=j
 . subst hj
   have hl:i<Γ.length:=by
    have:=(z0.mp h).1
    simpa using this
   rw[List.getElem?_set_self hl]at h
   cases h
   exact⟨v,List.getElem?_set_self (by rw[e.len];exact hl),r⟩
 . rw[List.getElem?_set_ne hj]at h
   rw[List.getElem?_set_ne hj]
   exact e.at_ j c h
theorem StOk.tracked(s:StOk K O H S){a:Addr}(h:O.has a):H a≠none:=by
 rcases h with h | h
 . obtain⟨⟨a',c⟩,hm,rfl⟩:=ZO.mp h
   obtain⟨k,hk⟩:=ZR hm
   have hl:k<S.length:=by rw[←s.len];exact(z0.mp hk).1
   cases c with
   | false=>
     obtain⟨xs,q,_⟩:=s.obj k a' S[k] hk (y8 hl)
     rw[show(a',false).1=a' from rfl,q];simp
   | true=>
     exact(s.dob k a' S[k] hk (y8 hl)).there
 . exact s.hidden a h
theorem Step.fresh(h:H p=none)(o:HO):Step O O H (upd H p o):=
 ⟨λ b u _ q=>by rw[aj (aC q h)];exact q,λ b q=>by
  by_cases e:b=p
  . subst e;rw[aB];simp
  . rw[aj e];exact q,⟨[],by simp,λ _ z=>nomatch z⟩,rfl⟩
theorem Step.same(h:aQ H H'):Step O O H H':=
 ⟨λ b o _ q=>h b o q,λ b q=>by
  cases e:H b with
  | none=>exact absurd e q
  | some o=>rw[h b o e];simp,⟨[],by simp,λ _ z=>nomatch z⟩,rfl⟩
theorem aQ.fresh(h:H p=none)(o:HO):aQ H (upd H p o):=λ b u q=>by rw[aj (aC q h)];exact q
theorem StOk.same(s:StOk K O H S)(h:aQ H H'):StOk K O H' S:=
 ⟨s.nd,s.len,λ k a ds e1 e2=>let ⟨xs,q,r⟩:=s.obj k a ds e1 e2;⟨xs,h _ _ q,r.mono (Step.same h)⟩,λ k a ds e1 e2=>(s.dob k a ds e1 e2).move (Step.same h).conv λ o q=>h _ _ q,s.apart,λ b hb=>(Step.same (O:=O) h).dom b (s.hidden b hb)⟩
theorem StOk.fresh_not(s:StOk K O H S){p:Addr}(h:H p=none):¬O.has p:=λ z=>s.tracked z h
theorem StOk.fresh(s:StOk K O H S){p:Addr}(h:H p=none)(o:HO):StOk K O (upd H p o) S:=s.same (aQ.fresh h o)
abbrev Own.more(O:Own)(p:Addr)(q:Bool:=false):Own:=⟨O.A++[(p,q)],O.B⟩
theorem Step.own(h:H p=none)(o:HO)(q:Bool:=false):Step O (O.more p q) H (upd H p o):=
 ⟨(Step.fresh (O:=O) h o).kept,(Step.fresh (O:=O) h o).dom,⟨[(p,q)],rfl,λ b z=>by rw[ZL.mp z];exact h⟩,rfl⟩
theorem sO{A:List (Addr×Bool)}{p:Addr×Bool}{k:Nat}{x:Addr×Bool}(h:(A++[p])[k]? =some x):A[k]? =some x∨(k=A.length/\x=p):=by
 by_cases hk:k<A.length
 . rw[List.getElem?_append_left hk]at h;exact .inl h
 . rw[List.getElem?_append_right %[|1]]at h
   have hk0:k-A.length=0:=by
    have:=(z0.mp h).1
    simp at this;omega
   rw[hk0]at h
   exact .inr ⟨%[|1],(Option.some.inj h).symm⟩
theorem JG{A:List (Addr×Bool)}{q:Bool}(h:(adr A).Nodup)(n:p∉adr A):(adr (A++[(p,q)])).Nodup:=by
 rw[dN]
 refine List.nodup_append.mpr ⟨h,by simp,λ a ha b hb e=>?_⟩
 rw[ZL.mp hb]at e;rw[e]at ha;exact n ha
theorem StOk.own(s:StOk K O H S){p:Addr}(h:H p=none){xs:List V}{ds:List D}(r:Reps K O H xs ds):
 StOk K (O.more p) (upd H p (.lst xs)) (S++[ds]):=by
 have st:=Step.own (O:=O) h (.lst xs)
 have np:=s.fresh_not h
 refine⟨JG s.nd λ z=>np (.inl z),by simp[s.len],λ k a es e1 e2=>?_,λ k a es e1 e2=>?_,λ a ha=>?_,λ b hb=>st.dom b (s.hidden b hb)⟩
 . rcases sO e1 with e1 | ⟨rfl,e⟩
   . have hk:=(z0.mp e1).1
     rw[List.getElem?_append_left (by rw[←s.len];exact hk)]at e2
     obtain⟨ys,q,r'⟩:=s.obj k a es e1 e2
     exact⟨ys,by rw[aj (aC q h)];exact q,r'.mono st⟩
   . cases e
     rw[List.getElem?_append_right (by rw[s.len];exact x9 _),s.len,Nat.sub_self]at e2
     cases e2
     exact⟨xs,aB,r.mono st⟩
 . rcases sO e1 with e1 | ⟨rfl,e⟩
   . have hk:=(z0.mp e1).1
     rw[List.getElem?_append_left (by rw[←s.len];exact hk)]at e2
     exact(s.dob k a es e1 e2).move st.conv λ o q=>by rw[aj (aC q h)];exact q
   . cases e
 . rw[dN]at ha
   rcases ZK.mp ha with z | z
   . exact s.apart a z
   . rw[ZL.mp z];exact λ q=>np (.inr q)
theorem Step.put(h:a∈adr O.A)(o:HO):Step O O H (upd H a o):=
 ⟨λ b u hb q=>by rw[aj (λ e=>hb (by rw[e];exact h))];exact q,λ b q=>by
  by_cases e:b=a
  . subst e;rw[aB];simp
  . rw[aj e];exact q,⟨[],by simp,λ _ z=>nomatch z⟩,rfl⟩
theorem Ft{A:List (Addr×Bool)}(nd:(adr A).Nodup){k j:Nat}{a b:Addr}{p q:Bool}(h:A[k]? =some (a,p))(h2:A[j]? =some (b,q))(hj:k≠j):b≠a:=λ e=>hj (by
 have g1:(adr A)[k]? =some a:=by rw[x8,h];rfl
 have g2:(adr A)[j]? =some b:=by rw[x8,h2];rfl
 obtain⟨h1,e1'⟩:=z0.mp g1
 obtain⟨h2,e2'⟩:=z0.mp g2
 exact(List.getElem_inj nd).mp (e1'.trans (e.symm.trans e2'.symm)))
theorem StOk.put(s:StOk K O H S){k:Nat}{a:Addr}(h:O.A[k]? =some (a,false)){xs:List V}{ds:List D}(r:Reps K O H xs ds):
 StOk K O (upd H a (.lst xs)) (S.set k ds):=by
 have st:=Step.put (O:=O) (H:=H) (d7 h) (.lst xs)
 refine⟨s.nd,by simp[s.len],λ j b es e1 e2=>?_,λ j b es e1 e2=>?_,s.apart,λ b hb=>st.dom b (s.hidden b hb)⟩
 . by_cases hj:k=j
   . subst hj
     rw[h]at e1;cases e1
     have hl:=(z0.mp e2).1
     rw[List.getElem?_set_self (by simpa using hl)]at e2
     cases e2
     exact⟨xs,aB,r.mono st⟩
   . rw[List.getElem?_set_ne hj]at e2
     obtain⟨ys,q,r'⟩:=s.obj j b es e1 e2
     exact⟨ys,by rw[aj (Ft s.nd h e1 hj)];exact q,r'.mono st⟩
 . have hj:k≠j:=λ e=>by subst e;rw[h]at e1;cases e1
   rw[List.getElem?_set_ne hj]at e2
   exact(s.dob j b es e1 e2).move st.conv λ o q=>by rw[aj (Ft s.nd h e1 hj)];exact q
theorem StOk.hide(s:StOk K O H S){p:Addr}(h:H p=none)(o:HO):StOk K (O.hide p) (upd H p o) S:=by
 have st:=Step.fresh (O:=O) h o
 refine⟨s.nd,s.len,λ k a ds e1 e2=>?_,λ k a ds e1 e2=>?_,λ a ha z=>?_,λ b hb=>?_⟩
 . obtain⟨xs,q,r⟩:=s.obj k a ds e1 e2
   exact⟨xs,by rw[aj (aC q h)];exact q,r.conv (Conv.hide h o)⟩
 . exact(s.dob k a ds e1 e2).move (Conv.hide h o) λ o q=>by rw[aj (aC q h)];exact q
 . rcases ZJ.mp z with z | z
   . exact s.tracked (.inl ha) (z▸h)
   . exact s.apart a ha z
 . rcases ZJ.mp hb with z | z
   . subst z;rw[aB];simp
   . exact st.dom b (s.hidden b z)
theorem StOk.unhide{A:List (Addr×Bool)}{B:List Addr}(s:StOk K ⟨A,p::B⟩ H S):StOk K ⟨A,B⟩ H S:=
 ⟨s.nd,s.len,λ k a ds e1 e2=>let ⟨xs,q,r⟩:=s.obj k a ds e1 e2;⟨xs,q,r.conv Conv.unhide⟩,λ k a ds e1 e2=>(s.dob k a ds e1 e2).move Conv.unhide λ _ q=>q,λ a ha z=>s.apart a ha (w9 _ z),λ b hb=>s.hidden b (w9 _ hb)⟩
theorem StOk.updHid(s:StOk K O H S){p:Addr}(h:p∈O.B)(o:HO):StOk K O (upd H p o) S:=
 ⟨s.nd,s.len,λ k a ds e1 e2=>by
  obtain⟨xs,q,r⟩:=s.obj k a ds e1 e2
  have ne:a≠p:=λ e=>s.apart a (d7 e1) (e▸h)
  exact⟨xs,by rw[aj ne];exact q,r.conv (Conv.updHid h o)⟩,λ k a ds e1 e2=>by
  have ne:a≠p:=λ e=>s.apart a (d7 e1) (e▸h)
  exact(s.dob k a ds e1 e2).move (Conv.updHid h o) λ _ q=>by rw[aj ne];exact q,s.apart,λ b hb=>by
  by_cases e:b=p
  . subst e;rw[aB];simp
  . rw[aj e];exact s.hidden b hb⟩
theorem Step.adopt{A:List (Addr×Bool)}(s:Step O ⟨A,O.B⟩ H H')(h:H p=none):Step O ⟨A++[(p,false)],O.B⟩ H H':=by
 obtain⟨N,e,f⟩:=s.ext
 refine⟨s.kept,s.dom,⟨N++[(p,false)],?_,λ b hb=>?_⟩,rfl⟩
 . show A++[(p,false)]=_
   rw[show A=O.A++N from e,List.append_assoc]
 . rw[dN]at hb
   rcases ZK.mp hb with z | z
   . exact f b z
   . rw[ZL.mp z];exact h
theorem Conv.adopt{A:List (Addr×Bool)}{B:List Addr}:Conv ⟨A,p::B⟩ ⟨A++[(p,false)],B⟩ H H:=
 ⟨λ a u n t=>⟨λ z=>n (z.elim (λ z=>(ZK.mp (by rw[←dN];exact z)).elim .inl λ z=>.inr (by rw[ZL.mp z];exact List.mem_cons_self)) λ z=>.inr (w9 _ z)),t⟩,
  λ k a h=>by
   show(A++[(p,false)])[k]? =some a
   rw[List.getElem?_append_left (z0.mp h).1];exact h⟩
theorem StOk.adopt{A:List (Addr×Bool)}{B:List Addr}{ds:List D}(s:StOk K ⟨A,p::B⟩ H S)(hp:p∉B)(h:H p=some (.lst xs))(r:Reps K ⟨A,p::B⟩ H xs ds):StOk K ⟨A++[(p,false)],B⟩ H (S++[ds]):=by
 have np:p∉adr A:=λ z=>s.apart p z List.mem_cons_self
 have sl:A.length=S.length:=s.len
 refine⟨JG s.nd np,by simp[sl],λ k a es e1 e2=>?_,λ k a es e1 e2=>?_,λ a ha=>?_,λ b hb=>s.hidden b (w9 _ hb)⟩
 . rcases sO e1 with e1 | ⟨rfl,e⟩
   . have hk:=(z0.mp e1).1
     rw[List.getElem?_append_left %[|1]]at e2
     obtain⟨ys,q,r'⟩:=s.obj k a es e1 e2
     exact⟨ys,q,r'.conv Conv.adopt⟩
   . cases e
     rw[List.getElem?_append_right %[|1],sl,Nat.sub_self]at e2
     cases e2
     exact⟨xs,h,r.conv Conv.adopt⟩
 . rcases sO e1 with e1 | ⟨rfl,e⟩
   . have hk:=(z0.mp e1).1
     rw[List.getElem?_append_left %[|1]]at e2
     exact(s.dob k a es e1 e2).move Conv.adopt λ _ q=>q
   . cases e
 . have ha:a∈adr (A++[(p,false)]):=ha
   rw[dN]at ha
   rcases ZK.mp ha with z | z
   . exact λ q=>s.apart a z (w9 _ q)
   . rw[ZL.mp z];exact hp
theorem Step.inner{A1 A2:List (Addr×Bool)}{B:List Addr}{H1 H2:Hp}(a:Step O ⟨A1,B⟩ H H1)(b:Step ⟨A1,p::B⟩ ⟨A2,p::B⟩ H1 H2)(h:H p=none)(o:HO):Step O ⟨A2,B⟩ H (upd H2 p o):=by
 have b':Step ⟨A1,B⟩ ⟨A2,B⟩ H1 H2:=⟨b.kept,b.dom,b.ext,rfl⟩
 have c:=a.trans b'
 refine⟨λ x u hx t=>?_,λ x t=>?_,c.ext,c.hid⟩
 . rw[aj (aC t h)];exact c.kept x u hx t
 . by_cases e:x=p
   . subst e;rw[aB];simp
   . rw[aj e];exact c.dom x t
end DL
namespace DL
open PySem PySem.Spec L2
open PyProof.Rows
variable {K : PySem.W.Frag} {O : Own} {H : Hp} {x : D} {ds : List D} {i j : Int} {p : Addr} {xs : List V}
abbrev Pins:=%[|21]
abbrev WD:=D->%[|13]
def QG(K:PySem.W.Frag)(O:Own)(H:Hp)(W:WD):VK:=λ v H'=>∃O' d S',W d S'/\Step O O' H H'/\StOk K O' H' S'/\Rep K O' H' v d
def QA(K:PySem.W.Frag)(O:Own)(H:Hp)(W:%[|31]):List V->Hp->Prop:=λ vs H'=>∃O' ds S',W ds S'/\Step O O' H H'/\StOk K O' H' S'/\Reps K O' H' vs ds
def QT(K:PySem.W.Frag)(O:Own)(H:Hp)(W:%[|28]):Bool->Hp->Prop:=λ b H'=>∃O' S',W b S'/\Step O O' H H'/\StOk K O' H' S'
def Ev(X:Cx)(Γ:Gam)(S:Store)(e:Expr)(W:WD):Prop:=
 ∀ (pins:Pins)(s:Shared)(σ:St)(H:Hp)(O:Own),%[|4]->%[|35]->%[|23]->
   wpAny %[|9] X.A (eval e X.env) (EP X pins σ (QG X.K O H W)) X.xe s
def EvA(X:Cx)(Γ:Gam)(S:Store)(es:%[|12])(W:%[|31]):Prop:=
 ∀ (pos:Pos)(pins:Pins)(s:Shared)(σ:St)(H:Hp)(O:Own),%[|4]->%[|35]->%[|23]->
   wpAny %[|9] X.A (spliced %[|76]) (AP X pins σ (QA X.K O H W)) X.xe s
def TsW(X:Cx)(Γ:Gam)(S:Store)(e:Expr)(W:%[|28]):Prop:=
 ∀ (whole:Sem Value)(pins:Pins)(s:Shared)(σ:St)(H:Hp)(O:Own),%[|4]->%[|35]->%[|23]->
   wpAny %[|9] X.A (isTrue e X.env whole) (TP X pins σ (QT X.K O H W)) X.xe s
def Ts(X:Cx)(Γ:Gam)(S:Store)(e:Expr)(W:%[|28]):Prop:=
 ∀ (pins:Pins)(s:Shared)(σ:St)(H:Hp)(O:Own),%[|4]->%[|35]->%[|23]->
   wpAny %[|9] X.A (isTrue e X.env (eval e X.env)) (TP X pins σ (QT X.K O H W)) X.xe s
def OpW(X:Cx)(f:Value->Value->Sem Value)(x y:D)(S:Store)(W:WD):Prop:=
 ∀ (pins:Pins)(s:Shared)(σ:St)(H:Hp)(O:Own)(v w:V)(u u':Value),%[|4]->%[|23]->Rep X.K O H v x->Rep X.K O H w y->RelV v u->RelV w u'->
   wpAny %[|9] X.A (f u u') (EP X pins σ (QG X.K O H W)) X.xe s
def bA(X:Cx)(f:Value)(ds:List D)(S:Store)(W:WD):Prop:=
 ∀ (pins:Pins)(s:Shared)(σ:St)(H:Hp)(O:Own)(vs:List V)(us:%[|11]),%[|4]->%[|23]->Reps X.K O H vs ds->Vals vs us->
   wpAny %[|9] X.A (call f us) (EP X pins σ (QG X.K O H W)) X.xe s
abbrev cg(X:Cx)(op:Operator):=OpW X (binaryOp op)
abbrev bf(X:Cx)(op:CmpOp):=OpW X (compareOp op)
section
variable {X : Cx} {Γ : Gam} {S S1 : Store} {W : WD} {a b e : Expr} {es rest : %[|12]} {pos : Pos}
theorem QG.pre{O1:Own}{H1:Hp}(st:Step O O1 H H1){v:V}{H':Hp}(q:QG K O1 H1 W v H'):QG K O H W v H':=by
 obtain⟨O',d,S',w,s',ok,r⟩:=q
 exact⟨O',d,S',w,st.trans s',ok,r⟩
theorem cQ{pins:Pins}{σ:St}{O1:Own}{H1:Hp}(st:Step O O1 H H1){u:Value}{s':Shared}(q:EP X pins σ (QG X.K O1 H1 W) u s'):EP X pins σ (QG X.K O H W) u s':=by
 obtain⟨v,H',I,r,q⟩:=q
 exact⟨v,H',I,r,q.pre st⟩
theorem Ng{pins:Pins}{σ:St}{O1:Own}{H1:Hp}(st:Step O O1 H H1){W:%[|28]}{u:Bool}{s':Shared}(q:TP X pins σ (QT X.K O1 H1 W) u s'):TP X pins σ (QT X.K O H W) u s':=by
 obtain⟨H',I,O',S',w,s2,ok⟩:=q
 exact⟨H',I,O',S',w,st.trans s2,ok⟩
theorem Ev.mono{W':WD}(h:Ev X Γ S e W)(k:∀d S',W d S'->W' d S'):Ev X Γ S e W':=λ pins s σ H O I env st=>
 thn %[|45] λ _ _ hq_=>by obtain⟨v,H',I',r,O',d,S',w,q⟩:=hq_;exact⟨v,H',I',r,O',d,S',k d S' w,q⟩
theorem OpW.mono{f:Value->Value->Sem Value}{y:D}{W':WD}(h:OpW X f x y S W)(k:∀d S',W d S'->W' d S'):OpW X f x y S W':=λ pins s σ H O v w u u' I st r1 r2 r3 r4=>
 thn (h pins s σ H O v w u u' I st r1 r2 r3 r4) λ _ _ hq_=>by obtain⟨v,H',I',r,O',d,S',w,q⟩:=hq_;exact⟨v,H',I',r,O',d,S',k d S' w,q⟩
theorem cX{f:Value->Value->Sem Value}{r:R2}{y:D}(ho:OpR X f r)(h:∀O H v w,%[|23]->Rep X.K O H v x->Rep X.K O H w y->r v w H (QG X.K O H W)):OpW X f x y S W:=
 λ pins s σ H O v w u u' I st r1 r2 r3 r4=>ho pins s σ H v w u u' _ I r3 r4 (h O H v w st r1 r2)
theorem cN{f:Value}{r:List V->Hp->VK->Prop}(hc:eQ X f r)(h:∀O H vs,%[|23]->Reps X.K O H vs ds->r vs H (QG X.K O H W)):bA X f ds S W:=
 λ pins s σ H O vs us I st r1 r2=>hc pins s σ H vs us _ I r2 (h O H vs st r1)
theorem QG.here{v:V}{d:D}(w:W d S)(st:StOk K O H S)(r:Rep K O H v d):QG K O H W v H:=⟨O,d,S,w,Step.refl O H,st,r⟩
theorem R5(i:Nat){x:Str}{d:D}(hΓ:Γ[i]? =some (some d))(w:W d S)(hN:X.N[i]? =some x:=by rfl)
 (hv:Vis X.env.scope x:=by first | exact Or.inl rfl | exact Or.inr (Or.inl rfl) | exact Or.inr (Or.inr rfl))(hd:%[|55]:=by decide)(hcd:(x==("__classdict__":Str))=false:=by decide):
 Ev X Γ S (.Name x pos) W:=by
 sleep 0
 obtain⟨v,e,r⟩:=env.at_ i d hΓ
 exact mz hN hv hd hcd pins s σ H _ I ⟨v,e,QG.here w st r⟩
theorem Ug{j}(w:W (.int i) S):Ev X Γ S (.Constant (.int i) j pos) W:=λ pins s σ H O I _ st=>Hk pins s σ H _ I (QG.here w st (.int i))
theorem Vm{i:Bool}{j}(w:W (.bl i) S):Ev X Γ S (.Constant (.bool i) j pos) W:=λ pins s σ H O I _ st=>yj pins s σ H _ I (QG.here w st (.bl i))
theorem Rt{j}(w:W .non S):Ev X Γ S (.Constant .none j pos) W:=λ pins s σ H O I _ st=>Io pins s σ H _ I (QG.here w st .non)
theorem Aq{x:Str}{j}(w:W (.str x) S):Ev X Γ S (.Constant (.str x) j pos) W:=λ pins s σ H O I _ st=>Ik pins s σ H _ I (QG.here w st (.str x))
theorem Kd{x:Str}{t:Tok}(hm:X.mg x=some (.int i t))(w:W (.int i) S)(hg:Gl X x:=by rfl)(hd:%[|55]:=by decide):Ev X Γ S (.Name x pos) W:=
 λ pins s σ H O I _ st=>jC hg hm (v:=.int i) ⟨t,rfl⟩ hd pins s σ H _ I (QG.here w st (.int i))
theorem lO{op:Operator}(h:Ev X Γ S a λ x S1=>Ev X Γ S1 b λ y S2=>cg X op x y S2 W):Ev X Γ S (.BinOp a op b pos) W:=by
 sleep 0
 refine wpAny_BinOp %[|58]
 obtain⟨v,H1,I1,r1,O1,x,S1,hb,st1,ok1,rep1⟩:=hq_
 refine thn (hb pins s1 σ H1 O1 I1 %[|20] ok1) λ u' s2 hq_=>?_
 obtain⟨w,H2,I2,r2,O2,y,S2,hw,st2,ok2,rep2⟩:=hq_
 exact thn (hw pins s2 σ H2 O2 v w u u' I2 ok2 (rep1.mono st2) rep2 r1 r2) λ _ _ q=>cQ (st1.trans st2) q
theorem HH{op:CmpOp}(h:Ev X Γ S a λ x S1=>Ev X Γ S1 b λ y S2=>bf X op x y S2 W)(hm:behindInMarks op b=false:=by first | exact nomark _ | (with_unfolding_all rfl)):Ev X Γ S (.Compare a [op] [b] pos) W:=by
 sleep 0
 refine wpAny_Compare1 %[|58] hm
 obtain⟨v,H1,I1,r1,O1,x,S1,hb,st1,ok1,rep1⟩:=hq_
 refine thn (hb pins s1 σ H1 O1 I1 %[|20] ok1) λ u' s2 hq_=>?_
 obtain⟨w,H2,I2,r2,O2,y,S2,hw,st2,ok2,rep2⟩:=hq_
 exact thn (hw pins s2 σ H2 O2 v w u u' I2 ok2 (rep1.mono st2) rep2 r1 r2) λ _ _ q=>cQ (st1.trans st2) q
abbrev asB(W:%[|28]):WD:=λ d S=>∃c,d=.bl c/\W c S
theorem R7{op:CmpOp}{W:%[|28]}(h:Ev X Γ S a λ x S1=>Ev X Γ S1 b λ y S2=>bf X op x y S2 (asB W))(hm:behindInMarks op b=false:=by first | exact nomark _ | (with_unfolding_all rfl)):Ts X Γ S (.Compare a [op] [b] pos) W:=by
 sleep 0
 refine wpAny_isTrue_Compare1 %[|58] hm
 obtain⟨v,H1,I1,r1,O1,x,S1,hb,st1,ok1,rep1⟩:=hq_
 refine thn (hb pins s1 σ H1 O1 I1 %[|20] ok1) λ u' s2 hq_=>?_
 obtain⟨w,H2,I2,r2,O2,y,S2,hw,st2,ok2,rep2⟩:=hq_
 refine thn (hw pins s2 σ H2 O2 v w u u' I2 ok2 (rep1.mono st2) rep2 r1 r2) λ _ _ hq_=>?_
 obtain⟨z,H3,I3,r3,O3,d,S3,⟨c,hd,wc⟩,st3,ok3,rep3⟩:=hq_
 subst hd
 cases rep3
 cases r3
 exact wpAny_truthy_bool ⟨H3,I3,O3,S3,wc,(st1.trans st2).trans st3,ok3⟩
theorem Rh{W:%[|28]}(h:Ev X Γ S e (asB W))(he:∀whole,isTrue e X.env whole=(do let v ←whole;standAt e.pos;holding [v] (truthy v)):=by intro _;rfl):Ts X Γ S e W:=by
 sleep 0
 refine isTrue_plain (thn %[|45] λ _ _ hq_=>?_) (he _)
 obtain⟨z,H3,I3,r3,O3,d,S3,⟨c,hd,wc⟩,st3,ok3,rep3⟩:=hq_
 subst hd
 cases rep3
 cases r3
 exact wpAny_truthy_bool ⟨H3,I3,O3,S3,wc,st3,ok3⟩
theorem TsW.ts{W:%[|28]}(h:TsW X Γ S e W):Ts X Γ S e W:=λ pins s σ H O I env st=>h _ pins s σ H O I env st
theorem tw_and1{W:%[|28]}(h:Ts X Γ S a W):TsW X Γ S (.BoolOp .And [a] pos) W:=by
 intro wh pins s σ H O I env st
 refine isTrue_and (thn %[|45] λ c s1 e=>?_)
 cases c with
 | true=>exact isTrue_and_nil e
 | false=>exact e
theorem tw_or1{W:%[|28]}(h:Ts X Γ S a W):TsW X Γ S (.BoolOp .Or [a] pos) W:=by
 intro wh pins s σ H O I env st
 refine isTrue_or (thn %[|45] λ c s1 e=>?_)
 cases c with
 | false=>exact isTrue_or_nil e
 | true=>exact e
theorem tw_and{W:%[|28]}(h:Ts X Γ S a λ c S1=>(c=true->TsW X Γ S1 (.BoolOp .And (b::rest) pos) W)/\(c=false->W false S1)):TsW X Γ S (.BoolOp .And (a::b::rest) pos) W:=by
 intro wh pins s σ H O I env st
 refine isTrue_and (thn %[|45] λ c s1 hq_=>?_)
 obtain⟨H1,I1,O1,S1,w1,st1,ok1⟩:=hq_
 cases c with
 | true=>exact thn (w1.1 rfl wh pins s1 σ H1 O1 I1 %[|20] ok1) λ _ _ q=>Ng st1 q
 | false=>exact⟨H1,I1,O1,S1,w1.2 rfl,st1,ok1⟩
theorem tw_or{W:%[|28]}(h:Ts X Γ S a λ c S1=>(c=true->W true S1)/\(c=false->TsW X Γ S1 (.BoolOp .Or (b::rest) pos) W)):TsW X Γ S (.BoolOp .Or (a::b::rest) pos) W:=by
 intro wh pins s σ H O I env st
 refine isTrue_or (thn %[|45] λ c s1 hq_=>?_)
 obtain⟨H1,I1,O1,S1,w1,st1,ok1⟩:=hq_
 cases c with
 | false=>exact thn (w1.2 rfl wh pins s1 σ H1 O1 I1 %[|20] ok1) λ _ _ q=>Ng st1 q
 | true=>exact⟨H1,I1,O1,S1,w1.1 rfl,st1,ok1⟩
theorem Su{W:%[|28]}(h:Ts X Γ S a λ c S1=>W (!c) S1):Ts X Γ S (.UnaryOp .Not a pos) W:=by
 sleep 0
 exact isTrue_not (thn %[|45] λ c s1 ⟨H1,I1,O1,S1,w1,st1,ok1⟩=>⟨H1,I1,O1,S1,w1,st1,ok1⟩)
theorem Hj{op}(h:Ev X Γ S a W):Ev X Γ S (.BoolOp op [a] pos) W:=λ pins s σ H O I env st=>BoolOp_one %[|45]
theorem RM(h:Ev X Γ S a λ x S1=>∃c,x=.bl c/\(c=true->Ev X Γ S1 (.BoolOp .And (b::rest) pos) W)/\(c=false->W (.bl false) S1)):Ev X Γ S (.BoolOp .And (a::b::rest) pos) W:=by
 sleep 0
 refine BoolOp_and %[|58]
 obtain⟨v,H1,I1,r1,O1,x,S1,⟨c,hx,h1,h2⟩,st1,ok1,rep1⟩:=hq_
 subst hx
 cases rep1
 cases r1
 refine wpAny_truthy_bool ?_
 cases c with
 | true=>exact thn (h1 rfl pins s1 σ H1 O1 I1 %[|20] ok1) λ _ _ q=>cQ st1 q
 | false=>exact⟨.bl false,H1,I1,rfl,O1,.bl false,S1,h2 rfl,st1,ok1,.bl false⟩
theorem Vz(h:Ev X Γ S a λ x S1=>∃c,x=.bl c/\(c=true->W (.bl true) S1)/\(c=false->Ev X Γ S1 (.BoolOp .Or (b::rest) pos) W)):Ev X Γ S (.BoolOp .Or (a::b::rest) pos) W:=by
 sleep 0
 refine BoolOp_or %[|58]
 obtain⟨v,H1,I1,r1,O1,x,S1,⟨c,hx,h1,h2⟩,st1,ok1,rep1⟩:=hq_
 subst hx
 cases rep1
 cases r1
 refine wpAny_truthy_bool ?_
 cases c with
 | false=>exact thn (h2 rfl pins s1 σ H1 O1 I1 %[|20] ok1) λ _ _ q=>cQ st1 q
 | true=>exact⟨.bl true,H1,I1,rfl,O1,.bl true,S1,h1 rfl,st1,ok1,.bl true⟩
theorem SX(h:Ev X Γ S a λ x S1=>∃c,x=.bl c/\W (.bl (!c)) S1):Ev X Γ S (.UnaryOp .Not a pos) W:=by
 sleep 0
 refine UnaryOp_ %[|58]
 obtain⟨v,H1,I1,r1,O1,x,S1,⟨c,hx,h1⟩,st1,ok1,rep1⟩:=hq_
 subst hx
 cases rep1
 cases r1
 exact not_of (wpAny_truthy_bool ⟨.bl (!c),H1,I1,rfl,O1,.bl (!c),S1,h1,st1,ok1,.bl (!c)⟩)
theorem SQ(h:Ev X Γ S a λ x S1=>∃i,x=.int i/\W (.int (-i)) S1):Ev X Γ S (.UnaryOp .USub a pos) W:=by
 sleep 0
 refine UnaryOp_ %[|58]
 obtain⟨v,H1,I1,r1,O1,x,S1,⟨c,hx,h1⟩,st1,ok1,rep1⟩:=hq_
 subst hx
 cases rep1
 exact Ss pins s1 σ H1 _ _ _ I1 r1 ⟨c,rfl,O1,.int (-c),S1,h1,st1,ok1,.int (-c)⟩
theorem Mp{c:Expr}(h:Ts X Γ S c λ k S1=>(k=true->Ev X Γ S1 a W)/\(k=false->Ev X Γ S1 b W)):Ev X Γ S (.IfExp c a b pos) W:=by
 sleep 0
 refine wpAny_IfExp (thn %[|45] λ d s1 hq_=>?_)
 obtain⟨H1,I1,O1,S1,w1,st1,ok1⟩:=hq_
 cases d with
 | true=>exact thn (w1.1 rfl pins s1 σ H1 O1 I1 %[|20] ok1) λ _ _ q=>cQ st1 q
 | false=>exact thn (w1.2 rfl pins s1 σ H1 O1 I1 %[|20] ok1) λ _ _ q=>cQ st1 q
theorem J2{c:Expr}{op op':CmpOp}(h:Ev X Γ S a λ x S1=>Ev X Γ S1 b λ y S2=>bf X op x y S2 λ z S3=>∃k,z=.bl k/\(k=false->W (.bl false) S3)/\(k=true->Ev X Γ S3 c λ t S4=>bf X op' y t S4 W))
 (hm:lastMarks [op,op'] [b,c]=false:=by with_unfolding_all rfl):Ev X Γ S (.Compare a [op,op'] [b,c] pos) W:=by
 sleep 0
 refine Compare_chain %[|58] hm
 obtain⟨v,H1,I1,r1,O1,x,S1,hb,st1,ok1,rep1⟩:=hq_
 refine chain_link (thn (hb pins s1 σ H1 O1 I1 %[|20] ok1) λ u' s2 hq_=>?_)
 obtain⟨w,H2,I2,r2,O2,y,S2,hw,st2,ok2,rep2⟩:=hq_
 refine thn (hw pins s2 σ H2 O2 v w u u' I2 ok2 (rep1.mono st2) rep2 r1 r2) λ _ s3 hq_=>?_
 obtain⟨z,H3,I3,r3,O3,d,S3,⟨k,hd,k1,k2⟩,st3,ok3,rep3⟩:=hq_
 subst hd
 cases rep3
 cases r3
 refine wpAny_truthy_bool ?_
 cases k with
 | false=>exact ite_ff ⟨.bl false,H3,I3,rfl,O3,.bl false,S3,k1 rfl,(st1.trans st2).trans st3,ok3,.bl false⟩
 | true=>
   refine ite_tt (chain_last (thn (k2 rfl pins s3 σ H3 O3 I3 ((%[|20].mono st2).mono st3) ok3) λ u4 s4 hq_=>?_))
   obtain⟨w4,H4,I4,r4,O4,t,S4,h4,st4,ok4,rep4⟩:=hq_
   exact thn (h4 pins s4 σ H4 O4 w w4 u' u4 I4 ok4 ((rep2.mono st3).mono st4) rep4 r2 r4) λ _ _ q=>cQ (((st1.trans st2).trans st3).trans st4) q
theorem gW{W:%[|31]}(w:W [] S):EvA X Γ S [] W:=λ _ pins s σ H O I _ st=>Calls.spliced_nil ⟨[],H,I,.nil,O,[],S,w,Step.refl O H,st,.nil⟩
theorem cL{W:%[|31]}(h:Ev X Γ S e λ d S1=>EvA X Γ S1 es λ ds S2=>W (d::ds) S2)(hs:%[|79]:=by rfl):EvA X Γ S (e::es) W:=by
 intro pos pins s σ H O I env st
 rw[hs]
 show wpAny _ _ (spliced ((false,eval e X.env)::%[|76])) _ _ s
 refine Calls.spliced_cons %[|58]
 obtain⟨v,H1,I1,r1,O1,x,S1,hb,st1,ok1,rep1⟩:=hq_
 exact thn (hb pos pins s1 σ H1 O1 I1 %[|20] ok1) λ us s2 hq_=>by obtain⟨xs,H2,I2,r2,O2,ds,S2,w,st2,ok2,rep2⟩:=hq_;exact⟨v::xs,H2,I2,.cons r1 r2,O2,x::ds,S2,w,st1.trans st2,ok2,.cons (rep1.mono st2) rep2⟩
theorem small{n:Nat}(h:n≤1000000):n≤sizeLine:=Nat.le_trans h %[|2]
theorem Uh(st:StOk K O H S)(h:H p=none):Tp K O (upd H p (.tup xs)) p xs:=⟨st.fresh_not h,aB⟩
theorem Rm(st:StOk K O H S)(h:H p=none):Ls K O (upd H p (.lst xs)) p xs:=.inl ⟨st.fresh_not h,.inl aB⟩
theorem iH(w:W (.tup ds) S)(st:StOk K O H S)(h:H p=none)(r:Reps K O H xs ds):QG K O H W (.ref p) (upd H p (.tup xs)):=
 ⟨O,.tup ds,S,w,Step.fresh h _,st.fresh h _,.tup (Uh st h) (r.mono (Step.fresh h _))⟩
theorem jT(w:W (.lst ds) S)(st:StOk K O H S)(h:H p=none)(r:Reps K O H xs ds):QG K O H W (.ref p) (upd H p (.lst xs)):=
 ⟨O,.lst ds,S,w,Step.fresh h _,st.fresh h _,.lst (Rm st h) (r.mono (Step.fresh h _))⟩
theorem Ax(w:W %[|77] (S++[ds]))(st:StOk K O H S)(h:H p=none)(r:Reps K O H xs ds):QG K O H W (.ref p) (upd H p (.lst xs)):=
 ⟨O.more p,%[|77],S++[ds],w,Step.own h _,st.own h r,.loc (by show(O.A++[(p,false)])[S.length]? =some (p,false);rw[←st.len];simp)⟩
theorem TV{x1}(h:EvA X Γ S es λ ds S1=>%[|60]/\W (.tup ds) S1):Ev X Γ S (.Tuple es x1 pos) W:=by
 sleep 0
 refine wpAny_Tuple_spliced (thn (h pos pins s σ H O I env st) λ us s1 hq_=>?_)
 obtain⟨xs,H1,I1,r,O1,ds,S1,⟨z,w⟩,st1,ok1,rep⟩:=hq_
 refine⟨by rw[←r.length,rep.length];exact small z,?_⟩
 have hf:H1 s1.heap.objs.size=none:=I1.hok.fresh (x9 _)
 refine⟨.ref s1.heap.objs.size,upd H1 s1.heap.objs.size (.tup xs),I1.laid (t':=s1.toks) (λ b u e=>ZC _ e) (x9 _) ?_,rfl,(iH w ok1 hf rep).pre st1⟩
 exact⟨by rw[rep.length];exact small z,us,r,⟨_,%[|34],rfl,_,rfl⟩⟩
theorem Ur(h:EvA X Γ S es λ ds S1=>%[|60]/\W (.lst ds) S1):Ev X Γ S (.List es pos) W:=by
 sleep 0
 refine wpAny_List_spliced (thn (h pos pins s σ H O I env st) λ us s1 hq_=>?_)
 obtain⟨xs,H1,I1,r,O1,ds,S1,⟨z,w⟩,st1,ok1,rep⟩:=hq_
 refine⟨by rw[←r.length,rep.length];exact small z,?_⟩
 have hf:H1 s1.heap.objs.size=none:=I1.hok.fresh (x9 _)
 refine⟨.ref s1.heap.objs.size,upd H1 s1.heap.objs.size (.lst xs),I1.laid (t':=s1.toks) (λ b u e=>ZC _ e) (x9 _) ?_,rfl,(jT w ok1 hf rep).pre st1⟩
 exact⟨by rw[rep.length];exact small z,us,0,r,%[|34]⟩
theorem Px(h:EvA X Γ S es λ ds S1=>%[|60]/\W (.loc S1.length) (S1++[ds])):Ev X Γ S (.List es pos) W:=by
 sleep 0
 refine wpAny_List_spliced (thn (h pos pins s σ H O I env st) λ us s1 hq_=>?_)
 obtain⟨xs,H1,I1,r,O1,ds,S1,⟨z,w⟩,st1,ok1,rep⟩:=hq_
 refine⟨by rw[←r.length,rep.length];exact small z,?_⟩
 have hf:H1 s1.heap.objs.size=none:=I1.hok.fresh (x9 _)
 refine⟨.ref s1.heap.objs.size,upd H1 s1.heap.objs.size (.lst xs),I1.laid (t':=s1.toks) (λ b u e=>ZC _ e) (x9 _) ?_,rfl,(Ax w ok1 hf rep).pre st1⟩
 exact⟨by rw[rep.length];exact small z,us,0,r,%[|34]⟩
theorem gZ{op:Operator}{C:Int->Int->Prop}{g:Int->Int->Int}(ho:OpR X (binaryOp op) (rI C λ i j=>.int (g i j))){i j:Int}(c:C i j)(w:W (.int (g i j)) S):cg X op (.int i) (.int j) S W:=
 cX ho λ O H v w' st r1 r2=>by cases r1;cases r2;exact⟨i,j,rfl,rfl,c,QG.here w st (.int _)⟩
theorem yF{op:Operator}{g:Int->Int->Int}(ho:OpR X (binaryOp op) (rI0 λ i j=>.int (g i j))){i j:Int}(w:W (.int (g i j)) S):cg X op (.int i) (.int j) S W:=
 cX ho λ O H v w' st r1 r2=>by cases r1;cases r2;exact⟨i,j,rfl,rfl,QG.here w st (.int _)⟩
theorem Vh(w:W (.int (i+j)) S):cg X .Add (.int i) (.int j) S W:=yF QH w
theorem Vn(w:W (.int (i-j)) S):cg X .Sub (.int i) (.int j) S W:=yF Tq w
theorem Vp(c:CMul i j)(w:W (.int (i*j)) S):cg X .Mult (.int i) (.int j) S W:=gZ Rj c w
theorem Vc(c:0<j)(w:W (.int (i % j)) S):cg X .Mod (.int i) (.int j) S W:=gZ Q5 c w
theorem R3(c:0<j/\j<1073741824)(w:W (.int (i/j)) S):cg X .FloorDiv (.int i) (.int j) S W:=gZ Py c w
theorem VN(c:CPow i j)(w:W (.int (i ^ j.toNat)) S):cg X .Pow (.int i) (.int j) S W:=gZ Ut c w
theorem m5{op:CmpOp}{g:Int->Int->Bool}(ho:OpR X (compareOp op) (rI0 λ i j=>.bl (g i j))){i j:Int}(w:W (.bl (g i j)) S):bf X op (.int i) (.int j) S W:=
 cX ho λ O H v w' st r1 r2=>by cases r1;cases r2;exact⟨i,j,rfl,rfl,QG.here w st (.bl _)⟩
theorem Ww(w:W (.bl (decide (i<j))) S):bf X .Lt (.int i) (.int j) S W:=m5 Wc w
theorem W9(w:W (.bl (decide (i≤j))) S):bf X .LtE (.int i) (.int j) S W:=m5 Wa w
theorem W7(w:W (.bl (decide (j<i))) S):bf X .Gt (.int i) (.int j) S W:=m5 Wg w
theorem W6(w:W (.bl (decide (j≤i))) S):bf X .GtE (.int i) (.int j) S W:=m5 Vs w
theorem Va(w:W (.bl (decide (i=j))) S):bf X .Eq (.int i) (.int j) S W:=
 cX Ep λ O H v w' st r1 r2=>by
  cases r1;cases r2
  have e:decide (V.int i=V.int j)=decide (i=j):=by rw[m8];exact(Bool.beq_eq_decide_eq i j)
  exact⟨rfl,by rw[e];exact QG.here w st (.bl _)⟩
theorem Wi(w:W (.bl (!decide (i=j))) S):bf X .NotEq (.int i) (.int j) S W:=
 cX GR λ O H v w' st r1 r2=>by
  cases r1;cases r2
  have e:decide (V.int i=V.int j)=decide (i=j):=by rw[m8];exact(Bool.beq_eq_decide_eq i j)
  exact⟨rfl,by rw[e];exact QG.here w st (.bl _)⟩
theorem Vd{i j:Bool}(w:W (.bl (i==j)) S):bf X .Eq (.bl i) (.bl j) S W:=
 cX Ep λ O H v w' st r1 r2=>by
  cases r1;cases r2
  exact⟨rfl,by rw[mG];exact QG.here w st (.bl _)⟩
theorem VV{i j:Bool}(w:W (.bl (!(i==j))) S):bf X .NotEq (.bl i) (.bl j) S W:=
 cX GR λ O H v w' st r1 r2=>by
  cases r1;cases r2
  exact⟨rfl,by rw[mG];exact QG.here w st (.bl _)⟩
theorem VG(w:W (.bl (match x with | .non=>true | _=>false)) S):bf X .Is x .non S W:=
 cX RW λ O H v w' st r1 r2=>by
  cases r2
  refine⟨rfl,?_⟩
  cases r1<;>exact QG.here w st (.bl _)
theorem Nx(w:W (.bl (match x with | .non=>false | _=>true)) S):bf X .IsNot x .non S W:=
 cX Qw λ O H v w' st r1 r2=>by
  cases r2
  refine⟨rfl,?_⟩
  cases r1<;>exact QG.here w st (.bl _)
theorem Sh{es:List D}(hz:ds.length+es.length≤1000000)(w:W (.tup (ds++es)) S):cg X .Add (.tup ds) (.tup es) S W:=by
 sleep 9
 cases r1 with
 | @tup a xs _ h1 q1=>
   cases r2 with
   | @tup b ys _ h2 q2=>
     by_cases hx:xs=[]
     . subst hx
       have e:ds=[]:=by have:=q1.length;simpa using this.symm
       subst e
       cases r3
       cases r4
       obtain⟨its,v1,p1,_⟩:=I.tuple h1.sq
       obtain⟨its2,v2,p2,_⟩:=I.tuple h2.sq
       cases v1
       obtain⟨⟨cls,dd,data,sl⟩,ho,hc,n,hd⟩:=id p1
       obtain⟨⟨cls2,dd2,data2,sl2⟩,ho2,hc2,n2,hd2⟩:=id p2
       simp only at hc hd hc2 hd2
       subst hc hd hc2 hd2
       exact concat_meets ⟨_,ho,rfl⟩ ⟨_,ho2,rfl⟩ noFill_tuple_add seq_tuple_add PySem.F.slot_tuple_add PySem.F.entry_tuple_add (PySem.F.args_tuple_add_2 _ _)
        (tuple_addW0 a b ([]:%[|11]).toArray its2.toArray n n2 dd dd2 sl sl2 rfl) ⟨ho,ho2,⟨.ref b,H,I,rfl,QG.here w st (.tup h2 q2)⟩⟩
     . refine PB pins s σ H _ _ u u' _ I r3 r4 ⟨a,b,xs,ys,rfl,rfl,h1.sq,h2.sq,hx,by rw[q1.length,q2.length];exact small hz,λ e=>?_,λ _ p hp=>iH w st hp (q1.append q2)⟩
       subst e
       have e:es=[]:=by have:=q2.length;simpa using this.symm
       subst e
       rw[List.append_nil]at w
       exact QG.here w st (.tup h1 q1)
theorem Tv{es:List D}(hz:ds.length+es.length≤1000000)(w:W (.lst (ds++es)) S):cg X .Add (.lst ds) (.lst es) S W:=by
 sleep 9
 cases r1 with
 | @lst a xs _ h1 q1=>
   cases r2 with
   | @lst b ys _ h2 q2=>
     cases r3
     cases r4
     obtain⟨its,v1,p1,_⟩:=I.list h1.sq
     obtain⟨its2,v2,p2,_⟩:=I.list h2.sq
     obtain⟨⟨cls,dd,data,sl⟩,n,ho,hc,hdd,hd⟩:=id p1
     obtain⟨⟨cls2,dd2,data2,sl2⟩,n2,ho2,hc2,hdd2,hd2⟩:=id p2
     simp only at hc hd hc2 hd2
     subst hc hd hc2 hd2
     have z:its.length+its2.length≤sizeLine:=by rw[←v1.length,←v2.length,q1.length,q2.length];exact small hz
     refine concat_meets ⟨_,ho,rfl⟩ ⟨_,ho2,rfl⟩ noFill_list_add seq_list_add PySem.F.slot_list_add PySem.F.entry_list_add (PySem.F.args_list_add_2 _ _)
      (list_addW a b its.toArray its2.toArray n n2 dd dd2 sl sl2 (by simpa using z)) ⟨ho,ho2,?_⟩
     have ea:its.toArray++its2.toArray=(its++its2).toArray:=by simp
     rw[ea]
     refine⟨%[|59],_,I.lnew (t':=s.toks) (v1.append v2) (by rw[List.length_append,q1.length,q2.length];exact small hz),rfl,jT w st I.fresh (q1.append q2)⟩
end
end DL
namespace DL
open PySem PySem.Spec L2
open PyProof.Rows
variable {K : PySem.W.Frag} {O : Own} {H : Hp} {xs : List V} {ds : List D} {i : Int} {d : D} {k : Nat} {x : Str} {p : Pos}
section
variable {X : Cx} {Γ : Gam} {S : Store} {W : WD} {a b e : Expr} {es : %[|12]} {pos : Pos}
def IxW(X:Cx)(a b:Expr)(x y:D)(S:Store)(W:WD):Prop:=
 ∀ (pins:Pins)(s:Shared)(σ:St)(H:Hp)(O:Own)(v w:V)(u u':Value),%[|4]->%[|23]->Rep X.K O H v x->Rep X.K O H w y->RelV v u->RelV w u'->
   subscripted b false u u'=operate [u,u'] (getItem u u')->wpAny %[|9] X.A (subscriptTail a b u u') (EP X pins σ (QG X.K O H W)) X.xe s
theorem M3(h:Ev X Γ S a λ x S1=>Ev X Γ S1 b λ y S2=>IxW X a b x y S2 W)(hs:tD b:=by intro _ _;rfl):Ev X Γ S (.Subscript a b pos) W:=by
 sleep 0
 refine Subscript_ %[|58]
 obtain⟨v,H1,I1,r1,O1,x,S1,hb,st1,ok1,rep1⟩:=hq_
 refine thn (hb pins s1 σ H1 O1 I1 %[|20] ok1) λ u' s2 hq_=>?_
 obtain⟨w,H2,I2,r2,O2,y,S2,hw,st2,ok2,rep2⟩:=hq_
 exact thn (hw pins s2 σ H2 O2 v w u u' I2 ok2 (rep1.mono st2) rep2 r1 r2 (hs _ _)) λ _ _ q=>cQ (st1.trans st2) q
theorem ut(r:Reps K O H xs ds)(h:atI ds i=some d):∃v,atI xs i=some v/\Rep K O H v d:=by
 unfold atI at h ⊢
 rw[r.length]
 cases e:ixN ds.length i with
 | none=>rw[e]at h;cases h
 | some j=>
   rw[e]at h
   exact r.get (i:=j) h
theorem Wk(h:atI ds i=some d)(w:W d S):IxW X a b (.tup ds) (.int i) S W:=by
 intro pins s σ H O v w' u u' I st r1 r2 r3 r4 hs
 cases r2
 cases r1 with
 | @tup p xs _ h1 q1=>
   obtain⟨z,hz,rz⟩:=ut q1 h
   exact U4 a b pins s σ H _ _ u u' _ I r3 r4 ⟨p,xs,i,z,rfl,rfl,h1.sq,hz,QG.here w st rz⟩ hs
theorem V2(h:atI ds i=some d)(w:W d S):IxW X a b (.lst ds) (.int i) S W:=by
 intro pins s σ H O v w' u u' I st r1 r2 r3 r4 hs
 cases r2
 cases r1 with
 | @lst p xs _ h1 q1=>
   obtain⟨z,hz,rz⟩:=ut q1 h
   exact uD a b pins s σ H _ _ u u' _ I r3 r4 ⟨p,xs,i,z,rfl,rfl,h1.sq,hz,QG.here w st rz⟩ hs
theorem V8(hk:S[k]? =some ds)(h:atI ds i=some d)(w:W d S):IxW X a b (.loc k) (.int i) S W:=by
 intro pins s σ H O v w' u u' I st r1 r2 r3 r4 hs
 cases r2
 cases r1 with
 | @loc p _ h1=>
   obtain⟨xs,hx,q1⟩:=st.obj k p ds h1 hk
   obtain⟨z,hz,rz⟩:=ut q1 h
   exact uD a b pins s σ H _ _ u u' _ I r3 r4 ⟨p,xs,i,z,rfl,rfl,SqL.of hx,hz,QG.here w st rz⟩ hs
def PoD(X:Cx)(Γ:Gam)(S:Store)(o:Option Expr)(W:%[|17]->%[|13]):Prop:=match o with
 | none=>W none S
 | some e=>Ev X Γ S e λ d S1=>∃i,d=.int i/\W (some i) S1
def SlW(X:Cx)(x:D)(lo hi:%[|17])(S:Store)(W:WD):Prop:=
 ∀ (pins:Pins)(s:Shared)(σ:St)(H:Hp)(O:Own)(v:V)(u vl vu:Value)(sl:Addr),%[|4]->%[|23]->Rep X.K O H v x->RelV v u->s.heap.IsSliceOf sl vl vu .none->IsPart vl lo->IsPart vu hi->
   ∃T id,typeLookup (.type T) "__getitem__"=pure (some (.builtin id))/\s.TypeIs u T/\wpAny %[|9] X.A (getItem u (.ref sl)) (EP X pins σ (QG X.K O H W)) X.xe s
theorem Il{W:%[|17]->%[|13]}{o:Option Expr}(h:PoD X Γ S o W){pins:Pins}{s:Shared}{σ:St}{H:Hp}{O:Own}(I:%[|4])(env:%[|35])(st:%[|23]):
 wpAny %[|9] X.A (evalPart o X.env) (λ u s'=>∃p H' O' S',Inv X pins σ H' s'/\IsPart u p/\W p S'/\Step O O' H H'/\StOk X.K O' H' S') X.xe s:=by
 cases o with
 | none=>
   rw[evalPart_none]
   exact ZB ⟨none,H,O,S,I,.none,h,Step.refl O H,st⟩
 | some e=>
   rw[evalPart_some]
   refine %[|58]
   obtain⟨v,H1,I1,r1,O1,x,S1,⟨i,hx,w⟩,st1,ok1,rep1⟩:=hq_
   subst hx
   cases rep1
   obtain⟨t,rfl⟩:=r1
   exact⟨some i,H1,O1,S1,I1,.int i t,w,st1,ok1⟩
theorem zj{lo hi:Option Expr}{p2:Pos}(h:Ev X Γ S e λ x S1=>PoD X Γ S1 lo λ l S2=>PoD X Γ S2 hi λ r S3=>SlW X x l r S3 W):Ev X Γ S (.Subscript e (.Slice lo hi none p2) pos) W:=by
 sleep 0
 refine Subscript_ (thn %[|45] λ v s1 hq_=>?_)
 obtain⟨y,H1,I1,r1,O1,x,S1,hb,st1,ok1,rep1⟩:=hq_
 refine wpAny_Slice (thn (Il hb I1 %[|20] ok1) λ vl s2 hq_=>?_)
 obtain⟨l,H2,O2,S2,I2,pl,hc,st2,ok2⟩:=hq_
 refine thn (Il hc I2 (%[|20].mono st2) ok2) λ vu s3 hq_=>?_
 obtain⟨r,H3,O3,S3,I3,pu,hd,st3,ok3⟩:=hq_
 rw[evalPart_none]
 refine ZB ?_
 have I4:Inv X pins σ H3 {s3 with heap:=s3.heap.push {cls:=.type "slice",data:=.fields #[vl,vu,.none]}}:=I3.kept (t':=s3.toks) λ b ob q=>ZC _ q
 obtain⟨T,id,hT,ht,hg⟩:=hd pins {s3 with heap:=s3.heap.push {cls:=.type "slice",data:=.fields #[vl,vu,.none]}} σ H3 O3 y v vl vu s3.heap.objs.size I4 ok3 ((rep1.mono st2).mono st3) r1 (Heap.IsSliceOf.new ..) pl pu
 show wpAny %[|9] X.A (subscriptTail e (.Slice lo hi none p2) v (.ref s3.heap.objs.size)) _ X.xe {s3 with heap:=s3.heap.push {cls:=.type "slice",data:=.fields #[vl,vu,.none]}}
 exact tail_any (ops:=[.ref s3.heap.objs.size,v]) ht hT (thn hg λ _ _ q=>cQ ((st1.trans st2).trans st3) q) (by with_unfolding_all rfl)
def cutD(ds:List D)(lo hi:%[|17]):List D:=(ds.drop (HT.sIx ds.length 0 lo)).take (HT.sIx ds.length ds.length hi-HT.sIx ds.length 0 lo)
theorem uU(r:Reps K O H xs ds)(lo hi:%[|17]):Reps K O H (lL xs lo hi) (cutD ds lo hi):=by
 unfold lL cutD
 rw[r.length]
 exact(r.drop _).take _
theorem Bu{prog:Program}{w:World}{A:Around}{E:%[|16]}{s:Shared}{t sl:Addr}{items:Array Value}{vl vu:Value}{lo hi:%[|17]}{Q:%[|16]}(ht:IsTup s.heap t items)(hs:s.heap.IsSliceOf sl vl vu .none)(pl:IsPart vl lo)(pu:IsPart vu hi)
 (h0:HT.sIx items.size 0 lo=0)(h1:HT.sIx items.size items.size hi=items.size)(h:Q (.ref t) s):wpAny (model prog w) A (getItem (.ref t) (.ref sl)) Q E s:=by
 obtain⟨os,hos,hcs,hds⟩:=id hs
 have isS:s.TypeIs (.ref sl) "slice":=⟨os,hos,hcs⟩
 unfold getItem
 try with_reducible refine ZQ ?_
 first | refine ZA (ZB ?_) | skip
 refine ZA (wpAny_sequenceKey ht.typeIs %[|2] ?_)
 refine ZA (wpAny_callSpecial?_slot (name:=Str.ofString "__getitem__") ht.typeIs PyProof.Rows.slot_tuple_getitem
  (ZP PyProof.Rows.slot_tuple_getitem ht.typeIs entry_tuple_getitem ?_ (args_tuple_getitem _ _)))
 show wpAny _ _ (Builtin.Tuple.tupleItemsOf (.ref t)>>=_) _ _ s
 refine ZA (tupleItemsOf_ ht (ZA (wpAny_typeOf isS ?_)))
 rw[if_pos %[|2]]
 refine ZA (HT.sliceApplied_gen hs pl pu ?_)
 rw[h0,h1]
 show wpAny _ _ (if(((0:Nat):Int)==0&&(1:Int)==1&&(items.size-0)==items.size)=true then _ else _) _ _ s
 rw[if_pos (by simp)]
 unfold Builtin.Tuple.tupleIsExact
 first
  | exact ZA (ZA (wpAny_typeOf ht.typeIs (ZB (by rw[if_pos %[|2]];exact ZA (wpAny_rule (ZB ⟨_,rfl,ZB h⟩))))))
  | (refine ZA (ZA (wpAny_typeOf ht.typeIs (ZB ?_)))
     simp only[beq_self_eq_true,if_true]
     exact ZA (wpAny_rule (ZB ⟨_,rfl,ZB h⟩)))
theorem VB{lo hi:%[|17]}(w:W (.tup (cutD ds lo hi)) S):SlW X (.tup ds) lo hi S W:=by
 intro pins s σ H O v u vl vu sl I st r1 r3 hs pl pu
 cases r1 with
 | @tup p xs _ h1 q1=>
   by_cases hw:HT.sIx xs.length 0 lo=0/\HT.sIx xs.length xs.length hi=xs.length
   . cases r3
     obtain⟨its,r,ht,hz⟩:=I.tuple h1.sq
     have hlen:its.toArray.size=xs.length:=by rw[List.size_toArray];exact r.length.symm
     refine⟨"tuple",_,PyProof.Rows.slot_tuple_getitem.lookup,ht.typeIs,Bu ht hs pl pu (by rw[hlen];exact hw.1) (by rw[hlen];exact hw.2) ⟨.ref p,H,I,rfl,?_⟩⟩
     have e:cutD ds lo hi=ds:=by
      unfold cutD
      rw[←q1.length,hw.1,hw.2,List.drop_zero,List.take_of_length_le (by rw[←q1.length];omega)]
     rw[e]at w
     exact QG.here w st (.tup h1 q1)
   . exact Sw pins s σ H _ u vl vu lo hi sl _ I r3 hs pl pu ⟨p,xs,rfl,h1.sq,hw,λ p' hp=>iH w st hp (uU q1 lo hi)⟩
theorem Wh{lo hi:%[|17]}(w:W (.lst (cutD ds lo hi)) S):SlW X (.lst ds) lo hi S W:=by
 intro pins s σ H O v u vl vu sl I st r1 r3 hs pl pu
 cases r1 with
 | @lst p xs _ h1 q1=>exact CQ pins s σ H _ u vl vu lo hi sl _ I r3 hs pl pu ⟨p,xs,rfl,h1.sq,λ p' hp=>jT w st hp (uU q1 lo hi)⟩
theorem Kg{id:String}(h:EvA X Γ S (e::es) λ ds S1=>bA X (.builtin id) ds S1 W)(hm:X.mg x=none)(hv:bootBuiltins x=some (.builtin id))(hg:Gl X x:=by rfl)(hn:x≠"__name__":=by decide)(hdb:%[|55]:=by decide)
 (he:%[|79]:=by rfl)(hpl:%[|76].any (·.1)=false:=by rfl):Ev X Γ S (.Call (.Name x p) (e::es) [] pos) W:=by
 sleep 0
 refine wpAny_Call_Name_kw (eG I hg hm hv ?_ hn hdb)
 exact PyProof.Rows.callWith_builtin1 (thn (h pos pins s σ H O I env st) λ us s1 hq_=>by obtain⟨vs,H1,I1,r1,O1,ds,S1,w,st1,ok1,rep⟩:=hq_;exact thn (w pins s1 σ H1 O1 vs us I1 ok1 rep r1) λ _ _ q=>cQ st1 q) he hpl
theorem Mw{T:String}(h:EvA X Γ S (e::es) λ ds S1=>bA X (.type T) ds S1 W)(hm:X.mg x=none)(hv:bootBuiltins x=some (.type T))(hg:Gl X x:=by rfl)(hn:x≠"__name__":=by decide)(hdb:%[|55]:=by decide)
 (he:%[|79]:=by rfl)(hpl:%[|76].any (·.1)=false:=by rfl):Ev X Γ S (.Call (.Name x p) (e::es) [] pos) W:=by
 sleep 0
 refine wpAny_Call_Name_kw (eG I hg hm hv ?_ hn hdb)
 exact PyProof.Rows.callWith_type1 (thn (h pos pins s σ H O I env st) λ us s1 hq_=>by obtain⟨vs,H1,I1,r1,O1,ds,S1,w,st1,ok1,rep⟩:=hq_;exact thn (w pins s1 σ H1 O1 vs us I1 ok1 rep r1) λ _ _ q=>cQ st1 q) he hpl
theorem di{vs:List V}(r:Reps K O H vs [d]):∃v,vs=[v]/\Rep K O H v d:=by
 cases r with
 | cons a t=>cases t;exact⟨_,rfl,a⟩
theorem Uw(w:W (.int ds.length) S):bA X (.builtin "len") [.tup ds] S W:=cN iU λ O H vs st r=>by
 obtain⟨v,rfl,r'⟩:=di r
 cases r' with
 | @tup p xs _ h1 q1=>exact⟨p,xs,rfl,.inr h1.sq,by rw[q1.length];exact QG.here w st (.int _)⟩
theorem RQ(w:W (.int ds.length) S):bA X (.builtin "len") [.lst ds] S W:=cN iU λ O H vs st r=>by
 obtain⟨v,rfl,r'⟩:=di r
 cases r' with
 | @lst p xs _ h1 q1=>exact⟨p,xs,rfl,.inl h1.sq,by rw[q1.length];exact QG.here w st (.int _)⟩
theorem Uk(hk:S[k]? =some ds)(w:W (.int ds.length) S):bA X (.builtin "len") [.loc k] S W:=cN iU λ O H vs st r=>by
 obtain⟨v,rfl,r'⟩:=di r
 cases r' with
 | @loc p _ h1=>
   obtain⟨xs,hx,q1⟩:=st.obj k p ds h1 hk
   exact⟨p,xs,rfl,.inl (SqL.of hx),by rw[q1.length];exact QG.here w st (.int _)⟩
theorem QC(w:W (.tup ds) S):bA X %[|29] [.lst ds] S W:=cN lq λ O H vs st r=>by
 obtain⟨v,rfl,r'⟩:=di r
 cases r' with
 | @lst p xs _ h1 q1=>exact⟨p,xs,rfl,.inl ⟨h1.sq,λ l hl=>iH w st hl q1⟩⟩
theorem Q3(hk:S[k]? =some ds)(w:W (.tup ds) S):bA X %[|29] [.loc k] S W:=cN lq λ O H vs st r=>by
 obtain⟨v,rfl,r'⟩:=di r
 cases r' with
 | @loc p _ h1=>
   obtain⟨xs,hx,q1⟩:=st.obj k p ds h1 hk
   exact⟨p,xs,rfl,.inl ⟨SqL.of hx,λ l hl=>iH w st hl q1⟩⟩
abbrev Ct:=List D->Store->WD->Prop
def spC(K:PySem.W.Frag)(n:Nat)(F:Ct):Sp:=λ vs H Q _=>∃O ds S W,ds.length=n/\Reps K O H vs ds/\StOk K O H S/\F ds S W/\∀v H',QG K O H W v H'->Q v H'
structure Callee(P:Program)(w:World)(K:PySem.W.Frag)(mg:%[|22])(base:Heap)(x:Str)(k n:Nat)(F:Ct):Prop where
 ex:∃f fd ps,FnOk P w K mg base CX0 k f fd ps (spC K n F)/\mg x=some (.ref f)/\PySem.W.keepIn K (.ref f)=true/\Binds K fd ps []
theorem N8{n:Nat}{F:Ct}(C:Callee X.prog X.w X.K X.mg X.base x k n F)(hr:Room k X.A)(h:EvA X Γ S (e::es) λ ds S1=>ds.length=n/\F ds S1 W)(hg:Gl X x:=by rfl)(hdb:%[|55]:=by decide)
 (he:%[|79]:=by rfl)(hpl:%[|76].any (·.1)=false:=by rfl):Ev X Γ S (.Call (.Name x p) (e::es) [] pos) W:=by
 sleep 0
 obtain⟨f,fd,ps,hF,hm,hk,hb⟩:=C.ex
 refine wpAny_Call_Name_kw (jK I hg hm ?_ hdb)
 refine PySem.W.callWith_K (h₀:=X.base) I.ok.mod.kin hk (thn (h pos pins s σ H O I env st) λ us s1 hq_=>?_) he hpl
 obtain⟨vs,H1,I1,r1,O1,ds,S1,⟨hl,w⟩,st1,ok1,rep⟩:=hq_
 refine⟨I1.kIn,?_⟩
 refine Uj hF hr hb .nil V0 I1 r1 ?_
 rw[List.append_nil]
 exact⟨O1,ds,S1,W,hl,rep,ok1,w,λ v H' q=>q.pre st1⟩
structure Fin where
 nx:Gam->%[|13]
 rt:WD
 bk:Gam->%[|13]:=%[|25]
 ct:Gam->%[|13]:=%[|25]
def QN(K:PySem.W.Frag)(O:Own)(H:Hp)(W:Gam->%[|13]):St->Hp->Prop:=λ σ' H'=>∃O' Γ' S',W Γ' S'/\Step O O' H H'/\StOk K O' H' S'/\EnvOk K O' H' σ' Γ'
def ends(K:PySem.W.Frag)(O:Own)(H:Hp)(W:Fin):Ends:={nx:=QN K O H W.nx,rt:=QG K O H W.rt,bk:=QN K O H W.bk,ct:=QN K O H W.ct}
def Rn(X:Cx)(Γ:Gam)(S:Store)(st:Stmt)(W:Fin):Prop:=
 ∀ (pins:Pins)(s:Shared)(σ:St)(H:Hp)(O:Own),%[|4]->%[|35]->%[|23]->
   wpAny %[|9] X.A (exec st X.env) (SP X pins (ends X.K O H W)) X.xe s
def Rns(X:Cx)(Γ:Gam)(S:Store)(sts:List Stmt)(W:Fin):Prop:=
 ∀ (pins:Pins)(s:Shared)(σ:St)(H:Hp)(O:Own),%[|4]->%[|35]->%[|23]->
   wpAny %[|9] X.A (execs sts X.env) (SP X pins (ends X.K O H W)) X.xe s
theorem QN.pre{O1:Own}{H1:Hp}(st:Step O O1 H H1){W:Gam->%[|13]}{v:St}{H':Hp}(q:QN K O1 H1 W v H'):QN K O H W v H':=by
 obtain⟨O',d,S',w,s',ok,r⟩:=q
 exact⟨O',d,S',w,st.trans s',ok,r⟩
theorem bQ{pins:Pins}{O1:Own}{H1:Hp}{W:Fin}(st:Step O O1 H H1){f:Flow}{s':Shared}(q:SP X pins (ends X.K O1 H1 W) f s'):SP X pins (ends X.K O H W) f s':=by
 cases f with
 | next=>obtain⟨σ,H',I,q⟩:=q;exact⟨σ,H',I,QN.pre st q⟩
 | brk=>obtain⟨σ,H',I,q⟩:=q;exact⟨σ,H',I,QN.pre st q⟩
 | cont=>obtain⟨σ,H',I,q⟩:=q;exact⟨σ,H',I,QN.pre st q⟩
 | ret u=>obtain⟨v,σ,H',I,r,q⟩:=q;exact⟨v,σ,H',I,r,QG.pre st q⟩
variable {W : Fin} {st : Stmt} {sts : List Stmt}
theorem UG(w:W.nx Γ S):Rns X Γ S [] W:=λ pins s σ H O I env st=>wpAny_execs_nil ⟨σ,H,I,O,Γ,S,w,Step.refl O H,st,env⟩
theorem CN(h:Rn X Γ S st {W with nx:=λ Γ1 S1=>Rns X Γ1 S1 sts W}):Rns X Γ S (st::sts) W:=by
 sleep 7
 refine wpAny_execs_cons (thn %[|67] λ f s1 q=>?_)
 cases f with
 | next=>
   obtain⟨σ',H',I',O1,Γ1,S1,w,st1,ok1,env1⟩:=q
   exact thn (w pins s1 σ' H' O1 I' env1 ok1) λ _ _ q=>bQ st1 q
 | ret v=>exact q
 | brk=>exact q
 | cont=>exact q
theorem V3(h:Ev X Γ S e W.rt):Rn X Γ S (.Return (some e) pos) W:=by
 sleep 7
 exact wpAny_Return_some (thn %[|67] λ v s1 ⟨x,H1,I1,r1,q1⟩=>⟨x,σ,H1,I1,r1,q1⟩)
theorem Xh{c:Expr}{xs ys:List Stmt}(h:Ts X Γ S c λ k S1=>(k=true->Rns X Γ S1 xs W)/\(k=false->Rns X Γ S1 ys W)):Rn X Γ S (.If c xs ys pos) W:=by
 sleep 7
 refine wpAny_If (thn %[|67] λ d s1 hq_=>?_)
 obtain⟨H1,I1,O1,S1,w,st1,ok1⟩:=hq_
 cases d with
 | true=>exact thn (w.1 rfl pins s1 σ H1 O1 I1 %[|20] ok1) λ _ _ q=>bQ st1 q
 | false=>exact thn (w.2 rfl pins s1 σ H1 O1 I1 %[|20] ok1) λ _ _ q=>bQ st1 q
theorem M7(i:Nat){x:Str}{pos':Pos}(h:Ev X Γ S e λ d S1=>W.nx (Γ.set i (some d)) S1)(hN:X.N.Nodup)(hi:X.N[i]? =some x:=by rfl)(hx:Loc X.env.scope x:=by first | exact Or.inl rfl | exact Or.inr rfl)
 (hs:swapsWith e (some (.Name x pos')) pos.line X.env=pure false:=by rfl)(hf:%[|85]:=by first | exact .inl rfl | exact .inr rfl):Rn X Γ S (.Assign [.Name x pos'] e pos) W:=by
 sleep 7
 refine wpAny_Assign_Name (thn %[|67] λ v s1 hq_=>?_) hs
 obtain⟨y,H1,I1,r1,O1,d,S1,w,st1,ok1,rep1⟩:=hq_
 exact fj I1 hN hi hx r1 (λ s2 I2=>⟨_,H1,I2,O1,_,S1,w,st1,ok1,%[|20].set rep1 i⟩) hf
theorem UV(h:Ev X Γ S e λ d S1=>W.nx Γ S1)(hs:swapsWith e none pos.line X.env=pure false:=by rfl):Rn X Γ S (.Expr e pos) W:=by
 sleep 7
 exact wpAny_Expr_any (thn %[|67] λ v s1 hq_=>by obtain⟨x,H1,I1,r1,O1,d,S1,w,st1,ok1,rep1⟩:=hq_;exact⟨σ,H1,I1,O1,Γ,S1,w,st1,ok1,%[|20]⟩) I.quiet hs
def tE(K:PySem.W.Frag)(Γ:Gam)(S:Store)(W:WD):TE:=λ σ H Q=>∃O,EnvOk K O H σ Γ/\StOk K O H S/\∀v H',QG K O H W v H'->Q v H'
theorem QK{pins:Pins}{σ:St}{Q Q':VK}{u:Value}{s':Shared}(q:EP X pins σ Q u s')(k:∀v H',Q v H'->Q' v H'):EP X pins σ Q' u s':=by
 obtain⟨v,H',I,r,q⟩:=q
 exact⟨v,H',I,r,k v H' q⟩
theorem Ev.pe{W:WD}(h:Ev X Γ S e W):PE X e (tE X.K Γ S W):=λ pins s σ H Q I ⟨O,env,st,k⟩=>thn %[|45] λ _ _ q=>QK q k
def tEA(K:PySem.W.Frag)(Γ:Gam)(S:Store)(W:%[|31]):TA:=λ σ H Q=>∃O,EnvOk K O H σ Γ/\StOk K O H S/\∀v H',QA K O H W v H'->Q v H'
theorem EvA.pa{W:%[|31]}(h:EvA X Γ S es W):PA X es (tEA X.K Γ S W):=λ pos pins s σ H Q I ⟨O,env,st,k⟩=>thn (h pos pins s σ H O I env st) λ _ _ ⟨v,H',I',r,q⟩=>⟨v,H',I',r,k v H' q⟩
theorem Pr{o i:Expr}{tpos:Pos}(h:Ev X Γ S e λ d S1=>Ev X Γ S1 o λ x S2=>Ev X Γ S2 i λ y S3=>∃k n ds j,x=.loc k/\y=.int n/\S3[k]? =some ds/\ixN ds.length n=some j/\W.nx Γ (S3.set k (ds.set j d)))
 (ha:∀v,assign (.Subscript o i tpos) X.env v=(do
  let ov ←holding [v] (eval o X.env)
  let iv ←holding [v,ov] (eval i X.env)
  standAt tpos
  holding [v,ov,iv] (setItem ov iv v)
  release [v,ov,iv] []):=by intro _;rfl)(hs:swapsWithSole [.Subscript o i tpos] e pos.line X.env=pure false:=by rfl)(hw:swappedStores [.Subscript o i tpos] e X.env=pure none:=by rfl)
 (h1:(assignEach [.Subscript o i tpos] X.env).map (·.2)=[assign (.Subscript o i tpos) X.env]:=by rfl):Rn X Γ S (.Assign [.Subscript o i tpos] e pos) W:=by
 sleep 7
 refine wpAny_Assign_stores (thn %[|67] λ u s1 hq_=>?_) hs hw
 obtain⟨v,H1,I1,r1,O1,d,S1,w1,st1,ok1,rep1⟩:=hq_
 rw[h1]
 show wpAny _ _ (assign (.Subscript o i tpos) X.env u) _ _ _
 rw[ha]
 refine ZA (ZQ (thn (w1 pins s1 σ H1 O1 I1 %[|20] ok1) λ ov s2 hq_=>?_))
 obtain⟨x,H2,I2,r2,O2,dx,S2,w2,st2,ok2,rep2⟩:=hq_
 refine ZA (ZQ (thn (w2 pins s2 σ H2 O2 I2 (%[|20].mono st2) ok2) λ iv s3 hq_=>?_))
 obtain⟨y,H3,I3,r3,O3,dy,S3,⟨k,n,ds,j,ex,ey,hk,hj,w⟩,st3,ok3,rep3⟩:=hq_
 subst ex
 subst ey
 have rx:=rep2.mono st3
 cases rx with
 | @loc p _ hp=>
   cases rep3
   obtain⟨xs,hx,q⟩:=ok3.obj k p ds hp hk
   have rd:=(rep1.mono st2).mono st3
   refine ZA (wpAny_standAt (ZA (ZQ (thn (set_list pins s3 σ H3 _ _ v ov iv u (λ H'=>H'=upd H3 p (.lst (xs.set j v))) I3 r2 r3 r1 ⟨p,xs,n,j,rfl,rfl,hx,by rw[q.length];exact hj,rfl⟩) λ _ s4 hq_=>?_))))
   obtain⟨H4,I4,e4⟩:=hq_
   subst e4
   refine wpAny_release ⟨σ,_,I4,O3,Γ,_,w,((st1.trans st2).trans st3).trans (Step.put (d7 hp) _),ok3.put hp (q.set rd j),((%[|20].mono st2).mono st3).mono (Step.put (d7 hp) _)⟩
def BdW(X:Cx)(tg:Expr)(d:D)(Γ:Gam)(S:Store)(W:Gam->%[|13]):Prop:=
 ∀ (pins:Pins)(s:Shared)(σ:St)(H:Hp)(O:Own)(v:V)(u:Value),%[|4]->%[|35]->%[|23]->Rep X.K O H v d->RelV v u->
   wpAny %[|9] X.A (assign tg X.env u) (λ _ s'=>∃σ' H',Inv X pins σ' H' s'/\QN X.K O H W σ' H') X.xe s
def zT(X:Cx)(ts:%[|12])(ds:List D)(Γ:Gam)(S:Store)(W:Gam->%[|13]):Prop:=
 ∀ (pins:Pins)(s:Shared)(σ:St)(H:Hp)(O:Own)(vs:List V)(us:%[|11]),%[|4]->%[|35]->%[|23]->Reps X.K O H vs ds->Vals vs us->
   wpAny %[|9] X.A (assignInOrder ((assignEach ts X.env).map (·.2)) us) (λ _ s'=>∃σ' H',Inv X pins σ' H' s'/\QN X.K O H W σ' H') X.xe s
theorem Qa(i:Nat){x:Str}{d:D}{W:Gam->%[|13]}(w:W (Γ.set i (some d)) S)(hN:X.N.Nodup)(hi:X.N[i]? =some x:=by rfl)(hx:Loc X.env.scope x:=by first | exact Or.inl rfl | exact Or.inr rfl)
 (hf:%[|85]:=by first | exact .inl rfl | exact .inr rfl):BdW X (.Name x pos) d Γ S W:=λ pins s σ H O v u I env st r ru=>
 wpAny_assign_Name (fj I hN hi hx ru (λ s' I'=>⟨_,H,I',O,_,S,w,Step.refl O H,st,env.set r i⟩) hf)
theorem Pn{W:Gam->%[|13]}(w:W Γ S):zT X [] [] Γ S W:=λ pins s σ H O vs us I env st r ru=>by
 cases r
 cases ru
 exact assignInOrder_nil ⟨σ,H,I,O,Γ,S,w,Step.refl O H,st,env⟩
theorem K9{t:Expr}{ts:%[|12]}{W:Gam->%[|13]}(h:BdW X t d Γ S λ Γ1 S1=>zT X ts ds Γ1 S1 W)
 (hs:(assignEach (t::ts) X.env).map (·.2)=assign t X.env::(assignEach ts X.env).map (·.2):=by rfl):zT X (t::ts) (d::ds) Γ S W:=λ pins s σ H O vs us I env st r ru=>by
 cases r with
 | cons r rr=>
   cases ru with
   | cons ru rru=>
     rw[hs]
     refine assignInOrder_cons (thn (h pins s σ H O _ _ I env st r ru) λ _ s1 hq_=>?_)
     obtain⟨σ1,H1,I1,O1,Γ1,S1,w,st1,ok1,env1⟩:=hq_
     refine thn (w pins s1 σ1 H1 O1 _ _ I1 env1 ok1 (rr.mono st1) rru) λ _ s2 hq_=>by obtain⟨σ2,H2,I2,q⟩:=hq_;exact⟨σ2,H2,I2,QN.pre st1 q⟩
theorem Rp{ts:%[|12]}{W:Gam->%[|13]}(h:zT X ts ds Γ S W)(hc:X.calm=true:=by rfl)(hn:(assignEach ts X.env).length=ds.length:=by rfl)(hst:(assignEach ts X.env).findIdx? (·.1)=none:=by rfl):BdW X (.Tuple ts k pos) (.tup ds) Γ S W:=λ pins s σ H O v u I env st r ru=>by
 cases r with
 | @tup p xs _ h1 q1=>
   cases ru
   obtain⟨its,rv,ht,hz⟩:=I.tuple h1.sq
   refine assign_Tuple_tuple (I.ok.hd hc) ht (by simp[hn,←q1.length,rv.length]) hst λ h' hx=>?_
   have I1:Inv X pins σ H {s with heap:=h'}:=I.kept (t':=s.toks) λ b o e=>hx b o (ZN %[|37]) e
   exact h pins _ σ H O xs _ I1 env st q1 (by simpa using rv)
def fW(K:PySem.W.Frag)(J:It)(O:Own)(H:Hp)(ds:List D):Prop:=
 ∀(O':Own)(H':Hp),Conv O O' H H'->(∀a,O'.has a->H' a≠none)->∀i:Nat,(∀d,%[|33]->J.go i H'/\∀x H'',J.yld i H' x H''->aQ H' H''/\Rep K O' H'' x d)/\(i=ds.length->J.stop i H')
def QI(K:PySem.W.Frag)(O:Own)(H:Hp)(W:%[|31]):It->Hp->Prop:=λ J H'=>∃O' ds S',W ds S'/\Step O O' H H'/\StOk K O' H' S'/\fW K J O' H' ds
def ItW(X:Cx)(Γ:Gam)(S:Store)(tg iter:Expr)(W:%[|31]):Prop:=
 ∀ (pins:Pins)(s:Shared)(σ:St)(H:Hp)(O:Own),%[|4]->%[|35]->%[|23]->
   wpAny %[|9] X.A (eval iter X.env) (λ v s1=>wpAny %[|9] X.A (pyIter v) (PIE X pins σ tg (QI X.K O H W)) X.xe s1) X.xe s
theorem nU{a:Addr}(h:Ls K O H a xs)(r:Reps K O H xs ds):fW K (Itl K a) O H ds:=by
 intro O' H' st _ i
 have hq:=(h.conv st).sq
 refine⟨λ d hd=>?_,λ hi=>⟨xs,hq,by rw[r.length];exact Nat.le_of_eq hi.symm⟩⟩
 obtain⟨v,hv,rv⟩:=r.get hd
 refine⟨⟨xs,v,hq,hv⟩,λ x H'' y=>?_⟩
 obtain⟨e,y⟩:=y
 subst e
 have e:=y xs hq
 rw[hv]at e
 cases e
 exact⟨aQ.refl _,rv.conv st⟩
theorem rM{a:Addr}(h:Tp K O H a xs)(r:Reps K O H xs ds):fW K (Itt K a) O H ds:=by
 intro O' H' st _ i
 have hq:=(h.conv st).sq
 refine⟨λ d hd=>?_,λ hi=>⟨xs,hq,by rw[r.length];exact Nat.le_of_eq hi.symm⟩⟩
 obtain⟨v,hv,rv⟩:=r.get hd
 refine⟨⟨xs,v,hq,hv⟩,λ x H'' y=>?_⟩
 obtain⟨e,y⟩:=y
 subst e
 have e:=y xs hq
 rw[hv]at e
 cases e
 exact⟨aQ.refl _,rv.conv st⟩
def upTo(lo:Int)(n:Nat):List D:=(List.range n).map λ(k:Nat)=>D.int (lo+(k:Int))
theorem aJ(lo:Int)(n:Nat):(upTo lo n).length=n:=by simp[upTo]
theorem oN{lo:Int}{n i:Nat}(h:(upTo lo n)[i]? =some d):i<n/\d=.int (lo+i):=by
 unfold upTo at h
 rw[x8]at h
 cases e:(List.range n)[i]? with
 | none=>rw[e]at h;cases h
 | some k=>
   rw[e]at h
   obtain⟨hl,hk⟩:=z0.mp e
   simp at hl hk
   subst hk
   cases h
   exact⟨hl,rfl⟩
theorem lV(lo:Int)(n:Nat):fW K (Itr lo n) O H (upTo lo n):=by
 intro O' H' st _ i
 refine⟨λ d hd=>?_,λ hi=>by rw[aJ]at hi;exact Nat.le_of_eq hi.symm⟩
 obtain⟨hi,ed⟩:=oN hd
 subst ed
 refine⟨hi,λ x H'' y=>?_⟩
 obtain⟨e,ex⟩:=y
 subst e
 subst ex
 exact⟨aQ.refl _,.int _⟩
theorem Ha{tg a:Expr}{W:%[|31]}(h:Ev X Γ S a λ d S1=>∃j:Int,d=.int j/\ -(2 ^ 62)≤j/\j<2 ^ 62/\W (upTo 0 j.toNat) S1)(hm:X.mg "range"=none)(hg:Gl X "range":=by rfl)(hs:starEach [a] X.env=[(false,eval a X.env)]:=by rfl):
 ItW X Γ S tg (.Call (.Name "range" p) [a] [] pos) W:=by
 sleep 0
 refine Jm hg hm (aP h.pe cH hs) hs pins s σ H _ I ⟨O,env,st,λ v H' q=>?_⟩
 obtain⟨O',d,S',⟨j,ed,h1,h2,w⟩,st1,ok1,rep⟩:=q
 subst ed
 cases rep
 exact⟨j,rfl,h1,h2,O',_,S',w,st1,ok1,lV 0 _⟩
theorem Jj{tg a b:Expr}{W:%[|31]}(h:Ev X Γ S a λ d S1=>Ev X Γ S1 b λ d' S2=>∃i j:Int,d=.int i/\d'=.int j/\(-(2 ^ 62)≤i/\i<2 ^ 62/\ -(2 ^ 62)≤j/\j<2 ^ 62)/\W (upTo i (j-i).toNat) S2)(hm:X.mg "range"=none)(hg:Gl X "range":=by rfl)
 (hs:starEach [a,b] X.env=[(false,eval a X.env),(false,eval b X.env)]:=by rfl)(hs2:starEach [b] X.env=[(false,eval b X.env)]:=by rfl):
 ItW X Γ S tg (.Call (.Name "range" p) [a,b] [] pos) W:=by
 sleep 0
 have hA:EvA X Γ S [a,b] λ ds S2=>∃i j:Int,ds=[.int i,.int j]/\(-(2 ^ 62)≤i/\i<2 ^ 62/\ -(2 ^ 62)≤j/\j<2 ^ 62)/\W (upTo i (j-i).toNat) S2:=
  cL (h.mono λ d S1 h1=>cL (h1.mono λ d' S2 ⟨i,j,e1,e2,hb,w⟩=>gW ⟨i,j,by rw[e1,e2],hb,w⟩) hs2) (by rw[hs,hs2])
 refine Jv hg hm hA.pa hs hs2 pins s σ H _ I ⟨O,env,st,λ v H' q=>?_⟩
 obtain⟨O',ds,S',⟨i,j,ed,hb,w⟩,st1,ok1,rep⟩:=q
 subst ed
 cases rep with
 | cons r1 r2=>
   cases r2 with
   | cons r2 r3=>
     cases r3
     cases r1
     cases r2
     exact⟨i,j,rfl,hb,O',_,S',w,st1,ok1,lV i _⟩
theorem V6{tg iter:Expr}{body:List Stmt}(h:ItW X Γ S tg iter λ ds S1=>∃Pv:Nat->Gam->%[|13],Pv 0 Γ S1/\
 (∀i d Γ' S',%[|33]->Pv i Γ' S'->BdW X tg d Γ' S' λ Γ2 S2=>Rns X Γ2 S2 body %[|80])/\(∀Γ' S',Pv ds.length Γ' S'->W.nx Γ' S'))
 (hp:PassesOwn %[|9] X.A X.env X.xe:=by exact PassesOwn.never)(hc:X.calm=true:=by rfl)(hs:∀x,foldedSetIterable iter X.env x=pure x:=by intro _;rfl):Rn X Γ S (.For tg iter body [] pos) W:=by
 sleep 7
 let WI:%[|31]:=λ ds S1=>∃Pv:Nat->Gam->%[|13],Pv 0 Γ S1/\
     (∀i d Γ' S',%[|33]->Pv i Γ' S'->BdW X tg d Γ' S' λ Γ2 S2=>Rns X Γ2 S2 body %[|80])/\(∀Γ' S',Pv ds.length Γ' S'->W.nx Γ' S')
 have hI:PI X tg iter (λ σ H R=>∃O,%[|35]/\%[|23]/\∀J H',QI X.K O H WI J H'->R J H'):=λ pins s σ H R I hh=>by
  obtain⟨O,env,st,k⟩:=hh
  refine thn %[|45] λ _ _ q=>thn q λ _ _ q2=>?_
  obtain⟨it,fp,tn,J,H',e1,e2,e3,e4,e5,e6⟩:=q2
  exact⟨it,fp,tn,J,H',e1,e2,e3,e4,e5,k J H' e6⟩
 have hG:PG X tg (λ v σ H Q=>∃O d Γ S W',%[|35]/\%[|23]/\Rep X.K O H v d/\BdW X tg d Γ S W'/\∀σ' H',QN X.K O H W' σ' H'->Q σ' H'):=λ pins s σ H v u Q I ru hh=>by
  obtain⟨O,d,Γ,S,W',env,st,r,b,k⟩:=hh
  refine thn (b pins s σ H O v u I env st r ru) λ _ _ q2=>?_
  obtain⟨σ',H',I',q⟩:=q2
  exact⟨σ',H',I',k σ' H' q⟩
 have hB:PSs X body (λ D σ H=>∃O Γ S W',%[|35]/\%[|23]/\Rns X Γ S body W'/\(∀σ' H',QN X.K O H W'.nx σ' H'->D.nx σ' H')/\(∀v H',QG X.K O H W'.rt v H'->D.rt v H')/\(∀σ' H',QN X.K O H W'.bk σ' H'->D.bk σ' H')/\∀σ' H',QN X.K O H W'.ct σ' H'->D.ct σ' H'):=
  λ pins s σ H D I hh=>by
   obtain⟨O,Γ,S,W',env,st,b,k1,k2,k3,k4⟩:=hh
   refine thn (b pins s σ H O I env st) λ f s' q=>?_
   cases f with
   | next=>obtain⟨σ',H',I',q⟩:=q;exact⟨σ',H',I',k1 σ' H' q⟩
   | brk=>obtain⟨σ',H',I',q⟩:=q;exact⟨σ',H',I',k3 σ' H' q⟩
   | cont=>obtain⟨σ',H',I',q⟩:=q;exact⟨σ',H',I',k4 σ' H' q⟩
   | ret u=>obtain⟨v,σ',H',I',r,q⟩:=q;exact⟨v,σ',H',I',r,k2 v H' q⟩
 refine zx hp hc hI hG hB hs pins s σ H _ I ⟨O,env,ok,λ J H1 q=>?_⟩
 obtain⟨O1,ds,S1,⟨Pv,p0,pt,pe⟩,st1,ok1,yl⟩:=q
 refine⟨λ i m σ' H'=>m=ds.length-i/\i≤ds.length/\∃O' Γ' S',Pv i Γ' S'/\Step O1 O' H1 H'/\StOk X.K O' H' S'/\EnvOk X.K O' H' σ' Γ',⟨ds.length,by simp,Nat.zero_le _,O1,Γ,S1,p0,Step.refl _ _,ok1,%[|20]⟩,?_⟩
 rintro i m σ2 H2 ⟨rfl,hi,O2,Γ2,S2,p2,st2,ok2,env2⟩
 obtain⟨y1,y2⟩:=yl O2 H2 st2.conv (λ a ha=>ok2.tracked ha) i
 by_cases hlt:i<ds.length
 . obtain⟨go,yy⟩:=y1 ds[i] (y8 hlt)
   refine .inr ⟨go,λ σ' H'=>i+1≤ds.length/\∃O' Γ' S',Pv (i+1) Γ' S'/\Step O1 O' H1 H'/\StOk X.K O' H' S'/\EnvOk X.K O' H' σ' Γ',λ σ' H' q=>⟨ds.length-(i+1),%[|1],rfl,q.1,q.2⟩,λ x H3 y=>?_⟩
   obtain⟨sm,rx⟩:=yy x H3 y
   have st3:=Step.same (O:=O2) sm
   refine⟨O2,ds[i],Γ2,S2,_,env2.mono st3,ok2.same sm,rx,pt i ds[i] Γ2 S2 (y8 hlt) p2,λ σ4 H4 q4=>?_⟩
   obtain⟨O4,Γ4,S4,w4,st4,ok4,env4⟩:=q4
   have stA:=(st2.trans st3).trans st4
   refine⟨O4,Γ4,S4,_,env4,ok4,w4,?_,?_,?_,?_⟩
   . rintro σ5 H5 ⟨O5,Γ5,S5,w5,st5,ok5,env5⟩
     exact⟨hlt,O5,Γ5,S5,w5,stA.trans st5,ok5,env5⟩
   . exact λ v H' q=>QG.pre (st1.trans stA) q
   . exact λ σ' H' q=>QN.pre (st1.trans stA) q
   . rintro σ5 H5 ⟨O5,Γ5,S5,w5,st5,ok5,env5⟩
     exact⟨hlt,O5,Γ5,S5,w5,stA.trans st5,ok5,env5⟩
 . have e:i=ds.length:=%[|1]
   subst e
   exact .inl ⟨y2 rfl,O2,Γ2,S2,pe Γ2 S2 p2,st1.trans st2,ok2,env2⟩
theorem MK {P:Program}{w:World}{mg:%[|22]}{base:Heap}{qual:Str}{sm:Stmt}{f:Addr}{fd:FuncData}{N ps:%[|0]}{F:Ct}(FF:Fun K x qual sm f fd)(SC:FnScope N ps (ak sm))
 (body:∀(cdv:Value)(A:Around)(outer:List Env)(s:Shared)(H:Hp)(E:XK)(ds:List D)(S:Store)(W:WD),fd.code=cdv->Room k (A.deeper (envOfC qual (ak sm) s.heap.objs.size f cdv))->ds.length=ps.length->F ds S W->
  Rns (bW CX0 P w K mg base N qual (ak sm) f cdv A outer s H E).nox (ds.map some++List.replicate (N.length-ds.length) none) S (bu sm) {nx:=λ _ S1=>W .non S1,rt:=W}):FnOk P w K mg base CX0 (k+1) f fd ps (spC K ps.length F):=by
 obtain⟨oc,od,kV,doc,pm,an,cdv,ct,osl,rfl,lk,hcd⟩:=FF.ex
 refine Nu lk hcd SC (λ vs H Q E h=>?_) λ A outer s H vs Q E hr h=>?_
 . obtain⟨O,ds,S,W,hl,r,_⟩:=h
   rw[r.length,hl]
 . obtain ⟨O,ds,S,W,hl,r,st,hF,q⟩:=h
   have hB:=body cdv A outer s H E ds S W rfl hr hl hF
   suffices key:∃t,PSs (bW CX0 P w K mg base N qual (ak sm) f cdv A outer s H E).nox (bu sm) t/\t {nx:=λ _ H'=>Q .non H',rt:=Q} (L2.start N vs) H from let ⟨t,h,q⟩:=key;⟨t,h.nox,q⟩
   refine⟨λ D σ H'=>∃O Γ S W',EnvOk K O H' σ Γ/\StOk K O H' S/\Rns (bW CX0 P w K mg base N qual (ak sm) f cdv A outer s H E).nox Γ S (bu sm) W'/\(∀σ' H2,QN K O H' W'.nx σ' H2->D.nx σ' H2)/\(∀v H2,QG K O H' W'.rt v H2->D.rt v H2)/\(∀σ' H2,QN K O H' W'.bk σ' H2->D.bk σ' H2)/\∀σ' H2,QN K O H' W'.ct σ' H2->D.ct σ' H2,?_,?_⟩
   . intro pins s σ H' D I ⟨O,Γ,S,W',env,st,b,k1,k2,k3,k4⟩
     refine thn (b pins s σ H' O I env st) λ f s' q=>?_
     cases f with
     | next=>obtain⟨σ',H',I',q⟩:=q;exact⟨σ',H',I',k1 σ' H' q⟩
     | brk=>obtain⟨σ',H',I',q⟩:=q;exact⟨σ',H',I',k3 σ' H' q⟩
     | cont=>obtain⟨σ',H',I',q⟩:=q;exact⟨σ',H',I',k4 σ' H' q⟩
     | ret u=>obtain⟨v,σ',H',I',r,q⟩:=q;exact⟨v,σ',H',I',r,k2 v H' q⟩
   . refine⟨O,_,S,_,?_,st,hB,?_,?_,?_,?_⟩
     . have hv:vs.length=ds.length:=r.length
       refine⟨by simp[L2.start,hv],λ i d h=>?_⟩
       by_cases hi:i<ds.length
       . rw[List.getElem?_append_left (by simpa using hi),x8]at h
         cases e:ds[i]? with
         | none=>rw[e]at h;cases h
         | some d'=>
           rw[e]at h
           cases h
           obtain⟨v,hv',rv⟩:=r.get e
           refine⟨v,?_,rv⟩
           unfold L2.start
           rw[List.getElem?_append_left (by rw[x6,hv];exact hi),x8,hv']
           rfl
       . rw[List.getElem?_append_right (by simpa using hi),List.getElem?_replicate]at h
         split at h<;>cases h
     . rintro σ' H2 ⟨O',Γ',S',w,st',ok',_⟩
       exact q _ _ ⟨O',.non,S',w,st',ok',.non⟩
     . exact λ v H2 z=>q v H2 z
     . rintro σ' H2 ⟨_,_,_,w,_⟩
       exact w.elim
     . rintro σ' H2 ⟨_,_,_,w,_⟩
       exact w.elim
end
end DL
namespace DL
open PySem PySem.Spec L2
open PyProof.Rows
variable {K : PySem.W.Frag} {O : Own} {H : Hp} {s : Shared}
def rk(env:Env)(n:Str)(k:NameKind):NameKind:=if(k==NameKind.free&&env.scope.kind==.function&&env.kindOf n==%[|19])=true then .cell else k
theorem jX(sc:Scope)(env:Env):(relabel sc env).names=sc.names.map λ p=>(p.1,rk env p.1 p.2):=by
 show sc.names.map _=_
 congr 1
 funext p
 obtain⟨n,k⟩:=p
 unfold rk
 by_cases h:(k==NameKind.free&&env.scope.kind==.function&&env.kindOf n==%[|19])=true
 . simp only[h,if_true]
 . simp only[h,if_false,Bool.false_eq_true]
theorem d9(g:Str->NameKind->NameKind)(x:Str):∀names:%[|62],(names.map λ p=>(p.1,g p.1 p.2)).lookup x=(names.lookup x).map (g x)
 | []=>rfl
 | (n,k)::r=>by
   have ih:=d9 g x r
   rw[List.map_cons,List.lookup_cons,List.lookup_cons]
   cases hx:x==n with
   | true=>rw[ZI hx];rfl
   | false=>exact ih
theorem oE(env:Env)(n:Str)(k:NameKind):rk env n k=k∨(k=.free/\rk env n k=.cell):=by
 unfold rk
 by_cases h:(k==NameKind.free&&env.scope.kind==.function&&env.kindOf n==%[|19])=true
 . rw[if_pos h]
   rw[Bool.and_eq_true,Bool.and_eq_true]at h
   exact .inr ⟨ZI h.1.1,rfl⟩
 . rw[if_neg h];exact .inl rfl
theorem jM{env:Env}{sc:Scope}{x:Str}{k:NameKind}(h:(relabel sc env).names.lookup x=some k):∃k0,%[|39]=some k0/\(k=k0∨(k0=.free/\k=.cell)):=by
 rw[jX,d9]at h
 cases e:sc.names.lookup x with
 | none=>rw[e]at h;cases h
 | some k0=>
   rw[e]at h
   have h':rk env x k0=k:=Option.some.inj h
   refine⟨k0,rfl,?_⟩
   rcases oE env x k0 with q | ⟨q1,q2⟩
   . exact .inl (h'.symm.trans q)
   . exact .inr ⟨q1,h'.symm.trans q2⟩
theorem z6{env:Env}{sc:Scope}{x:Str}(h:%[|39]=some .free):(relabel sc env).names.lookup x=%[|19]∨(relabel sc env).names.lookup x=some .free:=by
 rw[jX,d9,h]
 rcases oE env x .free with q | ⟨_,q⟩
 . exact .inr (congrArg some q)
 . exact .inl (congrArg some q)
def closes(env:Env):%[|62]->List (Str×Addr)->List (Str×Addr)
 | [],cs=>cs
 | (n,k)::r,cs=>closes env r (if k==.free then(n,(env.cells.lookup n).getD 0)::cs else cs)
theorem nT{env:Env}:∀(names:%[|62])(cs:List (Str×Addr)),(∀y∈names,y.2=.free->∃c,env.cells.lookup y.1=some c)->
 (forIn (m:=Sem) names cs λ x r=>if(x.2==.free)=true then do let a ←cellOf env x.1;pure (ForInStep.yield ((x.1,a)::r))else pure (ForInStep.yield r))=pure (closes env names cs)
 | [],cs,_=>by rw[List.forIn_nil];rfl
 | (n,k)::r,cs,h=>by
   rw[List.forIn_cons]
   have ih:=λ cs=>nT (env:=env) r cs λ y hy=>h y (w9 _ hy)
   by_cases hk:(k==NameKind.free)=true
   . obtain⟨c,hc⟩:=h (n,k) List.mem_cons_self (ZI hk)
     have hc':env.cells.lookup n=some c:=hc
     have e:cellOf env n=pure c:=by unfold cellOf;rw[hc']
     have q:=ih ((n,c)::cs)
     simp only[hk,if_true,e,pure_bind]
     rw[q]
     simp[closes,hk,hc']
   . have q:=ih cs
     simp only[hk,if_false,pure_bind,Bool.false_eq_true]
     rw[q]
     simp[closes,hk]
theorem gj{env:Env}{sc:Scope}(h:∀y∈sc.names,y.2=.free->∃c,env.cells.lookup y.1=some c):closureFor sc env=pure (closes env sc.names []):=by
 have q:=nT (env:=env) sc.names [] h
 unfold closureFor
 first
  | (simp only[bind_pure];exact q)
  | (rw[show(forIn sc.names ([]:List (Str×Addr)) _:Sem _)=_ from q];rfl)
  | (refine Eq.trans (congrArg (λ t=>t>>=pure) q) ?_;simp)
theorem jz{env:Env}{x:Str}{c:Addr}:∀(names:%[|62])(cs:List (Str×Addr)),(∀y∈names,y.2=.free->∃c,env.cells.lookup y.1=some c)->(∀c,cs.lookup x=some c->env.cells.lookup x=some c)->(closes env names cs).lookup x=some c->env.cells.lookup x=some c
 | [],cs,_,hc,h=>hc c h
 | (n, k)::r,cs,hf,hc,h=>by
   refine jz r _ (λ y hy=>hf y (w9 _ hy)) ?_ h
   intro c' h'
   by_cases hk:(k==NameKind.free)=true
   . rw[if_pos hk]at h'
     obtain⟨c2,h2⟩:=hf (n,k) List.mem_cons_self (ZI hk)
     have h2:env.cells.lookup n=some c2:=h2
     rw[List.lookup_cons]at h'
     cases hx:x==n with
     | true=>
       rw[hx,h2]at h'
       have e:x=n:=ZI hx
       subst e
       simp only[Option.getD_some]at h'
       cases h'
       exact h2
     | false=>rw[hx]at h';exact hc c' h'
   . rw[if_neg hk]at h'
     exact hc c' h'
theorem bR{env:Env}{x:Str}:∀(names:%[|62])(cs:List (Str×Addr)),((∃c,cs.lookup x=some c)∨names.lookup x=some .free)->∃c,(closes env names cs).lookup x=some c
 | [],cs,h=>by
   rcases h with h | h
   . exact h
   . simp at h
 | (n, k)::r,cs,h=>by
   refine bR r _ ?_
   rcases h with⟨c,h⟩ | h
   . refine .inl ?_
     by_cases hk:(k==NameKind.free)=true
     . rw[if_pos hk,List.lookup_cons]
       cases hx:x==n with
       | true=>exact%[|24]
       | false=>exact⟨c,h⟩
     . rw[if_neg hk];exact⟨c,h⟩
   . rw[List.lookup_cons]at h
     cases hx:x==n with
     | true=>
       rw[hx]at h
       simp only at h
       cases h
       refine .inl ⟨(env.cells.lookup n).getD 0,?_⟩
       simp[List.lookup_cons,hx]
     | false=>rw[hx]at h;exact .inr h
def bz(X:Cx)(sc:Scope)(N:%[|0])(C:Addr)(s:Shared)(H:Hp)(ex:List Addr)(cl:List (Str×Addr)):Cx:=
 {X with N:=N,s₀:=s,H₀:=H,env:=compEnvC sc cl C X.env,outer:=X.stack,stack:=X.stack,ex:=ex,fn:=λ x=>%[|39]==%[|19],pn:=[]}
def capt{α:Type}(cap:%[|32])(xs:List (Option α)):List (Option α):=cap.map λ o=>o.bind λ j=>(xs[j]?).join
def aN(N:%[|0])(names:%[|62])(N':%[|0])(names':%[|62]):%[|32]->%[|0]->Bool
 | [],[]=>true
 | none::r,_::t=>aN N names N' names' r t
 | some j::r,x::t=>(N[j]? ==some x)&&(names.lookup x==%[|19]||names.lookup x==some .free)&&(names'.lookup x==some .free)&&aN N names N' names' r t
 | _,_=>false
theorem lZ{N:%[|0]}{names:%[|62]}{N':%[|0]}{names':%[|62]}:∀{cap:%[|32]}{t:%[|0]},aN N names N' names' cap t=true->cap.length=t.length
 | [],[],_=>rfl
 | [],_::_,h=>by simp[aN]at h
 | _::_,[],h=>by
   rename_i o r
   cases o<;>simp[aN]at h
 | none::r,_::t,h=>by simp only[aN]at h;simp[lZ h]
 | some j::r,x::t,h=>by
   simp only[aN,Bool.and_eq_true]at h
   simp[lZ h.2]
theorem nZ{N:%[|0]}{names:%[|62]}{N':%[|0]}{names':%[|62]}:∀{cap:%[|32]}{t:%[|0]}{i j:Nat},aN N names N' names' cap t=true->cap[i]? =some (some j)->
 ∃x,t[i]? =some x/\N[j]? =some x/\(names.lookup x=%[|19]∨names.lookup x=some .free)/\names'.lookup x=some .free
 | [],_,_,_,_,h=>by simp at h
 | none::r,[],_,_,h,_=>by simp[aN]at h
 | some _::r,[],_,_,h,_=>by simp[aN]at h
 | none::r,x::t,0,j,_,h=>by simp at h
 | none::r,x::t,i+1,j,h,e=>by
   simp only[aN]at h
   obtain⟨y,a,b⟩:=nZ (i:=i) h (by simpa using e)
   exact⟨y,by simpa using a,b⟩
 | some k::r,x::t,0,j,h,e=>by
   simp only[aN,Bool.and_eq_true,Bool.or_eq_true,beq_iff_eq]at h
   simp at e
   subst e
   exact⟨x,rfl,h.1.1.1,h.1.1.2,h.1.2⟩
 | some k::r,x::t,i+1,j,h,e=>by
   simp only[aN,Bool.and_eq_true]at h
   obtain⟨y,a,b⟩:=nZ (i:=i) h.2 (by simpa using e)
   exact⟨y,by simpa using a,b⟩
theorem DW{α:Type}{cap:%[|32]}{xs:List (Option α)}{i:Nat}{d:α}(h:(capt cap xs)[i]? =some (some d)):∃j,cap[i]? =some (some j)/\xs[j]? =some (some d):=by
 unfold capt at h
 rw[x8]at h
 cases e:cap[i]? with
 | none=>rw[e]at h;cases h
 | some o=>
   rw[e]at h
   cases o with
   | none=>simp at h
   | some j=>
     simp at h
     refine⟨j,rfl,?_⟩
     cases q:xs[j]? with
     | none=>rw[q]at h;cases h
     | some z=>rw[q]at h;simp at h;rw[h]
theorem EnvOk.capt{σ:St}{Γ:Gam}(e:EnvOk K O H σ Γ)(cap:%[|32]):EnvOk K O H (capt cap σ) (capt cap Γ):=by
 refine⟨by simp[DL.capt],λ i d h=>?_⟩
 obtain⟨j,hj,hd⟩:=DW h
 obtain⟨v,hv,r⟩:=e.at_ j d hd
 refine⟨v,?_,r⟩
 unfold DL.capt
 rw[x8,hj]
 simp[hv]
def Sub(Γ Γ':Gam):Prop:=Γ.length=Γ'.length/\∀(i:Nat)(d:D),Γ[i]? =some (some d)->Γ'[i]? =some (some d)
theorem Sub.refl(Γ:Gam):Sub Γ Γ:=⟨rfl,λ _ _ h=>h⟩
theorem Sub.set{Γ Γ':Gam}(s:Sub Γ Γ')(i:Nat)(d:Option D)(h:Γ[i]? =some none:=by rfl):Sub Γ (Γ'.set i d):=⟨by rw[List.length_set];exact s.1,λ j c hj=>by
 have ne:i≠j:=λ e=>by subst e;rw[h]at hj;cases hj
 rw[List.getElem?_set_ne ne];exact s.2 j c hj⟩
theorem EnvOk.sub{σ:St}{Γ Γ':Gam}(e:EnvOk K O H σ Γ')(s:Sub Γ Γ'):EnvOk K O H σ Γ:=⟨e.len.trans s.1.symm,λ i d h=>e.at_ i d (s.2 i d h)⟩
theorem EnvOk.conv{O':Own}{H':Hp}{σ:St}{Γ:Gam}(e:EnvOk K O H σ Γ)(s:Conv O O' H H'):EnvOk K O' H' σ Γ:=
 ⟨e.len,λ i d h=>let ⟨v,a,b⟩:=e.at_ i d h;⟨v,a,b.conv s⟩⟩
def freeOk(names names':%[|62]):Bool:=names'.all λ y=>!(y.2==.free)||(names.lookup y.1==%[|19]||names.lookup y.1==some .free)
theorem jf{names names':%[|62]}(h:freeOk names names'=true):∀y∈names',y.2=.free->names.lookup y.1=%[|19]∨names.lookup y.1=some .free:=λ y hy e=>by
 have q:=List.all_eq_true.mp h y hy
 simp only[e,beq_self_eq_true,Bool.not_true,Bool.false_or,Bool.or_eq_true,beq_iff_eq]at q
 exact q
def lg(names:%[|62]):Bool:=match names.filter (λ y=>y.2==.cell)with
 | []=>true
 | [y]=>names.lookup y.1==%[|19]
 | _=>false
theorem oK{names:%[|62]}(h:names.filter (λ y=>y.2==.cell)=[])(n:Nat)(acc:List (Str×Addr))(hp:Heap):cellsFrom n names acc=acc/\pushCells hp names=hp:=by
 induction names with
 | nil=>exact⟨rfl,rfl⟩
 | cons y r ih=>
   obtain⟨x,k⟩:=y
   rw[List.filter_cons]at h
   by_cases hk:(k==NameKind.cell)=true
   . rw[if_pos hk]at h;cases h
   . rw[if_neg hk]at h
     obtain⟨i1,i2⟩:=ih h
     unfold cellsFrom pushCells
     rw[if_neg hk,if_neg hk]
     exact⟨i1,i2⟩
theorem ji{names:%[|62]}{t:Str×NameKind}(h:names.filter (λ y=>y.2==.cell)=[t])(n:Nat)(acc:List (Str×Addr))(hp:Heap):cellsFrom n names acc=(t.1,n)::acc/\pushCells hp names=hp.push {cls:=.type "cell",data:=.cell none}:=by
 induction names with
 | nil=>cases h
 | cons y r ih=>
   obtain⟨x,k⟩:=y
   rw[List.filter_cons]at h
   by_cases hk:(k==NameKind.cell)=true
   . rw[if_pos hk]at h
     have e:=List.cons.inj h
     obtain⟨i1,i2⟩:=oK e.2 (n+1) ((x,n)::acc) (hp.push {cls:=.type "cell",data:=.cell none})
     unfold cellsFrom pushCells
     rw[if_pos hk,if_pos hk,i1,i2,←e.1]
     exact⟨rfl,rfl⟩
   . rw[if_neg hk]at h
     obtain⟨i1,i2⟩:=ih h
     unfold cellsFrom pushCells
     rw[if_neg hk,if_neg hk]
     exact⟨i1,i2⟩
theorem Dl{M:Model}{A:Around}{E:%[|16]}{scope:Scope}{globals:Addr}{closure:List (Str×Addr)}{qual:Str}{outer:Env}{Q:Env->Shared->Prop}
 (hQ:Q (newEnv scope s.heap.objs.size globals (cellsFrom (s.heap.objs.size+1) scope.names closure) qual none .none (some outer) builtinsNs) {s with heap:=pushCells (s.heap.push {cls:=.type "dict",data:=.dict #[]}) scope.names}):
 wpAny M A (newFunctionEnv scope globals closure [] qual none .none (some outer)) Q E s:=by
 simp only[newFunctionEnv,Option.isSome_some,if_true]
 refine ZA (wpAny_alloc ?_)
 refine ZA (wpAny_layCells _ (λ name kind cells=>by cases hkc:kind==NameKind.cell<;>simp[hkc]) _ _ _ _ ?_)
 rw[show({s with heap:=s.heap.push {cls:=.type "dict",data:=.dict #[]}}:Shared).heap.objs.size=s.heap.objs.size+1 from Heap.size_push ..]
 rw[List.forIn_nil]
 exact ZA (ZB (ZB hQ))
structure CelsB(X:Cx)(sc:Scope)(cl:List (Str×Addr))(z:Nat)(h1:Heap):Prop where
 lk:∀x c,cl.lookup x=some c->%[|53]∨(c=z/\%[|39]=%[|19]/\h1.IsCell c none/\∀y,cl.lookup y=some c->y=x)
 has:∀x,%[|39]=%[|19]∨%[|39]=some .free->∃c,cl.lookup x=some c
 cp:∀x c,%[|39]=some .free->%[|53]->cl.lookup x=some c
 ow:∀x c,%[|39]=%[|19]->cl.lookup x=some c->z≤c
section
variable {X : Cx}
theorem Df{pins:Pins}{σ:St}{sc:Scope}{N':%[|0]}{cap:%[|32]}{fp:List Addr}{h1:Heap}{t:Nat}(I:%[|4])(hfp:∀b∈fp,cW X pins H b)(hob:∀b∈fp,∃o,%[|56])
 {cl:List (Str×Addr)}(hkind:sc.kind=.function)(hcl:CelsB X sc cl (s.heap.objs.size+2) h1)(hfree:∀y∈sc.names,y.2=.free->X.env.kindOf y.1=%[|19]∨X.env.kindOf y.1=some .free)(hcap:aN X.N X.env.scope.names N' sc.names cap N'=true)
 (k:∀b u,s.heap.get? b=some u->h1.get? b=some u)(hD:h1.get? s.heap.objs.size=some {cls:=.type "list",data:=.seq #[] 0})(hC:∃m,h1.Ns (s.heap.objs.size+1) m):
 Inv (bz X sc N' (s.heap.objs.size+1) s H fp cl) [] (capt cap σ) (upd H s.heap.objs.size (.lst [])) {s with heap:=h1,toks:=t}:=by
 have fr0:H s.heap.objs.size=none:=I.hok.fresh (x9 _)
 have fr1:H (s.heap.objs.size+1)=none:=I.hok.fresh (Nat.le_succ _)
 have fr2:H (s.heap.objs.size+2)=none:=I.hok.fresh %[|1]
 have lt:∀b∈fp,b<s.heap.objs.size:=λ b hb=>let ⟨o,e⟩:=hob b hb;%[|37]
 have clt:∀{x c},%[|53]->c<s.heap.objs.size:=λ{x c} h=>by
  obtain⟨v,q⟩:=I.cell x c h
  exact q.lt
 refine⟨⟨I.ok.mod,hkind,I.ok.glob,I.ok.blt,Nat.le_succ _,λ x y c a b=>?_,λ x hx=>?_,λ x c z e=>?_,I.ok.hd,I.ok.frames,.inl rfl,λ b hb=>⟨ZN (Nat.lt_succ_of_lt (lt b hb)),λ x c h=>?_⟩,
  I.bs,Nat.le_trans I.ok.bsz I.sz,λ b o e hb=>?_,λ b hb z=>?_,I.stack,I.stkFree⟩,rfl,I.bare,Un.laid k (x9 _) fr0,?_,λ x c h=>?_,?_,λ x c h=>?_,λ p hp=>absurd (show p∈([]:Pins)from hp) (by simp),I.hok.laid k (x9 _) ⟨Nat.zero_le _,[],0,.nil,hD⟩,?_⟩
 . rcases hcl.lk x c a with q | ⟨_,_,_,q⟩
   . rcases hcl.lk y c b with q' | ⟨_,_,_,q'⟩
     . exact I.ok.inj x y c q q'
     . exact q' x a
   . exact(q y b).symm
 . have hx':(relabel sc X.env).names.lookup x=%[|19]∨(relabel sc X.env).names.lookup x=some .free:=hx
   have z:%[|39]=%[|19]∨%[|39]=some .free:=by
    rcases hx' with q | q
    . obtain⟨k0,e,r⟩:=jM q
      rcases r with r | r
      . exact .inl (by rw[e,r])
      . exact .inr (by rw[e,r.1])
    . obtain⟨k0,e,r⟩:=jM q
      rcases r with r | r
      . exact .inr (by rw[e,r])
      . exact absurd r.2 %[|2]
   exact hcl.has x z
 . have z':%[|39]=%[|19]:=ZI z
   have:=hcl.ow x c z' e
   show s.heap.objs.size≤c
   omega
 . rcases hcl.lk x c h with q | ⟨q,_⟩
   . exact(hfp b hb).2.2.2.2.1 x c q
   . exact λ e=>Nat.lt_irrefl _ (ZM (lt b hb) (by rw[←e,q];exact Nat.le_add_right _ _))
 . rcases(hfp b hb).2.2.2.1 with z | z
   . exact I.ok.noex b o e z
   . exact absurd (ZM %[|37] (Nat.le_trans I.ok.bsz z)) (Nat.lt_irrefl _)
 . rcases ZJ.mp (I.stkSub b z)with q | q
   . exact(hfp b hb).2.1 q
   . exact(hfp b hb).2.2.1 q
 . obtain⟨m,hm⟩:=hC
   refine⟨m,hm,λ i x v e1 e2 e3=>?_⟩
   obtain⟨j,hj,hv⟩:=DW e2
   obtain⟨y,a,b,c,d⟩:=nZ hcap hj
   have e1':N'[i]? =some x:=e1
   rw[a]at e1'
   cases e1'
   obtain⟨m0,hn0,hl⟩:=I.loc
   have vis:Vis X.env.scope x:=by
    rcases c with c | c
    . exact .inr (.inl c)
    . exact .inr (.inr c)
   obtain⟨u,r,l⟩:=hl j x v b hv vis
   refine⟨u,r,?_⟩
   rcases l with⟨q,_⟩ | ⟨q,cc,hc,hcell'⟩
   . exfalso
     have q':X.env.scope.names.lookup x=some .local:=q
     rcases c with c | c<;>· rw[c]at q';cases q'
   . have h2:=hcl.cp x cc d hc
     obtain⟨o,ho,hd⟩:=hcell'
     refine .inr ⟨?_,cc,h2,⟨o,k _ _ ho,hd⟩⟩
     exact z6 d
 . rcases hcl.lk x c h with q | ⟨_,_,q,_⟩
   . obtain⟨v,o,ho,hd⟩:=I.cell x c q
     exact⟨v,o,k _ _ ho,hd⟩
   . exact⟨_,q⟩
 . show upd H s.heap.objs.size (.lst []) (s.heap.objs.size+1)=none
   rw[aj (Nat.succ_ne_self _)];exact fr1
 . rcases hcl.lk x c h with q | ⟨q,_⟩
   . rw[aj (ZN (clt q))];exact I.freeC x c q
   . subst q
     rw[aj (Nat.ne_of_gt (Nat.lt_add_of_pos_right %[|2]))];exact fr2
 . show(capt cap σ).length=N'.length
   rw[←lZ hcap]
   simp[capt]
theorem iJ{α:Type}{t:Sem α}{Q:α->Shared->Prop}{M:Model}{A:Around}{E E':%[|16]}(hx:E=%[|25])(h:wpAny M A t Q E s):wpAny M A t Q E' s:=wpAny_mono h (λ _ _ q=>q) λ _ _ z=>by rw[hx]at z;exact z.elim
def TsA(X:Cx)(Γ:Gam)(S:Store):%[|12]->%[|28]->Prop
 | [],W=>W true S
 | [c],W=>Ts X Γ S c W
 | _,_=>False
theorem Dr{X:Cx}{Γ:Gam}{S:Store}{ifs:%[|12]}{W:%[|28]}(h:TsA X Γ S ifs W){pins:Pins}{s:Shared}{σ:St}{H:Hp}{O:Own}(I:%[|4])(env:%[|35])(st:%[|23]):
 wpAny %[|9] X.A (forIn ifs true λ c r=>if r=true then do let ok ←isTrue c X.env (eval c X.env);pure (ForInStep.yield ok)else pure (ForInStep.yield r)) (TP X pins σ (QT X.K O H W)) X.xe s:=by
 match ifs,h with
 | [],h=>exact wpAny_tests_nil ⟨H,I,O,S,h,Step.refl O H,st⟩
 | [c],h=>exact wpAny_tests_one %[|45]
 | _::_::_,h=>exact h.elim
def t7(K:PySem.W.Frag)(J:It)(O:Own)(H:Hp)(C:%[|13])(ds:List D):Prop:=
 ∀(O':Own)(H':Hp)(S':Store),Conv O O' H H'->StOk K O' H' S'->C S'->∀i:Nat,(∀d,%[|33]->J.go i H'/\∀x H'',J.yld i H' x H''->aQ H' H''/\Rep K O' H'' x d)/\(i=ds.length->J.stop i H')
def QIc(K:PySem.W.Frag)(O:Own)(H:Hp)(W:List D->%[|13]->%[|13]):It->Hp->Prop:=λ J H'=>∃O' ds C S',W ds C S'/\Step O O' H H'/\StOk K O' H' S'/\t7 K J O' H' C ds
def ItC(X:Cx)(Γ:Gam)(S:Store)(tg iter:Expr)(W:List D->%[|13]->%[|13]):Prop:=
 ∀ (pins:Pins)(s:Shared)(σ:St)(H:Hp)(O:Own),%[|4]->%[|35]->%[|23]->
   wpAny %[|9] X.A (eval iter X.env) (λ v s1=>wpAny %[|9] X.A (pyIter v) (PIE X pins σ tg (QIc X.K O H W)) X.xe s1) X.xe s
theorem pD{J:It}{ds:List D}(y:fW K J O H ds):t7 K J O H (λ _=>True) ds:=λ O' H' S' st ok _ i=>y O' H' st (λ a ha=>ok.tracked ha) i
theorem ItW.toC{X:Cx}{Γ:Gam}{S:Store}{tg iter:Expr}{W:List D->%[|13]->%[|13]}(h:ItW X Γ S tg iter λ ds S1=>W ds (λ _=>True) S1):ItC X Γ S tg iter W:=λ pins s σ H O I env st=>
 thn %[|45] λ _ _ q=>thn q λ _ _ hq_=>by
  obtain⟨it,fp,tn,J,H',e1,e2,e3,e4,e5,O',ds,S',w,z1,z2,z3⟩:=hq_
  exact⟨it,fp,tn,J,H',e1,e2,e3,e4,e5,O',ds,_,S',w,z1,z2,pD z3⟩
abbrev yo(X:Cx)(sc:Scope)(N':%[|0])(cap:%[|32])(Γ:Gam)(elt tg:Expr)(ifs:%[|12])(W:WD):List D->%[|13]->%[|13]:=λ ds C0 S1=>
 %[|60]/\∃Pv:Nat->%[|31],Pv 0 [] S1/\(∀i acc S',Pv i acc S'->C0 S')/\
  (∀i d acc S',%[|33]->Pv i acc S'->∀(C:Addr)(s:Shared)(H:Hp)(ex:List Addr)(cl:List (Str×Addr)),BdW (bz X sc N' C s H ex cl) tg d (capt cap Γ) S' λ Γ2 S2=>Sub (capt cap Γ) Γ2/\
   TsA (bz X sc N' C s H ex cl) Γ2 S2 ifs λ ok S3=>(ok=true->Ev (bz X sc N' C s H ex cl) Γ2 S3 elt %[|74])/\(ok=false->Pv (i+1) acc S3))/\
  ∀acc S',Pv ds.length acc S'->W (.lst acc) S'∨W (.loc S'.length) (S'++[acc])
theorem vh{Γ:Gam}{S:Store}{elt tg iter:Expr}{ifs:%[|12]}{sc:Scope}{cpos:Pos}{N':%[|0]}{cap:%[|32]}{W:WD}{E:%[|16]}{pins:Pins}{σ:St}
 {RR:Value->Addr->Result->Shared->Prop}
 (hx:X.xe=%[|25])(hc:X.calm=true)(hkind:sc.kind=.function)(hcell:lg sc.names=true)(hfree:∀y∈sc.names,y.2=.free->X.env.kindOf y.1=%[|19]∨X.env.kindOf y.1=some .free)
 (hcap:aN X.N X.env.scope.names N' sc.names cap N'=true)(h:ItC X Γ S tg iter (yo X sc N' cap Γ elt tg ifs W))(I:%[|4])(env:%[|35])(st:%[|23])
 (fin:∀(s':Shared)(Hc:Hp)(D0 C:Addr)(m:%[|22]),Inv X pins σ Hc s'->s'.heap.Ns C m->cW X pins Hc C->D0≠C->QG X.K O H W (.ref D0) Hc->RR (.ref D0) C (.ok .next) s'):
 wpAny %[|9] X.A (eval iter X.env) (λ x s₁=>wpAny %[|9] X.A (pyIter x) (λ it s₂=>wpAny %[|9] X.A (newList []) (λ acc s₃=>
  wpAny %[|9] X.A (newFunctionEnv sc X.env.globals %[|64] [] X.env.qual none .none (some X.env)) (λ cenv s₄=>
   codeAny %[|9] X.A (.compStart (.ListComp elt [⟨tg,iter,ifs,0⟩] sc cpos) 0 it acc {cenv with scope:=relabel sc X.env}) (RR acc cenv.locals) s₄) E s₃) E s₂) E s₁) E s:=by
 refine thn (iJ hx %[|45]) λ xv s1 h1=>thn (iJ hx h1) λ itv s2 h2=>?_
 obtain⟨it,fp,tn,J,H2,e,I2,T,st2,f2,O2,ds,C0,S2,⟨hz,Pv,p0,pC,pt,pe⟩,stp,ok2,yl⟩:=h2
 subst e
 refine wpAny_newObj_type (Dl ?_)
 dsimp only
 have hD0:H2 s2.heap.objs.size=none:=I2.hok.fresh (x9 _)
 have hsz:%[|73].objs.size=%[|44]:=Heap.size_push ..
 rw[hsz]
 have ns0:=Heap.Ns.new %[|73] (.type "dict")
 rw[hsz]at ns0
 obtain⟨cl,hcleq⟩:∃cl,cellsFrom (%[|44]+1) sc.names %[|64]=cl:=%[|24]
 obtain⟨h₁,hh1⟩:∃h₁,pushCells (%[|73].push {cls:=.type "dict",data:=.dict #[]}) sc.names=h₁:=%[|24]
 have hns₁:h₁.Ns %[|44] (λ _=>none):=by rw[←hh1];exact ns0.keeps (pushCells_keeps _ _)
 have kp0:∀b u,%[|73].get? b=some u->h₁.get? b=some u:=λ b u e=>by rw[←hh1];exact pushCells_keeps _ _ b u (ZC _ e)
 have kp:∀b u,s2.heap.get? b=some u->h₁.get? b=some u:=λ b u e=>kp0 b u (ZC _ e)
 have hD1:h₁.get? s2.heap.objs.size=some {cls:=.type "list",data:=.seq #[] 0}:=kp0 _ _ %[|34]
 have hf:∀y∈sc.names,y.2=.free->∃c,X.env.cells.lookup y.1=some c:=λ y hy e=>I.ok.has y.1 (hfree y hy e)
 have hcl :CelsB X sc cl (s2.heap.objs.size+2) h₁:=by
  have look:∀{x c},%[|64].lookup x=some c->%[|53]:=λ{x c} h=>jz sc.names [] hf (λ c h=>by simp at h) h
  have cpy:∀x c,%[|39]=some .free->%[|53]->%[|64].lookup x=some c:=λ x c d hc=>by
   obtain⟨c2,h2⟩:=bR (env:=X.env) sc.names [] (.inr d)
   have e:=look h2
   rw[hc]at e
   cases e
   exact h2
  unfold lg at hcell
  split at hcell
  . rename_i hfl
    have e1:=(oK hfl (%[|44]+1) %[|64] s2.heap).1
    rw[hcleq]at e1
    have no:∀x,%[|39]≠%[|19]:=λ x z=>by
     have:(x,NameKind.cell)∈sc.names.filter (λ y=>y.2==.cell):=List.mem_filter.mpr ⟨PySem.mem_of_lookup z,rfl⟩
     rw[hfl]at this
     cases this
    rw[e1]
    exact⟨λ x c h=>.inl (look h),λ x hx=>hx.elim (λ z=>absurd z (no x)) λ z=>bR sc.names [] (.inr z),cpy,λ x c z=>absurd z (no x)⟩
  . rename_i y hfl
    have hy:sc.names.lookup y.1=%[|19]:=ZI hcell
    obtain⟨e1,_⟩:=ji hfl (%[|44]+1) %[|64] s2.heap
    rw[hcleq]at e1
    have e2:=(ji hfl 0 [] (%[|73].push {cls:=.type "dict",data:=.dict #[]})).2
    rw[hh1]at e2
    have e3:(%[|73].push {cls:=.type "dict",data:=.dict #[]}).objs.size=s2.heap.objs.size+2:=by rw[Heap.size_push,hsz]
    have cel:h₁.IsCell (s2.heap.objs.size+2) none:=by
     rw[e2,←e3]
     exact⟨_,%[|34],rfl⟩
    have only:∀x,%[|39]=%[|19]->x=y.1:=λ x z=>by
     have:(x,NameKind.cell)∈sc.names.filter (λ y=>y.2==.cell):=List.mem_filter.mpr ⟨PySem.mem_of_lookup z,rfl⟩
     rw[hfl]at this
     have:=ZL.mp this
     rw[←this]
    have lt0:∀{x c},%[|64].lookup x=some c->c<s2.heap.objs.size:=λ{x c} h=>by
     obtain⟨v,q⟩:=I2.cell x c (look h)
     exact q.lt
    have lk2:∀x,cl.lookup x=if x=y.1 then some (%[|44]+1)else%[|64].lookup x:=λ x=>by
     rw[e1,List.lookup_cons]
     by_cases z:x=y.1
     . subst z;simp
     . rw[if_neg z,beq_eq_false_iff_ne.mpr z]
    refine⟨λ x c h=>?_,λ x hx=>?_,λ x c d hc=>?_,λ x c z h=>?_⟩
    . rw [lk2]at h
      by_cases z:x=y.1
      . rw[if_pos z]at h
        cases h
        refine .inr ⟨rfl,by rw[z];exact hy,cel,λ u hu=>?_⟩
        rw[lk2]at hu
        by_cases z2:u=y.1
        . rw[z2,z]
        . rw[if_neg z2]at hu
          exact(Nat.lt_irrefl _ (Nat.lt_of_le_of_lt (Nat.le_add_right _ 2) (lt0 hu))).elim
      . rw[if_neg z]at h
        exact .inl (look h)
    . rw[lk2]
      by_cases z:x=y.1
      . exact⟨_,if_pos z⟩
      . rw[if_neg z]
        exact hx.elim (λ q=>absurd (only x q) z) λ q=>bR sc.names [] (.inr q)
    . rw[lk2,if_neg (λ z=>by rw[z,hy]at d;cases d)]
      exact cpy x c d hc
    . rw[lk2,if_pos (only x z)]at h
      cases h
      exact x9 _
  . cases hcell
 rw[hcleq,hh1]
 have hob:∀b∈fp,∃o,s2.heap.get? b=some o:=λ b hb=>let ⟨o,e,_⟩:=T.obj _ _ st2 b hb;⟨o,e⟩
 have I4:=Df (t:=s2.toks) (h1:=h₁) I2 f2 hob hkind hcl hfree hcap kp hD1 ⟨_,hns₁⟩
 generalize hX':bz X sc N' %[|44] s2 H2 fp cl=X' at I4
 have pt':=λ i d acc S' a b=>pt i d acc S' a b %[|44] s2 H2 fp cl
 rw[hX']at pt'
 have eP:X'.prog=X.prog:=%[|49]
 have ew:X'.w=X.w:=%[|49]
 have eK:X'.K=X.K:=%[|49]
 have eA:X'.A=X.A:=%[|49]
 have ec:X'.calm=true:=by rw[←hX'];exact hc
 have ex':X'.xe=%[|25]:=by rw[←hX'];exact hx
 have eenv:X'.env=compEnvC sc cl %[|44] X.env:=%[|49]
 have eex:X'.ex=fp:=%[|49]
 have eout:X'.outer=X.stack:=%[|49]
 have es0:X'.s₀=s2:=%[|49]
 have eH0:X'.H₀=H2:=%[|49]
 have epn:X'.pn=[]:=%[|49]
 have stat:∀{H':Hp},(∀b∈fp,H' b=none)->∀b∈fp,cW X' [] H' b:=λ hn b hb=>by
  refine⟨hn b hb,(I4.ok.exf b (by rw[eex];exact hb)).1,I4.ok.exfs b (by rw[eex];exact hb),.inl (by rw[eex];exact hb),(I4.ok.exf b (by rw[eex];exact hb)).2,λ p hp=>?_⟩
  rw[epn]at hp
  exact absurd hp (by simp)
 have loop:∀s₃:Shared,s₃={s2 with heap:=h₁}->
  codeAny %[|9] X.A (.compLoop (.ListComp elt [⟨tg,iter,ifs,0⟩] sc cpos) 0 (.ref it) (.ref s2.heap.objs.size) (compEnvC sc cl %[|44] X.env))
   (RR (.ref s2.heap.objs.size) %[|44]) s₃:=by
  intro s₃ es
  rw[←eenv]
  refine codeAny_loop rfl (λ n s'=>∃i acc xs Hc Ac Sc σc,n=ds.length-i/\i≤ds.length/\Inv X' [] σc Hc s'/\tn i s'.heap/\(∀b∈fp,Hc b=none)/\Pv i acc Sc/\Hc s2.heap.objs.size=some (.lst xs)/\xs.length≤i/\
   Reps X.K %[|40] Hc xs acc/\Step O2 ⟨Ac,O2.B⟩ H2 Hc/\StOk X.K %[|40] Hc Sc/\EnvOk X.K %[|40] Hc σc (capt cap Γ)) ?_ ds.length ?_
  . rintro n s' ⟨i,acc,xs,Hc,Ac,Sc,σc,rfl,hi,Ic,stc,frc,pc,hxs,hxl,rc,sc',okc,envc⟩
    show wpAny _ _ ((compTurn (.ListComp elt [⟨tg,iter,ifs,0⟩] sc cpos) 0 (.ref it) (.ref s2.heap.objs.size) X'.env).onRaise (λ x=>do noteFrame x X'.env;theTreesLotGoes x)) _ _ s'
    refine wpAny_noted ?_
    rw[compTurn_list]
    refine ZA (wpAny_standAt (ZA ?_))
    have cv:Conv O2 %[|40] H2 Hc:=by
     refine⟨λ a u n t=>?_,sc'.conv.lc⟩
     obtain⟨x1,x2⟩:=sc'.conv.tr a u n t
     refine⟨λ z=>?_,x2⟩
     rcases z with z | z
     . exact x1 (.inl z)
     . rcases ZJ.mp z with z | z
       . subst z;rw[hD0]at t;cases t
       . exact x1 (.inr z)
    obtain⟨y1,y2⟩:=yl _ _ _ cv okc (pC _ _ _ pc) i
    by_cases hlt:i<ds.length
    . obtain⟨go,yy⟩:=y1 ds[i] (y8 hlt)
      have it1:=T.item X' eP ew eK ec i [] s' σc Hc %[|25] Ic (stat frc) stc go
      rw[eA]at it1
      refine wpAny_mono it1 (λ r s3 hq_=>?_) %[|30]
      obtain⟨u,hr,h3⟩:=hq_
      subst hr
      refine ZA (wpAny_mono h3 (λ _ s5 hq_=>?_) %[|30])
      obtain⟨x,H5,I5,r5,y5,st5,fr5⟩:=hq_
      obtain⟨sm,rx⟩:=yy x H5 y5
      have I5':=I5.pinned (stat fr5) (T.obj _ _ st5)
      have st35:=Step.same (O:=%[|40]) sm
      have bd:=pt' i ds[i] acc Sc (y8 hlt) pc _ s5 σc H5 %[|40] x u I5' (by rw[eK];exact envc.mono st35) (by rw[eK];exact okc.same sm) (by rw[eK];exact rx) r5
      rw[eP,ew,eA]at bd
      refine ZA (wpAny_mono (iJ (E':=%[|25]) ex' bd) (λ _ s6 hq_=>?_) %[|30])
      obtain⟨σ6,H6,I6,O6,Γ6,S6,⟨sub6,w6⟩,st6,ok6,env6⟩:=hq_
      have tst:=Dr w6 I6 env6 ok6
      rw[eP,ew,eA]at tst
      refine ZA (wpAny_mono (iJ (E':=%[|25]) ex' tst) (λ ok s7 hq_=>?_) %[|30])
      obtain⟨H7,I7,O7,S7,w7,st7,ok7⟩:=hq_
      have st57:Step %[|40] O7 Hc H7:=st35.trans (st6.trans st7)
      have eB7:O7.B=%[|78]:=st57.hid
      have next:∀(s9:Shared)(H8:Hp)(O8:Own)(S8:Store)(ys:List V)(acc':List D),Step %[|40] O8 Hc H8->
       StOk X.K O8 H8 S8->EnvOk X.K O8 H8 σ6 (capt cap Γ)->Pv (i+1) acc' S8->Inv X' ([]++jO fp s5.heap) σ6 (upd H8 s2.heap.objs.size (.lst ys)) s9->Reps X.K O8 H8 ys acc'->ys.length≤i+1->
       ∃ m,m<ds.length-i/\∃i acc xs Hc Ac Sc σc,m=ds.length-i/\i≤ds.length/\Inv X' [] σc Hc s9/\tn i s9.heap/\(∀b∈fp,Hc b=none)/\Pv i acc Sc/\Hc s2.heap.objs.size=some (.lst xs)/\xs.length≤i/\
         Reps X.K %[|40] Hc xs acc/\Step O2 ⟨Ac,O2.B⟩ H2 Hc/\StOk X.K %[|40] Hc Sc/\EnvOk X.K %[|40] Hc σc (capt cap Γ):=by
       intro s9 H8 O8 S8 ys acc' st8 ok8 env8 p8 I8 r8 hl8
       have eB:O8.B=%[|78]:=st8.hid
       obtain⟨A8,B8⟩:=O8
       have eB':B8=%[|78]:=eB
       subst eB'
       have mem:s2.heap.objs.size∈(⟨A8,%[|78]⟩:Own).B:=List.mem_cons_self
       refine⟨ds.length-(i+1),%[|1],i+1,acc',ys,_,A8,S8,σ6,rfl,hlt,I8.unpinned,T.keep _ _ _ st5 λ b hb o e=>(I8.pin (b,o) (List.mem_append_right _ (List.mem_append_right _ (cP hb e)))).1,λ b hb=>?_,p8,aB,hl8,
        r8.conv (Conv.updHid mem _),sc'.inner st8 hD0 _,ok8.updHid mem _,env8.conv (Conv.updHid mem _)⟩
       obtain⟨o,e,d⟩:=T.obj _ _ st5 b hb
       exact(I8.pin (b,o) (List.mem_append_right _ (List.mem_append_right _ (cP hb e)))).2.1
      rw[eK]at ok7 env6 ok6
      have hid:∀{O':Own}{H':Hp}{S':Store},Step %[|40] O' Hc H'->H' s2.heap.objs.size=some (.lst xs):=λ st'=>
       st'.kept _ _ (λ z=>okc.apart _ z List.mem_cons_self) hxs
      cases ok with
      | false=>
        refine ZB ⟨rfl,?_⟩
        have hx7:=hid (S':=S7) st57
        have eq7:upd H7 s2.heap.objs.size (.lst xs)=H7:=by
         funext b
         by_cases hb:b=s2.heap.objs.size
         . subst hb;rw[aB];exact hx7.symm
         . exact aj hb
        exact next s7 H7 O7 S7 xs acc st57 ok7 ((env6.mono st7).sub sub6) (w7.2 rfl) (by rw[eq7];exact I7) (rc.mono st57) (Nat.le_succ_of_le hxl)
      | true=>
        have el:=w7.1 rfl _ s7 σ6 H7 O7 I7 (by rw[eK];exact env6.mono st7) (by rw[eK];exact ok7)
        rw[eP,ew,eA]at el
        refine ZA (ZA (wpAny_mono (iJ (E':=%[|25]) ex' el) (λ xe s8 hq_=>?_) %[|30]))
        obtain⟨v8,H8,I8,r8,O8,y,S8,w8,st8,ok8,rep8⟩:=hq_
        rw[eK]at ok8 rep8
        have st58:=st57.trans st8
        have hx8:=hid (S':=S8) st58
        have ap:=lN (X:=X') _ s8 σ6 H8 (.ref s2.heap.objs.size) [v8] (.ref s2.heap.objs.size) [xe] (λ v H'=>H'=upd H8 s2.heap.objs.size (.lst (xs++[v8]))) I8 rfl (.cons r8 .nil)
         ⟨s2.heap.objs.size,xs,v8,rfl,rfl,hx8,Nat.lt_of_le_of_lt (Nat.le_trans hxl (Nat.le_trans hi hz)) %[|2],rfl⟩
        rw[eP,ew,eA]at ap
        refine ZA (wpAny_mono (iJ (E':=%[|25]) ex' ap) (λ _ s9 hq_=>ZB (ZB ⟨rfl,?_⟩)) %[|30])
        obtain⟨_,H9,I9,_,e9⟩:=hq_
        subst e9
        exact next s9 H8 O8 S8 (xs++[v8]) (acc++[y]) st58 ok8 (((env6.mono st7).mono st8).sub sub6) w8 I9 ((rc.mono st58).append (.cons rep8 .nil)) (by rw[List.length_append,List.length_singleton];omega)
    . have e:i=ds.length:=%[|1]
      subst e
      have dn:=T.done X' eP ew eK ec ds.length [] s' σc Hc %[|25] Ic (stat frc) stc (y2 rfl)
      rw[eA]at dn
      refine wpAny_mono dn (λ r s3 hq_=>?_) %[|30]
      obtain⟨hr,I3⟩:=hq_
      subst hr
      refine ZB ?_
      obtain⟨m,hm,_⟩:=I3.loc
      have un:Un %[|26] fp H2 Hc s2.heap s3.heap:=by
       have:=I3.base
       rw[eex,eH0,es0]at this
       show Un %[|26] fp H2 Hc s2.heap s3.heap
       rw[←eout]
       exact this
      have os:s3.os=s2.os:=by
       have:=I3.os
       rw[es0]at this
       exact this
      have hok3:HOk X.prog X.w Hc s3.heap:=by
       have:=I3.hok
       rw[eP,ew]at this
       exact this
      have IX:Inv X pins σ Hc s3:=I2.call' os un hok3 I3.bare (λ b hb=>⟨(f2 b hb).2.2.2.1,(f2 b hb).2.1,(f2 b hb).2.2.2.2.1,(f2 b hb).2.2.2.2.2⟩)
      have hCn:Hc %[|44]=none:=by
       have:=I3.free
       rw[eenv]at this
       exact this
      refine fin s3 Hc _ _ m IX (by rw[eenv]at hm;exact hm) (I2.fpOk (Nat.le_succ _) hCn) (ZN (Nat.lt_succ_self _)) ?_
      rcases pe acc Sc pc with w | w
      . refine⟨⟨Ac,O2.B⟩,.lst acc,Sc,w,stp.trans sc',okc.unhide,.lst (.inl ⟨λ z=>?_,.inl hxs⟩) (rc.conv Conv.unhide)⟩
        rcases z with z | z
        . exact okc.apart _ z List.mem_cons_self
        . exact ok2.hidden _ z hD0
      . refine⟨⟨Ac++[(s2.heap.objs.size,false)],O2.B⟩,.loc Sc.length,Sc++[acc],w,stp.trans (sc'.adopt hD0),okc.adopt (λ z=>ok2.hidden _ z hD0) hxs rc,.loc ?_⟩
        have el:Ac.length=Sc.length:=okc.len
        show(Ac++[(s2.heap.objs.size,false)])[Sc.length]? =some _
        rw[←el];simp
  . refine⟨0,[],[],upd H2 s2.heap.objs.size (.lst []),O2.A,S2,capt cap σ,rfl,Nat.zero_le _,by rw[es];exact I4,by rw[es];exact T.keep 0 s2.heap h₁ st2 λ b hb o e=>kp b o e,λ b hb=>?_,p0,aB,x9 0,.nil,Step.fresh hD0 _,ok2.hide hD0 _,((env.mono stp).capt cap).conv (Conv.hide hD0 _)⟩
    obtain⟨o,e⟩:=hob b hb
    rw[aj (ZN %[|37])]
    exact(f2 b hb).1
 exact codeAny_compStart_list (loop _ rfl) (T.self _ 0 _ _ _ (T.keep 0 s2.heap h₁ st2 λ b hb o e=>kp b o e) (loop _ rfl))
variable {Γ : Gam} {S : Store} {elt tg iter : Expr} {ifs : %[|12]} {sc : Scope} {pos : Pos} {N' : %[|0]} {cap : %[|32]}
theorem OJ(N':%[|0])(cap:%[|32]){W:WD}(h:ItC X Γ S tg iter (yo X sc N' cap Γ elt tg ifs W))(hx:X.xe=%[|25]:=by rfl)(hc:X.calm=true:=by rfl)(hkind:sc.kind=.function:=by rfl)
 (hcell:lg sc.names=true:=by rfl)(hfr:freeOk X.env.scope.names sc.names=true:=by rfl)
 (hnames:∀y∈sc.names,y.2=.local->sc.names.lookup y.1=some .local:=by sleep 4)(hcap:aN X.N X.env.scope.names N' sc.names cap N'=true:=by rfl)(hs:∀x,foldedSetIterable iter X.env x=pure x:=by intro _;rfl):
 Ev X Γ S (.ListComp elt [⟨tg,iter,ifs,0⟩] sc pos) W:=by
 sleep 0
 have hfree:∀y∈sc.names,y.2=.free->X.env.kindOf y.1=%[|19]∨X.env.kindOf y.1=some .free:=jf hfr
 have hf:∀y∈sc.names,y.2=.free->∃c,X.env.cells.lookup y.1=some c:=λ y hy e=>I.ok.has y.1 (hfree y hy e)
 rw[eval_ListComp]
 refine wpAny_comprehension_free (use:=none) (g:=⟨tg,iter,ifs,0⟩) (gs:=[]) rfl hs (gj hf) hkind hnames ?_
 refine vh (RR:=λ acc C=>compPost %[|9] X.A X.xe none (EP X pins σ (QG X.K O H W)) acc C) hx hc hkind hcell hfree hcap h I env st ?_
 intro s' Hc D0 C m I' hm fp ne q
 refine⟨m,hm,λ h' sb=>⟨.ref D0,Hc,?_,rfl,q⟩⟩
 obtain⟨f0,f1,f2,f3,f4,f5⟩:=fp
 exact I'.turned (t':=s'.toks) (λ b o hb e=>(sb.2 b hb).trans e) f0 f1 f3 f4 f5
theorem Hs(i:Nat){x:Str}{pos' spos:Pos}{W:Fin}(N':%[|0])(cap:%[|32])(h:ItC X Γ S tg iter (yo X sc N' cap Γ elt tg ifs λ d S1=>W.nx (Γ.set i (some d)) S1))(hN:X.N.Nodup)(hi:X.N[i]? =some x:=by rfl)
 (hl:Loc X.env.scope x:=by first | exact Or.inl rfl | exact Or.inr rfl)(hsw:swapsWith (.ListComp elt [⟨tg,iter,ifs,0⟩] sc pos) (some (.Name x pos')) spos.line X.env=pure true:=by rfl)
 (hfn:%[|85]:=by first | exact .inl rfl | exact .inr rfl)(hx:X.xe=%[|25]:=by rfl)(hc:X.calm=true:=by rfl)(hkind:sc.kind=.function:=by rfl)
 (hcell:lg sc.names=true:=by rfl)(hfr:freeOk X.env.scope.names sc.names=true:=by rfl)
 (hnames:∀y∈sc.names,y.2=.local->sc.names.lookup y.1=some .local:=by sleep 4)(hcap:aN X.N X.env.scope.names N' sc.names cap N'=true:=by rfl)(hs:∀x,foldedSetIterable iter X.env x=pure x:=by intro _;rfl):
 Rn X Γ S (.Assign [.Name x pos'] (.ListComp elt [⟨tg,iter,ifs,0⟩] sc pos) spos) W:=by
 sleep 0
 have hfree:∀y∈sc.names,y.2=.free->X.env.kindOf y.1=%[|19]∨X.env.kindOf y.1=some .free:=jf hfr
 have hf:∀y∈sc.names,y.2=.free->∃c,X.env.cells.lookup y.1=some c:=λ y hy e=>I.ok.has y.1 (hfree y hy e)
 rw[exec_Assign_Name_used _ _ _ _ hsw]
 refine ZA (wpAny_standAt (ZA ?_))
 show wpAny _ X.A (do let _ ←comprehension (.ListComp elt [⟨tg,iter,ifs,0⟩] sc pos) sc X.env _ (newList []) false (eval iter X.env) (some (assign (.Name x pos') X.env))) _ _ s
 refine ZA (wpAny_mono (wpAny_comprehension_free (use:=some (assign (.Name x pos') X.env)) (g:=⟨tg,iter,ifs,0⟩) (gs:=[]) (Q:=λ _ s'=>SP X pins (ends X.K O H W) .next s') rfl hs (gj hf) hkind hnames ?_) (λ _ s' hq=>ZB (ZB hq)) λ _ _ e=>e)
 refine vh (RR:=λ acc C=>compPost %[|9] X.A X.xe (some (assign (.Name x pos') X.env)) (λ _ s'=>SP X pins (ends X.K O H W) .next s') acc C) hx hc hkind hcell hfree hcap h I env st ?_
 intro s' Hc D0 C m I' hm fp ne q
 show wpAny _ X.A (assign (.Name x pos') X.env (.ref D0)) _ _ _
 refine wpAny_assign_Name (vK I' hN hi hl (show RelV (.ref D0) (.ref D0)from rfl) (λ s2 I2 hq_=>?_) hfn)
 obtain⟨a,sa,ha⟩:=hq_
 obtain⟨f0,f1,f2,f3,f4,f5⟩:=fp
 have neC:C≠a:=by
  rcases ha with z | z
  . rw[z];exact f1
  . exact(f4 x a z).symm
 refine⟨m,hm.sameBut sa neC,λ h' sb=>?_⟩
 obtain⟨O',d,S',w,stp,okp,rep⟩:=q
 exact⟨_,Hc,I2.turned (t':=s2.toks) (λ b o hb e=>(sb.2 b hb).trans e) f0 f1 f3 f4 f5,O',_,S',w,stp,okp,(env.mono stp).set rep i⟩
end
end DL
namespace DL
open PySem PySem.Spec L2
open PyProof.Rows
def tyD:D->String
 | .non=>"NoneType" | .bl _=>"bool" | .int _=>"int" | .str _=>"str" | .tup _=>"tuple" | .lst _=>"list" | .loc _=>"list" | .dic=>"dict" | .dlo _=>"dict"
def isi(t c:String):Bool:=t==c||(t=="bool"&&c=="int")
def isT(c:String):Bool:=c=="int"||c=="bool"||c=="tuple"||c=="list"||c=="str"
theorem kit_at(K:PySem.W.Frag)(d:D){c:String}(hc:isT c=true):PySem.W.kitOne K (.type (tyD d)) (.type c)=some (isi (tyD d) c):=by
 simp only[isT,Bool.or_eq_true,beq_iff_eq]at hc
 rcases hc with(((h | h) | h) | h) | h<;>subst h<;>cases d<;>kernel_rfl
section
variable {X : Cx} {Γ : Gam} {S : Store} {W : WD} {a b e : Expr} {es : %[|12]} {pos : Pos}
theorem CK{pins:Pins}{s:Shared}{σ:St}{H:Hp}{O:Own}{v:V}{u c:Value}{d:D}{A:Around}{E:%[|16]}{Q:%[|16]}(I:%[|4])(st:%[|23])(r:Rep X.K O H v d)(ru:RelV v u)
 (go:∀{x t:Value}{Hh:Heap->Prop},PySem.W.KitX X.K x t Hh->t=.type (tyD d)->Hh s.heap->x≠.builtin "__main__.__loader__#opaque"->wpAny %[|9] A (call (.builtin "isinstance") [x,c]) Q E s):
 wpAny %[|9] A (call (.builtin "isinstance") [u,c]) Q E s:=by
 cases r with
 | non=>cases ru;exact go PySem.W.kitx_none rfl True.intro (λ z=>nomatch z)
 | bl y=>cases ru;exact go PySem.W.kitx_bool rfl True.intro (λ z=>nomatch z)
 | int y=>obtain⟨t,rfl⟩:=ru;exact go PySem.W.kitx_int rfl True.intro (λ z=>nomatch z)
 | str y=>obtain⟨t,rfl⟩:=ru;exact go PySem.W.kitx_str rfl True.intro (λ z=>nomatch z)
 | tup h1 q1=>
   cases ru
   obtain⟨its,_,⟨o,h2,h3,_⟩,_⟩:=I.tuple h1.sq
   exact go PySem.W.kitx_tuple rfl ⟨o,h2,h3⟩ (λ z=>nomatch z)
 | lst h1 q1=>
   cases ru
   obtain⟨its,_,pl,_⟩:=I.list h1.sq
   obtain⟨o,h2,h3,_⟩:=pl.isList
   exact go PySem.W.kitx_list rfl ⟨o,h2,h3⟩ (λ z=>nomatch z)
 | @loc p k hk=>
   cases ru
   have hl:k<S.length:=by rw[←st.len];exact(z0.mp hk).1
   obtain⟨xs,hx,_⟩:=st.obj k p S[k] hk (y8 hl)
   obtain⟨its,_,pl,_⟩:=I.list (SqL.of hx)
   obtain⟨o,h2,h3,_⟩:=pl.isList
   exact go PySem.W.kitx_list rfl ⟨o,h2,h3⟩ (λ z=>nomatch z)
 | @dic p h1 h2=>
   cases ru
   obtain⟨_,_,vs,_,o,es,ep,h3,h4,_⟩:=(show aZ X.prog X.w H s.heap p (.dK [])from I.hok p _ h2)
   exact go PySem.W.kitx_dict rfl ⟨o,h3,h4.1⟩ (λ z=>nomatch z)
 | @dlo p k hk nk=>
   cases ru
   have hl:k<S.length:=by rw[←st.len];exact(z0.mp hk).1
   cases st.dob k p S[k] hk (y8 hl)with
   | t kvs hx _=>
     obtain⟨_,_,xs,_,o,es,ep,h3,h4,_⟩:=(show aZ X.prog X.w H s.heap p (.dT kvs)from I.hok p _ hx)
     exact go PySem.W.kitx_dict rfl ⟨o,h3,h4.1⟩ (λ z=>nomatch z)
   | c ys _ hx _=>
     obtain⟨⟨_,_,_,o,es,ep,h3,h4,_⟩,_,_⟩:=(show aZ X.prog X.w H s.heap p (.ext (Rb p ys))from I.hok p _ hx)
     exact go PySem.W.kitx_dict rfl ⟨o,h3,h4.1⟩ (λ z=>nomatch z)
   | o ys _ hx _=>
     obtain⟨⟨_,_,_,o,es,ep,h3,h4,_⟩,_,_⟩:=(show aZ X.prog X.w H s.heap p (.ext (R1 p ys))from I.hok p _ hx)
     exact go PySem.W.kitx_dict rfl ⟨o,h3,h4.1⟩ (λ z=>nomatch z)
   | m ys _ _ hx _=>
     obtain⟨⟨_,_,_,o,es,h3,h4,_⟩,_,_⟩:=(show aZ X.prog X.w H s.heap p (.ext (T8 p ys))from I.hok p _ hx)
     exact go PySem.W.kitx_dict rfl ⟨o,h3,h4.1⟩ (λ z=>nomatch z)
   | p _ n=>exact absurd nk n
theorem R6{T:Str}{Tn:String}{p q:Pos}(h:Ev X Γ S a λ x S1=>W (.bl (isi (tyD x) Tn)) S1)(hT:isT Tn=true)(hb:bootBuiltins T=some (.type Tn))(hm1:X.mg "isinstance"=none)(hm:X.mg T=none)(hg1:Gl X "isinstance":=by rfl)(hg:Gl X T:=by rfl)
 (hn:T≠"__name__":=by decide)(hdb:(T==("__debug__":Str))=false:=by decide)(hs1:starEach [a,.Name T q] X.env=(false,eval a X.env)::starEach [.Name T q] X.env:=by rfl)(hs2:starEach [.Name T q] X.env=[(false,eval (.Name T q) X.env)]:=by rfl):
 Ev X Γ S (.Call (.Name "isinstance" p) [a,.Name T q] [] pos) W:=by
 sleep 0
 have hc:eQ X (.builtin "isinstance") (λ xs H' Q=>∃v,xs=[v,.ty Tn]/\∃O' d S',StOk X.K O' H' S'/\Rep X.K O' H' v d/\Q (.bl (isi (tyD d) Tn)) H'):=by
  intro pins s σ H xs us Q I r h
  obtain⟨v,rfl,O',d,S',st',rep,q⟩:=h
  obtain⟨u,u2,rfl,r1,r2⟩:=vals2 r
  cases r2
  refine CK I st' rep r1 λ Z e p ne=>?_
  subst e
  exact PySem.W.kia_one Z I.kIn p (kit_at X.K d hT) ne λ tk=>⟨.bl _,H,I.tok tk,rfl,q⟩
 refine jZ hc hg1 hm1 PyProof.Rows.boot_isinstance (aP h.pe (aP (ug hg hm hb (v:=.ty Tn) rfl hn hdb) cH hs2) hs1) %[|2] %[|2] hs1 (by rw[hs2];rfl) pins s σ H _ I ⟨O,env,st,λ v H' q=>?_⟩
 obtain⟨O',d,S',w,st1,ok1,rep⟩:=q
 exact⟨v,rfl,O',d,S',ok1,rep,O',_,S',w,st1,ok1,.bl _⟩
theorem range_all{α:Type}(f:α->Bool)(d:α):∀(bs:List α)(k:Nat),((List.range' k bs.length).all λ i=>f ((List.replicate k d++bs).getD i d))=bs.all f
 | [],_=>by simp
 | b ::bs,k=>by
   have ih:=range_all f d bs (k+1)
   rw[List.length_cons,List.range'_succ,List.all_cons,List.all_cons]
   congr 1
   . simp[List.getD]
   . rw[←ih]
     have e:List.replicate k d++b::bs=(List.replicate k d++[b])++bs:=by simp
     rw[List.all_eq,List.all_eq]
     congr 1
     apply propext
     constructor
     . intro h i hi
       have:=h i hi
       rw[List.mem_range']at hi
       obtain⟨j,hj,rfl⟩:=hi
       simp only[List.getD,List.getElem?_append,List.length_replicate]at this ⊢
       have g1:¬(k+1+1*j<k):=%[|1]
       have g2:¬(k+1+1*j<k+1):=%[|1]
       rw[if_neg g1]at this
       rw[if_neg g2]
       have e1:k+1+1*j-k=(k+1+1*j-(k+1))+1:=%[|1]
       rw[e1,List.getElem?_cons_succ]at this
       exact this
     . intro h i hi
       have:=h i hi
       rw[List.mem_range']at hi
       obtain⟨j,hj,rfl⟩:=hi
       simp only[List.getD,List.getElem?_append,List.length_replicate]at this ⊢
       have g1:¬(k+1+1*j<k):=%[|1]
       have g2:¬(k+1+1*j<k+1):=%[|1]
       rw[if_neg g2]at this
       rw[if_neg g1]
       have e1:k+1+1*j-k=(k+1+1*j-(k+1))+1:=%[|1]
       rw[e1,List.getElem?_cons_succ]
       exact this
theorem Gg(bs:List Bool):((List.range bs.length).all λ i=>bs.getD i false)=bs.all id:=by
 have:=range_all id false bs 0
 simpa[List.range_eq_range']using this
theorem k_all{bs:List Bool}(w:W (.bl (bs.all id)) S)(hc:X.calm=true:=by rfl):bA X (.builtin "all") [.lst (bs.map .bl)] S W:=by
 intro pins s σ H O vs us I st r ru
 obtain⟨v,rfl,r'⟩:=di r
 obtain⟨u,rfl,ru'⟩:=vals1 ru
 cases r' with
 | @lst a xs _ h1 q1=>
   cases ru'
   obtain⟨its,rv,pl,hz⟩:=I.list h1.sq
   have ex:=q1.bools
   subst ex
   have hlen:its.length=bs.length:=by rw[←rv.length];simp
   refine call_all_walk (wpAny_pyIter_list pl.isList ?_)
   have ne:a≠s.heap.objs.size:=by
    obtain⟨o,e,_⟩:=pl.isList
    exact ZN %[|37]
   refine⟨_,_,_,_,_,_,λ i=>bs.getD i false,rfl,Walks.list (A:=X.A.in1) (I.ok.hd hc) _ a ne its.toArray,⟨⟨_,%[|34],rfl,rfl⟩,pl.isList.push _⟩,λ i v s' Q' E' hv hq=>?_,λ h' tk hk=>?_⟩
   . have hv:its[i]? =some v:=by simpa using hv
     have hi:i<bs.length:=by rw[←hlen];exact(z0.mp hv).1
     obtain⟨z,hz',rz⟩:=rv.get (i:=i) (x:=V.bl bs[i]) (by rw[x8,y8 hi];rfl)
     rw[hv]at hz'
     cases hz'
     cases rz
     have e:bs.getD i false=bs[i]:=by simp[List.getD,hi]
     have hq':Q' (bs.getD i false) s':=hq
     rw[e]at hq'
     exact wpAny_truthy_bool hq'
   . have e:(List.range its.toArray.size).all (λ i=>bs.getD i false)=bs.all id:=by rw[List.size_toArray,hlen];exact Gg bs
     rw[e]
     refine⟨.bl _,H,I.kept (λ b o q=>hk b o (λ z=>?_) (ZC _ q)),rfl,QG.here w st (.bl _)⟩
     have z':b=s.heap.objs.size:=by simpa using z
     exact absurd (ZE q) (by rw[z'];exact Nat.lt_irrefl _)
theorem VD{ns:%[|6]}(w:W (.int ns.sum) S)(hc:X.calm=true:=by rfl):bA X (.builtin "sum") [.lst (ns.map .int)] S W:=by
 intro pins s σ H O vs us I st r ru
 obtain⟨v,rfl,r'⟩:=di r
 obtain⟨u,rfl,ru'⟩:=vals1 ru
 cases r' with
 | @lst a xs _ h1 q1=>
   cases ru'
   obtain⟨its,rv,pl,hz⟩:=I.list h1.sq
   have ex:=q1.ints
   subst ex
   have hi:IntsAre its ns:=intsAre_of rv
   obtain⟨zs,ez⟩:=hi.allInts.items
   have hL:=pl.isList
   rw[ez]at hL
   refine sum_intListG (I.ok.hd hc) hL λ h' tk t' hk=>?_
   have e:preSum (numAt zs) zs.size=ns.sum:=by
    rw[preSum_eq,List.take_of_length_le (by simp),←nums_intItems,←ez]
    exact congrArg List.sum hi.numsOf
   rw[e]
   exact⟨.int _,H,I.kept hk,%[|24],QG.here w st (.int _)⟩
mutual
def deep:D->Nat
 | .tup ds=>aM ds+1
 | .lst ds=>aM ds+1
 | .dic=>1
 | _=>0
def aM:List D->Nat
 | []=>0
 | d::ds=>max (deep d) (aM ds)
end
mutual
def aq:D->Bool
 | .tup ds=>ao ds
 | .lst ds=>ao ds
 | .loc _=>false
 | .dlo _=>false
 | _=>true
def ao:List D->Bool
 | []=>true
 | d::ds=>aq d&&ao ds
end
theorem cF{d:D}:∀{ds:List D}{i:Nat},%[|33]->deep d≤aM ds
 | [],_,h=>by simp at h
 | c::ds,0,h=>by simp at h;subst h;simp[aM];omega
 | c::ds,i+1,h=>by
   have:=cF (ds:=ds) (i:=i) (by simpa using h)
   simp[aM];omega
theorem fV{d:D}:∀{ds:List D}{i:Nat},ao ds=true->%[|33]->aq d=true
 | [],_,_,h=>by simp at h
 | c::ds,0,n,h=>by simp at h;subst h;simp[ao]at n;exact n.1
 | c::ds,i+1,n,h=>by
   simp[ao]at n
   exact fV (ds:=ds) (i:=i) n.2 (by simpa using h)
theorem jW{pins:Pins}{s:Shared}{σ:St}{H:Hp}{a:Addr}(I:%[|4])(h:H a=some (.dK [])):(a==sysModules)=false/\s.heap.DictOf (dI X.prog X.w) a []:=by
 obtain⟨_,h2,vs,h3,h4⟩:=(show aZ X.prog X.w H s.heap a (.dK [])from I.hok a _ h)
 cases h3
 exact⟨h2,h4⟩
theorem Nj{P P':Program}{w w':World}{h:Heap}{a:Addr}(d:h.DictOf (dI P w) a []):h.DictOf (dI P' w') a []:=by
 obtain⟨o,es,ep,h1,h2,h3,h4,h5,h6⟩:=d
 have e:es=#[]:=by
  have q0:∀l,Pairs (dI P w) l ([]:List (Key×Value))->l=[]:=by
   intro l hl
   cases hl
   rfl
  have q:es.toList=[]:=q0 _ h5
  exact Array.toList_eq_nil_iff.mp q
 subst e
 exact⟨o,#[],ep,h1,h2,h3,λ _ he=>by simp at he,Pairs.nil,List.nodup_nil⟩
theorem IW (n:Nat):∀(x:D),deep x≤n->aq x=true->∀{pins:Pins}{s:Shared}{σ:St}{H:Hp}{O:Own}{v w:V}{u u':Value}{A:Around},%[|4]->Rep X.K O H v x->Rep X.K O H w x->RelV v u->RelV w u'->A.units+n<cLine->SeqAt.EqAt A s u u' true:=by
 induction n with
 | zero=>
   intro x hx hn pins s σ H O v w u u' A I r1 r2 ru ru' hu
   cases r1 with
   | non=>cases r2;cases ru;cases ru';exact SeqAt.EqAt.same _
   | bl b=>cases r2;cases ru;cases ru';exact SeqAt.EqAt.same _
   | int i=>
     cases r2;obtain⟨t,rfl⟩:=ru;sleep 6
     have:=SeqAt.EqAt.int_int (A:=A) (s:=s) i t i t'
     rw[beq_self_eq_true]at this
     exact this
   | str i=>
     cases r2;obtain⟨t,rfl⟩:=ru;sleep 6
     have:=SeqAt.EqAt.str_str (A:=A) (s:=s) i t i t'
     rw[beq_self_eq_true]at this
     exact this
   | tup _ _=>simp[deep]at hx
   | lst _ _=>simp[deep]at hx
   | loc _=>simp[aq]at hn
   | dlo _=>simp[aq]at hn
   | dic _ _=>simp[deep]at hx
 | succ n ih=>
   intro x hx hn pins s σ H O v w u u' A I r1 r2 ru ru' hu
   cases r1 with
   | non=>cases r2;cases ru;cases ru';exact SeqAt.EqAt.same _
   | bl b=>cases r2;cases ru;cases ru';exact SeqAt.EqAt.same _
   | int i=>
     cases r2;obtain⟨t,rfl⟩:=ru;sleep 6
     have:=SeqAt.EqAt.int_int (A:=A) (s:=s) i t i t'
     rw[beq_self_eq_true]at this
     exact this
   | str i=>
     cases r2;obtain⟨t,rfl⟩:=ru;sleep 6
     have:=SeqAt.EqAt.str_str (A:=A) (s:=s) i t i t'
     rw[beq_self_eq_true]at this
     exact this
   | @tup a xs ds h1 q1=>
     cases r2 with
     | @tup b ys _ h2 q2=>
       cases ru;cases ru'
       by_cases e:a=b
       . subst e;exact SeqAt.EqAt.same _
       . obtain⟨its,v1,p1,_⟩:=I.tuple h1.sq
         obtain⟨its2,v2,p2,_⟩:=I.tuple h2.sq
         have l1:its.length=ds.length:=by rw[←v1.length,q1.length]
         have l2:its2.length=ds.length:=by rw[←v2.length,q2.length]
         have rc:=SeqAt.RcAt.tuples (A:=A) (e:=λ _=>true) (show s.heap.IsTuple a its.toArray from p1) (show s.heap.IsTuple b its2.toArray from p2) %[|1] (λ j j1 j2=>?_)
         . have e2:((List.range (min its.toArray.size its2.toArray.size)).all (λ _=>true)&&its.toArray.size==its2.toArray.size)=true:=by simp[l1,l2]
           rw[e2]at rc
           exact SeqAt.EqAt.of_refs e rc
         . have hj:j<ds.length:=by simpa[l1]using j1
           obtain⟨z1,a1,b1⟩:=q1.get (y8 hj)
           obtain⟨z2,a2,b2⟩:=q2.get (y8 hj)
           obtain⟨u1,c1,d1⟩:=v1.get a1
           obtain⟨u2,c2,d2⟩:=v2.get a2
           have e1:its.toArray[j]=u1:=by have:=(z0.mp c1).2;simpa using this
           have e2:its2.toArray[j]=u2:=by have:=(z0.mp c2).2;simpa using this
           rw[e1,e2]
           have hd:=cF (y8 hj)
           exact ih ds[j] (by simp[deep]at hx;omega) (fV (by simpa[aq]using hn) (y8 hj)) I b1 b2 d1 d2 (by show A.units+1+n<cLine;omega)
   | @lst a xs ds h1 q1=>
     cases r2 with
     | @lst b ys _ h2 q2=>
       cases ru;cases ru'
       by_cases e:a=b
       . subst e;exact SeqAt.EqAt.same _
       . obtain⟨its,v1,p1,_⟩:=I.list h1.sq
         obtain⟨its2,v2,p2,_⟩:=I.list h2.sq
         have l1:its.length=ds.length:=by rw[←v1.length,q1.length]
         have l2:its2.length=ds.length:=by rw[←v2.length,q2.length]
         have rc:=SeqAt.RcAt.lists (A:=A) (e:=λ _=>true) p1.isList p2.isList (by simp[l1,l2]) %[|1] (λ j j1 j2=>?_)
         . have e2:(List.range its.toArray.size).all (λ _=>true)=true:=by simp
           rw[e2]at rc
           exact SeqAt.EqAt.of_refs e rc
         . have hj:j<ds.length:=by simpa[l1]using j1
           obtain⟨z1,a1,b1⟩:=q1.get (y8 hj)
           obtain⟨z2,a2,b2⟩:=q2.get (y8 hj)
           obtain⟨u1,c1,d1⟩:=v1.get a1
           obtain⟨u2,c2,d2⟩:=v2.get a2
           have e1:its.toArray[j]=u1:=by have:=(z0.mp c1).2;simpa using this
           have e2:its2.toArray[j]=u2:=by have:=(z0.mp c2).2;simpa using this
           rw[e1,e2]
           have hd:=cF (y8 hj)
           exact ih ds[j] (by simp[deep]at hx;omega) (fV (by simpa[aq]using hn) (y8 hj)) I b1 b2 d1 d2 (by show A.units+1+n<cLine;omega)
   | loc _=>simp[aq]at hn
   | dlo _=>simp[aq]at hn
   | @dic a h1 e1=>
     cases r2 with
     | @dic b h2 e2=>
       cases ru;cases ru'
       by_cases e:a=b
       . subst e;exact SeqAt.EqAt.same _
       . obtain⟨z1,d1⟩:=jW I e1
         obtain⟨z2,d2⟩:=jW I e2
         refine SeqAt.EqAt.of_refs e λ prog w' E Q hq=>?_
         exact PySem.W.keq_eq (knd:=dI prog w') z1 z2 (Nj d1) (Nj d2) %[|1] (λ _=>.nil) (by simpa using hq)
end
end DL
namespace DL
open PySem PySem.Spec L2
open PyProof.Rows
variable {pins : Pins} {H : Hp} {s : Shared}
section
variable {X : Cx} {Γ : Gam} {S : Store} {W : WD} {a b e : Expr} {es : %[|12]} {pos : Pos}
theorem KY{x:D}(hu:X.A.units+60<cLine)(hn:aq x=true)(hd:deep x≤50)(w:W (.bl false) S):bf X .NotEq x x S W:=by
 sleep 9
 have fin:∀{k:Bool},SeqAt.RcNeAt X.A s u u' k->k=false->wpAny %[|9] X.A (compareOp .NotEq u u') (EP X pins σ (QG X.K O H W)) X.xe s:=λ h e=>by
  subst e
  exact h _ _ _ _ ⟨.bl false,H,I,rfl,QG.here w st (.bl false)⟩
 cases r1 with
 | non=>cases r2;cases r3;cases r4;exact fin SeqAt.RcNeAt.none_none rfl
 | bl y=>cases r2;cases r3;cases r4;exact fin (SeqAt.RcNeAt.bool_bool y y) (by simp)
 | int y=>cases r2;obtain⟨t,rfl⟩:=r3;obtain⟨t',rfl⟩:=r4;exact fin (SeqAt.RcNeAt.int_int y t y t') (by simp)
 | str y=>cases r2;obtain⟨t,rfl⟩:=r3;obtain⟨t',rfl⟩:=r4;exact fin (SeqAt.RcNeAt.str_str y t y t') (by simp)
 | @tup a xs ds h1 q1=>
   cases r2 with
   | @tup b ys _ h2 q2=>
     cases r3;cases r4
     obtain⟨its,v1,p1,_⟩:=I.tuple h1.sq
     obtain⟨its2,v2,p2,_⟩:=I.tuple h2.sq
     have l1:its.length=ds.length:=by rw[←v1.length,q1.length]
     have l2:its2.length=ds.length:=by rw[←v2.length,q2.length]
     refine fin (SeqAt.RcNeAt.tuples (e:=λ _=>true) (show s.heap.IsTuple a its.toArray from p1) (show s.heap.IsTuple b its2.toArray from p2) %[|1] (λ j j1 j2=>?_)) (by simp[l1,l2])
     have hj:j<ds.length:=by simpa[l1]using j1
     obtain⟨z1,a1,b1⟩:=q1.get (y8 hj)
     obtain⟨z2,a2,b2⟩:=q2.get (y8 hj)
     obtain⟨u1,c1,d1⟩:=v1.get a1
     obtain⟨u2,c2,d2⟩:=v2.get a2
     have e1:its.toArray[j]=u1:=by have:=(z0.mp c1).2;simpa using this
     have e2:its2.toArray[j]=u2:=by have:=(z0.mp c2).2;simpa using this
     rw[e1,e2]
     have hd':=cF (y8 hj)
     exact IW 49 ds[j] (by simp[deep]at hd;omega) (fV (by simpa[aq]using hn) (y8 hj)) I b1 b2 d1 d2 (by show X.A.units+1+49<cLine;omega)
 | @lst a xs ds h1 q1=>
   cases r2 with
   | @lst b ys _ h2 q2=>
     cases r3;cases r4
     obtain⟨its,v1,p1,_⟩:=I.list h1.sq
     obtain⟨its2,v2,p2,_⟩:=I.list h2.sq
     have l1:its.length=ds.length:=by rw[←v1.length,q1.length]
     have l2:its2.length=ds.length:=by rw[←v2.length,q2.length]
     refine fin (SeqAt.RcNeAt.lists (e:=λ _=>true) p1.isList p2.isList (by simp[l1,l2]) %[|1] (λ j j1 j2=>?_)) (by simp)
     have hj:j<ds.length:=by simpa[l1]using j1
     obtain⟨z1,a1,b1⟩:=q1.get (y8 hj)
     obtain⟨z2,a2,b2⟩:=q2.get (y8 hj)
     obtain⟨u1,c1,d1⟩:=v1.get a1
     obtain⟨u2,c2,d2⟩:=v2.get a2
     have e1:its.toArray[j]=u1:=by have:=(z0.mp c1).2;simpa using this
     have e2:its2.toArray[j]=u2:=by have:=(z0.mp c2).2;simpa using this
     rw[e1,e2]
     have hd':=cF (y8 hj)
     exact IW 49 ds[j] (by simp[deep]at hd;omega) (fV (by simpa[aq]using hn) (y8 hj)) I b1 b2 d1 d2 (by show X.A.units+1+49<cLine;omega)
 | loc _=>simp[aq]at hn
 | dlo _=>simp[aq]at hn
 | @dic a h1 e1=>
   cases r2 with
   | @dic b h2 e2=>
     cases r3;cases r4
     obtain⟨z1,d1⟩:=jW I e1
     obtain⟨z2,d2⟩:=jW I e2
     exact PySem.W.keq_ne (knd:=dI X.prog X.w) z1 z2 d1 d2 %[|1] (λ _=>.nil) ⟨.bl false,H,I,rfl,QG.here w st (.bl false)⟩
end
set_option genInjectivity false in
structure SqKind(P:Program)(w:World)(K:PySem.W.Frag) where
 Sq:Hp->Addr->List V->Prop
 It:Heap->Addr->Addr->Nat->Prop
 Ob:Heap->Addr->Array Value->Prop
 itObj:∀{h it a i},It h it a i->∃o vs,h.get? it=some o/\o.data=.fields vs
 itAt:∀{h h' it a i},It h it a i->(∀o,h.get? it=some o->h'.get? it=some o)->It h' it a i
 obObj:∀{h a its},Ob h a its->∃o n,h.get? a=some o/\o.data=.seq its n
 draws:∀(A:Around),A.handled=none->∀(it a:Addr),a≠it->∀items:Array Value,Draws P w A it [it,a] items.size (λ i v=>items[i]? =some v) (λ i h=>It h it a i/\Ob h a items)
 get:∀{X:Cx}{pins:Pins}{σ:St}{H:Hp}{s:Shared}{a:Addr}{xs:List V},X.prog=P->X.w=w->X.K=K->%[|4]->Sq H a xs->∃its:%[|11],Vals xs its/\Ob s.heap a its.toArray
 inj:∀{X:Cx}{pins:Pins}{σ:St}{H:Hp}{s:Shared}{a:Addr}{xs ys:List V},X.prog=P->X.w=w->X.K=K->%[|4]->Sq H a xs->Sq H a ys->xs=ys
 far:∀{X:Cx}{pins:Pins}{σ:St}{H:Hp}{s:Shared}{a b:Addr}{xs:List V},X.K=K->%[|4]->Sq H a xs->cW X pins H b->a≠b
section
variable {P : Program} {w : World} {K : PySem.W.Frag}
theorem SqKind.ne(q:SqKind P w K){h:Heap}{it a:Addr}{i:Nat}{its:Array Value}(x:q.It h it a i)(y:q.Ob h a its):a≠it:=λ e=>by
 obtain⟨o,vs,h1,h2⟩:=q.itObj x
 obtain⟨o',n,h3,h4⟩:=q.obObj y
 rw[e,h1]at h3
 cases h3
 rw[h2]at h4
 cases h4
theorem Uv{X:Cx}{σ:St}{a b:Addr}{o:Obj}(I:%[|4])(h:X.K.lookup a=some o)(f:cW X pins H b):a≠b:=λ z=>by
 have e:=I.ok.mod.kin a o h
 rw[z]at e
 rcases f.2.2.2.1 with q | q
 . exact I.ok.noex b o e q
 . exact absurd (ZM %[|37] (Nat.le_trans I.ok.bsz q)) (Nat.lt_irrefl _)
def Vi(P:Program)(w:World)(K:PySem.W.Frag):SqKind P w K where
 Sq:=SqL K
 It:=λ h it a i=>h.IsListIter it a i
 Ob:=λ h a its=>h.IsList a its
 itObj:=λ x=>let ⟨o,e,_,d⟩:=x;⟨o,_,e,d⟩
 itAt:=λ x k=>x.at k
 obObj:=λ x=>let ⟨o,e,_,n,d⟩:=x;⟨o,n,e,d⟩
 draws:=λ A hh it a ne items=>Draws.list hh it a ne items
 get:=λ hP hw hK I h=>by
  subst hP hw hK
  obtain⟨its,rv,p,_⟩:=I.list h
  exact⟨its,rv,p.isList⟩
 inj:=λ hP hw hK I h h'=>by
  subst hP hw hK
  exact I.list_inj h h'
 far:=λ hK I h f=>by
  subst hK
  rcases h with(h | ⟨_,h⟩) | ⟨o,_,_,h,_⟩
  . exact aC h f.1
  . exact aC h f.1
  . exact Uv I h f
theorem Rx{prog:Program}{w:World}{A:Around}{E:%[|16]}{it t:Addr}{i:Nat}{items:Array Value}{x:Value}{Q:%[|16]}(hi:s.heap.IsTupleIter it t i)(ht:s.heap.IsTuple t items)(hx:items[i]? =some x)
 (hQ:∀h',h'.IsTupleIter it t (i+1)->Heap.SameBut it s.heap h'->Q x {s with heap:=h'}):wpAny (model prog w) A (Builtin.SmallTypes.nextOf (.ref it)) Q E s:=by
 obtain⟨o,ho,hc,hd⟩:=id hi
 obtain⟨o2,ho2,_,n2,hd2⟩:=ht
 unfold Builtin.SmallTypes.nextOf
 refine ZA (wpAny_callSpecial?_slot (name:=Str.ofString "__next__") hi.typeIs F.slot_tuple_iterator_next (ZP F.slot_tuple_iterator_next hi.typeIs F.entry_tuple_iterator_next ?_ (F.args_tuple_iterator_next_1 _)))
 refine ZA (m:=field (.ref it) 0) (wpAny_field ho hd (x:=.ref t) rfl ?_)
 rw[if_neg (show ¬((Value.ref t==Value.none)=true)from x5)]
 refine ZA (m:=field (.ref it) 1) (wpAny_field ho hd (x:=.int i 0) rfl ?_)
 refine ZA (m:=seqItems? (.ref t)) (wpAny_seqItems ho2 hd2 ?_)
 simp only[Int.toNat_natCast,hx]
 refine ZA (wpAny_setField ho hd (by simp) (ZB ⟨x,rfl,ZB (hQ _ ⟨_,Heap.get?_update_self _ ho (Obj.isFreed_of_fields (Obj.data_mapFields hd _)),(Obj.cls_mapFields ..).trans hc,by rw[Obj.data_mapFields hd];simp[rawInt]⟩ (Heap.SameBut.update ..))⟩))
theorem HB{prog:Program}{w:World}{A:Around}{E:%[|16]}{it t:Addr}{i:Nat}{items:Array Value}{Q:%[|16]}(hh:A.handled=none)(hi:s.heap.IsTupleIter it t i)(ht:s.heap.IsTuple t items)(hx:items[i]? =none)
 (hE:∀h' e,Heap.ExtBut it s.heap h'->(∃o,h'.get? e=some o/\o.cls=.type "StopIteration")->E (.ref e) {s with heap:=h'}):wpAny (model prog w) A (Builtin.SmallTypes.nextOf (.ref it)) Q E s:=by
 obtain⟨o,ho,hc,hd⟩:=id hi
 obtain⟨o2,ho2,_,n2,hd2⟩:=ht
 unfold Builtin.SmallTypes.nextOf
 refine ZA (wpAny_callSpecial?_slot (name:=Str.ofString "__next__") hi.typeIs F.slot_tuple_iterator_next (ZP F.slot_tuple_iterator_next hi.typeIs F.entry_tuple_iterator_next ?_ (F.args_tuple_iterator_next_1 _)))
 refine ZA (m:=field (.ref it) 0) (wpAny_field ho hd (x:=.ref t) rfl ?_)
 rw[if_neg (show ¬((Value.ref t==Value.none)=true)from x5)]
 refine ZA (m:=field (.ref it) 1) (wpAny_field ho hd (x:=.int i 0) rfl ?_)
 refine ZA (m:=seqItems? (.ref t)) (wpAny_seqItems ho2 hd2 ?_)
 simp only[Int.toNat_natCast,hx]
 refine ZA (wpAny_rule (ZA (wpAny_setField ho hd (by simp) (ZA (m:=newExc (.type "StopIteration") []) ?_))))
 simp only[newExc,newTuple]
 refine ZA (wpAny_newObj_type (ZA (m:=firstArgMember _ _) (wpAny_of_eq (a:=Value.none) (by first | rfl | (simp only[firstArgMember];rfl)) (wpAny_newObj_type ?_ (by size_fits)))) (by size_fits))
 simp only[raiseNew]
 refine ZA (wpAny_handled ?_)
 first | rw[show A.in1.handled=none from hh] | rw[hh]
 exact ZA (ZB (wpAny_throw (hE _ _ (((Heap.SameBut.update ..).extBut.push _).push _) ⟨_,%[|34],rfl⟩)))
theorem JQ{prog:Program}{w:World}{A:Around}(hh:A.handled=none)(it t:Addr)(ne:t≠it)(items:Array Value):
 Draws prog w A it [it,t] items.size (λ i v=>items[i]? =some v) (λ i h=>h.IsTupleIter it t i/\h.IsTuple t items) where
 live:=λ i h x=>let ⟨o,e,_⟩:=x.1;⟨o,e⟩
 frame:=λ i h h' x k=>by
  obtain⟨⟨o,e,r⟩,⟨o2,e2,r2⟩⟩:=x
  exact⟨⟨o,k it (by simp) o e,r⟩,⟨o2,k t (by simp) o2 e2,r2⟩⟩
 item:=λ i s Q E hi x hQ=>Rx x.1 x.2 (x:=items[i]) (by simp[hi]) λ h' y sb=>hQ _ h' s.toks (by simp[hi]) ⟨y,x.2.extBut sb.extBut ne⟩ sb
 done:=λ s Q E x hE=>HB hh x.1 x.2 (by simp) hE
def Li(P:Program)(w:World)(K:PySem.W.Frag):SqKind P w K where
 Sq:=SqT K
 It:=λ h it a i=>h.IsTupleIter it a i
 Ob:=λ h a its=>h.IsTuple a its
 itObj:=λ x=>let ⟨o,e,_,d⟩:=x;⟨o,_,e,d⟩
 itAt:=λ x k=>let ⟨o,e,r⟩:=x;⟨o,k o e,r⟩
 obObj:=λ x=>let ⟨o,e,_,n,d⟩:=x;⟨o,n,e,d⟩
 draws:=λ A hh it a ne items=>JQ hh it a ne items
 get:=λ hP hw hK I h=>by
  subst hP hw hK
  obtain⟨its,rv,p,_⟩:=I.tuple h
  exact⟨its,rv,p⟩
 inj:=λ hP hw hK I h h'=>by
  subst hP hw hK
  exact I.tuple_inj h h'
 far:=λ hK I h f=>by
  subst hK
  rcases h with(h | ⟨_,h⟩) | ⟨o,_,_,h,_⟩
  . exact aC h f.1
  . exact aC h f.1
  . exact Uv I h f
theorem tQ{X:Cx}{σ:St}{h':Heap}{t:Nat}{ch:List Addr}(I:%[|4])(hf:∀b∈ch,cW X pins H b)(k:∀b o,b∉ch->%[|56]->h'.get? b=some o):Inv X pins σ H {s with heap:=h',toks:=t}:=by
 have nch:∀b u,H b=some u->b∉ch:=λ b u e z=>by rw[(hf b z).1]at e;cases e
 refine I.step (g':=s.gens) (d':=s.drawn) (ch:=ch) (λ b hb=>⟨(hf b hb).2.2.2.1,(hf b hb).2.1,(hf b hb).2.2.2.2.1,(hf b hb).2.2.2.2.2⟩) (λ b o _ _ hc e _=>k b o hc e) (λ b o _ _ hc e _=>⟨o.slots,k b o hc e⟩) (λ _ _ _ _ n=>n) (λ b o hc e=>⟨o,k b o hc e⟩)
  (λ _ _ e=>e) (λ _ _ _ e=>e) (λ b ps e=>⟨#[],by rw[e];simp⟩) (λ m hm=>?_) (λ b u e=>?_) I.bare
 . obtain⟨o,es,ep,ho,r⟩:=hm
   exact⟨o,es,ep,k _ o (λ z=>(hf _ z).2.1 rfl) ho,r⟩
 . refine(I.hok b u e).stay (λ c v hc q=>k c v ?_ q) (λ _ q=>q) λ _ _ q=>q
   rcases hc with z | z
   . rw[z];exact nch b u e
   . exact nch c _ z
theorem Ay{X:Cx}{σ:St}{s':Shared}{p:Addr}{o:HO}(I:%[|4])(I':Inv X pins σ H s')(hp:s.heap.objs.size≤p)(ob:aZ X.prog X.w (upd H p o) s'.heap p o):Inv X pins σ (upd H p o) s':=by
 have hn:H p=none:=I.hok.fresh hp
 have nt:∀b u,H b=some u->b≠p:=λ b u e=>aC e hn
 refine⟨I'.ok,I'.os,I'.bare,⟨I'.base.keep,I'.base.slot,λ b ob e n hx=>?_,I'.base.there,λ b xs e=>?_,λ b ob u e=>?_,λ b ps e=>?_⟩,I'.loc,I'.cell,?_,λ x c e=>?_,λ q hq=>?_,λ b u e=>?_,I'.len⟩
 . have lt:b<s.heap.objs.size:=ZM %[|37] I.sz
   rw[aj (ZN (ZM lt hp))]
   exact I'.base.free b ob e n hx
 . have:=I'.base.tups b xs e
   rw[aj (nt b _ this)];exact this
 . have:=I'.base.frzs b ob u e
   rw[aj (nt b _ this)];exact this
 . obtain⟨m,e'⟩:=I'.base.tbls b ps e
   exact⟨m,by rw[aj (nt b _ e')];exact e'⟩
 . rw[aj (ZN (ZM I.lt hp))];exact I'.free
 . obtain⟨v,z⟩:=I.cell x c e
   rw[aj (ZN (ZM z.lt hp))];exact I'.freeC x c e
 . obtain⟨e1,_⟩:=I.pin q hq
   obtain⟨a1,a2,a3⟩:=I'.pin q hq
   exact⟨a1,by rw[aj (ZN (ZM (ZE e1) hp))];exact a2,a3⟩
 . by_cases hb:b=p
   . subst hb;rw[aB]at e;cases e;exact ob
   . rw[aj hb]at e
     exact(I'.hok b u e).stay (λ c v _ q=>q) (λ c q=>by rw[aj (nt c _ q)];exact q) λ c xs q=>by rw[aj (nt c _ q)];exact q
def Ite(q:SqKind P w K)(a:Addr):It:=
 ⟨λ i H=>∃xs x,q.Sq H a xs/\xs[i]? =some x,λ i H x H'=>∃p y,H p=none/\H'=upd H p (.tup [.int i,y])/\x=.ref p/\∀xs,q.Sq H a xs->xs[i]? =some y,λ i H=>∃xs,q.Sq H a xs/\i=xs.length⟩
theorem Jf(q:SqKind P w K){elts:%[|12]}{k:Nat}{pos:Pos}(a e it:Addr)(hne:e≠it):Turn P w K (.Tuple elts k pos) (Ite q a) [e,it] e (λ i h=>(∃old,IsEnum h e it i old)/\q.It h it a i) where
 mem:=by simp
 obj:=λ i h st b hb=>by
  obtain⟨⟨old,he⟩,hi⟩:=st
  rcases ZJ.mp hb with rfl | hb
  . exact⟨_,he,λ v z=>nomatch z⟩
  . rw[ZL.mp hb]
    obtain⟨o,vs,h1,h2⟩:=q.itObj hi
    exact⟨o,h1,λ v z=>by rw[h2]at z;cases z⟩
 keep:=λ i h h' st k=>⟨let ⟨old,he⟩:=st.1;⟨old,k e (by simp) _ he⟩,q.itAt st.2 λ o e=>k it (by simp) o e⟩
 item :=by
  intro X hP hw hK hc i pins s σ H E I hf st hg
  obtain⟨xs,x,hq,hx⟩:=hg
  obtain⟨its,rv,ob⟩:=q.get hP hw hK I hq
  obtain⟨u,hu,ru⟩:=rv.get hx
  obtain⟨⟨old,he⟩,hi⟩:=st
  have ne:=q.ne hi ob
  have hea:e≠a:=λ z=>by
   obtain⟨o,n,h1,h2⟩:=q.obObj ob
   rw[←z,he]at h1
   cases h1
   cases h2
  have hlt:i<its.toArray.size:=by simpa using(z0.mp hu).1
  have uq:∀ys,q.Sq H a ys->ys[i]? =some x:=λ ys hy=>by rw[q.inj hP hw hK I hy hq];exact hx
  subst hP hw
  refine wpAny_pyNext_enum_itemD (q.draws X.A.in1 (I.ok.hd hc) it a ne its.toArray) he ⟨hi,ob⟩ hlt hne (by simp[hne,hea]) λ x' h' tk hPx ho hs' hT hsz hk=>?_
  have ex:x'=u:=by
   have:its.toArray[i]? =some u:=by simpa using hu
   rw[this]at hPx
   exact(Option.some.inj hPx).symm
  subst ex
  refine⟨_,rfl,wpAny_letOwnedTupleGo_enum ho λ h2 he2 sb=>?_⟩
  have I1:Inv X pins σ H {s with heap:=h2,toks:=tk+1}:=tQ (ch:=[e,it]) I hf λ b o hb q'=>(sb.2 b (λ z=>hb (by simp[z]))).trans (hk b o (λ z=>hb (by simp[z])) (λ z=>hb (by simp[z])) q')
  have hp:H s.heap.objs.size=none:=I.hok.fresh (x9 _)
  have elt:e<s.heap.objs.size:=ZE he
  have hT2:h2.get? s.heap.objs.size=some {cls:=%[|29],data:=.seq #[.int i tk,x']}:=(sb.2 _ (Nat.ne_of_gt elt)).trans hT
  have I2:Inv X pins σ (upd H s.heap.objs.size (.tup [.int i,x])) {s with heap:=h2,toks:=tk+1}:=Ay I I1 (x9 _) ⟨by show 2≤sizeLine;decide,[.int i tk,x'],.cons ⟨tk,rfl⟩ (.cons ru .nil),_,hT2,rfl,_,rfl⟩
  refine⟨%[|59],_,I2,rfl,⟨_,x,hp,rfl,rfl,uq⟩,⟨⟨_,by simpa using he2⟩,q.itAt hs'.1 λ o q'=>(sb.2 it hne.symm).trans q'⟩,λ b hb=>?_⟩
  rw[aj (ZN ?_)]
  . exact(hf b hb).1
  . rcases ZJ.mp hb with rfl | hb
    . exact elt
    . rw[ZL.mp hb]
      obtain⟨o,vs,h1,_⟩:=q.itObj hi
      exact ZE h1
 done:=by
  intro X hP hw hK hc i pins s σ H E I hf st hg
  obtain⟨xs,hq,hx⟩:=hg
  obtain⟨its,rv,ob⟩:=q.get hP hw hK I hq
  obtain⟨⟨old,he⟩,hi⟩:=st
  have ne:=q.ne hi ob
  subst hP hw
  obtain⟨f0,f1,f2,f3,f4,f5⟩:=hf it (by simp)
  have hn:i=its.toArray.size:=by rw[hx,rv.length];simp
  have st':q.It s.heap it a its.toArray.size/\q.Ob s.heap a its.toArray:=⟨hn▸hi,ob⟩
  exact wpAny_pyNext_enum_endD (q.draws X.A.in1 (I.ok.hd hc) it a ne its.toArray) he st' λ h' ext=>⟨rfl,I.turned (t':=s.toks) (λ b o hb e=>ext b o hb e) f0 f1 f3 f4 f5⟩
 self:=λ _ _ _ _ _ st h=>let ⟨old,he⟩:=st.1;wpAny_pyIter_enum he h
theorem nW(q:SqKind P w K){O:Own}{H:Hp}{a:Addr}{ds:List D}(h:∀O' H',Conv O O' H H'->∃xs,q.Sq H' a xs/\Reps K O' H' xs ds):fW K (Ite q a) O H (ds.mapIdx λ i d=>.tup [.int i,d]):=by
 intro O' H' cv tr i
 obtain⟨xs,hq,r⟩:=h O' H' cv
 refine⟨λ d hd=>?_,λ hi=>⟨xs,hq,by rw[hi,r.length];simp⟩⟩
 rw[List.getElem?_mapIdx]at hd
 cases e:ds[i]? with
 | none=>rw[e]at hd;cases hd
 | some d0=>
   rw[e]at hd
   cases hd
   obtain⟨v,hv,rv⟩:=r.get e
   refine⟨⟨xs,v,hq,hv⟩,λ x H'' y=>?_⟩
   obtain⟨p,y,hp,rfl,rfl,hy⟩:=y
   have ey:=hy xs hq
   rw[hv]at ey
   cases ey
   have np:¬O'.has p:=λ z=>tr p z hp
   exact⟨aQ.fresh hp _,.tup ⟨np,aB⟩ (.cons (.int _) (.cons (rv.mono (Step.fresh hp _)) .nil))⟩
section
variable {X : Cx} {Γ : Gam} {S : Store} {e : Expr} {pos : Pos}
theorem CT{σ:St}{elts:%[|12]}{k:Nat}{tp:Pos}{R:It->Hp->Prop}{E:%[|16]}{h':Heap}(q:SqKind X.prog X.w X.K){a:Addr}(I:%[|4])(he:IsEnum h' (s.heap.objs.size+1) s.heap.objs.size 0 .none)(hi:q.It h' s.heap.objs.size a 0)
 (kp:∀b o,%[|56]->h'.get? b=some o)(r:R (Ite q a) H):wpAny %[|9] X.A (pyIter (.ref (s.heap.objs.size+1))) (PIE X pins σ (.Tuple elts k tp) R) E {s with heap:=h'}:=by
 refine wpAny_pyIter_enum he ?_
 refine⟨s.heap.objs.size+1,[s.heap.objs.size+1,s.heap.objs.size],_,_,H,rfl,I.kept (t':=s.toks) kp,Jf q a (s.heap.objs.size+1) s.heap.objs.size (Nat.succ_ne_self _),⟨⟨_,he⟩,hi⟩,λ b hb=>?_,r⟩
 rcases ZJ.mp hb with rfl | hb
 . exact I.fpOk (Nat.le_succ _) (I.hok.fresh (Nat.le_succ _))
 . rw[ZL.mp hb]
   exact I.fpOk (x9 _) (I.hok.fresh (x9 _))
theorem Ht(l:Addr)(items:Array Value)(n:Nat)(dct:Option Addr)(sl:Array (Option Value)):
 Meets (Builtin.«enumerate.__new__» ⟨[.type "enumerate",.ref l],[]⟩) (λ _ R s=>s.heap.get? l=some {cls:=%[|29],dict:=dct,data:=.seq items n,slots:=sl}/\
  R (.ok (.ret (.ref (s.heap.push {cls:=.type "tuple_iterator",data:=.fields #[.ref l,.int 0 0]}).objs.size)))
    {s with heap:=(s.heap.push {cls:=.type "tuple_iterator",data:=.fields #[.ref l,.int 0 0]}).push {cls:=.type "enumerate",data:=.fields #[.none,.bool false,%[|59],rawInt 0,.none,.none]}}):=
 .of_wp λ prog w A R s h=>by
  obtain⟨hp,g,d,tk,os⟩:=s;obtain⟨hl,h⟩:=h
  have hsub:=sub_enumerate
  have hT:Heap.IsTuple (Shared.heap ⟨hp,g,d,tk,os⟩) l items:=⟨_,hl,rfl,n,rfl⟩
  wp_walk using %[|69]
  refine wpAny_stack_any λ st=>ZB ?_
  split
  . rename_i c _ _ _ _ _
    cases (c==Value.type "enumerate")<;>(wp_walk using %[|69],wpAny_pyIter_tuple hT;exact⟨_,rfl,h⟩)
  . wp_walk using %[|69],wpAny_pyIter_tuple hT
    exact⟨_,rfl,h⟩
end
end
end DL
namespace DL
open PySem PySem.Spec L2
open PyProof.Rows
structure Zd(z TI TO i1 i2:Addr)(f1 f2:List Addr):Prop where
 a:TI≠z
 b:TO≠z
 c:TI≠TO
 d:TI≠i1
 e:TI≠i2
 f:TO≠i1
 g:TO≠i2
 h:i1≠z
 i:i2≠z
 j:z∉f1
 k:z∉f2
 l:TO∉f1
 m:TO∉f2
 n:i1∉f2
 o:i2∉f1
section
variable {prog : Program} {w : World} {A : Around} {E : Value -> Shared -> Prop} {s : Shared} {z TI TO i1 i2 : Addr} {f1 f2 : List Addr} {n1 n2 k : Nat} {P1 P2 : Nat -> Value -> Prop} {T1 T2 : Nat -> Heap -> Prop} {va vb : Value}
theorem Rf{Q:%[|16]}(D1:Draws prog w A i1 f1 n1 P1 T1)(D2:Draws prog w A i2 f2 n2 P2 T2)(Z:Zd z TI TO i1 i2 f1 f2)(hz:IsZip s.heap z TI TO .none)(hTI:IsPair s.heap TI (.ref i1) (.ref i2))(hTO:IsPair s.heap TO va vb)(t1:T1 k s.heap)(t2:T2 k s.heap)(k1:k<n1)(k2:k<n2)
 (hQ:∀x y h' tk,P1 k x->P2 k y->IsZip h' z TI TO (rawInt s.heap.objs.size)->IsPair h' TO x y->T1 (k+1) h'->T2 (k+1) h'->IsPair h' s.heap.objs.size x y->
  (∀c o,c≠z->c≠TO->c≠i1->c≠i2->s.heap.get? c=some o->h'.get? c=some o)->Q %[|59] {s with heap:=h',toks:=tk}):
 wpAny (model prog w) A (Builtin.«zip.__next__» ⟨[.ref z],[]⟩) (λ fin s'=>∃v,fin=.done (.ret v)/\Q v s') E s:=by
 obtain⟨hp,g,d,tk0,os⟩:=s
 refine ZA (m:=field (.ref z) 2) (wpAny_field hz rfl (x:=.bool false) rfl (ZA (m:=field (.ref z) 3) (wpAny_field hz rfl (x:=.ref TI) rfl (ZA (wpAny_seqItems hTI rfl ?_)))))
 refine ZA (m:=Builtin.SmallTypes.ownedTupleIsFree (.ref z)) ?_
 unfold Builtin.SmallTypes.ownedTupleIsFree
 refine ZA (wpAny_field hz rfl (x:=.none) rfl (ZB ?_))
 simp only[if_true]
 refine ZA (wpAny_rule (ZA (wpAny_field hz rfl (x:=.ref TO) rfl (ZA (wpAny_setField_rec hz (by simp) λ h1 hz1 s1=>?_)))))
 replace hz1:IsZip h1 z TI TO .ellipsis:=hz1
 refine ZA ?_
 simp only[List.zipIdx_cons,List.zipIdx_nil,List.forIn_cons,List.forIn_nil]
 refine ZA (ZA (wpAny_onRaise (ZA (m:=Builtin.SmallTypes.nextOf (.ref i1)) ?_)))
 refine D1.item k _ _ _ k1 (D1.frame _ _ _ t1 λ b hb o e=>s1.extBut b o (λ q=>Z.j (q▸hb)) e) λ x h2 tk1 p1 t1' s2=>ZB ?_
 replace s2:Heap.SameBut i1 h1 h2:=s2
 have o2:IsPair h2 TO va vb:=s2.extBut _ _ Z.f (s1.extBut _ _ Z.b hTO)
 refine ZA (wpAny_seqItems o2 rfl (ZA (wpAny_updateSeq_pair o2 λ h3 o3 s3=>ZA (wpAny_letGo (ZB ?_)))))
 replace o3:IsPair h3 TO x vb:=o3
 refine ZA (ZA (wpAny_onRaise (ZA (m:=Builtin.SmallTypes.nextOf (.ref i2)) ?_)))
 have t2':T2 k h3:=D2.frame _ _ _ t2 λ b hb o e=>s3.extBut b o (λ q=>Z.m (q▸hb)) (s2.extBut b o (λ q=>Z.n (q▸hb)) (s1.extBut b o (λ q=>Z.k (q▸hb)) e))
 refine D2.item k _ _ _ k2 t2' λ y h4 tk2 p2 t2'' s4=>ZB ?_
 replace s4:Heap.SameBut i2 h3 h4:=s4
 have o4:IsPair h4 TO x vb:=s4.extBut _ _ Z.g o3
 refine ZA (wpAny_seqItems o4 rfl (ZA (wpAny_updateSeq_pair o4 λ h5 o5 s5=>ZA (wpAny_letGo (ZB (ZB ?_))))))
 replace o5:IsPair h5 TO x y:=o5
 refine ZA (wpAny_seqItems o5 rfl (ZA (wpAny_newTuple ?_)))
 have sz:h5.objs.size=hp.objs.size:=by rw[s5.1,s4.1,s3.1,s2.1,s1.1]
 have hz5:IsZip h5 z TI TO .ellipsis:=s5.extBut _ _ Z.b.symm (s4.extBut _ _ Z.i.symm (s3.extBut _ _ Z.b.symm (s2.extBut _ _ Z.h.symm hz1)))
 have k5:∀c o,c≠z->c≠TO->c≠i1->c≠i2->hp.get? c=some o->h5.get? c=some o:=λ c o c1 c2 c3 c4 q=>s5.extBut _ _ c2 (s4.extBut _ _ c4 (s3.extBut _ _ c2 (s2.extBut _ _ c3 (s1.extBut _ _ c1 q))))
 have zlt:z<h5.objs.size:=ZE hz5
 refine ZA (m:=Builtin.SmallTypes.ownedTupleHandOut (.ref z) (.ref h5.objs.size)) ?_
 unfold Builtin.SmallTypes.ownedTupleHandOut
 have hz6:IsZip (h5.push {cls:=%[|29],data:=.seq #[x,y]}) z TI TO .ellipsis:=ZC _ hz5
 refine ZA (wpAny_setField_rec hz6 (by simp) λ h7 hz7 s7=>?_)
 replace hz7:IsZip h7 z TI TO (rawInt h5.objs.size):=hz7
 refine wpAny_setField_rec hz7 (by simp) λ h8 hz8 s8=>?_
 replace hz8:IsZip h8 z TI TO (rawInt h5.objs.size):=hz8
 have up:∀c o,c≠z->h5.get? c=some o->h8.get? c=some o:=λ c o c1 q=>s8.extBut _ _ c1 (s7.extBut _ _ c1 (ZC _ q))
 have p8:IsPair h8 h5.objs.size x y:=s8.extBut _ _ (Nat.ne_of_gt zlt) (s7.extBut _ _ (Nat.ne_of_gt zlt) %[|34])
 rw[sz]at hz8 p8
 refine ZB ⟨_,rfl,?_⟩
 show Q (.ref h5.objs.size) _
 rw[sz]
 have u1:T1 (k+1) h8:=D1.frame _ _ _ t1' λ b hb o q=>up b o (λ r=>Z.j (r▸hb)) (s5.extBut b o (λ r=>Z.l (r▸hb)) (s4.extBut b o (λ r=>Z.o (r▸hb)) (s3.extBut b o (λ r=>Z.l (r▸hb)) q)))
 have u2:T2 (k+1) h8:=D2.frame _ _ _ t2'' λ b hb o q=>up b o (λ r=>Z.k (r▸hb)) (s5.extBut b o (λ r=>Z.m (r▸hb)) q)
 exact hQ x y h8 tk2 p1 p2 hz8 (up _ _ Z.b o5) u1 u2 p8 λ c o c1 c2 c3 c4 q=>up c o c1 (k5 c o c1 c2 c3 c4 q)
theorem K5{Q:PySem.Fin->Shared->Prop}(D1:Draws prog w A i1 f1 n1 P1 T1)(D2:Draws prog w A i2 f2 n2 P2 T2)(Z:Zd z TI TO i1 i2 f1 f2)(hz:IsZip s.heap z TI TO .none)(hTI:IsPair s.heap TI (.ref i1) (.ref i2))(hTO:IsPair s.heap TO va vb)(t1:T1 k s.heap)(t2:T2 k s.heap)(hk:k=n1∨(k<n1/\k=n2))
 (hE:∀h' tk e,(∀c o,c≠z->c≠TO->c≠i1->c≠i2->s.heap.get? c=some o->h'.get? c=some o)->(∃o,h'.get? e=some o/\o.cls=.type "StopIteration")->E (.ref e) {s with heap:=h',toks:=tk}):
 wpAny (model prog w) A (Builtin.«zip.__next__» ⟨[.ref z],[]⟩) Q E s:=by
 obtain⟨hp,g,d,tk0,os⟩:=s
 refine ZA (m:=field (.ref z) 2) (wpAny_field hz rfl (x:=.bool false) rfl (ZA (m:=field (.ref z) 3) (wpAny_field hz rfl (x:=.ref TI) rfl (ZA (wpAny_seqItems hTI rfl ?_)))))
 refine ZA (m:=Builtin.SmallTypes.ownedTupleIsFree (.ref z)) ?_
 unfold Builtin.SmallTypes.ownedTupleIsFree
 refine ZA (wpAny_field hz rfl (x:=.none) rfl (ZB ?_))
 simp only[if_true]
 refine ZA (wpAny_rule (ZA (wpAny_field hz rfl (x:=.ref TO) rfl (ZA (wpAny_setField_rec hz (by simp) λ h1 hz1 s1=>?_)))))
 replace hz1:IsZip h1 z TI TO .ellipsis:=hz1
 refine ZA ?_
 simp only[List.zipIdx_cons,List.zipIdx_nil,List.forIn_cons,List.forIn_nil]
 refine ZA (ZA (wpAny_onRaise (ZA (m:=Builtin.SmallTypes.nextOf (.ref i1)) ?_)))
 have t1':T1 k h1:=D1.frame _ _ _ t1 λ b hb o e=>s1.extBut b o (λ q=>Z.j (q▸hb)) e
 rcases hk with rfl | ⟨k1,rfl⟩
 . refine D1.done _ _ _ t1' λ h2 e s2 hq_=>?_
   obtain⟨oe,he,ce⟩:=hq_
   replace s2:Heap.ExtBut i1 h1 h2:=s2
   have hz2:IsZip h2 z TI TO .ellipsis:=s2 _ _ Z.h.symm hz1
   have ez:e≠z:=λ q=>by subst q;rw[hz2]at he;cases he;simp at ce
   exact wpAny_setField_rec hz2 (by simp) λ h3 _ s3=>hE h3 _ e (λ c o c1 _ c3 _ q=>s3.extBut _ _ c1 (s2 _ _ c3 (s1.extBut _ _ c1 q))) ⟨oe,s3.extBut _ _ ez he,ce⟩
 . refine D1.item k _ _ _ k1 t1' λ x h2 tk1 p1 _ s2=>ZB ?_
   replace s2:Heap.SameBut i1 h1 h2:=s2
   have o2:IsPair h2 TO va vb:=s2.extBut _ _ Z.f (s1.extBut _ _ Z.b hTO)
   refine ZA (wpAny_seqItems o2 rfl (ZA (wpAny_updateSeq_pair o2 λ h3 o3 s3=>ZA (wpAny_letGo (ZB ?_)))))
   refine ZA (ZA (wpAny_onRaise (ZA (m:=Builtin.SmallTypes.nextOf (.ref i2)) ?_)))
   have t2':T2 k h3:=D2.frame _ _ _ t2 λ b hb o e=>s3.extBut b o (λ q=>Z.m (q▸hb)) (s2.extBut b o (λ q=>Z.n (q▸hb)) (s1.extBut b o (λ q=>Z.k (q▸hb)) e))
   refine D2.done _ _ _ t2' λ h4 e s4 hq_=>?_
   obtain⟨oe,he,ce⟩:=hq_
   replace s4:Heap.ExtBut i2 h3 h4:=s4
   have hz4:IsZip h4 z TI TO .ellipsis:=s4 _ _ Z.i.symm (s3.extBut _ _ Z.b.symm (s2.extBut _ _ Z.h.symm hz1))
   have ez:e≠z:=λ q=>by subst q;rw[hz4]at he;cases he;simp at ce
   exact wpAny_setField_rec hz4 (by simp) λ h5 _ s5=>hE h5 _ e (λ c o c1 c2 c3 c4 q=>s5.extBut _ _ c1 (s4 _ _ c4 (s3.extBut _ _ c2 (s2.extBut _ _ c3 (s1.extBut _ _ c1 q))))) ⟨oe,s5.extBut _ _ ez he,ce⟩
end
section
variable {P : Program} {w : World} {K : PySem.W.Frag}
def Itz(q r:SqKind P w K)(a b:Addr):It:=
 ⟨λ i H=>∃xs ys x y,q.Sq H a xs/\r.Sq H b ys/\xs[i]? =some x/\ys[i]? =some y,
  λ i H v H'=>∃p x y,H p=none/\H'=upd H p (.tup [x,y])/\v=.ref p/\(∀xs,q.Sq H a xs->xs[i]? =some x)/\∀ys,r.Sq H b ys->ys[i]? =some y,
  λ i H=>∃xs ys,q.Sq H a xs/\r.Sq H b ys/\i=min xs.length ys.length⟩
structure Zr(z TI TO i1 i2:Addr):Prop where
 a:TI≠z
 b:TO≠z
 c:TI≠TO
 d:TI≠i1
 e:TI≠i2
 f:TO≠i1
 g:TO≠i2
 h:i1≠z
 i:i2≠z
 j:i1≠i2
theorem Zr.zd(q r:SqKind P w K){X:Cx}{pins:Pins}{σ:St}{H:Hp}{s:Shared}{z TI TO i1 i2 a b:Addr}{xs ys:List V}(Z:Zr z TI TO i1 i2)(hK:X.K=K)(I:%[|4])(hf:∀c∈[z,TI,TO,i1,i2],cW X pins H c)(hq:q.Sq H a xs)(hr:r.Sq H b ys):Zd z TI TO i1 i2 [i1,a] [i2,b]:=by
 have fa:∀c∈[z,TI,TO,i1,i2],c≠a:=λ c hc=>(q.far hK I hq (hf c hc)).symm
 have fb:∀c∈[z,TI,TO,i1,i2],c≠b:=λ c hc=>(r.far hK I hr (hf c hc)).symm
 refine⟨Z.a,Z.b,Z.c,Z.d,Z.e,Z.f,Z.g,Z.h,Z.i,?_,?_,?_,?_,?_,?_⟩
 . simp[Z.h.symm,fa z (by simp)]
 . simp[Z.i.symm,fb z (by simp)]
 . simp[Z.f,fa TO (by simp)]
 . simp[Z.g,fb TO (by simp)]
 . simp[Z.j,fb i1 (by simp)]
 . simp[Z.j.symm,fa i2 (by simp)]
theorem Lk(q r:SqKind P w K){elts:%[|12]}{k:Nat}{pos:Pos}(a b z TI TO i1 i2:Addr)(Z:Zr z TI TO i1 i2):Turn P w K (.Tuple elts k pos) (Itz q r a b) [z,TI,TO,i1,i2] z
 (λ i h=>IsZip h z TI TO .none/\IsPair h TI (.ref i1) (.ref i2)/\(∃va vb,IsPair h TO va vb)/\q.It h i1 a i/\r.It h i2 b i) where
 mem:=by simp
 obj:=λ i h st c hc=>by
  obtain⟨hz,hTI,⟨va,vb,hTO⟩,hi,hj⟩:=st
  obtain⟨o,vs,h1,h2⟩:=q.itObj hi
  obtain⟨o',vs',h1',h2'⟩:=r.itObj hj
  simp only[List.mem_cons,List.not_mem_nil,or_false]at hc
  rcases hc with rfl | rfl | rfl | rfl | rfl
  . exact⟨_,hz,λ v z=>nomatch z⟩
  . exact⟨_,hTI,λ v z=>nomatch z⟩
  . exact⟨_,hTO,λ v z=>nomatch z⟩
  . exact⟨o,h1,λ v z=>by rw[h2]at z;cases z⟩
  . exact⟨o',h1',λ v z=>by rw[h2']at z;cases z⟩
 keep:=λ i h h' st k=>by
  obtain⟨hz,hTI,⟨va,vb,hTO⟩,hi,hj⟩:=st
  exact⟨k z (by simp) _ hz,k TI (by simp) _ hTI,⟨va,vb,k TO (by simp) _ hTO⟩,q.itAt hi λ o e=>k i1 (by simp) o e,r.itAt hj λ o e=>k i2 (by simp) o e⟩
 item:=by
  intro X hP hw hK hc i pins s σ H E I hf st hg
  obtain⟨xs,ys,x,y,hq,hr,hx,hy⟩:=hg
  obtain⟨its,rv,ob⟩:=q.get hP hw hK I hq
  obtain⟨its2,rv2,ob2⟩:=r.get hP hw hK I hr
  obtain⟨u,hu,ru⟩:=rv.get hx
  obtain⟨u2,hu2,ru2⟩:=rv2.get hy
  obtain⟨hz,hTI,⟨va,vb,hTO⟩,hi,hj⟩:=st
  have ux:∀zs,q.Sq H a zs->zs[i]? =some x:=λ zs h=>by rw[q.inj hP hw hK I h hq];exact hx
  have uy:∀zs,r.Sq H b zs->zs[i]? =some y:=λ zs h=>by rw[r.inj hP hw hK I h hr];exact hy
  have Z2:=Z.zd q r hK I hf hq hr
  have l1:i<its.toArray.size:=by simpa using(z0.mp hu).1
  have l2:i<its2.toArray.size:=by simpa using(z0.mp hu2).1
  subst hP hw
  have hT:s.TypeIs (.ref z) "zip":=⟨_,hz,rfl⟩
  unfold pyNext
  refine ZA (wpAny_attempt (wpAny_callSpecial?_slot (name:=Str.ofString "__next__") hT F.slot_zip_next (ZP F.slot_zip_next hT F.entry_zip_next ?_ (F.args_zip_next_1 _))))
  refine Rf (q.draws X.A.in1 (I.ok.hd hc) i1 a (q.ne hi ob) its.toArray) (r.draws X.A.in1 (I.ok.hd hc) i2 b (r.ne hj ob2) its2.toArray) Z2 hz hTI hTO ⟨hi,ob⟩ ⟨hj,ob2⟩ l1 l2 λ x' y' h' tk px py hz' hTO' t1 t2 hp' kp=>ZB ?_
  have ex:x'=u:=by
   have e1:its.toArray[i]? =some u:=by simpa using hu
   rw[e1]at px
   exact(Option.some.inj px).symm
  have ey:y'=u2:=by
   have e1:its2.toArray[i]? =some u2:=by simpa using hu2
   rw[e1]at py
   exact(Option.some.inj py).symm
  subst ex
  subst ey
  refine⟨_,rfl,wpAny_letOwnedTupleGo_zip hz' λ h2 hz2 sb=>?_⟩
  have I1:Inv X pins σ H {s with heap:=h2,toks:=tk}:=tQ (ch:=[z,TI,TO,i1,i2]) I hf λ c o hb q'=>(sb.2 c (λ z=>hb (by simp[z]))).trans (kp c o (λ z=>hb (by simp[z])) (λ z=>hb (by simp[z])) (λ z=>hb (by simp[z])) (λ z=>hb (by simp[z])) q')
  have hp:H s.heap.objs.size=none:=I.hok.fresh (x9 _)
  have elt:z<s.heap.objs.size:=ZE hz
  have hT2:h2.get? s.heap.objs.size=some {cls:=%[|29],data:=.seq #[x',y']}:=(sb.2 _ (Nat.ne_of_gt elt)).trans hp'
  have I2:Inv X pins σ (upd H s.heap.objs.size (.tup [x,y])) {s with heap:=h2,toks:=tk}:=Ay I I1 (x9 _) ⟨by show 2≤sizeLine;decide,[x',y'],.cons ru (.cons ru2 .nil),_,hT2,rfl,_,rfl⟩
  have hTI':IsPair h2 TI (.ref i1) (.ref i2):=(sb.2 _ Z.a).trans (kp _ _ Z.a Z.c Z.d Z.e hTI)
  refine⟨%[|59],_,I2,rfl,⟨_,x,y,hp,rfl,rfl,ux,uy⟩,⟨hz2,hTI',⟨_,_,(sb.2 _ Z.b).trans hTO'⟩,q.itAt t1.1 λ o q'=>(sb.2 i1 Z.h).trans q',r.itAt t2.1 λ o q'=>(sb.2 i2 Z.i).trans q'⟩,λ c hb=>?_⟩
  rw[aj (ZN ?_)]
  . exact(hf c hb).1
  . obtain⟨o,vs,h1,_⟩:=q.itObj hi
    obtain⟨o',vs',h1',_⟩:=r.itObj hj
    simp only[List.mem_cons,List.not_mem_nil,or_false]at hb
    rcases hb with rfl | rfl | rfl | rfl | rfl
    . exact elt
    . exact ZE hTI
    . exact ZE hTO
    . exact ZE h1
    . exact ZE h1'
 done:=by
  intro X hP hw hK hc i pins s σ H E I hf st hg
  obtain⟨xs,ys,hq,hr,hn⟩:=hg
  obtain⟨its,rv,ob⟩:=q.get hP hw hK I hq
  obtain⟨its2,rv2,ob2⟩:=r.get hP hw hK I hr
  obtain⟨hz,hTI,⟨va,vb,hTO⟩,hi,hj⟩:=st
  have Z2:=Z.zd q r hK I hf hq hr
  subst hP hw
  have hT:s.TypeIs (.ref z) "zip":=⟨_,hz,rfl⟩
  have hk:i=its.toArray.size∨(i<its.toArray.size/\i=its2.toArray.size):=by
   have e1:=rv.length
   have e2:=rv2.length
   simp only[List.size_toArray]
   omega
  unfold pyNext
  refine ZA (wpAny_attempt (wpAny_callSpecial?_slot (name:=Str.ofString "__next__") hT F.slot_zip_next (ZP F.slot_zip_next hT F.entry_zip_next ?_ (F.args_zip_next_1 _))))
  refine K5 (q.draws X.A.in1 (I.ok.hd hc) i1 a (q.ne hi ob) its.toArray) (r.draws X.A.in1 (I.ok.hd hc) i2 b (r.ne hj ob2) its2.toArray) Z2 hz hTI hTO ⟨hi,ob⟩ ⟨hj,ob2⟩ hk λ h' tk e kp hq_=>?_
  obtain⟨o,he,ce⟩:=hq_
  refine ZA (wpAny_isInstance (T:="StopIteration") (b:=true) ⟨o,he,ce⟩ isSubtype_stop (ZB ⟨rfl,?_⟩))
  exact tQ (ch:=[z,TI,TO,i1,i2]) I hf λ c o hb q'=>kp c o (λ z=>hb (by simp[z])) (λ z=>hb (by simp[z])) (λ z=>hb (by simp[z])) (λ z=>hb (by simp[z])) q'
 self:=λ _ _ _ _ _ st h=>wpAny_pyIter_zip st.1 h
theorem GK(q r:SqKind P w K){O:Own}{H:Hp}{a b:Addr}{ds es:List D}(h:∀O' H',Conv O O' H H'->∃xs ys,q.Sq H' a xs/\Reps K O' H' xs ds/\r.Sq H' b ys/\Reps K O' H' ys es):fW K (Itz q r a b) O H (List.zipWith (λ x y=>.tup [x,y]) ds es):=by
 intro O' H' cv tr i
 obtain⟨xs,ys,hq,r1,hr,r2⟩:=h O' H' cv
 refine⟨λ d hd=>?_,λ hi=>⟨xs,ys,hq,hr,by rw[hi,r1.length,r2.length,List.length_zipWith]⟩⟩
 rw[List.getElem?_zipWith]at hd
 cases e1:ds[i]? with
 | none=>rw[e1]at hd;cases hd
 | some d1=>
   cases e2:es[i]? with
   | none=>rw[e1,e2]at hd;cases hd
   | some d2=>
     rw[e1,e2]at hd
     cases hd
     obtain⟨v1,hv1,rv1⟩:=r1.get e1
     obtain⟨v2,hv2,rv2⟩:=r2.get e2
     refine⟨⟨xs,ys,v1,v2,hq,hr,hv1,hv2⟩,λ x H'' y=>?_⟩
     obtain⟨p,x',y',hp,rfl,rfl,hx,hy⟩:=y
     have ex:=hx xs hq
     have ey:=hy ys hr
     rw[hv1]at ex
     rw[hv2]at ey
     cases ex
     cases ey
     have np:¬O'.has p:=λ z=>tr p z hp
     exact⟨aQ.fresh hp _,.tup ⟨np,aB⟩ (.cons (rv1.mono (Step.fresh hp _)) (.cons (rv2.mono (Step.fresh hp _)) .nil))⟩
abbrev zh(h:Heap)(c1 c2:String)(l1 l2:Addr):Heap:=
 ((%[|83].push {cls:=%[|29],data:=.seq #[.ref h.objs.size,.ref %[|84].objs.size]}).push {cls:=%[|29],data:=.seq #[.none,.none]})
abbrev zhz(h:Heap)(c1 c2:String)(l1 l2:Addr):Heap:=
 (zh h c1 c2 l1 l2).push {cls:=.type "zip",data:=.fields #[.none,.bool false,.bool false,.ref %[|83].objs.size,
  .ref (%[|83].push {cls:=%[|29],data:=.seq #[.ref h.objs.size,.ref %[|84].objs.size]}).objs.size]}
theorem Ir(l1 l2:Addr)(xs ys:Array Value):
 Meets (Builtin.«zip.__new__» ⟨[.type "zip",.ref l1,.ref l2],[]⟩) (λ _ R s=>s.heap.IsTuple l1 xs/\s.heap.IsTuple l2 ys/\
  R (.ok (.ret (.ref (zh s.heap "tuple_iterator" "tuple_iterator" l1 l2).objs.size))) {s with heap:=zhz s.heap "tuple_iterator" "tuple_iterator" l1 l2}):=
 .of_wp λ prog w A R s h=>by
  obtain⟨hp,g,d,tk,os⟩:=s;obtain⟨a1,a2,h⟩:=h
  have hsub:=sub_zip
  have b1:Heap.IsTuple (Shared.heap ⟨hp,g,d,tk,os⟩) l1 xs:=a1
  have b2:Heap.IsTuple (Shared.heap ⟨hp.push {cls:=.type "tuple_iterator",data:=.fields #[.ref l1,.int 0 0]},g,d,tk,os⟩) l2 ys:=Heap.IsTuple.push a2 _
  wp_walk using wpAny_pyIter_tuple b1,wpAny_pyIter_tuple b2
  exact⟨_,rfl,h⟩
end
section
variable {X : Cx} {Γ : Gam} {S : Store} {pos : Pos}
theorem zip_parts(h:Heap)(c1 c2:String)(l1 l2:Addr):(zh h c1 c2 l1 l2).objs.size=h.objs.size+4/\IsZip (zhz h c1 c2 l1 l2) (h.objs.size+4) (h.objs.size+2) (h.objs.size+3) .none/\IsPair (zhz h c1 c2 l1 l2) (h.objs.size+2) (.ref h.objs.size) (.ref (h.objs.size+1))/\IsPair (zhz h c1 c2 l1 l2) (h.objs.size+3) .none .none/\
 (zhz h c1 c2 l1 l2).get? h.objs.size=some {cls:=.type c1,data:=.fields #[.ref l1,.int 0 0]}/\(zhz h c1 c2 l1 l2).get? (h.objs.size+1)=some {cls:=.type c2,data:=.fields #[.ref l2,.int 0 0]}/\∀b o,h.get? b=some o->(zhz h c1 c2 l1 l2).get? b=some o:=by
 have z1:%[|84].objs.size=h.objs.size+1:=Heap.size_push ..
 have z2:%[|83].objs.size=h.objs.size+2:=by rw[Heap.size_push,z1]
 have z3:(%[|83].push {cls:=%[|29],data:=.seq #[.ref h.objs.size,.ref %[|84].objs.size]}).objs.size=h.objs.size+3:=by rw[Heap.size_push,z2]
 have z4:(zh h c1 c2 l1 l2).objs.size=h.objs.size+4:=by rw[Heap.size_push,z3]
 have g5:=ZD (zh h c1 c2 l1 l2) (o:={cls:=.type "zip",data:=.fields #[.none,.bool false,.bool false,.ref %[|83].objs.size,
  .ref (%[|83].push {cls:=%[|29],data:=.seq #[.ref h.objs.size,.ref %[|84].objs.size]}).objs.size]}) rfl
 have g4:(zhz h c1 c2 l1 l2).get? (%[|83].push {cls:=%[|29],data:=.seq #[.ref h.objs.size,.ref %[|84].objs.size]}).objs.size=some {cls:=%[|29],data:=.seq #[.none,.none]}:=ZC _ %[|34]
 have g3:(zhz h c1 c2 l1 l2).get? %[|83].objs.size=some {cls:=%[|29],data:=.seq #[.ref h.objs.size,.ref %[|84].objs.size]}:=ZC _ (ZC _ %[|34])
 have g2:(zhz h c1 c2 l1 l2).get? %[|84].objs.size=some {cls:=.type c2,data:=.fields #[.ref l2,.int 0 0]}:=ZC _ (ZC _ (ZC _ %[|34]))
 have g1:(zhz h c1 c2 l1 l2).get? h.objs.size=some {cls:=.type c1,data:=.fields #[.ref l1,.int 0 0]}:=ZC _ (ZC _ (ZC _ (ZC _ %[|34])))
 rw[z2,z3,z4]at g5
 rw[z3]at g4
 rw[z1,z2]at g3
 rw[z1]at g2
 refine⟨z4,?_,g3,g4,g1,g2,λ b o e=>ZC _ (ZC _ (ZC _ (ZC _ (ZC _ e))))⟩
 show(zhz h c1 c2 l1 l2).get? _=_
 unfold zhz
 rw[z2,z3]
 exact g5
theorem Tf{pins:Pins}{σ:St}{H:Hp}{s:Shared}{elts:%[|12]}{k:Nat}{tp:Pos}{R:It->Hp->Prop}{E:%[|16]}{c1 c2:String}{l1 l2:Addr}(q r:SqKind X.prog X.w X.K)(I:%[|4])
 (hi:q.It (zhz s.heap c1 c2 l1 l2) s.heap.objs.size l1 0)(hj:r.It (zhz s.heap c1 c2 l1 l2) (s.heap.objs.size+1) l2 0)(rr:R (Itz q r l1 l2) H):
 wpAny %[|9] X.A (pyIter (.ref (s.heap.objs.size+4))) (PIE X pins σ (.Tuple elts k tp) R) E {s with heap:=zhz s.heap c1 c2 l1 l2}:=by
 obtain⟨_,p1,p2,p3,_,_,kp⟩:=zip_parts s.heap c1 c2 l1 l2
 refine wpAny_pyIter_zip p1 ?_
 refine⟨s.heap.objs.size+4,[s.heap.objs.size+4,s.heap.objs.size+2,s.heap.objs.size+3,s.heap.objs.size,s.heap.objs.size+1],_,_,H,rfl,I.kept (t':=s.toks) kp,Lk q r l1 l2 (s.heap.objs.size+4) (s.heap.objs.size+2) (s.heap.objs.size+3) s.heap.objs.size (s.heap.objs.size+1) ?_,⟨p1,p2,⟨_,_,p3⟩,hi,hj⟩,λ b hb=>?_,rr⟩
 . constructor<;>exact λ z=>by have z':(_:Nat)=_:=z;omega
 . have hb':s.heap.objs.size≤b:=by
    simp only[List.mem_cons,List.not_mem_nil,or_false]at hb
    rcases hb with rfl | rfl | rfl | rfl | rfl
    . exact Nat.le_add_right _ _
    . exact Nat.le_add_right _ _
    . exact Nat.le_add_right _ _
    . exact x9 _
    . exact Nat.le_add_right _ _
   exact I.fpOk hb' (I.hok.fresh hb')
theorem J4{e1 e2:Expr}{elts:%[|12]}{k:Nat}{tp p:Pos}{W:%[|31]}(h:Ev X Γ S e1 λ d S1=>Ev X Γ S1 e2 λ d' S2=>∃ds es,d=.tup ds/\d'=.tup es/\W (List.zipWith (λ x y=>.tup [x,y]) ds es) S2)(hm:X.mg "zip"=none)(hg:Gl X "zip":=by rfl)
 (hs:starEach [e1,e2] X.env=(false,eval e1 X.env)::starEach [e2] X.env:=by rfl)(hs2:starEach [e2] X.env=[(false,eval e2 X.env)]:=by rfl):
 ItW X Γ S (.Tuple elts k tp) (.Call (.Name "zip" p) [e1,e2] [] pos) W:=by
 sleep 0
 have hA:EvA X Γ S [e1,e2] λ dd S2=>∃ds es,dd=[.tup ds,.tup es]/\W (List.zipWith (λ x y=>.tup [x,y]) ds es) S2:=
  cL (h.mono λ d S1 h1=>cL (h1.mono λ d' S2 ⟨ds,es,a,b,w⟩=>gW ⟨ds,es,by rw[a,b],w⟩) hs2) hs
 refine Call_ (eG I hg hm boot_zip (PyProof.Rows.callWith_type1 (thn (hA pos pins s σ H O I env st) λ us s1 hq_=>?_) hs (by rw[hs2];rfl)))
 obtain⟨vs,H1,I1,r1,O1,dd,S1,⟨ds,es,ed,w⟩,st1,ok1,rep⟩:=hq_
 subst ed
 cases rep with
 | cons ra rb=>
   cases rb with
   | cons rb rc=>
     cases rc
     obtain⟨u,u2,rfl,ru,ru2⟩:=vals2 r1
     cases ra with
     | @tup a xs _ h1 q1=>
       cases rb with
       | @tup b ys _ h2 q2=>
         cases ru
         cases ru2
         obtain⟨its,rv,pl,hz⟩:=I1.tuple h1.sq
         obtain⟨its2,rv2,pl2,hz2⟩:=I1.tuple h2.sq
         obtain⟨z4,p1,p2,p3,p4,p5,kp⟩:=zip_parts s1.heap "tuple_iterator" "tuple_iterator" a b
         refine callType_new F.called_zip %[|2] (F.typeCall_zip_2 _ _) (F.newCall_zip_2 _ _) (λ obj=>F.args_object_init_3 obj _ _) F.entry_zip_new (Ir a b its.toArray its2.toArray) ⟨pl,pl2,?_⟩
         show _/\_
         rw[z4]
         refine⟨⟨_,p1,rfl⟩,Tf (Li X.prog X.w X.K) (Li X.prog X.w X.K) I1 ⟨_,p4,rfl,rfl⟩ ⟨_,p5,rfl,rfl⟩ ⟨O1,_,S1,w,st1,ok1,GK _ _ λ O' H' cv=>⟨xs,ys,(h1.conv cv).sq,q1.conv cv,(h2.conv cv).sq,q2.conv cv⟩⟩⟩
end
variable {k : Nat}
section
variable {X : Cx} {Γ : Gam} {S : Store} {e : Expr}
theorem W0{W:%[|17]->%[|13]}(h:Ev X Γ S e λ d S1=>∃i,d=.int i/\W (some i) S1):PoD X Γ S (some e) W:=h
theorem Xf{W:%[|17]->%[|13]}(h:W none S):PoD X Γ S none W:=h
end
theorem bO{α:Type}{xs:List α}{i:Nat}{x:α}(h:xs[i]? =some x):xs.take (i+1)=xs.take i++[x]:=by rw[List.take_add_one,h];rfl
theorem dq(d:D)(ds:List D):cutD (d::ds) (some 1) none=ds:=by
 unfold cutD
 have h1:HT.sIx (d::ds).length 0 (some 1)=1:=by
  have:=HT.sIx_nat (d::ds).length 0 1
  simp only[List.length_cons]at this ⊢
  have h2:((1:Nat):Int)=1:=rfl
  rw[h2]at this
  rw[this];omega
 rw[h1,HT.sIx_none]
 simp
theorem uJ(ds:List D)(lo hi:%[|17]):(cutD ds lo hi).length≤ds.length:=by
 unfold cutD
 rw[List.length_take,List.length_drop];omega
theorem gU{ds:List D}{lo hi:%[|17]}{x:D}(h:x∈cutD ds lo hi):x∈ds:=by
 unfold cutD at h
 exact List.mem_of_mem_drop (List.mem_of_mem_take h)
theorem cZ{ds:List D}{k:Int}(h:0≤k):cutD ds none (some k)=ds.take k.toNat:=by
 unfold cutD
 rw[HT.sIx_none]
 have e:HT.sIx ds.length ds.length (some k)=min k.toNat ds.length:=by
  have:=HT.sIx_nat ds.length ds.length k.toNat
  rwa[Int.toNat_of_nonneg h]at this
 rw[e,List.drop_zero,Nat.sub_zero]
 rcases Nat.le_total k.toNat ds.length with q | q
 . rw[Nat.min_eq_left q]
 . rw[Nat.min_eq_right q,List.take_of_length_le (x9 _),List.take_of_length_le q]
theorem ik{ds:List D}{k:Int}(h:0≤k):cutD ds (some k) none=ds.drop k.toNat:=by
 unfold cutD
 rw[HT.sIx_none]
 have e:HT.sIx ds.length 0 (some k)=min k.toNat ds.length:=by
  have:=HT.sIx_nat ds.length 0 k.toNat
  rwa[Int.toNat_of_nonneg h]at this
 rw[e]
 rcases Nat.le_total k.toNat ds.length with q | q
 . rw[Nat.min_eq_left q,List.take_of_length_le (by rw[List.length_drop];omega)]
 . rw[Nat.min_eq_right q,List.drop_eq_nil_of_le (x9 _),List.drop_eq_nil_of_le q];simp
theorem yL{α:Type}{ds:List α}{v:Int}(h0:0≤v)(h1:v<ds.length):∃x,atI ds v=some x/\ds[v.toNat]? =some x:=by
 have hk:v.toNat<ds.length:=%[|1]
 refine⟨ds[v.toNat],?_,y8 hk⟩
 have q:=aA (xs:=ds) (j:=v.toNat) (y8 hk)
 rwa[Int.toNat_of_nonneg h0]at q
theorem Bh{α:Type}(x:α)(xs:List α):atI (x::xs) 0=some x:=aA (xs:=x::xs) (j:=0) rfl
theorem set_get{S:Store}{l l':List D}(h:S[k]? =some l):(S.set k l')[k]? =some l':=List.getElem?_set_self (z0.mp h).1
def iR(ns:%[|6])(a c n m z:Int):List D:=[.lst (ns.map .int),.int a,.int c,.int n,.int m,.int z]
def Pen(S:Store)(k:Nat):Prop:=∃ns a c n m z,S[k]? =some (iR ns a c n m z)/\0≤a
def Upd(S:Store)(k:Nat)(S':Store):Prop:=∃ns a c n m z,S'=S.set k (iR ns a c n m z)/\0≤a
theorem Upd.pen{S S':Store}(p:Pen S k)(u:Upd S k S'):Pen S' k:=by
 obtain⟨_,_,_,_,_,_,h,_⟩:=p
 obtain⟨ns,a,c,n,m,z,rfl,ha⟩:=u
 exact⟨ns,a,c,n,m,z,set_get h,ha⟩
theorem Upd.trans{S S1 S2:Store}(a:Upd S k S1)(b:Upd S1 k S2):Upd S k S2:=by
 obtain⟨_,_,_,_,_,_,rfl,_⟩:=a
 obtain⟨ns,x,c,n,m,z,rfl,ha⟩:=b
 exact⟨ns,x,c,n,m,z,by rw[List.set_set],ha⟩
theorem Upd.refl{S:Store}(p:Pen S k):Upd S k S:=by
 obtain⟨ns,a,c,n,m,z,h,ha⟩:=p
 exact⟨ns,a,c,n,m,z,by
  obtain⟨hl,e⟩:=z0.mp h
  rw[←e,List.set_getElem_self],ha⟩
theorem Upd.len{S S':Store}(u:Upd S k S'):S'.length=S.length:=by
 obtain⟨_,_,_,_,_,_,rfl,_⟩:=u
 simp
end DL
namespace RF
open PySem PySem.Spec L2 DL
open PyProof.Rows
open Builtin
theorem pG:fillsNumberSlot %[|29] "mul"=pure false:=
 PySem.fillsNumberSlot_seq (id:="tuple.__mul__") (r:=some (.builtin "tuple.__rmul__")) F.slot_tuple_mul.lookup %[|7] F.slot_tuple_rmul.lookup %[|7]
theorem Al:seqRepeat? %[|29]=pure (some (.builtin "tuple.__mul__")):=by
 unfold seqRepeat?
 rw[PySem.seqSlot_of (T:="tuple") (name:="__mul__") (id:="tuple.__mul__") F.slot_tuple_mul.lookup %[|7],PySem.seqSlot_of (T:="tuple") (name:="__rmul__") (id:="tuple.__rmul__") F.slot_tuple_rmul.lookup %[|7]]
 rfl
theorem uA(a:Int)(t:Tok)(l:Addr)(items:Array Value)(n:Nat)(dct:Option Addr)(sl:Array (Option Value)):
 Meets (Builtin.«int.__rmul__» ⟨[.int a t,.ref l],[]⟩) (λ _ R s=>s.heap.get? l=some {cls:=%[|29],dict:=dct,data:=.seq items n,slots:=sl}/\R (.ok (.ret Value.notImplemented)) s):=
 .of_wp λ prog w A R s h=>by obtain⟨hp,g,d,tk,os⟩:=s;obtain⟨hl,h⟩:=h;wp_walk;exact⟨_,rfl,h⟩
theorem uN(l:Addr)(items:Array Value)(n:Nat)(dct:Option Addr)(sl:Array (Option Value))(x:Int)(u:Tok)(h1:¬(decide (x< -(2 ^ 63))||decide (x≥2 ^ 63))=true)(hc:(items.isEmpty||x==1)=true):
 Meets (Builtin.«tuple.__mul__» ⟨[.ref l,.int x u],[]⟩) (λ _ R s=>s.heap.get? l=some {cls:=%[|29],dict:=dct,data:=.seq items n,slots:=sl}/\R (.ok (.ret (.ref l))) s):=
 .of_wp λ prog w A R s h=>by
  obtain⟨hp,g,d,tk,os⟩:=s;obtain⟨hl,h⟩:=h
  unfold Builtin.«tuple.__mul__»
  wp_walk
  rw[if_neg h1]
  wp_walk using %[|69]
  try rw[if_pos hc]
  wp_walk using %[|69]
  exact⟨_,rfl,h⟩
theorem uE(l:Addr)(items:Array Value)(n:Nat)(dct:Option Addr)(sl:Array (Option Value))(x:Int)(u:Tok)(h1:¬(decide (x< -(2 ^ 63))||decide (x≥2 ^ 63))=true)(hc:¬(items.isEmpty||x==1)=true)(h2:(decide (x≤0)||items.isEmpty)=true):
 Meets (Builtin.«tuple.__mul__» ⟨[.ref l,.int x u],[]⟩) (λ _ R s=>s.heap.get? l=some {cls:=%[|29],dict:=dct,data:=.seq items n,slots:=sl}/\R (.ok (.ret %[|59])) {s with heap:=s.heap.push {cls:=%[|29],data:=.seq #[]}}):=
 .of_wp λ prog w A R s h=>by
  obtain⟨hp,g,d,tk,os⟩:=s;obtain⟨hl,h⟩:=h
  unfold Builtin.«tuple.__mul__»
  wp_walk
  rw[if_neg h1]
  wp_walk using %[|69]
  try rw[if_neg hc]
  wp_walk using %[|69]
  try rw[if_pos h2]
  wp_walk using %[|69]
  exact⟨_,rfl,h⟩
theorem t6(l:Addr)(items:Array Value)(n:Nat)(dct:Option Addr)(sl:Array (Option Value))(x:Int)(u:Tok)(h1:¬(decide (x< -(2 ^ 63))||decide (x≥2 ^ 63))=true)(hc:¬(items.isEmpty||x==1)=true)(h2:¬(decide (x≤0)||items.isEmpty)=true)
 (h3:¬((items.size:Int)*x>(2 ^ 63-1)/8))(h4:¬Builtin.Tuple.tupleTooMany ((items.size:Int)*x)=true)(h5:((List.replicate x.toNat items).foldl (· ++·) #[]).size≤sizeLine):
 Meets (Builtin.«tuple.__mul__» ⟨[.ref l,.int x u],[]⟩) (λ _ R s=>s.heap.get? l=some {cls:=%[|29],dict:=dct,data:=.seq items n,slots:=sl}/\R (.ok (.ret %[|59])) {s with heap:=s.heap.push {cls:=%[|29],data:=.seq ((List.replicate x.toNat items).foldl (· ++·) #[])}}):=
 .of_wp λ prog w A R s h=>by
  obtain⟨hp,g,d,tk,os⟩:=s;obtain⟨hl,h⟩:=h
  unfold Builtin.«tuple.__mul__»
  wp_walk
  rw[if_neg h1]
  wp_walk using %[|69]
  try rw[if_neg hc]
  wp_walk using %[|69]
  try rw[if_neg h2]
  wp_walk using %[|69]
  try rw[if_neg h3]
  wp_walk using %[|69]
  try rw[if_neg h4]
  wp_walk using %[|69]
  exact⟨_,rfl,h⟩
theorem Reps.rep{K:PySem.W.Frag}{O:Own}{H:Hp}{vs:List V}{ds:List D}(r:Reps K O H vs ds):∀k:Nat,Reps K O H (List.replicate k vs).flatten (List.replicate k ds).flatten
 | 0=>.nil
 | k+1=>by
   rw[List.replicate_succ,List.replicate_succ,List.flatten_cons,List.flatten_cons]
   exact r.append (Reps.rep r k)
theorem QL{X:Cx}{S:Store}{W:WD}{ds:List D}{k:Int}(hk: -(2 ^ 63)≤k/\k<2 ^ 63)(hz:ds.length*k.toNat≤1000000)(w:W (.tup (List.replicate k.toNat ds).flatten) S):cg X .Mult (.tup ds) (.int k) S W:=by
 sleep 9
 cases r1 with
 | @tup a xs _ h1 q1=>
   cases r2
   cases r3
   obtain⟨t,rfl⟩:=r4
   obtain⟨its,v1,p1,_⟩:=I.tuple h1.sq
   obtain⟨⟨cls,dd,data,sl⟩,ho,hc,n,hd⟩:=id p1
   simp only at hc hd
   subst hc hd
   have l1:its.length=ds.length:=by rw[←v1.length,q1.length]
   have c1:¬(decide (k< -(2 ^ 63))||decide (k≥2 ^ 63))=true:=by
    rw[ZH %[|1],ZH %[|1]];decide
   have new:∀m:Nat,m=k.toNat->EP X pins σ (QG X.K O H W) %[|59] {s with heap:=s.heap.push {cls:=%[|29],data:=.seq (List.replicate m its).flatten.toArray}}:=by
    rintro m rfl
    refine⟨%[|59],upd H s.heap.objs.size (.tup (List.replicate k.toNat xs).flatten),I.laid (t':=s.toks) (λ b u e=>ZC _ e) (x9 _) ?_,rfl,iH w st I.fresh (Reps.rep q1 _)⟩
    exact⟨by rw[len_rep,q1.length,Nat.mul_comm];exact small hz,_,v1.rep _,⟨_,%[|34],rfl,_,rfl⟩⟩
   refine PySem.wpAny_binaryOp_repeat_ref (T:="tuple") (U:="int") %[|2] ⟨_,ho,rfl⟩ (λ s'=>typeIs_int s' k t) pG F.fills_int_mul F.slot_int_rmul Al F.slot_int_index.lookup
    (call_meets F.slot_int_rmul (typeIs_int s k t) F.entry_int_rmul (F.args_int_rmul_2 _ _) (uA k t a its.toArray n dd sl) ⟨ho,rfl,⟨_,ho,rfl⟩,?_⟩)
   by_cases b1:(its.toArray.isEmpty||k==1)=true
   . refine call_meets F.slot_tuple_mul ⟨_,ho,rfl⟩ F.entry_tuple_mul (F.args_tuple_mul_2 _ _) (uN a its.toArray n dd sl k t c1 b1) ⟨ho,.ref a,H,I,rfl,?_⟩
     have e:(List.replicate k.toNat ds).flatten=ds:=by
      rw[Bool.or_eq_true]at b1
      rcases b1 with z | z
      . have:its=[]:=by simpa using z
        have:ds=[]:=by rw[this]at l1;simpa using l1.symm
        subst this
        simp
      . have:k=1:=ZI z
        subst this
        simp
     rw[e]at w
     exact QG.here w st (.tup h1 q1)
   . by_cases b2:(decide (k≤0)||its.toArray.isEmpty)=true
     . refine call_meets F.slot_tuple_mul ⟨_,ho,rfl⟩ F.entry_tuple_mul (F.args_tuple_mul_2 _ _) (uE a its.toArray n dd sl k t c1 b1 b2) ⟨ho,?_⟩
       have h0:k.toNat=0:=by
        rw[Bool.or_eq_true]at b2
        rcases b2 with z | z
        . have:=ZF z;omega
        . exact absurd (by rw[z];rfl) b1
       have:=new 0 h0.symm
       exact this
     . have h0:0<k:=by
        cases z:decide (k≤0)with
        | true=>exact absurd (by rw[z];rfl) b2
        | false=>have:=of_decide_eq_false z;omega
       have ek:(its.toArray.size:Int)*k=((its.length*k.toNat:Nat):Int):=by
        rw[List.size_toArray,Int.natCast_mul,Int.toNat_of_nonneg %[|1]]
       have fz:List.foldl (λ x1 x2=>x1++x2) #[] (List.replicate k.toNat its.toArray)=(List.replicate k.toNat its).flatten.toArray:=by
        have:=foldl_rep its k.toNat []
        rw[List.nil_append]at this
        exact this
       have big:its.length*k.toNat≤1000000:=by rw[l1];exact hz
       refine call_meets F.slot_tuple_mul ⟨_,ho,rfl⟩ F.entry_tuple_mul (F.args_tuple_mul_2 _ _) (t6 a its.toArray n dd sl k t c1 b1 b2 (by rw[ek];omega) ?_ ?_) ⟨ho,?_⟩
       . rw[ek]
         have:(1000000:Nat)≤sizeLine:=%[|2]
         unfold Builtin.Tuple.tupleTooMany
         rw[decide_eq_true_eq]
         omega
       . rw[fz,List.size_toArray,len_rep,Nat.mul_comm];exact small big
       . rw[fz]
         exact new _ rfl
variable {W : WD}
set_option genInjectivity false in
structure Wd where
 P:Program
 w:World
 K:PySem.W.Frag
 mg:%[|22]
 base:Heap
 cd:Option (Value×Str):=none
abbrev Nm:=%[|62]
structure At(Ω:Wd)(X:Cx)(r:Nat)(top:Bool)(N:%[|0])(nm:Nm):Prop where
 p:X.prog=Ω.P
 w:X.w=Ω.w
 k:X.K=Ω.K
 g:X.mg=Ω.mg
 b:X.base=Ω.base
 room:Room r X.A
 xe:X.xe=%[|25]
 calm:X.calm=true
 n:X.N=N
 nd:N.Nodup
 kind:X.env.scope.kind=.function
 look:∀x k,nm.lookup x=some k->X.env.kindOf x=some k∨(k=.free/\X.env.kindOf x=%[|19])
 fn:∀x,nm.lookup x=%[|19]->X.fn x=true
 cd:top=true->∀p,Ω.cd=some p->X.env.code=p.1/\X.env.qual=p.2
 fr:top=true->X.stack=X.env::X.outer/\%[|72]/\X.ex=[]
def vis(nm:Nm)(x:Str):Bool:=match nm.lookup x with | some .local=>true | some .cell=>true | some .free=>true | _=>false
def lcl(top:Bool)(nm:Nm)(x:Str):Bool:=match nm.lookup x with | some .local=>true | some .cell=>true | _=>false
def glb(nm:Nm)(x:Str):Bool:=nm.lookup x==some .globalImplicit
def okN(x:Str):Bool:=!(x==("__debug__":Str))&&(!(x==("__classdict__":Str))&& !(x==("__name__":Str)))
def okE:Expr->Bool
 | .Starred .. =>false | .Set .. =>false | .Slice .. =>false | _=>true
def noC:Expr->Bool
 | .ListComp .. =>false | .SetComp .. =>false | .DictComp .. =>false | _=>true
def Ek:Expr->Bool
 | .UnaryOp .. =>false | .BoolOp .. =>false | .IfExp .. =>false | .Compare .. =>false | _=>true
theorem aa{a b:Bool}(h:(a&&b)=true):a=true/\b=true:=by cases a<;>cases b<;>first | exact⟨rfl,rfl⟩ | exact(x5 h).elim
theorem nt{a:Bool}(h:(!a)=true):a=false:=by cases a<;>first | rfl | exact(x5 h).elim
theorem aY{x:Str}(h:okN x=true):%[|55]/\(x==("__classdict__":Str))=false/\x≠"__name__":=by
 obtain⟨h1,h2⟩:=aa h
 sleep 5
 exact⟨nt h1,nt h2,λ e=>by rw[e]at h3;simp at h3⟩
section
variable {Ω : Wd} {X : Cx} {r : Nat} {top : Bool} {N : %[|0]} {nm : Nm} {x : Str}
theorem At.vis(A:%[|42])(h:RF.vis nm x=true):Vis X.env.scope x:=by
 unfold RF.vis at h
 cases e:nm.lookup x with
 | none=>rw[e]at h;cases h
 | some k=>
   rw[e]at h
   have q:=A.look x k e
   cases k with
   | «local»=>rcases q with q | ⟨q,_⟩;exact .inl q;exact nomatch q
   | cell=>rcases q with q | ⟨q,_⟩;exact .inr (.inl q);exact nomatch q
   | free=>rcases q with q | ⟨_,q⟩;exact .inr (.inr q);exact .inr (.inl q)
   | _=>exact(x5 h).elim
theorem At.lcl(A:%[|42])(h:RF.lcl top nm x=true):Loc X.env.scope x/\%[|85]:=by
 unfold RF.lcl at h
 cases e:nm.lookup x with
 | none=>rw[e]at h;cases h
 | some k=>
   rw[e]at h
   have q:=A.look x k e
   cases k with
   | «local»=>rcases q with q | ⟨q,_⟩;exact⟨.inl q,.inr q⟩;exact nomatch q
   | cell=>rcases q with q | ⟨q,_⟩;exact⟨.inr q,.inl (A.fn x e)⟩;exact nomatch q
   | _=>exact(x5 h).elim
theorem At.glb(A:%[|42])(h:RF.glb nm x=true):Gl X x:=by
 have e:nm.lookup x=some .globalImplicit:=ZI h
 rcases A.look x _ e with q | ⟨q,_⟩
 . exact q
 . exact nomatch q
end
theorem aH{e:Expr}(h:okE e=true)(es:%[|12])(env:Env):starEach (e::es) env=(false,eval e env)::starEach es env:=by
 cases e<;>first | rfl | exact(x5 h).elim
theorem my:∀{es:%[|12]}(_:es.all okE=true)(pos:Pos)(env:Env),(backTo pos (starEach es env)).any (·.1)=false
 | [],_,_,_=>rfl
 | e::es,h,pos,env=>by
   rw[List.all_cons]at h
   obtain⟨h1,h2⟩:=aa h
   rw[aH h1]
   show(false||(backTo pos (starEach es env)).any (·.1))=false
   rw[my h2];rfl
theorem cB{op:CmpOp}{e:Expr}(h:okE e=true):behindInMarks op e=false:=by
 cases e<;>first | rfl | exact(x5 h).elim
theorem pB{e:Expr}(h:okE e=true):tD e:=by
 intro _ _
 cases e<;>first | rfl | exact(x5 h).elim
theorem gY{e:Expr}(h:okE e=true)(env:Env):∀x,foldedSetIterable e env x=pure x:=by
 intro x
 cases e<;>first | rfl | exact(x5 h).elim
theorem kW{e:Expr}(h:noC e=true)(t:Option Expr)(l:Nat)(env:Env):swapsWith e t l env=pure false:=by
 cases e<;>first | rfl | exact(x5 h).elim
theorem zU{e:Expr}(h:Ek e=true)(env:Env):∀whole,isTrue e env whole=(do let v ←whole;standAt e.pos;holding [v] (truthy v)):=by
 intro w
 cases e<;>first | rfl | exact(x5 h).elim
section
variable {X : Cx} {Γ : Gam} {S : Store} {e : Expr} {es : %[|12]}
theorem EvA.mono{W W':%[|31]}(h:EvA X Γ S es W)(k:∀ds S',W ds S'->W' ds S'):EvA X Γ S es W':=λ pos pins s σ H O I env st=>
 thn (h pos pins s σ H O I env st) λ _ _ hq_=>by obtain⟨v,H',I',r,O',d,S',w,q⟩:=hq_;exact⟨v,H',I',r,O',d,S',k d S' w,q⟩
theorem Ts.mono{W W':%[|28]}(h:Ts X Γ S e W)(k:∀c S',W c S'->W' c S'):Ts X Γ S e W':=λ pins s σ H O I env st=>
 thn %[|45] λ _ _ hq_=>by obtain⟨H',I',O',S',w,q⟩:=hq_;exact⟨H',I',O',S',k _ S' w,q⟩
theorem BdW.mono{d:D}{W W':Gam->%[|13]}(h:BdW X e d Γ S W)(k:∀G S',W G S'->W' G S'):BdW X e d Γ S W':=λ pins s σ H O v u I env st r ru=>
 thn (h pins s σ H O v u I env st r ru) λ _ _ q=>by
  obtain⟨σ',H',I',O',G,S',w,q⟩:=q
  exact⟨σ',H',I',O',G,S',k G S' w,q⟩
theorem ItW.mono{tg:Expr}{W W':%[|31]}(h:ItW X Γ S tg e W)(k:∀ds S',W ds S'->W' ds S'):ItW X Γ S tg e W':=λ pins s σ H O I env st=>
 thn %[|45] λ _ _ q=>thn q λ _ _ q=>by
  obtain⟨it,fp,tn,J,H',e1,e2,e3,e4,e5,O',ds,S',w,z⟩:=q
  exact⟨it,fp,tn,J,H',e1,e2,e3,e4,e5,O',ds,S',k ds S' w,z⟩
theorem TQ{pins:Pins}{O:Own}{H:Hp}{W W':DL.Fin}(h1:∀G S,W.nx G S->W'.nx G S)(h2:∀d S,W.rt d S->W'.rt d S)(h3:∀G S,W.bk G S->W'.bk G S)(h4:∀G S,W.ct G S->W'.ct G S){f:Flow}{s':Shared}(q:SP X pins (ends X.K O H W) f s'):SP X pins (ends X.K O H W') f s':=by
 cases f with
 | next=>obtain⟨σ,H',I,O',G,S',w,q⟩:=q;exact⟨σ,H',I,O',G,S',h1 _ _ w,q⟩
 | brk=>obtain⟨σ,H',I,O',G,S',w,q⟩:=q;exact⟨σ,H',I,O',G,S',h3 _ _ w,q⟩
 | cont=>obtain⟨σ,H',I,O',G,S',w,q⟩:=q;exact⟨σ,H',I,O',G,S',h4 _ _ w,q⟩
 | ret u=>obtain⟨v,σ,H',I,r,O',d,S',w,q⟩:=q;exact⟨v,σ,H',I,r,O',d,S',h2 _ _ w,q⟩
theorem Rn.mono{st:Stmt}{W W':DL.Fin}(h:Rn X Γ S st W)(h1:∀G S,W.nx G S->W'.nx G S)(h2:∀d S,W.rt d S->W'.rt d S)(h3:∀G S,W.bk G S->W'.bk G S)(h4:∀G S,W.ct G S->W'.ct G S):Rn X Γ S st W':=λ pins s σ H O I env ok=>
 thn %[|67] λ _ _ q=>TQ h1 h2 h3 h4 q
theorem JB{a b c:Expr}{op op':CmpOp}{pos:Pos}{W:%[|28]}(h:Ev X Γ S a λ x S1=>Ev X Γ S1 b λ y S2=>bf X op x y S2 (asB λ k S3=>(k=false->W false S3)/\(k=true->Ev X Γ S3 c λ t S4=>bf X op' y t S4 (asB W))))
 (hm:lastMarks [op,op'] [b,c]=false):Ts X Γ S (.Compare a [op,op'] [b,c] pos) W:=by
 sleep 0
 refine isTrue_chain (rs:=[]) %[|58] hm
 obtain⟨v,H1,I1,r1,O1,x,S1,hb,st1,ok1,rep1⟩:=hq_
 refine test_link (thn (hb pins s1 σ H1 O1 I1 %[|20] ok1) λ u' s2 hq_=>?_)
 obtain⟨w,H2,I2,r2,O2,y,S2,hw,st2,ok2,rep2⟩:=hq_
 refine thn (hw pins s2 σ H2 O2 v w u u' I2 ok2 (rep1.mono st2) rep2 r1 r2) λ _ s3 hq_=>?_
 obtain⟨z,H3,I3,r3,O3,d3,S3,⟨k,hd,k1,k2⟩,st3,ok3,rep3⟩:=hq_
 subst hd
 cases rep3
 cases r3
 refine wpAny_truthy_bool ?_
 cases k with
 | false=>exact ite_ff ⟨H3,I3,O3,S3,k1 rfl,(st1.trans st2).trans st3,ok3⟩
 | true=>
   refine ite_tt (test_last (thn (k2 rfl pins s3 σ H3 O3 I3 ((%[|20].mono st2).mono st3) ok3) λ u4 s4 hq_=>?_))
   obtain⟨w4,H4,I4,r4,O4,t,S4,h4,st4,ok4,rep4⟩:=hq_
   refine thn (h4 pins s4 σ H4 O4 w w4 u' u4 I4 ok4 ((rep2.mono st3).mono st4) rep4 r2 r4) λ _ s5 hq_=>?_
   obtain⟨z5,H5,I5,r5,O5,d5,S5,⟨k,hd,w5⟩,st5,ok5,rep5⟩:=hq_
   subst hd
   cases rep5
   cases r5
   exact wpAny_truthy_bool ⟨H5,I5,O5,S5,w5,(((st1.trans st2).trans st3).trans st4).trans st5,ok5⟩
end
def bII(x y:D)(k:Int->Int->Prop):Prop:=match x with
 | .int i=>(match y with
   | .int j=>k i j
   | _=>False)
 | _=>False
theorem dM{x y:D}{k:Int->Int->Prop}(h:bII x y k):∃i j,x=.int i/\y=.int j/\k i j:=by
 cases x<;>first | exact h.elim | (cases y<;>first | exact h.elim | exact⟨_,_,rfl,rfl,h⟩)
def bTu(x:D)(k:List D->Prop):Prop:=match x with
 | .tup a=>k a
 | _=>False
theorem tB{x:D}{k:List D->Prop}(h:bTu x k):∃a,x=.tup a/\k a:=by cases x<;>first | exact h.elim | exact⟨_,rfl,h⟩
def bLs(x:D)(k:List D->Prop):Prop:=match x with
 | .lst a=>k a
 | _=>False
theorem Dn{x:D}{k:List D->Prop}(h:bLs x k):∃a,x=.lst a/\k a:=by cases x<;>first | exact h.elim | exact⟨_,rfl,h⟩
def bIn(x:D)(k:Int->Prop):Prop:=match x with
 | .int a=>k a
 | _=>False
theorem Oh{x:D}{k:Int->Prop}(h:bIn x k):∃a,x=.int a/\k a:=by cases x<;>first | exact h.elim | exact⟨_,rfl,h⟩
def J5(x:D)(a b c:Prop):Prop:=match x with
 | .int _=>a
 | .tup _=>b
 | _=>c
theorem yM{x:D}{a b c:Prop}(h:J5 x a b c):a∨b∨c:=by cases x<;>first | exact .inl h | exact .inr (.inl h) | exact .inr (.inr h)
def Eh(op:Operator)(x y:D)(S:Store)(W:WD):Prop:=match op with
 | .Add=>J5 x (bII x y λ i j=>W (.int (i+j)) S) (bTu x λ a=>bTu y λ b=>a.length+b.length≤1000000/\W (.tup (a++b)) S) (bLs x λ a=>bLs y λ b=>a.length+b.length≤1000000/\W (.lst (a++b)) S)
 | .Sub=>bII x y λ i j=>W (.int (i-j)) S
 | .Mult=>J5 x (bII x y λ i j=>CMul i j/\W (.int (i*j)) S) (bTu x λ a=>bIn y λ n=>(-(2 ^ 63)≤n/\n<2 ^ 63)/\a.length*n.toNat≤1000000/\W (.tup (List.replicate n.toNat a).flatten) S) False
 | .Mod=>bII x y λ i j=>0<j/\W (.int (i % j)) S
 | .FloorDiv=>bII x y λ i j=>(0<j/\j<1073741824)/\W (.int (i/j)) S
 | .Pow=>bII x y λ i j=>CPow i j/\W (.int (i ^ j.toNat)) S
 | _=>False
theorem z9{X:Cx}{op:Operator}{x y:D}{S:Store}(h:Eh op x y S W):cg X op x y S W:=by
 cases op<;>first | exact(show False from h).elim | skip
 . rcases yM h with h | h | h
   . obtain⟨i,j,rfl,rfl,h⟩:=dM h;exact Vh h
   . obtain⟨a,rfl,h1⟩:=tB h;obtain⟨b,rfl,h2⟩:=tB h1;exact Sh h2.1 h2.2
   . obtain⟨a,rfl,h1⟩:=Dn h;obtain⟨b,rfl,h2⟩:=Dn h1;exact Tv h2.1 h2.2
 . obtain⟨i,j,rfl,rfl,h⟩:=dM h;exact Vn h
 . rcases yM h with h | h | h
   . obtain⟨i,j,rfl,rfl,h⟩:=dM h;exact Vp h.1 h.2
   . obtain⟨a,rfl,h1⟩:=tB h;obtain⟨b,rfl,h2⟩:=Oh h1;exact QL h2.1 h2.2.1 h2.2.2
   . exact h.elim
 all_goals obtain⟨i,j,rfl,rfl,h⟩:=dM h
 all_goals first | exact Vc h.1 h.2 | exact R3 h.1 h.2 | exact VN h.1 h.2
def LK(x y:D)(S:Store)(W:WD):Prop:=match x,y with
 | .tup ds,.int i=>∃d,atI ds i=some d/\W d S
 | .lst ds,.int i=>∃d,atI ds i=some d/\W d S
 | .loc k,.int i=>∃ds d,S[k]? =some ds/\atI ds i=some d/\W d S
 | _,_=>False
theorem Oj{X:Cx}{a b:Expr}{x y:D}{S:Store}(h:LK x y S W):IxW X a b x y S W:=by
 unfold LK at h
 split at h
 . obtain⟨d,h1,h2⟩:=h;exact Wk h1 h2
 . obtain⟨d,h1,h2⟩:=h;exact V2 h1 h2
 . obtain⟨ds,d,h1,h2,h3⟩:=h;exact V8 h1 h2 h3
 . exact h.elim
def JZ(x:D)(l h:%[|17])(S:Store)(W:WD):Prop:=match x with
 | .tup ds=>W (.tup (cutD ds l h)) S
 | .lst ds=>W (.lst (cutD ds l h)) S
 | .loc k=>∃ds,S[k]? =some ds/\W (.lst (cutD ds l h)) S
 | _=>False
theorem U9{X:Cx}{S:Store}{k:Nat}{ds:List D}{lo hi:%[|17]}(hk:S[k]? =some ds)(w:W (.lst (cutD ds lo hi)) S):SlW X (.loc k) lo hi S W:=by
 intro pins s σ H O v u vl vu sl I st r1 r3 hs pl pu
 cases r1 with
 | @loc p _ h1=>
   obtain⟨xs,hx,q1⟩:=st.obj k p ds h1 hk
   exact CQ pins s σ H _ u vl vu lo hi sl _ I r3 hs pl pu ⟨p,xs,rfl,SqL.of hx,λ p' hp=>jT w st hp (uU q1 lo hi)⟩
theorem NQ{X:Cx}{x:D}{l r:%[|17]}{S:Store}(h:JZ x l r S W):SlW X x l r S W:=by
 unfold JZ at h
 split at h
 . exact VB h
 . exact Wh h
 . obtain⟨ds,h1,h2⟩:=h;exact U9 h1 h2
 . exact h.elim
inductive Ty where
 | int | bool | tuple | list | str
 deriving DecidableEq
def Ty.id:Ty->String
 | .int=>"int" | .bool=>"bool" | .tuple=>"tuple" | .list=>"list" | .str=>"str"
def Ty.nm:Ty->Str
 | .int=>"int" | .bool=>"bool" | .tuple=>"tuple" | .list=>"list" | .str=>"str"
def isD:Ty->D->Bool
 | .int,.int _=>true | .int,.bl _=>true | .bool,.bl _=>true | .tuple,.tup _=>true | .list,.lst _=>true | .list,.loc _=>true | .str,.str _=>true | _,_=>false
theorem R4(T:Ty)(x:D):isi (tyD x) T.id=isD T x:=by cases T<;>cases x<;>rfl
theorem Ty.isT(T:Ty):DL.isT T.id=true:=by cases T<;>rfl
theorem Ty.boot(T:Ty):bootBuiltins T.nm=some (.type T.id):=by cases T<;>decide+kernel
theorem Ty.ok(T:Ty):(T.nm==("__debug__":Str))=false/\T.nm≠"__name__":=by cases T<;>decide+kernel
end RF
set_option maxHeartbeats 1000000
namespace RF
open PySem PySem.Spec L2 DL
open PyProof.Rows
variable {e : Expr}
def nameV:Expr->Option Str
 | .Name x _=>some x
 | _=>none
theorem bx{x:Str}(h:nameV e=some x):∃p,e=.Name x p:=by
 unfold nameV at h
 split at h
 . cases h;exact%[|24]
 . cases h
def yG:Expr->Option (Expr×%[|12]×Bool)
 | .Call f es ks _=>some (f,es,ks.isEmpty)
 | _=>none
theorem Hi{f:Expr}{es:%[|12]}(h:yG e=some (f,es,true)):∃pos,e=.Call f es [] pos:=by
 unfold yG at h
 split at h
 . rename_i f' es' ks pos
   have h:=Option.some.inj h
   have h1:=congrArg Prod.fst h
   have h2:=congrArg (λ z=>z.2.1) h
   have h3:ks.isEmpty=true:=congrArg (λ z=>z.2.2) h
   have h1:f'=f:=h1
   have h2:es'=es:=h2
   cases ks with
   | nil=>subst h1 h2;exact⟨pos,rfl⟩
   | cons=>cases h3
 . cases h
def anB{α:Type}(o:Option α)(k:α->Bool):Bool:=match o with
 | some a=>k a
 | none=>false
theorem bc{α:Type}{o:Option α}{k:α->Bool}(h:anB o k=true):∃a,o=some a/\k a=true:=by
 cases o with
 | none=>cases h
 | some a=>exact⟨a,rfl,h⟩
def fP(e:Expr)(k:Str->%[|12]->Bool):Bool:=anB (yG e) λ z=>z.2.2&&anB (nameV z.1) λ f=>k f z.2.1
theorem bU{k:Str->%[|12]->Bool}(h:fP e k=true):∃f p es pos,e=.Call (.Name f p) es [] pos/\k f es=true:=by
 obtain⟨⟨f,es,b⟩,h1,h⟩:=bc h
 obtain⟨hb,h⟩:=aa h
 have hb:b=true:=hb
 subst hb
 obtain⟨x,h2,h⟩:=bc h
 obtain⟨pos,rfl⟩:=Hi h1
 obtain⟨p,e2⟩:=bx h2
 have e2:f=.Name x p:=e2
 subst e2
 exact⟨x,p,es,pos,rfl,h⟩
def du{α:Type}(l:List α)(k:α->Bool):Bool:=match l with
 | [a]=>k a
 | _=>false
theorem bw{α:Type}{l:List α}{k:α->Bool}(h:du l k=true):∃a,l=[a]/\k a=true:=by
 cases l with
 | nil=>cases h
 | cons a l=>cases l with
   | nil=>exact⟨a,rfl,h⟩
   | cons=>cases h
def two2{α:Type}(l:List α)(k:α->α->Bool):Bool:=match l with
 | [a,b]=>k a b
 | _=>false
theorem two2_of{α:Type}{l:List α}{k:α->α->Bool}(h:two2 l k=true):∃a b,l=[a,b]/\k a b=true:=by
 cases l with
 | nil=>cases h
 | cons a l=>cases l with
   | nil=>cases h
   | cons b l=>cases l with
     | nil=>exact⟨a,b,rfl,h⟩
     | cons=>cases h
def Gm:Expr->Bool
 | .Tuple .. =>true
 | _=>false
theorem Dj(h:Gm e=true):∃es k p,e=.Tuple es k p:=by
 unfold Gm at h
 split at h
 . exact⟨_,_,_,rfl⟩
 . cases h
def sS:Expr->Option (Expr×Str×Pos)
 | .Attribute x m p=>some (x,m,p)
 | _=>none
theorem oG{x:Expr}{m:Str}{p:Pos}(h:sS e=some (x,m,p)):e=.Attribute x m p:=by
 unfold sS at h
 split at h
 . cases h;rfl
 . cases h
def pL:Stmt->Option (%[|12]×Expr)
 | .Assign ts e _=>some (ts,e)
 | _=>none
theorem uX{st:Stmt}{ts:%[|12]}(h:pL st=some (ts,e)):∃p,st=.Assign ts e p:=by
 unfold pL at h
 split at h
 . cases h;exact%[|24]
 . cases h
def setB(st:Stmt)(k:Str->Expr->Bool):Bool:=anB (pL st) λ z=>du z.1 λ t=>anB (nameV t) λ x=>k x z.2
theorem tV{st:Stmt}{k:Str->Expr->Bool}(h:setB st k=true):∃x q e p,st=.Assign [.Name x q] e p/\k x e=true:=by
 obtain⟨⟨ts,e⟩,h1,h⟩:=bc h
 obtain⟨t,e1,h⟩:=bw h
 obtain⟨x,h2,h⟩:=bc h
 obtain⟨p,rfl⟩:=uX h1
 obtain⟨q,rfl⟩:=bx h2
 have e1:ts=[Expr.Name x q]:=e1
 subst e1
 exact⟨x,q,e,p,rfl,h⟩
end RF
set_option maxHeartbeats 4000000
namespace RF
open PySem PySem.Spec L2 DL
open PyProof.Rows
variable {ds : List D} {S : Store} {x y : D} {W : Bool -> Store -> Prop}
mutual
def eqD:D->D->Bool
 | .non,.non=>true
 | .bl a,.bl b=>a==b
 | .int a,.int b=>a==b
 | .bl a,.int b=>(if a then 1 else 0)==b
 | .int a,.bl b=>a==(if b then 1 else 0)
 | .str a,.str b=>a==b
 | .tup a,.tup b=>cU a b
 | .lst a,.lst b=>cU a b
 | .dic,.dic=>true
 | _,_=>false
def cU:List D->List D->Bool
 | [],[]=>true
 | a::as,b::bs=>eqD a b&&cU as bs
 | _,_=>false
end
mutual
def okD:D->Bool
 | .tup ds=>cA ds
 | .lst ds=>cA ds
 | .loc _=>false
 | .dic=>false
 | .dlo _=>false
 | _=>true
def cA:List D->Bool
 | []=>true
 | d::ds=>okD d&&cA ds
end
mutual
inductive Sn(K:PySem.W.Frag)(H:Hp):V->D->Prop
 | non:Sn K H .non .non
 | bl(b:Bool):Sn K H (.bl b) (.bl b)
 | int(i:Int):Sn K H (.int i) (.int i)
 | str(x:Str):Sn K H (.str x) (.str x)
 | tup{a:Addr}{xs:List V}{ds:List D}(h:SqT K H a xs)(r:Sns K H xs ds):Sn K H (.ref a) (.tup ds)
 | lst{a:Addr}{xs:List V}{ds:List D}(h:SqL K H a xs)(r:Sns K H xs ds):Sn K H (.ref a) (.lst ds)
inductive Sns(K:PySem.W.Frag)(H:Hp):List V->List D->Prop
 | nil:Sns K H [] []
 | cons{v:V}{d:D}{vs:List V}{ds:List D}(r:Sn K H v d)(t:Sns K H vs ds):Sns K H (v::vs) (d::ds)
end
section
variable {K : PySem.W.Frag} {H : Hp} {O : Own}
theorem Sns.length:∀{vs:List V}{ds:List D},Sns K H vs ds->vs.length=ds.length
 | _,_,.nil=>rfl
 | _,_,.cons _ t=>by simp[Sns.length t]
theorem Sns.get:∀{vs:List V}{ds:List D}{i:Nat}{d:D},Sns K H vs ds->%[|33]->∃v,vs[i]? =some v/\Sn K H v d
 | _,_,_,_,.nil,e=>by simp at e
 | _,_,0,_,.cons r _,e=>by simp at e;subst e;exact⟨_,rfl,r⟩
 | _,_,i+1,d,.cons _ t,e=>by
   obtain⟨v,h1,h2⟩:=Sns.get (i:=i) (d:=d) t (by simpa using e)
   exact⟨v,by simpa using h1,h2⟩
mutual
theorem yr{v:V}{d:D}(h:okD d=true)(r:Rep K O H v d):Sn K H v d:=by
 cases r with
 | non=>exact .non
 | bl b=>exact .bl b
 | int i=>exact .int i
 | str x=>exact .str x
 | tup h1 r=>exact .tup h1.sq (mU h r)
 | lst h1 r=>exact .lst h1.sq (mU h r)
 | loc=>cases h
 | dic=>cases h
 | dlo=>cases h
theorem mU{vs:List V}{ds:List D}(h:cA ds=true)(r:Reps K O H vs ds):Sns K H vs ds:=by
 cases r with
 | nil=>exact .nil
 | cons r t=>
   obtain⟨h1,h2⟩:=aa h
   exact .cons (yr h1 r) (mU h2 t)
end
end
section
variable {X : Cx} {pins : Pins} {s : Shared} {σ : DL.St} {H : Hp}
mutual
theorem lM(I:%[|4]){v:V}{x y:D}(a:Sn X.K H v x)(b:Sn X.K H v y):x=y:=by
 cases a with
 | non=>cases b;rfl
 | bl=>cases b;rfl
 | int=>cases b;rfl
 | str=>cases b;rfl
 | tup h r=>
   cases b with
   | tup h' r'=>
     have e:=I.tuple_inj h h'
     subst e
     rw[uw I r r']
   | lst h' r'=>
     exfalso
     obtain⟨its,_,⟨o,h2,h3,_⟩,_⟩:=I.tuple h
     obtain⟨its2,_,pl,_⟩:=I.list h'
     obtain⟨o',h2',h3',_⟩:=pl.isList
     rw[h2]at h2'
     cases h2'
     rw[h3]at h3'
     exact absurd h3' %[|2]
 | lst h r=>
   cases b with
   | lst h' r'=>
     have e:=I.list_inj h h'
     subst e
     rw[uw I r r']
   | tup h' r'=>
     exfalso
     obtain⟨its,_,⟨o,h2,h3,_⟩,_⟩:=I.tuple h'
     obtain⟨its2,_,pl,_⟩:=I.list h
     obtain⟨o',h2',h3',_⟩:=pl.isList
     rw[h2]at h2'
     cases h2'
     rw[h3]at h3'
     exact absurd h3' %[|2]
theorem uw(I:%[|4]){vs:List V}{xs ys:List D}(a:Sns X.K H vs xs)(b:Sns X.K H vs ys):xs=ys:=by
 cases a with
 | nil=>cases b;rfl
 | cons r t=>
   cases b with
   | cons r' t'=>rw[lM I r r',uw I t t']
end
end
theorem Nz(a b:List D):eqD (.tup a) (.tup b)=cU a b:=rfl
theorem Pb(a b:List D):eqD (.lst a) (.lst b)=cU a b:=rfl
mutual
theorem j7:∀(x:D),aq x=true->eqD x x=true
 | .non,_=>rfl
 | .bl b,_=>beq_self_eq_true b
 | .int i,_=>beq_self_eq_true i
 | .str s,_=>beq_self_eq_true s
 | .tup ds,h=>mq ds h
 | .lst ds,h=>mq ds h
 | .loc _,h=>by cases h
 | .dlo _,h=>by cases h
 | .dic,_=>rfl
theorem mq:∀(xs:List D),ao xs=true->cU xs xs=true
 | [],_=>rfl
 | d::ds,h=>by
   obtain⟨h1,h2⟩:=aa (show(aq d&&ao ds)=true from h)
   show(eqD d d&&cU ds ds)=true
   rw[j7 d h1,mq ds h2]
   rfl
end
abbrev eqJ(ds es:List D)(j:Nat):Bool:=eqD (ds.getD j .non) (es.getD j .non)
theorem Lj(d e:D)(ds es:List D):(eqJ (d::ds) (e::es)) ∘ Nat.succ=eqJ ds es:=by
 funext j;simp[eqJ,List.getD]
theorem kI:∀(ds es:List D),((List.range (min ds.length es.length)).all (eqJ ds es)&&ds.length==es.length)=cU ds es
 | [],[]=>by simp[cU]
 | [],e::es=>by simp[cU]
 | d::ds,[]=>by simp[cU]
 | d::ds,e::es=>by
   have ih:=kI ds es
   have h1:min (d::ds).length (e::es).length=min ds.length es.length+1:=by simp only[List.length_cons];omega
   rw[h1,List.range_succ_eq_map,List.all_cons,List.all_map,Lj]
   have h2:((d::ds).length==(e::es).length)=(ds.length==es.length):=by simp
   have h3:eqJ (d::ds) (e::es) 0=eqD d e:=by simp[eqJ,List.getD]
   rw[h2,h3,Bool.and_assoc,ih]
   simp only[cU]
theorem JT{es:List D}(h:ds.length=es.length):(List.range ds.length).all (eqJ ds es)=cU ds es:=by
 rw[←kI ds es,←h,Nat.min_self,beq_self_eq_true,Bool.and_true]
theorem PL{es:List D}(h:ds.length≠es.length):cU ds es=false:=by
 rw[←kI ds es]
 have:(ds.length==es.length)=false:=by simpa using h
 rw[this,Bool.and_false]
section
variable {X : Cx}
theorem uo{n:Nat}(ih:∀(x y:D),deep x≤n->∀{pins:Pins}{s:Shared}{σ:DL.St}{H:Hp}{v w:V}{u u':Value}{A:Around},%[|4]->Sn X.K H v x->Sn X.K H w y->RelV v u->RelV w u'->A.units+n<cLine->SeqAt.EqAt A s u u' (eqD x y))
 (x y:D)(hx:deep x≤n+1){pins:Pins}{s:Shared}{σ:DL.St}{H:Hp}{v w:V}{u u':Value}{A:Around}(I:%[|4])(r1:Sn X.K H v x)(r2:Sn X.K H w y)(ru:RelV v u)(ru':RelV w u')(hu:A.units+(n+1)<cLine):
 SeqAt.RcAt A s u u' (eqD x y)/\SeqAt.RcNeAt A s u u' (!eqD x y):=by
 have hu0:A.units<cLine:=%[|1]
 have part:∀{ds es:List D}{xs ys:List V}{its its2:%[|11]},aM ds≤n->Sns X.K H xs ds->Sns X.K H ys es->Vals xs its->Vals ys its2->∀j(h1:j<its.toArray.size)(h2:j<its2.toArray.size),SeqAt.EqAt A.in1 s its.toArray[j] its2.toArray[j] (eqJ ds es j):=by
  intro ds es xs ys its its2 hd q1 q2 v1 v2 j j1 j2
  have l1:its.length=ds.length:=by rw[←v1.length,q1.length]
  have l2:its2.length=es.length:=by rw[←v2.length,q2.length]
  have hj:j<ds.length:=by simpa[l1]using j1
  have hj2:j<es.length:=by simpa[l2]using j2
  obtain⟨z1,a1,b1⟩:=q1.get (y8 hj)
  obtain⟨z2,a2,b2⟩:=q2.get (y8 hj2)
  obtain⟨u1,c1,d1⟩:=v1.get a1
  obtain⟨u2,c2,d2⟩:=v2.get a2
  have e1:its.toArray[j]=u1:=by have:=(z0.mp c1).2;simpa using this
  have e2:its2.toArray[j]=u2:=by have:=(z0.mp c2).2;simpa using this
  rw[e1,e2]
  have e3:eqJ ds es j=eqD ds[j] es[j]:=by simp[eqJ,List.getD,hj,hj2]
  rw[e3]
  have hd':=cF (y8 hj)
  exact ih ds[j] es[j] %[|1] I b1 b2 d1 d2 (by show A.units+1+n<cLine;omega)
 cases r1 with
 | non=>
   cases ru
   cases r2 with
   | non=>cases ru';exact⟨SeqAt.RcAt.none_none,SeqAt.RcNeAt.none_none⟩
   | bl b=>cases ru';exact⟨SeqAt.RcAt.none_bool b,SeqAt.RcNeAt.none_bool b⟩
   | int i=>sleep 6;exact⟨SeqAt.RcAt.none_int i t',SeqAt.RcNeAt.none_int i t'⟩
   | str i=>sleep 6;exact⟨SeqAt.RcAt.none_str i t',SeqAt.RcNeAt.none_str i t'⟩
   | tup h2 q2=>
     cases ru';obtain⟨its2,v2,p2,_⟩:=I.tuple h2
     exact⟨SeqAt.RcAt.none_tuple %[|66] hu0,SeqAt.RcNeAt.none_tuple %[|66] hu0⟩
   | lst h2 q2=>
     cases ru';obtain⟨its2,v2,p2,_⟩:=I.list h2
     exact⟨SeqAt.RcAt.none_list p2.isList hu0,SeqAt.RcNeAt.none_list p2.isList hu0⟩
 | bl a=>
   cases ru
   cases r2 with
   | non=>cases ru';exact⟨SeqAt.RcAt.bool_none a,SeqAt.RcNeAt.bool_none a⟩
   | bl b=>cases ru';exact⟨SeqAt.RcAt.bool_bool a b,SeqAt.RcNeAt.bool_bool a b⟩
   | int i=>sleep 6;exact⟨SeqAt.RcAt.bool_int a i t',SeqAt.RcNeAt.bool_int a i t'⟩
   | str i=>sleep 6;exact⟨SeqAt.RcAt.bool_str a i t',SeqAt.RcNeAt.bool_str a i t'⟩
   | tup h2 q2=>
     cases ru';obtain⟨its2,v2,p2,_⟩:=I.tuple h2
     exact⟨SeqAt.RcAt.bool_tuple a %[|66] hu0,SeqAt.RcNeAt.bool_tuple a %[|66] hu0⟩
   | lst h2 q2=>
     cases ru';obtain⟨its2,v2,p2,_⟩:=I.list h2
     exact⟨SeqAt.RcAt.bool_list a p2.isList hu0,SeqAt.RcNeAt.bool_list a p2.isList hu0⟩
 | int a=>
   obtain⟨t,rfl⟩:=ru
   cases r2 with
   | non=>cases ru';exact⟨SeqAt.RcAt.int_none a t,SeqAt.RcNeAt.int_none a t⟩
   | bl b=>cases ru';exact⟨SeqAt.RcAt.int_bool a t b,SeqAt.RcNeAt.int_bool a t b⟩
   | int i=>sleep 6;exact⟨SeqAt.RcAt.int_int a t i t',SeqAt.RcNeAt.int_int a t i t'⟩
   | str i=>sleep 6;exact⟨SeqAt.RcAt.int_str a t i t',SeqAt.RcNeAt.int_str a t i t'⟩
   | tup h2 q2=>
     cases ru';obtain⟨its2,v2,p2,_⟩:=I.tuple h2
     exact⟨SeqAt.RcAt.int_tuple a t %[|66] hu0,SeqAt.RcNeAt.int_tuple a t %[|66] hu0⟩
   | lst h2 q2=>
     cases ru';obtain⟨its2,v2,p2,_⟩:=I.list h2
     exact⟨SeqAt.RcAt.int_list a t p2.isList hu0,SeqAt.RcNeAt.int_list a t p2.isList hu0⟩
 | str a=>
   obtain⟨t,rfl⟩:=ru
   cases r2 with
   | non=>cases ru';exact⟨SeqAt.RcAt.str_none a t,SeqAt.RcNeAt.str_none a t⟩
   | bl b=>cases ru';exact⟨SeqAt.RcAt.str_bool a t b,SeqAt.RcNeAt.str_bool a t b⟩
   | int i=>sleep 6;exact⟨SeqAt.RcAt.str_int a t i t',SeqAt.RcNeAt.str_int a t i t'⟩
   | str i=>sleep 6;exact⟨SeqAt.RcAt.str_str a t i t',SeqAt.RcNeAt.str_str a t i t'⟩
   | tup h2 q2=>
     cases ru';obtain⟨its2,v2,p2,_⟩:=I.tuple h2
     exact⟨SeqAt.RcAt.str_tuple a t %[|66] hu0,SeqAt.RcNeAt.str_tuple a t %[|66] hu0⟩
   | lst h2 q2=>
     cases ru';obtain⟨its2,v2,p2,_⟩:=I.list h2
     exact⟨SeqAt.RcAt.str_list a t p2.isList hu0,SeqAt.RcNeAt.str_list a t p2.isList hu0⟩
 | @tup a xs ds h1 q1=>
   cases ru
   obtain⟨its,v1,p1,_⟩:=I.tuple h1
   have p1:s.heap.IsTuple a its.toArray:=p1
   cases r2 with
   | non=>cases ru';exact⟨SeqAt.RcAt.tuple_none p1 hu0,SeqAt.RcNeAt.tuple_none p1 hu0⟩
   | bl b=>cases ru';exact⟨SeqAt.RcAt.tuple_bool b p1 hu0,SeqAt.RcNeAt.tuple_bool b p1 hu0⟩
   | int i=>sleep 6;exact⟨SeqAt.RcAt.tuple_int i t' p1 hu0,SeqAt.RcNeAt.tuple_int i t' p1 hu0⟩
   | str i=>sleep 6;exact⟨SeqAt.RcAt.tuple_str i t' p1 hu0,SeqAt.RcNeAt.tuple_str i t' p1 hu0⟩
   | @tup b ys es h2 q2=>
     cases ru'
     obtain⟨its2,v2,p2,_⟩:=I.tuple h2
     have p2:s.heap.IsTuple b its2.toArray:=p2
     have l1:its.toArray.size=ds.length:=by rw[List.size_toArray,←v1.length,q1.length]
     have l2:its2.toArray.size=es.length:=by rw[List.size_toArray,←v2.length,q2.length]
     have hd:aM ds≤n:=by simp[deep]at hx;exact hx
     have a1:=SeqAt.RcAt.tuples (e:=eqJ ds es) p1 p2 hu0 (part hd q1 q2 v1 v2)
     have a2:=SeqAt.RcNeAt.tuples (e:=eqJ ds es) p1 p2 hu0 (part hd q1 q2 v1 v2)
     rw[l1,l2,kI]at a1 a2
     rw[Nz]
     exact⟨a1,a2⟩
   | lst h2 q2=>
     cases ru';obtain⟨its2,v2,p2,_⟩:=I.list h2
     exact⟨SeqAt.RcAt.tuple_list p1 p2.isList hu0,SeqAt.RcNeAt.tuple_list p1 p2.isList hu0⟩
 | @lst a xs ds h1 q1=>
   cases ru
   obtain⟨its,v1,p1,_⟩:=I.list h1
   have p1:=p1.isList
   cases r2 with
   | non=>cases ru';exact⟨SeqAt.RcAt.list_none p1 hu0,SeqAt.RcNeAt.list_none p1 hu0⟩
   | bl b=>cases ru';exact⟨SeqAt.RcAt.list_bool b p1 hu0,SeqAt.RcNeAt.list_bool b p1 hu0⟩
   | int i=>sleep 6;exact⟨SeqAt.RcAt.list_int i t' p1 hu0,SeqAt.RcNeAt.list_int i t' p1 hu0⟩
   | str i=>sleep 6;exact⟨SeqAt.RcAt.list_str i t' p1 hu0,SeqAt.RcNeAt.list_str i t' p1 hu0⟩
   | tup h2 q2=>
     cases ru';obtain⟨its2,v2,p2,_⟩:=I.tuple h2
     exact⟨SeqAt.RcAt.list_tuple p1 %[|66] hu0,SeqAt.RcNeAt.list_tuple p1 %[|66] hu0⟩
   | @lst b ys es h2 q2=>
     cases ru'
     obtain⟨its2,v2,p2,_⟩:=I.list h2
     have p2:=p2.isList
     have l1:its.toArray.size=ds.length:=by rw[List.size_toArray,←v1.length,q1.length]
     have l2:its2.toArray.size=es.length:=by rw[List.size_toArray,←v2.length,q2.length]
     have hd:aM ds≤n:=by simp[deep]at hx;exact hx
     rw[Pb]
     by_cases hl:ds.length=es.length
     . have a1:=SeqAt.RcAt.lists (e:=eqJ ds es) p1 p2 (by rw[l1,l2,hl]) hu0 (part hd q1 q2 v1 v2)
       have a2:=SeqAt.RcNeAt.lists (e:=eqJ ds es) p1 p2 (by rw[l1,l2,hl]) hu0 (part hd q1 q2 v1 v2)
       rw[l1,JT hl]at a1 a2
       exact⟨a1,a2⟩
     . have z:(its.toArray.size !=its2.toArray.size)=true:=by rw[l1,l2];simpa using hl
       rw[PL hl]
       exact⟨SeqAt.RcAt.lists_lengths p1 p2 z hu0,SeqAt.RcNeAt.lists_lengths p1 p2 z hu0⟩
theorem zy:∀{K:PySem.W.Frag}{H:Hp}{v:V}{x:D},Sn K H v x->aq x=true:=by
 intro K H v x h
 refine Sn.rec (motive_1:=λ v x _=>aq x=true) (motive_2:=λ vs xs _=>ao xs=true) ?_ ?_ ?_ ?_ ?_ ?_ ?_ ?_ h
 . simp[aq]
 . intro b;simp[aq]
 . intro b;simp[aq]
 . intro b;simp[aq]
 . intro a xs ds h r ih;simpa[aq]using ih
 . intro a xs ds h r ih;simpa[aq]using ih
 . simp[ao]
 . intro v d vs ds r t ih1 ih2;simp[ao,ih1,ih2]
theorem Fe (n:Nat):∀(x y:D),deep x≤n->∀{pins:Pins}{s:Shared}{σ:DL.St}{H:Hp}{v w:V}{u u':Value}{A:Around},%[|4]->Sn X.K H v x->Sn X.K H w y->RelV v u->RelV w u'->A.units+n<cLine->SeqAt.EqAt A s u u' (eqD x y):=by
 induction n with
 | zero=>
   intro x y hx pins s σ H v w u u' A I r1 r2 ru ru' hu
   cases r1 with
   | non=>
     cases ru
     cases r2 with
     | non=>cases ru';exact SeqAt.EqAt.same _
     | bl b=>cases ru';exact SeqAt.EqAt.none_bool b
     | int i=>sleep 6;exact SeqAt.EqAt.none_int i t'
     | str i=>sleep 6;exact SeqAt.EqAt.none_str i t'
     | tup h2 q2=>cases ru';obtain⟨its2,v2,p2,_⟩:=I.tuple h2;exact SeqAt.EqAt.none_tuple %[|66] %[|1]
     | lst h2 q2=>cases ru';obtain⟨its2,v2,p2,_⟩:=I.list h2;exact SeqAt.EqAt.none_list p2.isList %[|1]
   | bl a=>
     cases ru
     cases r2 with
     | non=>cases ru';exact SeqAt.EqAt.bool_none a
     | bl b=>cases ru';exact SeqAt.EqAt.bool_bool a b
     | int i=>sleep 6;exact SeqAt.EqAt.bool_int a i t'
     | str i=>sleep 6;exact SeqAt.EqAt.bool_str a i t'
     | tup h2 q2=>cases ru';obtain⟨its2,v2,p2,_⟩:=I.tuple h2;exact SeqAt.EqAt.bool_tuple a %[|66] %[|1]
     | lst h2 q2=>cases ru';obtain⟨its2,v2,p2,_⟩:=I.list h2;exact SeqAt.EqAt.bool_list a p2.isList %[|1]
   | int a=>
     obtain⟨t,rfl⟩:=ru
     cases r2 with
     | non=>cases ru';exact SeqAt.EqAt.int_none a t
     | bl b=>cases ru';exact SeqAt.EqAt.int_bool a t b
     | int i=>sleep 6;exact SeqAt.EqAt.int_int a t i t'
     | str i=>sleep 6;exact SeqAt.EqAt.int_str a t i t'
     | tup h2 q2=>cases ru';obtain⟨its2,v2,p2,_⟩:=I.tuple h2;exact SeqAt.EqAt.int_tuple a t %[|66] %[|1]
     | lst h2 q2=>cases ru';obtain⟨its2,v2,p2,_⟩:=I.list h2;exact SeqAt.EqAt.int_list a t p2.isList %[|1]
   | str a=>
     obtain⟨t,rfl⟩:=ru
     cases r2 with
     | non=>cases ru';exact SeqAt.EqAt.str_none a t
     | bl b=>cases ru';exact SeqAt.EqAt.str_bool a t b
     | int i=>sleep 6;exact SeqAt.EqAt.str_int a t i t'
     | str i=>sleep 6;exact SeqAt.EqAt.str_str a t i t'
     | tup h2 q2=>cases ru';obtain⟨its2,v2,p2,_⟩:=I.tuple h2;exact SeqAt.EqAt.str_tuple a t %[|66] %[|1]
     | lst h2 q2=>cases ru';obtain⟨its2,v2,p2,_⟩:=I.list h2;exact SeqAt.EqAt.str_list a t p2.isList %[|1]
   | tup _ _=>simp[deep]at hx
   | lst _ _=>simp[deep]at hx
 | succ n ih=>
   intro x y hx pins s σ H v w u u' A I r1 r2 ru ru' hu
   by_cases h0:deep x≤n
   . exact ih x y h0 I r1 r2 ru ru' %[|1]
   . have both:=uo ih x y hx I r1 r2 ru ru' hu
     cases r1 with
     | non=>simp[deep]at h0
     | bl b=>simp[deep]at h0
     | int b=>simp[deep]at h0
     | str b=>simp[deep]at h0
     | @tup a xs ds h1 q1=>
       cases ru
       obtain⟨its,v1,p1,_⟩:=I.tuple h1
       have p1:s.heap.IsTuple a its.toArray:=p1
       cases r2 with
       | non=>cases ru';exact SeqAt.EqAt.tuple_none p1 %[|1]
       | bl b=>cases ru';exact SeqAt.EqAt.tuple_bool b p1 %[|1]
       | int i=>sleep 6;exact SeqAt.EqAt.tuple_int i t' p1 %[|1]
       | str i=>sleep 6;exact SeqAt.EqAt.tuple_str i t' p1 %[|1]
       | @tup b ys es h2 q2=>
         cases ru'
         by_cases e:a=b
         . subst e
           have e2:=lM I (.tup h1 q1) (.tup h2 q2)
           rw[←e2,j7 _ (zy (.tup h1 q1))]
           exact SeqAt.EqAt.same _
         . exact SeqAt.EqAt.of_refs e both.1
       | @lst b ys es h2 q2=>
         cases ru';obtain⟨its2,v2,p2,_⟩:=I.list h2;exact SeqAt.EqAt.tuple_list p1 p2.isList %[|1]
     | @lst a xs ds h1 q1=>
       cases ru
       obtain⟨its,v1,p1,_⟩:=I.list h1
       have p1:=p1.isList
       cases r2 with
       | non=>cases ru';exact SeqAt.EqAt.list_none p1 %[|1]
       | bl b=>cases ru';exact SeqAt.EqAt.list_bool b p1 %[|1]
       | int i=>sleep 6;exact SeqAt.EqAt.list_int i t' p1 %[|1]
       | str i=>sleep 6;exact SeqAt.EqAt.list_str i t' p1 %[|1]
       | tup h2 q2=>cases ru';obtain⟨its2,v2,p2,_⟩:=I.tuple h2;exact SeqAt.EqAt.list_tuple p1 %[|66] %[|1]
       | @lst b ys es h2 q2=>
         cases ru'
         by_cases e:a=b
         . subst e
           have e2:=lM I (.lst h1 q1) (.lst h2 q2)
           rw[←e2,j7 _ (zy (.lst h1 q1))]
           exact SeqAt.EqAt.same _
         . exact SeqAt.EqAt.of_refs e both.1
def vw(S:Store):D->D
 | .loc k=>match S[k]? with | some ds=>.lst ds | none=>.loc k
 | d=>d
def GP(S:Store)(x y:D):Prop:=okD (vw S x)=true/\okD (vw S y)=true/\deep (vw S x)≤50
theorem je{K:PySem.W.Frag}{O:Own}{H:Hp}{v:V}(st:StOk K O H S)(r:Rep K O H v x)(h:okD (vw S x)=true):Sn K H v (vw S x):=by
 cases r with
 | @loc a k hk=>
   simp only[vw]at h ⊢
   have hl:k<S.length:=by rw[←st.len];exact(z0.mp hk).1
   obtain⟨xs,hx,q⟩:=st.obj k a S[k] hk (y8 hl)
   rw[y8 hl]at h ⊢
   exact .lst (SqL.of hx) (mU (by simpa[okD]using h) q)
 | non=>exact .non
 | bl b=>exact .bl b
 | int i=>exact .int i
 | str i=>exact .str i
 | tup h1 q1=>exact yr h (.tup h1 q1)
 | lst h1 q1=>exact yr h (.lst h1 q1)
 | dic h1 e1=>simp[vw,okD]at h
 | dlo h1 _=>simp[vw,okD]at h
theorem Vu(hu:X.A.units+60<cLine)(h:GP S x y)(w:W (eqD (vw S x) (vw S y)) S):bf X .Eq x y S (asB W):=by
 sleep 9
 obtain⟨h1,h2,h3⟩:=h
 have:=(uo (n:=50) (A:=X.A) (Fe 50) (vw S x) (vw S y) %[|1] I (je st r1 h1) (je st r2 h2) r3 r4 %[|1]).1
 exact this _ _ _ _ ⟨.bl _,H,I,rfl,QG.here ⟨_,rfl,w⟩ st (.bl _)⟩
theorem VM(hu:X.A.units+60<cLine)(h:GP S x y)(w:W (!eqD (vw S x) (vw S y)) S):bf X .NotEq x y S (asB W):=by
 sleep 9
 obtain⟨h1,h2,h3⟩:=h
 have:=(uo (n:=50) (A:=X.A) (Fe 50) (vw S x) (vw S y) %[|1] I (je st r1 h1) (je st r2 h2) r3 r4 %[|1]).2
 exact this _ _ _ _ ⟨.bl _,H,I,rfl,QG.here ⟨_,rfl,w⟩ st (.bl _)⟩
theorem j5:∀{xs:List V}{its:%[|11]}{i:Nat}{v:V},Vals xs its->xs[i]? =some v->∃y,its[i]? =some y/\RelV v y
 | _,_,_,_,.nil,e=>by simp at e
 | _,_,0,_,.cons a _,e=>by simp at e;subst e;exact⟨_,rfl,a⟩
 | _,_,i+1,v,.cons _ t,e=>by
   obtain⟨y,h1,h2⟩:=j5 (i:=i) (v:=v) t (by simpa using e)
   exact⟨y,by simpa using h1,h2⟩
theorem DP{pins:Pins}{s:Shared}{σ:DL.St}{H:Hp}{v w':V}{u u':Value}(hu:X.A.units+60<cLine)(I:%[|4])(sx:Sn X.K H v x)(sy:Sn X.K H w' (.lst ds))(r3:RelV v u)(r4:RelV w' u')(h3:aM ds≤50):
 ∃(l:Addr) (its:%[|11]) (e:Value->Bool),u'=.ref l/\s.heap.IsList l its.toArray/\(∀y,y∈its.toArray->SeqAt.EqAt X.A.in1 s y u (e y))/\its.toArray.any e=ds.any λ d=>eqD d x:=by
 classical
 cases sy with
 | @lst a xs _ h1 q1=>
   cases r4
   obtain⟨its,rv,pl,hz⟩:=I.list h1
   let e:Value->Bool:=λ y=>decide (∃(v':V) (d:D),RelV v' y/\Sn X.K H v' d/\eqD d x=true)
   have ev:∀(y:Value)(v':V)(d:D),RelV v' y->Sn X.K H v' d->e y=eqD d x:=by
    intro y v' d hr hs
    cases hd:eqD d x with
    | true=>exact ZG ⟨v',d,hr,hs,hd⟩
    | false=>
      refine ZH ?_
      rintro⟨v2,d2,hr2,hs2,hd2⟩
      have ev':=hr2.inj hr
      subst ev'
      have:=lM I hs2 hs
      subst this
      rw[hd]at hd2;cases hd2
   refine⟨a,its,e,rfl,pl.isList,?_,?_⟩
   . intro y hy
     have hy':y∈its:=by simpa using hy
     obtain⟨i,hi⟩:=ZR hy'
     have hlt:i<xs.length:=by rw[rv.length];exact(z0.mp hi).1
     obtain⟨d,hd⟩:∃d,%[|33]:=⟨_,y8 (by rw[←q1.length];exact hlt)⟩
     obtain⟨v',hv',hs⟩:=q1.get hd
     obtain⟨y',hy2,hr⟩:=j5 rv hv'
     rw[hi]at hy2;cases hy2
     rw[ev y v' d hr hs]
     exact Fe 50 d x (Nat.le_trans (cF hd) h3) I hs sx hr r3 (by show X.A.units+1+50<cLine;omega)
   . have hlen:its.length=ds.length:=by rw[←rv.length,q1.length]
     have main:∀(xs:List V)(its:%[|11])(ds:List D),Vals xs its->Sns X.K H xs ds->its.any e=ds.any λ d=>eqD d x:=by
      intro xs its ds rv q1
      induction rv generalizing ds with
      | nil=>cases q1;rfl
      | cons hr _ ih=>
        cases q1 with
        | cons hs ht=>rw[List.any_cons,List.any_cons,ev _ _ _ hr hs,ih _ ht]
     rw[List.any_toArray]
     exact main xs its ds rv q1
theorem Wl(hu:X.A.units+60<cLine)(hy:vw S y=.lst ds)(h1:okD (vw S x)=true)(h2:cA ds=true)(h3:aM ds≤50)(w:W (ds.any λ d=>eqD d (vw S x)) S):bf X .In x y S (asB W):=by
 sleep 9
 have sy:=je st r2 (by rw[hy];simpa[okD]using h2)
 rw[hy]at sy
 obtain⟨l,its,e,rfl,hl,he,ha⟩:=DP hu I (je st r1 h1) sy r3 r4 h3
 refine SeqAt.in_listAt e hl he ?_
 rw[ha]
 exact⟨.bl _,H,I,rfl,QG.here ⟨_,rfl,w⟩ st (.bl _)⟩
theorem Ue(hu:X.A.units+60<cLine)(hy:vw S y=.lst ds)(h1:okD (vw S x)=true)(h2:cA ds=true)(h3:aM ds≤50)(w:W (!(ds.any λ d=>eqD d (vw S x))) S):bf X .NotIn x y S (asB W):=by
 sleep 9
 have sy:=je st r2 (by rw[hy];simpa[okD]using h2)
 rw[hy]at sy
 obtain⟨l,its,e,rfl,hl,he,ha⟩:=DP hu I (je st r1 h1) sy r3 r4 h3
 refine SeqAt.notIn_listAt e hl he ?_
 rw[ha]
 exact⟨.bl _,H,I,rfl,QG.here ⟨_,rfl,w⟩ st (.bl _)⟩
end
end RF
namespace RF
open PySem PySem.Spec L2 DL
open PyProof.Rows
variable {X : Cx}
def isN:D->Bool
 | .non=>true
 | _=>false
theorem Q6{a b:Bool}{S:Store}{W:%[|28]}(w:W (a==b) S):bf X .Is (.bl a) (.bl b) S (asB W):=by
 sleep 9
 cases r1;cases r2;cases r3;cases r4
 refine wpAny_is_plain rfl ?_
 have e:(Value.bool a==Value.bool b)=(a==b):=by cases a<;>cases b<;>rfl
 rw[e]
 exact⟨.bl _,H,I,rfl,QG.here ⟨_,rfl,w⟩ st (.bl _)⟩
theorem Ho{a b:Bool}{S:Store}{W:%[|28]}(w:W (!(a==b)) S):bf X .IsNot (.bl a) (.bl b) S (asB W):=by
 sleep 9
 cases r1;cases r2;cases r3;cases r4
 refine wpAny_isNot_plain rfl ?_
 have e:(Value.bool a==Value.bool b)=(a==b):=by cases a<;>cases b<;>rfl
 rw[e]
 exact⟨.bl _,H,I,rfl,QG.here ⟨_,rfl,w⟩ st (.bl _)⟩
def bEq(x y:D)(ki:Int->Int->Prop)(kb:Bool->Bool->Prop)(g:Prop):Prop:=match x with
 | .int i=>(match y with
   | .int j=>ki i j
   | _=>g)
 | .bl i=>(match y with
   | .bl j=>kb i j
   | _=>g)
 | _=>g
theorem CZ{x y:D}{ki:Int->Int->Prop}{kb:Bool->Bool->Prop}{g:Prop}(h:bEq x y ki kb g):(∃i j,x=.int i/\y=.int j/\ki i j)∨(∃i j,x=.bl i/\y=.bl j/\kb i j)∨g:=by
 cases x<;>first | exact .inr (.inr h) | (cases y<;>first | exact .inr (.inr h) | exact .inl ⟨_,_,rfl,rfl,h⟩ | exact .inr (.inl ⟨_,_,rfl,rfl,h⟩))
def bIs(x y:D)(n:Prop)(kb:Bool->Bool->Prop):Prop:=match y with
 | .non=>n
 | .bl j=>(match x with
   | .bl i=>kb i j
   | _=>False)
 | _=>False
theorem Do{x y:D}{n:Prop}{kb:Bool->Bool->Prop}(h:bIs x y n kb):(y=.non/\n)∨∃i j,x=.bl i/\y=.bl j/\kb i j:=by
 cases y<;>first | exact h.elim | exact .inl ⟨rfl,h⟩ | (cases x<;>first | exact h.elim | exact .inr ⟨_,_,rfl,rfl,h⟩)
@[irreducible] noncomputable def aK(op:CmpOp)(x y:D)(S:Store)(W:%[|28]):Prop:=match op with
  | .Lt=>bII x y λ i j=>W (decide (i<j)) S
  | .LtE=>bII x y λ i j=>W (decide (i≤j)) S
  | .Gt=>bII x y λ i j=>W (decide (j<i)) S
  | .GtE=>bII x y λ i j=>W (decide (j≤i)) S
  | .Eq=>bEq x y (λ i j=>W (decide (i=j)) S) (λ i j=>W (i==j) S) (GP S x y/\W (eqD (vw S x) (vw S y)) S)
  | .NotEq=>bEq x y (λ i j=>W (!decide (i=j)) S) (λ i j=>W (!(i==j)) S) ((GP S x y/\W (!eqD (vw S x) (vw S y)) S)∨(x=y/\aq x=true/\deep x≤50/\W false S))
  | .Is=>bIs x y (W (isN x) S) λ i j=>W (i==j) S
  | .IsNot=>bIs x y (W (!isN x) S) λ i j=>W (!(i==j)) S
  | .In=>∃ds,vw S y=.lst ds/\okD (vw S x)=true/\cA ds=true/\aM ds≤50/\W (ds.any λ d=>eqD d (vw S x)) S
  | .NotIn=>∃ds,vw S y=.lst ds/\okD (vw S x)=true/\cA ds=true/\aM ds≤50/\W (!(ds.any λ d=>eqD d (vw S x))) S
theorem bN{op:CmpOp}{x y:D}{S:Store}{W:%[|28]}{b:Bool}(h:∀V:WD,V (.bl b) S->bf X op x y S V)(w:W b S):bf X op x y S (asB W):=h (asB W) ⟨b,rfl,w⟩
theorem fB{op:CmpOp}{x y:D}{S:Store}{W:%[|28]}(hu:X.A.units+60<cLine)(h:aK op x y S W):bf X op x y S (asB W):=by
 unfold aK at h
 cases op with
 | Lt=>obtain⟨i,j,rfl,rfl,h⟩:=dM h;exact bN (λ _=>Ww) h
 | LtE=>obtain⟨i,j,rfl,rfl,h⟩:=dM h;exact bN (λ _=>W9) h
 | Gt=>obtain⟨i,j,rfl,rfl,h⟩:=dM h;exact bN (λ _=>W7) h
 | GtE=>obtain⟨i,j,rfl,rfl,h⟩:=dM h;exact bN (λ _=>W6) h
 | Eq=>
   rcases CZ h with⟨i,j,rfl,rfl,h⟩ | ⟨i,j,rfl,rfl,h⟩ | h
   . exact bN (λ _=>Va) h
   . exact bN (λ _=>Vd) h
   . exact Vu hu h.1 h.2
 | NotEq=>
   rcases CZ h with⟨i,j,rfl,rfl,h⟩ | ⟨i,j,rfl,rfl,h⟩ | h | ⟨rfl,h1,h2,h3⟩
   . exact bN (λ _=>Wi) h
   . exact bN (λ _=>VV) h
   . exact VM hu h.1 h.2
   . exact KY hu h1 h2 ⟨false,rfl,h3⟩
 | Is=>
   rcases Do h with⟨rfl,h⟩ | ⟨i,j,rfl,rfl,h⟩
   . exact bN (λ V w=>VG w) h
   . exact Q6 h
 | IsNot=>
   rcases Do h with⟨rfl,h⟩ | ⟨i,j,rfl,rfl,h⟩
   . refine bN (λ V w=>Nx ?_) h
     cases x<;>exact w
   . exact Ho h
 | In=>obtain⟨ds,h1,h2,h3,h4,h5⟩:=h;exact Wl hu h1 h2 h3 h4 h5
 | NotIn=>obtain⟨ds,h1,h2,h3,h4,h5⟩:=h;exact Ue hu h1 h2 h3 h4 h5
section
variable {i j : Int} {a b : Bool} {x y : D} {S : Store} {W : Bool -> Store -> Prop}
theorem cLt(w:W (decide (i<j)) S):aK .Lt (.int i) (.int j) S W:=by unfold aK;exact w
theorem cLe(w:W (decide (i≤j)) S):aK .LtE (.int i) (.int j) S W:=by unfold aK;exact w
theorem cGt(w:W (decide (j<i)) S):aK .Gt (.int i) (.int j) S W:=by unfold aK;exact w
theorem cEqI(w:W (decide (i=j)) S):aK .Eq (.int i) (.int j) S W:=by unfold aK;exact w
theorem cNeI(w:W (!decide (i=j)) S):aK .NotEq (.int i) (.int j) S W:=by unfold aK;exact w
theorem cIn{ds:List D}(h1:vw S y=.lst ds)(h2:okD (vw S x)=true)(h3:cA ds=true)(h4:aM ds≤50)(w:W (ds.any λ d=>eqD d (vw S x)) S):aK .In x y S W:=by unfold aK;cases x<;>exact⟨ds,h1,h2,h3,h4,w⟩
theorem NT(h1:aq x=true)(h2:deep x≤50)(w:W false S):aK .NotEq x x S W:=by
 unfold aK
 cases x with
 | int i=>simpa[bEq]using w
 | bl i=>simpa[bEq]using w
 | _=>exact .inr ⟨rfl,h1,h2,w⟩
end
set_option genInjectivity false in
structure Ex(Ω:Wd) where
 lev:Nat
 chk:Bool->%[|0]->Nm->Expr->Bool
 wp:Gam->Store->WD->Prop
 sound:∀{X:Cx}{r:Nat}{top:Bool}{N:%[|0]}{nm:Nm}{e:Expr}{Γ:Gam}{S:Store}{W:WD},%[|42]->lev≤r->chk top N nm e=true->wp Γ S W->Ev X Γ S e W
set_option genInjectivity false in
structure Te(Ω:Wd) where
 lev:Nat
 chk:Bool->%[|0]->Nm->Expr->Bool
 wp:Gam->Store->%[|28]->Prop
 sound:∀{X:Cx}{r:Nat}{top:Bool}{N:%[|0]}{nm:Nm}{e:Expr}{Γ:Gam}{S:Store}{W:%[|28]},%[|42]->lev≤r->chk top N nm e=true->wp Γ S W->Ts X Γ S e W
set_option genInjectivity false in
structure Ar(Ω:Wd) where
 lev:Nat
 chk:Bool->%[|0]->Nm->%[|12]->Bool
 wp:Gam->Store->%[|31]->Prop
 plain:∀{top:Bool}{N:%[|0]}{nm:Nm}{es:%[|12]},chk top N nm es=true->es.all okE=true
 sound:∀{X:Cx}{r:Nat}{top:Bool}{N:%[|0]}{nm:Nm}{es:%[|12]}{Γ:Gam}{S:Store}{W:%[|31]},%[|42]->lev≤r->chk top N nm es=true->wp Γ S W->EvA X Γ S es W
set_option genInjectivity false in
structure Bo(Ω:Wd) where
 lev:Nat
 chk:Bool->%[|0]->Nm->%[|12]->Bool
 wpA:Gam->Store->WD->Prop
 wpO:Gam->Store->WD->Prop
 ne:∀{top:Bool}{N:%[|0]}{nm:Nm}{es:%[|12]},chk top N nm es=true->∃b rest,es=b::rest
 soundA:∀{X:Cx}{r:Nat}{top:Bool}{N:%[|0]}{nm:Nm}{es:%[|12]}{Γ:Gam}{S:Store}{W:WD}{pos:Pos},%[|42]->lev≤r->chk top N nm es=true->wpA Γ S W->Ev X Γ S (.BoolOp .And es pos) W
 soundO:∀{X:Cx}{r:Nat}{top:Bool}{N:%[|0]}{nm:Nm}{es:%[|12]}{Γ:Gam}{S:Store}{W:WD}{pos:Pos},%[|42]->lev≤r->chk top N nm es=true->wpO Γ S W->Ev X Γ S (.BoolOp .Or es pos) W
set_option genInjectivity false in
structure Bt(Ω:Wd) where
 lev:Nat
 chk:Bool->%[|0]->Nm->%[|12]->Bool
 wpA:Gam->Store->%[|28]->Prop
 wpO:Gam->Store->%[|28]->Prop
 ne:∀{top:Bool}{N:%[|0]}{nm:Nm}{es:%[|12]},chk top N nm es=true->∃b rest,es=b::rest
 soundA:∀{X:Cx}{r:Nat}{top:Bool}{N:%[|0]}{nm:Nm}{es:%[|12]}{Γ:Gam}{S:Store}{W:%[|28]}{pos:Pos},%[|42]->lev≤r->chk top N nm es=true->wpA Γ S W->TsW X Γ S (.BoolOp .And es pos) W
 soundO:∀{X:Cx}{r:Nat}{top:Bool}{N:%[|0]}{nm:Nm}{es:%[|12]}{Γ:Gam}{S:Store}{W:%[|28]}{pos:Pos},%[|42]->lev≤r->chk top N nm es=true->wpO Γ S W->TsW X Γ S (.BoolOp .Or es pos) W
theorem At.hu{Ω:Wd}{r:Nat}{top:Bool}{N:%[|0]}{nm:Nm}(A:%[|42]):X.A.units+60<cLine:=by have:=A.room.un;omega
theorem lv2{a b r:Nat}(h:max a b≤r):a≤r/\b≤r:=%[|1]
variable {Ω : Wd}
def Ex.var(i:Nat):Ex Ω where
 lev:=0
 chk _ N nm e:=match e with | .Name x _=>(N[i]? ==some x)&&(vis nm x&&okN x) | _=>false
 wp Γ S W:=match Γ[i]? with | some (some d)=>W d S | _=>False
 sound:=by
  intro X r top N nm e Γ S W A _ hc hw
  cases e with
  | Name x pos=>
    sleep 1
    sleep 5
    obtain⟨d1,d2,_⟩:=aY h3
    have h1:N[i]? =some x:=%[|18]
    cases hΓ:Γ[i]? with
    | none=>rw[hΓ]at hw;exact hw.elim
    | some o=>
      cases o with
      | none=>rw[hΓ]at hw;exact hw.elim
      | some d=>
        rw[hΓ]at hw
        exact R5 i hΓ hw (by rw[A.n];exact h1) (A.vis h2) d1 d2
  | _=>exact fE hc
def Ex.int(i:Int):Ex Ω where
 lev:=0
 chk _ _ _ e:=match e with | .Constant (.int j) _ _=>j==i | _=>false
 wp _ S W:=W (.int i) S
 sound:=by
  intro X r top N nm e Γ S W A _ hc hw
  cases e with
  | Constant c k pos=>
    cases c with
    | int j=>have e:j=i:=ZI hc;subst e;exact Ug hw
    | _=>exact fE hc
  | _=>exact fE hc
def Ex.bl(i:Bool):Ex Ω where
 lev:=0
 chk _ _ _ e:=match e with | .Constant (.bool j) _ _=>j==i | _=>false
 wp _ S W:=W (.bl i) S
 sound:=by
  intro X r top N nm e Γ S W A _ hc hw
  cases e with
  | Constant c k pos=>
    cases c with
    | bool j=>have e:j=i:=ZI hc;subst e;exact Vm hw
    | _=>exact fE hc
  | _=>exact fE hc
def Ex.non:Ex Ω where
 lev:=0
 chk _ _ _ e:=match e with | .Constant .none _ _=>true | _=>false
 wp _ S W:=W .non S
 sound:=by
  intro X r top N nm e Γ S W A _ hc hw
  cases e with
  | Constant c k pos=>
    cases c with
    | none=>exact Rt hw
    | _=>exact fE hc
  | _=>exact fE hc
def Ex.str(i:Str):Ex Ω where
 lev:=0
 chk _ _ _ e:=match e with | .Constant (.str j) _ _=>j==i | _=>false
 wp _ S W:=W (.str i) S
 sound:=by
  intro X r top N nm e Γ S W A _ hc hw
  cases e with
  | Constant c k pos=>
    cases c with
    | str j=>have e:j=i:=ZI hc;subst e;exact Aq hw
    | _=>exact fE hc
  | _=>exact fE hc
def Ex.gint{x:Str}{i:Int}(h:∃t,Ω.mg x=some (.int i t)):Ex Ω where
 lev:=0
 chk _ _ nm e:=match e with | .Name y _=>(y==x)&&(glb nm x&&okN x) | _=>false
 wp _ S W:=W (.int i) S
 sound:=by
  intro X r top N nm e Γ S W A _ hc hw
  cases e with
  | Name y pos=>
    sleep 1
    sleep 5
    have e:y=x:=%[|18]
    subst e
    obtain⟨t,h⟩:=h
    exact Kd (by rw[A.g];exact h) hw (A.glb h2) (aY h3).1
  | _=>exact fE hc
def Ex.bin(op:Operator)(a b:Ex Ω):Ex Ω where
 lev:=max a.lev b.lev
 chk top N nm e:=match e with | .BinOp l o r _=>(o==op)&&%[|71] | _=>false
 wp Γ S W:=a.wp Γ S λ x S1=>b.wp Γ S1 λ y S2=>Eh op x y S2 W
 sound:=by
  sleep 2
  sleep 3
  cases e with
  | BinOp l o r' pos=>
    sleep 1
    sleep 5
    have e:o=op:=%[|18]
    subst e
    exact lO ((a.sound A l1 h2 hw).mono λ x S1 q=>(b.sound A l2 h3 q).mono λ y S2 q=>z9 q)
  | _=>exact fE hc
def Ex.cmp(op:CmpOp)(a b:Ex Ω):Ex Ω where
 lev:=max a.lev b.lev
 chk top N nm e:=match e with | .Compare l [o] [r] _=>(o==op)&&(okE r&&%[|71]) | _=>false
 wp Γ S W:=a.wp Γ S λ x S1=>b.wp Γ S1 λ y S2=>aK op x y S2 λ c S3=>W (.bl c) S3
 sound:=by
  sleep 2
  sleep 3
  cases e with
  | Compare l os rs pos=>
    match os,rs,hc with
    | [o],[r'],hc=>
      sleep 1
      obtain⟨h0,h2⟩:=aa h2
      sleep 5
      have e:o=op:=%[|18]
      subst e
      exact HH ((a.sound A l1 h2 hw).mono λ x S1 q=>(b.sound A l2 h3 q).mono λ y S2 q=>(fB A.hu q).mono λ d S3 ⟨c,e,w⟩=>by subst e;exact w) (cB h0)
    | [],_,hc=>exact fE hc
    | [_],[],hc=>exact fE hc
    | [_],_::_::_,hc=>exact fE hc
    | _::_::_,_,hc=>exact fE hc
  | _=>exact fE hc
def Te.cmp(op:CmpOp)(a b:Ex Ω):Te Ω where
 lev:=max a.lev b.lev
 chk top N nm e:=match e with | .Compare l [o] [r] _=>(o==op)&&(okE r&&%[|71]) | _=>false
 wp Γ S W:=a.wp Γ S λ x S1=>b.wp Γ S1 λ y S2=>aK op x y S2 W
 sound:=by
  sleep 2
  sleep 3
  cases e with
  | Compare l os rs pos=>
    match os,rs,hc with
    | [o],[r'],hc=>
      sleep 1
      obtain⟨h0,h2⟩:=aa h2
      sleep 5
      have e:o=op:=%[|18]
      subst e
      exact R7 ((a.sound A l1 h2 hw).mono λ x S1 q=>(b.sound A l2 h3 q).mono λ y S2 q=>fB A.hu q) (cB h0)
    | [],_,hc=>exact fE hc
    | [_],[],hc=>exact fE hc
    | [_],_::_::_,hc=>exact fE hc
    | _::_::_,_,hc=>exact fE hc
  | _=>exact fE hc
abbrev MT(a:Ex Ω)(o1:CmpOp)(b:Ex Ω)(o2:CmpOp)(c:Ex Ω)(Γ:Gam)(S:Store)(W:%[|28]):Prop:=
 a.wp Γ S λ x S1=>b.wp Γ S1 λ y S2=>aK o1 x y S2 λ k S3=>(k=false->W false S3)/\(k=true->c.wp Γ S3 λ t S4=>aK o2 y t S4 W)
def Ex.ch2(a:Ex Ω)(o1:CmpOp)(b:Ex Ω)(o2:CmpOp)(c:Ex Ω):Ex Ω where
 lev:=max (max a.lev b.lev) c.lev
 chk top N nm e:=match e with | .Compare l [p1,p2] [m,r] _=>(p1==o1)&&((p2==o2)&&(okE r&&(a.chk top N nm l&&(b.chk top N nm m&&c.chk top N nm r)))) | _=>false
 wp Γ S W:=MT a o1 b o2 c Γ S λ k S1=>W (.bl k) S1
 sound:=by
  sleep 2
  obtain⟨l1,l3⟩:=lv2 hl
  obtain⟨l1,l2⟩:=lv2 l1
  cases e with
  | Compare l os rs pos=>
    match os,rs,hc with
    | [p1,p2],[m,r'],hc=>
      sleep 1
      sleep 5
      obtain⟨h0,h3⟩:=aa h3
      obtain⟨h3,h4⟩:=aa h3
      obtain⟨h4,h5⟩:=aa h4
      have e:p1=o1:=%[|18]
      subst e
      have e:p2=o2:=ZI h2
      subst e
      refine J2 ((a.sound A l1 h3 hw).mono λ x S1 q=>(b.sound A l2 h4 q).mono λ y S2 q=>(fB A.hu q).mono λ d S3 ⟨k,e,w⟩=>⟨k,e,w.1,λ hk=>(c.sound A l3 h5 (w.2 hk)).mono λ t S4 q=>(fB A.hu q).mono λ d S3 ⟨c,e,w⟩=>by subst e;exact w⟩) (cB h0)
    | [],_,hc=>exact fE hc
    | [_],_,hc=>exact fE hc
    | [_,_],[],hc=>exact fE hc
    | [_,_],[_],hc=>exact fE hc
    | [_,_],_::_::_::_,hc=>exact fE hc
    | _::_::_::_,_,hc=>exact fE hc
  | _=>exact fE hc
def Te.ch2(a:Ex Ω)(o1:CmpOp)(b:Ex Ω)(o2:CmpOp)(c:Ex Ω):Te Ω where
 lev:=max (max a.lev b.lev) c.lev
 chk top N nm e:=match e with | .Compare l [p1,p2] [m,r] _=>(p1==o1)&&((p2==o2)&&(okE r&&(a.chk top N nm l&&(b.chk top N nm m&&c.chk top N nm r)))) | _=>false
 wp Γ S W:=MT a o1 b o2 c Γ S W
 sound:=by
  sleep 2
  obtain⟨l1,l3⟩:=lv2 hl
  obtain⟨l1,l2⟩:=lv2 l1
  cases e with
  | Compare l os rs pos=>
    match os,rs,hc with
    | [p1,p2],[m,r'],hc=>
      sleep 1
      sleep 5
      obtain⟨h0,h3⟩:=aa h3
      obtain⟨h3,h4⟩:=aa h3
      obtain⟨h4,h5⟩:=aa h4
      have e:p1=o1:=%[|18]
      subst e
      have e:p2=o2:=ZI h2
      subst e
      refine JB ((a.sound A l1 h3 hw).mono λ x S1 q=>(b.sound A l2 h4 q).mono λ y S2 q=>(fB A.hu q).mono λ d S3 ⟨k,e,w⟩=>⟨k,e,w.1,λ hk=>(c.sound A l3 h5 (w.2 hk)).mono λ t S4 q=>fB A.hu q⟩) (cB h0)
    | [],_,hc=>exact fE hc
    | [_],_,hc=>exact fE hc
    | [_,_],[],hc=>exact fE hc
    | [_,_],[_],hc=>exact fE hc
    | [_,_],_::_::_::_,hc=>exact fE hc
    | _::_::_::_,_,hc=>exact fE hc
  | _=>exact fE hc
def Te.val(a:Ex Ω):Te Ω where
 lev:=a.lev
 chk top N nm e:=Ek e&&a.chk top N nm e
 wp Γ S W:=a.wp Γ S λ d S1=>match d with | .bl c=>W c S1 | _=>False
 sound:=by
  sleep 2
  sleep 1
  refine Rh ((a.sound A hl h2 hw).mono λ d S1 q=>?_) (zU h1 _)
  cases d<;>first | exact⟨_,rfl,q⟩ | exact q.elim
def Te.not(t:Te Ω):Te Ω where
 lev:=t.lev
 chk top N nm e:=match e with | .UnaryOp .Not a _=>t.chk top N nm a | _=>false
 wp Γ S W:=t.wp Γ S λ c S1=>W (!c) S1
 sound:=by
  sleep 2
  cases e with
  | UnaryOp o a pos=>
    cases o with
    | Not=>exact Su (t.sound A hl hc hw)
    | _=>exact fE hc
  | _=>exact fE hc
def Bt.one(t:Te Ω):Bt Ω where
 lev:=t.lev
 chk top N nm es:=match es with | [e]=>t.chk top N nm e | _=>false
 wpA Γ S W:=t.wp Γ S W
 wpO Γ S W:=t.wp Γ S W
 ne:=by
  intro top N nm es hc
  match es,hc with
  | [e],_=>exact⟨_,_,rfl⟩
  | [],hc=>exact fE hc
  | _::_::_,hc=>exact fE hc
 soundA:=by
  intro X r top N nm es Γ S W pos A hl hc hw
  match es,hc with
  | [e],hc=>exact tw_and1 (t.sound A hl hc hw)
  | [],hc=>exact fE hc
  | _::_::_,hc=>exact fE hc
 soundO:=by
  intro X r top N nm es Γ S W pos A hl hc hw
  match es,hc with
  | [e],hc=>exact tw_or1 (t.sound A hl hc hw)
  | [],hc=>exact fE hc
  | _::_::_,hc=>exact fE hc
def Bt.cons(t:Te Ω)(r:Bt Ω):Bt Ω where
 lev:=max t.lev r.lev
 chk top N nm es:=match es with | e::es=>t.chk top N nm e&&r.chk top N nm es | _=>false
 wpA Γ S W:=t.wp Γ S λ c S1=>(c=true->r.wpA Γ S1 W)/\(c=false->W false S1)
 wpO Γ S W:=t.wp Γ S λ c S1=>(c=true->W true S1)/\(c=false->r.wpO Γ S1 W)
 ne:=by
  intro top N nm es hc
  match es,hc with
  | _::_,_=>exact⟨_,_,rfl⟩
  | [],hc=>exact fE hc
 soundA:=by
  intro X r' top N nm es Γ S W pos A hl hc hw
  sleep 3
  match es,hc with
  | e::es,hc=>
    sleep 1
    obtain⟨b,rest,rfl⟩:=r.ne h2
    exact tw_and (Ts.mono (t.sound A l1 h1 hw) λ c S1 q=>⟨λ hk=>r.soundA A l2 h2 (q.1 hk),q.2⟩)
  | [],hc=>exact fE hc
 soundO:=by
  intro X r' top N nm es Γ S W pos A hl hc hw
  sleep 3
  match es,hc with
  | e::es,hc=>
    sleep 1
    obtain⟨b,rest,rfl⟩:=r.ne h2
    exact tw_or (Ts.mono (t.sound A l1 h1 hw) λ c S1 q=>⟨q.1,λ hk=>r.soundO A l2 h2 (q.2 hk)⟩)
  | [],hc=>exact fE hc
def Te.and(l:Bt Ω):Te Ω where
 lev:=l.lev
 chk top N nm e:=match e with | .BoolOp .And es _=>l.chk top N nm es | _=>false
 wp Γ S W:=l.wpA Γ S W
 sound:=by
  sleep 2
  cases e with
  | BoolOp o es pos=>
    cases o with
    | And=>exact(l.soundA A hl hc hw).ts
    | _=>exact fE hc
  | _=>exact fE hc
def Te.or(l:Bt Ω):Te Ω where
 lev:=l.lev
 chk top N nm e:=match e with | .BoolOp .Or es _=>l.chk top N nm es | _=>false
 wp Γ S W:=l.wpO Γ S W
 sound:=by
  sleep 2
  cases e with
  | BoolOp o es pos=>
    cases o with
    | Or=>exact(l.soundO A hl hc hw).ts
    | _=>exact fE hc
  | _=>exact fE hc
def Bo.one(t:Ex Ω):Bo Ω where
 lev:=t.lev
 chk top N nm es:=match es with | [e]=>t.chk top N nm e | _=>false
 wpA Γ S W:=t.wp Γ S W
 wpO Γ S W:=t.wp Γ S W
 ne:=by
  intro top N nm es hc
  match es,hc with
  | [e],_=>exact⟨_,_,rfl⟩
  | [],hc=>exact fE hc
  | _::_::_,hc=>exact fE hc
 soundA:=by
  intro X r top N nm es Γ S W pos A hl hc hw
  match es,hc with
  | [e],hc=>exact Hj (t.sound A hl hc hw)
  | [],hc=>exact fE hc
  | _::_::_,hc=>exact fE hc
 soundO:=by
  intro X r top N nm es Γ S W pos A hl hc hw
  match es,hc with
  | [e],hc=>exact Hj (t.sound A hl hc hw)
  | [],hc=>exact fE hc
  | _::_::_,hc=>exact fE hc
def Bo.cons(t:Ex Ω)(r:Bo Ω):Bo Ω where
 lev:=max t.lev r.lev
 chk top N nm es:=match es with | e::es=>t.chk top N nm e&&r.chk top N nm es | _=>false
 wpA Γ S W:=t.wp Γ S λ d S1=>match d with | .bl c=>(c=true->r.wpA Γ S1 W)/\(c=false->W (.bl false) S1) | _=>False
 wpO Γ S W:=t.wp Γ S λ d S1=>match d with | .bl c=>(c=true->W (.bl true) S1)/\(c=false->r.wpO Γ S1 W) | _=>False
 ne:=by
  intro top N nm es hc
  match es,hc with
  | _::_,_=>exact⟨_,_,rfl⟩
  | [],hc=>exact fE hc
 soundA:=by
  intro X r' top N nm es Γ S W pos A hl hc hw
  sleep 3
  match es,hc with
  | e::es,hc=>
    sleep 1
    obtain⟨b,rest,rfl⟩:=r.ne h2
    refine RM ((t.sound A l1 h1 hw).mono λ d S1 q=>?_)
    cases d<;>first | exact⟨_,rfl,λ hk=>r.soundA A l2 h2 (q.1 hk),q.2⟩ | exact q.elim
  | [],hc=>exact fE hc
 soundO:=by
  intro X r' top N nm es Γ S W pos A hl hc hw
  sleep 3
  match es,hc with
  | e::es,hc=>
    sleep 1
    obtain⟨b,rest,rfl⟩:=r.ne h2
    refine Vz ((t.sound A l1 h1 hw).mono λ d S1 q=>?_)
    cases d<;>first | exact⟨_,rfl,q.1,λ hk=>r.soundO A l2 h2 (q.2 hk)⟩ | exact q.elim
  | [],hc=>exact fE hc
def Ex.and(l:Bo Ω):Ex Ω where
 lev:=l.lev
 chk top N nm e:=match e with | .BoolOp .And es _=>l.chk top N nm es | _=>false
 wp Γ S W:=l.wpA Γ S W
 sound:=by
  sleep 2
  cases e with
  | BoolOp o es pos=>
    cases o with
    | And=>exact l.soundA A hl hc hw
    | _=>exact fE hc
  | _=>exact fE hc
def Ex.or(l:Bo Ω):Ex Ω where
 lev:=l.lev
 chk top N nm e:=match e with | .BoolOp .Or es _=>l.chk top N nm es | _=>false
 wp Γ S W:=l.wpO Γ S W
 sound:=by
  sleep 2
  cases e with
  | BoolOp o es pos=>
    cases o with
    | Or=>exact l.soundO A hl hc hw
    | _=>exact fE hc
  | _=>exact fE hc
def Ex.not(a:Ex Ω):Ex Ω where
 lev:=a.lev
 chk top N nm e:=match e with | .UnaryOp .Not b _=>a.chk top N nm b | _=>false
 wp Γ S W:=a.wp Γ S λ d S1=>match d with | .bl c=>W (.bl (!c)) S1 | _=>False
 sound:=by
  sleep 2
  cases e with
  | UnaryOp o b pos=>
    cases o with
    | Not=>
      refine SX ((a.sound A hl hc hw).mono λ d S1 q=>?_)
      cases d<;>first | exact⟨_,rfl,q⟩ | exact q.elim
    | _=>exact fE hc
  | _=>exact fE hc
def Ex.neg(a:Ex Ω):Ex Ω where
 lev:=a.lev
 chk top N nm e:=match e with | .UnaryOp .USub b _=>a.chk top N nm b | _=>false
 wp Γ S W:=a.wp Γ S λ d S1=>match d with | .int c=>W (.int (-c)) S1 | _=>False
 sound:=by
  sleep 2
  cases e with
  | UnaryOp o b pos=>
    cases o with
    | USub=>
      refine SQ ((a.sound A hl hc hw).mono λ d S1 q=>?_)
      cases d<;>first | exact⟨_,rfl,q⟩ | exact q.elim
    | _=>exact fE hc
  | _=>exact fE hc
def Ex.ifE(c:Te Ω)(a b:Ex Ω):Ex Ω where
 lev:=max c.lev (max a.lev b.lev)
 chk top N nm e:=match e with | .IfExp t x y _=>c.chk top N nm t&&(a.chk top N nm x&&b.chk top N nm y) | _=>false
 wp Γ S W:=c.wp Γ S λ k S1=>(k=true->a.wp Γ S1 W)/\(k=false->b.wp Γ S1 W)
 sound:=by
  sleep 2
  sleep 3
  obtain⟨l2,l3⟩:=lv2 l2
  cases e with
  | IfExp t x y pos=>
    sleep 1
    sleep 5
    exact Mp (Ts.mono (c.sound A l1 h1 hw) λ k S1 q=>⟨λ hk=>a.sound A l2 h2 (q.1 hk),λ hk=>b.sound A l3 h3 (q.2 hk)⟩)
  | _=>exact fE hc
def Ar.nil:Ar Ω where
 lev:=0
 chk _ _ _ es:=match es with | []=>true | _=>false
 wp _ S W:=W [] S
 plain:=by
  intro top N nm es hc
  match es,hc with
  | [],_=>rfl
  | _::_,hc=>exact fE hc
 sound:=by
  intro X r top N nm es Γ S W A _ hc hw
  match es,hc with
  | [],_=>exact gW hw
  | _::_,hc=>exact fE hc
def Ar.cons(a:Ex Ω)(r:Ar Ω):Ar Ω where
 lev:=max a.lev r.lev
 chk top N nm es:=match es with | e::es=>okE e&&(a.chk top N nm e&&r.chk top N nm es) | _=>false
 wp Γ S W:=a.wp Γ S λ d S1=>r.wp Γ S1 λ ds S2=>W (d::ds) S2
 plain:=by
  intro top N nm es hc
  match es,hc with
  | e::es,hc=>
    sleep 1
    sleep 5
    rw[List.all_cons,h1,r.plain h3];rfl
  | [],hc=>exact fE hc
 sound:=by
  intro X r' top N nm es Γ S W A hl hc hw
  sleep 3
  match es,hc with
  | e::es,hc=>
    sleep 1
    sleep 5
    exact cL ((a.sound A l1 h2 hw).mono λ d S1 q=>r.sound A l2 h3 q) (aH h1 _ _)
  | [],hc=>exact fE hc
def Ex.tup(as:Ar Ω):Ex Ω where
 lev:=as.lev
 chk top N nm e:=match e with | .Tuple es _ _=>as.chk top N nm es | _=>false
 wp Γ S W:=as.wp Γ S λ ds S1=>%[|60]/\W (.tup ds) S1
 sound:=by
  sleep 2
  cases e with
  | Tuple es k pos=>exact TV (as.sound A hl hc hw)
  | _=>exact fE hc
def Ex.lst(as:Ar Ω):Ex Ω where
 lev:=as.lev
 chk top N nm e:=match e with | .List es _=>as.chk top N nm es | _=>false
 wp Γ S W:=as.wp Γ S λ ds S1=>%[|60]/\W (.lst ds) S1
 sound:=by
  sleep 2
  cases e with
  | List es pos=>exact Ur (as.sound A hl hc hw)
  | _=>exact fE hc
def Ex.own(as:Ar Ω):Ex Ω where
 lev:=as.lev
 chk top N nm e:=match e with | .List es _=>as.chk top N nm es | _=>false
 wp Γ S W:=as.wp Γ S λ ds S1=>%[|60]/\W (.loc S1.length) (S1++[ds])
 sound:=by
  sleep 2
  cases e with
  | List es pos=>exact Px (as.sound A hl hc hw)
  | _=>exact fE hc
def Ex.ix(a b:Ex Ω):Ex Ω where
 lev:=max a.lev b.lev
 chk top N nm e:=match e with | .Subscript l r _=>okE r&&%[|71] | _=>false
 wp Γ S W:=a.wp Γ S λ x S1=>b.wp Γ S1 λ y S2=>LK x y S2 W
 sound:=by
  sleep 2
  sleep 3
  cases e with
  | Subscript l r' pos=>
    sleep 1
    sleep 5
    exact M3 ((a.sound A l1 h2 hw).mono λ x S1 q=>(b.sound A l2 h3 q).mono λ y S2 q=>Oj q) (pB h1)
  | _=>exact fE hc
set_option genInjectivity false in
structure Po(Ω:Wd) where
 lev:Nat
 chk:Bool->%[|0]->Nm->Option Expr->Bool
 wp:Gam->Store->(%[|17]->%[|13])->Prop
 sound:∀{X:Cx}{r:Nat}{top:Bool}{N:%[|0]}{nm:Nm}{e:Option Expr}{Γ:Gam}{S:Store}{W:%[|17]->%[|13]},%[|42]->lev≤r->chk top N nm e=true->wp Γ S W->PoD X Γ S e W
def Po.no:Po Ω where
 lev:=0
 chk _ _ _ e:=match e with | none=>true | _=>false
 wp _ S W:=W none S
 sound:=by
  sleep 2
  cases e with
  | none=>exact Xf hw
  | some e=>exact fE hc
def Po.so(a:Ex Ω):Po Ω where
 lev:=a.lev
 chk top N nm e:=match e with | some e=>a.chk top N nm e | _=>false
 wp Γ S W:=a.wp Γ S λ d S1=>match d with | .int i=>W (some i) S1 | _=>False
 sound:=by
  sleep 2
  cases e with
  | some e=>
    refine W0 ((a.sound A hl hc hw).mono λ d S1 q=>?_)
    cases d<;>first | exact⟨_,rfl,q⟩ | exact q.elim
  | none=>exact fE hc
theorem PoD.mono{Γ:Gam}{S:Store}{e:Option Expr}{W W':%[|17]->%[|13]}(h:PoD X Γ S e W)(k:∀c S',W c S'->W' c S'):PoD X Γ S e W':=by
 cases e with
 | none=>exact k _ _ h
 | some e=>exact Ev.mono h λ d S1 ⟨i,e,w⟩=>⟨i,e,k _ _ w⟩
def Ex.sl(a:Ex Ω)(lo hi:Po Ω):Ex Ω where
 lev:=max a.lev (max lo.lev hi.lev)
 chk top N nm e:=match e with | .Subscript l (.Slice x y none _) _=>a.chk top N nm l&&(lo.chk top N nm x&&hi.chk top N nm y) | _=>false
 wp Γ S W:=a.wp Γ S λ x S1=>lo.wp Γ S1 λ l S2=>hi.wp Γ S2 λ h S3=>JZ x l h S3 W
 sound:=by
  sleep 2
  sleep 3
  obtain⟨l2,l3⟩:=lv2 l2
  cases e with
  | Subscript l sl pos=>
    cases sl with
    | Slice x y z p2=>
      cases z with
      | none=>
        sleep 1
        sleep 5
        exact zj ((a.sound A l1 h1 hw).mono λ x S1 q=>PoD.mono (lo.sound A l2 h2 q) λ l S2 q=>PoD.mono (hi.sound A l3 h3 q) λ h S3 q=>NQ q)
      | some _=>exact fE hc
    | _=>exact fE hc
  | _=>exact fE hc
def Ex.call{x:Str}{k n:Nat}{F:Ct}(C:Callee Ω.P Ω.w Ω.K Ω.mg Ω.base x k n F)(as:Ar Ω):Ex Ω where
 lev:=max k as.lev
 chk top N nm e:=match e with | .Call (.Name y _) (a::es) [] _=>(y==x)&&(glb nm x&&(okN x&&as.chk top N nm (a::es))) | _=>false
 wp Γ S W:=as.wp Γ S λ ds S1=>ds.length=n/\F ds S1 W
 sound:=by
  sleep 2
  sleep 3
  cases e with
  | Call f es ks pos=>
    cases f with
    | Name y p=>
      match es,ks,hc with
      | a::es,[],hc=>
        sleep 1
        sleep 5
        obtain⟨h3,h4⟩:=aa h3
        have e:y=x:=%[|18]
        subst e
        have pl:=as.plain h4
        rw[List.all_cons]at pl
        obtain⟨p1,p2⟩:=aa pl
        have C':Callee X.prog X.w X.K X.mg X.base y k n F:=by rw[A.p,A.w,A.k,A.g,A.b];exact C
        exact N8 C' (A.room.mono l1) (as.sound A l2 h4 hw) (A.glb h2) (aY h3).1 (aH p1 _ _) (my p2 _ _)
      | [],_,hc=>exact fE hc
      | _::_,_::_,hc=>exact fE hc
    | _=>exact fE hc
  | _=>exact fE hc
set_option genInjectivity false in
structure Bf where
 x:Str
 id:String
 boot:bootBuiltins x=some (.builtin id)
 wp:List D->Store->WD->Prop
 sound:∀{X:Cx}{ds:List D}{S:Store}{W:WD},X.calm=true->Room 0 X.A->wp ds S W->bA X (.builtin id) ds S W
def Ex.blt(b:Bf)(hm:Ω.mg b.x=none)(as:Ar Ω):Ex Ω where
 lev:=as.lev
 chk top N nm e:=match e with | .Call (.Name y _) (a::es) [] _=>(y==b.x)&&(glb nm b.x&&(okN b.x&&as.chk top N nm (a::es))) | _=>false
 wp Γ S W:=as.wp Γ S λ ds S1=>b.wp ds S1 W
 sound:=by
  sleep 2
  cases e with
  | Call f es ks pos=>
    cases f with
    | Name y p=>
      match es,ks,hc with
      | a::es,[],hc=>
        sleep 1
        sleep 5
        obtain⟨h3,h4⟩:=aa h3
        have e:y=b.x:=%[|18]
        subst e
        have pl:=as.plain h4
        rw[List.all_cons]at pl
        obtain⟨p1,p2⟩:=aa pl
        exact Kg (EvA.mono (as.sound A hl h4 hw) λ ds S1 q=>b.sound A.calm (A.room.mono (Nat.zero_le _)) q) (by rw[A.g];exact hm) b.boot (A.glb h2) (aY h3).2.2 (aY h3).1 (aH p1 _ _) (my p2 _ _)
      | [],_,hc=>exact fE hc
      | _::_,_::_,hc=>exact fE hc
    | _=>exact fE hc
  | _=>exact fE hc
set_option genInjectivity false in
structure Bc where
 x:Str
 id:String
 boot:bootBuiltins x=some (.type id)
 wp:List D->Store->WD->Prop
 sound:∀{X:Cx}{ds:List D}{S:Store}{W:WD},X.calm=true->Room 0 X.A->wp ds S W->bA X (.type id) ds S W
def Ex.typ(b:Bc)(hm:Ω.mg b.x=none)(as:Ar Ω):Ex Ω where
 lev:=as.lev
 chk top N nm e:=match e with | .Call (.Name y _) (a::es) [] _=>(y==b.x)&&(glb nm b.x&&(okN b.x&&as.chk top N nm (a::es))) | _=>false
 wp Γ S W:=as.wp Γ S λ ds S1=>b.wp ds S1 W
 sound:=by
  sleep 2
  cases e with
  | Call f es ks pos=>
    cases f with
    | Name y p=>
      match es,ks,hc with
      | a::es,[],hc=>
        sleep 1
        sleep 5
        obtain⟨h3,h4⟩:=aa h3
        have e:y=b.x:=%[|18]
        subst e
        have pl:=as.plain h4
        rw[List.all_cons]at pl
        obtain⟨p1,p2⟩:=aa pl
        exact Mw (EvA.mono (as.sound A hl h4 hw) λ ds S1 q=>b.sound A.calm (A.room.mono (Nat.zero_le _)) q) (by rw[A.g];exact hm) b.boot (A.glb h2) (aY h3).2.2 (aY h3).1 (aH p1 _ _) (my p2 _ _)
      | [],_,hc=>exact fE hc
      | _::_,_::_,hc=>exact fE hc
    | _=>exact fE hc
  | _=>exact fE hc
def Ex.isi(hm:Ω.mg "isinstance"=none)(a:Ex Ω)(T:Ty)(hT:Ω.mg T.nm=none):Ex Ω where
 lev:=a.lev
 chk top N nm e:=fP e λ y es=>two2 es λ b c=>anB (nameV c) λ t=>(y==("isinstance":Str))&&(glb nm "isinstance"&&((t==T.nm)&&(glb nm T.nm&&(okE b&&a.chk top N nm b))))
 wp Γ S W:=a.wp Γ S λ d S1=>W (.bl (isD T d)) S1
 sound:=by
  sleep 2
  obtain⟨y,p,es,pos,rfl,hc_1⟩:=bU hc
  obtain⟨b,c,rfl,hc_2⟩:=two2_of hc_1
  obtain⟨t,hn,hc_3⟩:=bc hc_2
  obtain⟨q,rfl⟩:=bx hn
  have hc:=hc_3
  . skip
    obtain⟨h1,g2⟩:=aa hc
    obtain⟨h2,g3⟩:=aa g2
    obtain⟨h3,g4⟩:=aa g3
    obtain⟨h4,g5⟩:=aa g4
    obtain⟨h5,h6⟩:=aa g5
    have e:y="isinstance":=%[|18]
    subst e
    have e:t=T.nm:=ZI h3
    subst e
    exact R6 (Tn:=T.id) ((a.sound A hl h6 hw).mono λ d S1 q=>by rw[R4];exact q) T.isT T.boot (by rw[A.g];exact hm) (by rw[A.g];exact hT) (A.glb h2) (A.glb h4) T.ok.2 T.ok.1 (aH h5 _ _) (aH (e:=.Name T.nm q) rfl [] _)
end RF
namespace RF
open PySem PySem.Spec L2 DL
open PyProof.Rows
variable {Γ : Gam}
inductive Tg where
 | nm(i:Nat) | tup(is:List Nat)
def setAll:Gam->List Nat->List D->Gam
 | Γ,i::is,d::ds=>setAll (Γ.set i (some d)) is ds
 | Γ,_,_=>Γ
def Tg.wp:Tg->D->Gam->(Gam->Prop)->Prop
 | .nm i,d,Γ,W=>W (Γ.set i (some d))
 | .tup is,.tup ds,Γ,W=>ds.length=is.length/\W (setAll Γ is ds)
 | .tup _,_,_,_=>False
def Tg.slots:Tg->List Nat
 | .nm i=>[i]
 | .tup is=>is
def yh(top:Bool)(N:%[|0])(nm:Nm)(i:Nat)(e:Expr):Bool:=match e with | .Name x _=>(N[i]? ==some x)&&lcl top nm x | _=>false
def fX(top:Bool)(N:%[|0])(nm:Nm):List Nat->%[|12]->Bool
 | [],[]=>true
 | i::is,e::es=>yh top N nm i e&&fX top N nm is es
 | _,_=>false
def Tg.chk(t:Tg)(top:Bool)(N:%[|0])(nm:Nm)(e:Expr):Bool:=match t with
 | .nm i=>yh top N nm i e
 | .tup is=>match e with | .Tuple es _ _=>fX top N nm is es | _=>false
section
variable {Ω : Wd} {X : Cx} {r : Nat} {top : Bool} {N : %[|0]} {nm : Nm}
theorem G6(A:%[|42]){i:Nat}{e:Expr}{d:D}{Γ:Gam}{S:Store}{W:Gam->%[|13]}(hc:yh top N nm i e=true)(hw:W (Γ.set i (some d)) S):BdW X e d Γ S W:=by
 cases e with
 | Name x pos=>
   sleep 1
   have h1:N[i]? =some x:=%[|18]
   obtain⟨l1,l2⟩:=A.lcl h2
   exact Qa i hw (by rw[A.n];exact A.nd) (by rw[A.n];exact h1) l1 l2
 | _=>exact fE hc
theorem Ab{i:Nat}{is:List Nat}{es:%[|12]}(h:fX top N nm (i::is) es=true):∃x p es',es=.Name x p::es'/\yh top N nm i (.Name x p)=true/\fX top N nm is es'=true:=by
 cases es with
 | nil=>exact(x5 h).elim
 | cons e es=>
   obtain⟨h1,h2⟩:=aa h
   cases e with
   | Name x p=>exact⟨x,p,es,rfl,h1,h2⟩
   | _=>exact(x5 h1).elim
theorem Dc{es:%[|12]}(h:fX top N nm [] es=true):es=[]:=by
 cases es with
 | nil=>rfl
 | cons e es=>exact(x5 h).elim
theorem Hb(A:%[|42]){S:Store}{W:Gam->%[|13]}:∀{is:List Nat}{es:%[|12]}{ds:List D}{Γ:Gam},fX top N nm is es=true->ds.length=is.length->W (setAll Γ is ds) S->zT X es ds Γ S W
 | [],es,ds,Γ,hc,hl,hw=>by
   have e:=Dc hc
   subst e
   have e:ds=[]:=by simpa using hl
   subst e
   exact Pn hw
 | i::is,es,ds,Γ,hc,hl,hw=>by
   obtain⟨x,p,es',rfl,h1,h2⟩:=Ab hc
   cases ds with
   | nil=>simp at hl
   | cons d ds=>exact K9 (G6 A h1 (Hb A h2 (by simpa using hl) hw)) rfl
theorem Dv:∀{is:List Nat}{es:%[|12]},fX top N nm is es=true->∀env:Env,(assignEach es env).length=is.length/\(assignEach es env).findIdx? (·.1)=none
 | [],es,hc,env=>by
   have e:=Dc hc
   subst e
   exact⟨rfl,rfl⟩
 | i::is,es,hc,env=>by
   obtain⟨x,p,es',rfl,h1,h2⟩:=Ab hc
   obtain⟨a,b⟩:=Dv h2 env
   have e:assignEach (.Name x p::es') env=(false,assign (.Name x p) env)::assignEach es' env:=rfl
   rw[e]
   refine⟨by simp[a],?_⟩
   rw[List.findIdx?_cons,b]
   rfl
theorem Tg.sound(A:%[|42]){t:Tg}{e:Expr}{d:D}{Γ:Gam}{S:Store}{W:Gam->%[|13]}(hc:t.chk top N nm e=true)(hw:t.wp d Γ λ Γ'=>W Γ' S):BdW X e d Γ S W:=by
 cases t with
 | nm i=>exact G6 A hc hw
 | tup is=>
   cases e with
   | Tuple es k pos=>
     have hc:fX top N nm is es=true:=hc
     cases d with
     | tup ds=>
       obtain⟨hl,hw⟩:ds.length=is.length/\W (setAll Γ is ds) S:=hw
       obtain⟨a,b⟩:=Dv hc X.env
       exact Rp (Hb A hc hl hw) A.calm (a.trans hl.symm) b
     | _=>exact hw.elim
   | _=>exact fE hc
end
theorem Sub.setAll{Γ:Gam}:∀{is:List Nat}{ds:List D}{Γ':Gam},Sub Γ Γ'->(∀i∈is,Γ[i]? =some none)->Sub Γ (RF.setAll Γ' is ds)
 | [],ds,Γ',h,_=>by cases ds<;>exact h
 | i::is,[],Γ',h,_=>h
 | i::is,d::ds,Γ',h,hi=>show Sub Γ (RF.setAll (Γ'.set i (some d)) is ds)from Sub.setAll (Γ':=Γ'.set i (some d)) (h.set i (some d) (hi i List.mem_cons_self)) λ j hj=>hi j (w9 _ hj)
theorem vz{cap:%[|32]}{i:Nat}(h:cap[i]? =some none):(capt cap Γ)[i]? =some none:=by
 unfold capt
 rw[x8,h];rfl
set_option genInjectivity false in
structure Itb(Ω:Wd) where
 lev:Nat
 chk:Bool->%[|0]->Nm->Expr->Expr->Bool
 wp:Gam->Store->%[|31]->Prop
 sound:∀{X:Cx}{r:Nat}{top:Bool}{N:%[|0]}{nm:Nm}{tg e:Expr}{Γ:Gam}{S:Store}{W:%[|31]},%[|42]->lev≤r->chk top N nm tg e=true->wp Γ S W->ItW X Γ S tg e W
theorem Sy{X:Cx}{S:Store}{tg e:Expr}{W:%[|31]}(h:Ev X Γ S e λ d S1=>match d with | .lst ds=>W ds S1 | .tup ds=>W ds S1 | _=>False):ItW X Γ S tg e W:=by
 sleep 0
 refine %[|58]
 obtain⟨v,H1,I1,r1,O1,d,S1,w,st1,ok1,rep⟩:=hq_
 cases rep with
 | @lst a xs ds h1 q1=>
   cases r1
   obtain⟨its,rv,p,hz⟩:=I1.list h1.sq
   refine wpAny_pyIter_list p.isList ?_
   refine⟨s1.heap.objs.size,[s1.heap.objs.size],_,_,H1,rfl,I1.kept (t':=s1.toks) %[|81],mj a _,⟨_,%[|34],rfl,rfl⟩,λ b hb=>?_,O1,ds,S1,w,st1,ok1,nU h1 q1⟩
   have e:b=s1.heap.objs.size:=by simpa using hb
   subst e
   exact I1.fpOk (x9 _) (I1.hok.fresh (x9 _))
 | @tup a xs ds h1 q1=>
   cases r1
   obtain⟨its,rv,p,hz⟩:=I1.tuple h1.sq
   refine wpAny_pyIter_tuple (show s1.heap.IsTuple a its.toArray from p) ?_
   refine⟨s1.heap.objs.size,[s1.heap.objs.size],_,_,H1,rfl,I1.kept (t':=s1.toks) %[|81],rF a _,⟨_,%[|34],rfl,rfl⟩,λ b hb=>?_,O1,ds,S1,w,st1,ok1,rM h1 q1⟩
   have e:b=s1.heap.objs.size:=by simpa using hb
   subst e
   exact I1.fpOk (x9 _) (I1.hok.fresh (x9 _))
 | _=>exact w.elim
variable {Ω : Wd}
def Itb.seq(a:Ex Ω):Itb Ω where
 lev:=a.lev
 chk top N nm _ e:=a.chk top N nm e
 wp Γ S W:=a.wp Γ S λ d S1=>match d with | .lst ds=>W ds S1 | .tup ds=>W ds S1 | _=>False
 sound:=by
  intro X r top N nm tg e Γ S W A hl hc hw
  exact Sy (a.sound A hl hc hw)
def Itb.rng1(hm:Ω.mg "range"=none)(a:Ex Ω):Itb Ω where
 lev:=a.lev
 chk top N nm _ e:=fP e λ y es=>du es λ b=>(y==("range":Str))&&(glb nm "range"&&(okE b&&a.chk top N nm b))
 wp Γ S W:=a.wp Γ S λ d S1=>match d with | .int j=>(-(2 ^ 62)≤j/\j<2 ^ 62)/\W (upTo 0 j.toNat) S1 | _=>False
 sound:=by
  intro X r top N nm tg e Γ S W A hl hc hw
  obtain⟨y,p,es,pos,rfl,hc_1⟩:=bU hc
  obtain⟨b,rfl,hc_2⟩:=bw hc_1
  have hc:=hc_2
  . skip
    obtain⟨h1,g2⟩:=aa hc
    obtain⟨h2,g3⟩:=aa g2
    obtain⟨h3,h4⟩:=aa g3
    have e:y="range":=%[|18]
    subst e
    refine Ha ((a.sound A hl h4 hw).mono λ d S1 q=>?_) (by rw[A.g];exact hm) (A.glb h2) (aH h3 [] _)
    cases d<;>first | exact⟨_,rfl,q.1.1,q.1.2,q.2⟩ | exact q.elim
def Itb.rng2(hm:Ω.mg "range"=none)(a b:Ex Ω):Itb Ω where
 lev:=max a.lev b.lev
 chk top N nm _ e:=fP e λ y es=>two2 es λ l r=>(y==("range":Str))&&(glb nm "range"&&((okE l&&okE r)&&%[|71]))
 wp Γ S W:=a.wp Γ S λ d S1=>b.wp Γ S1 λ d' S2=>match d,d' with | .int i,.int j=>(-(2 ^ 62)≤i/\i<2 ^ 62/\ -(2 ^ 62)≤j/\j<2 ^ 62)/\W (upTo i (j-i).toNat) S2 | _,_=>False
 sound:=by
  intro X r top N nm tg e Γ S W A hl hc hw
  sleep 3
  obtain⟨y,p,es,pos,rfl,hc_1⟩:=bU hc
  obtain⟨l,r',rfl,hc_2⟩:=two2_of hc_1
  have hc:=hc_2
  . skip
    obtain⟨h1,g2⟩:=aa hc
    obtain⟨h2,g3⟩:=aa g2
    obtain⟨h3,h4⟩:=aa g3
    obtain⟨h5,h6⟩:=aa h3
    obtain⟨h7,h8⟩:=aa h4
    have e:y="range":=%[|18]
    subst e
    refine Jj ((a.sound A l1 h7 hw).mono λ d S1 q=>(b.sound A l2 h8 q).mono λ d' S2 q=>?_) (by rw[A.g];exact hm) (A.glb h2) (by rw[aH h5,aH h6];rfl) (aH h6 [] _)
    cases d<;>first | exact q.elim | (cases d'<;>first | exact⟨_,_,rfl,rfl,q.1,q.2⟩ | exact q.elim)
set_option genInjectivity false in
structure Cd(Ω:Wd) where
 lev:Nat
 chk:Bool->%[|0]->Nm->%[|12]->Bool
 wp:Gam->Store->%[|28]->Prop
 sound:∀{X:Cx}{r:Nat}{top:Bool}{N:%[|0]}{nm:Nm}{es:%[|12]}{Γ:Gam}{S:Store}{W:%[|28]},%[|42]->lev≤r->chk top N nm es=true->wp Γ S W->TsA X Γ S es W
def Cd.no:Cd Ω where
 lev:=0
 chk _ _ _ es:=match es with | []=>true | _=>false
 wp _ S W:=W true S
 sound:=by
  intro X r top N nm es Γ S W A hl hc hw
  match es,hc with
  | [],_=>exact hw
  | _::_,hc=>exact fE hc
@[irreducible] noncomputable def rA(cap:%[|32])(Γ:Gam)(elt:Ex Ω)(tg:Tg)(cd:Cd Ω)(W:WD)(ds:List D)(C0:%[|13])(S1:Store):Prop:=
  %[|60]/\∃Pv:Nat->%[|31],Pv 0 [] S1/\(∀i acc S',Pv i acc S'->C0 S')/\
   (∀i d acc S',%[|33]->Pv i acc S'->tg.wp d (capt cap Γ) λ Γ2=>cd.wp Γ2 S' λ ok S3=>(ok=true->elt.wp Γ2 S3 %[|74])/\(ok=false->Pv (i+1) acc S3))/\
   ∀acc S',Pv ds.length acc S'->W (.lst acc) S'∨W (.loc S'.length) (S'++[acc])
abbrev mW(cap:%[|32])(Γ:Gam)(elt:Ex Ω)(tg:Tg)(cd:Cd Ω)(W:WD)(ds:List D)(S1:Store):Prop:=rA cap Γ elt tg cd W ds (λ _=>True) S1
theorem Mj{cap:%[|32]}{elt:Ex Ω}{tg:Tg}{cd:Cd Ω}{W:WD}{ds:List D}{C0:%[|13]}{S1:Store}(h:%[|60]/\∃Pv:Nat->%[|31],Pv 0 [] S1/\(∀i acc S',Pv i acc S'->C0 S')/\
 (∀i d acc S',%[|33]->Pv i acc S'->tg.wp d (capt cap Γ) λ Γ2=>cd.wp Γ2 S' λ ok S3=>(ok=true->elt.wp Γ2 S3 %[|74])/\(ok=false->Pv (i+1) acc S3))/\
 ∀acc S',Pv ds.length acc S'->W (.lst acc) S'∨W (.loc S'.length) (S'++[acc])):rA cap Γ elt tg cd W ds C0 S1:=by unfold rA;exact h
theorem gR{cap:%[|32]}{elt:Ex Ω}{tg:Tg}{cd:Cd Ω}{W:WD}{ds:List D}{S1:Store}(h:%[|60]/\∃Pv:Nat->%[|31],Pv 0 [] S1/\
 (∀i d acc S',%[|33]->Pv i acc S'->tg.wp d (capt cap Γ) λ Γ2=>cd.wp Γ2 S' λ ok S3=>(ok=true->elt.wp Γ2 S3 %[|74])/\(ok=false->Pv (i+1) acc S3))/\
 ∀acc S',Pv ds.length acc S'->W (.lst acc) S'):mW cap Γ elt tg cd W ds S1:=by
 obtain⟨hz,Pv,p0,pt,pe⟩:=h
 exact Mj ⟨hz,Pv,p0,λ _ _ _ _=>trivial,pt,λ acc S' q=>.inl (pe acc S' q)⟩
def nA(N':%[|0])(cap:%[|32])(elt:Ex Ω)(tg:Tg)(it:Itb Ω)(cd:Cd Ω)(top:Bool)(N:%[|0])(nm:Nm)(e:Expr):Bool:=match e with
 | .ListComp x [⟨t,i,cs,0⟩] sc _=>(sc.kind==.function)&&(lg sc.names&&(freeOk nm sc.names&&((sc.names.all λ y=>!(y.2==.local)||(sc.names.lookup y.1==some .local))&&(aN N nm N' sc.names cap N'&&
  (okE i&&((tg.slots.all λ j=>cap[j]? ==some none)&&(decide N'.Nodup&&(it.chk top N nm t i&&(tg.chk false N' sc.names t&&(cd.chk false N' sc.names cs&&elt.chk false N' sc.names x))))))))))
 | _=>false
section
variable {X : Cx} {r : Nat} {top : Bool} {N : %[|0]} {nm : Nm}
theorem vp(A:%[|42]){x:Str}(h:nm.lookup x=%[|19]∨nm.lookup x=some .free):X.env.scope.names.lookup x=%[|19]∨X.env.scope.names.lookup x=some .free:=by
 rcases h with h | h
 . rcases A.look x _ h with q | ⟨q,_⟩
   . exact .inl q
   . exact nomatch q
 . rcases A.look x _ h with q | ⟨_,q⟩
   . exact .inr q
   . exact .inl q
theorem lQ(A:%[|42]){names:Nm}(h:freeOk nm names=true):freeOk X.env.scope.names names=true:=by
 unfold freeOk
 refine List.all_eq_true.mpr λ y hy=>?_
 by_cases e:y.2=.free
 . have:=vp A (jf h y hy e)
   rcases this with q | q<;>simp[q]
 . simp[e]
theorem iM(A:%[|42]){N':%[|0]}{names':Nm}:∀{cap:%[|32]}{t:%[|0]},aN N nm N' names' cap t=true->aN X.N X.env.scope.names N' names' cap t=true
 | [],[],_=>rfl
 | [],_::_,h=>by simp[aN]at h
 | none::_,[],h=>by simp[aN]at h
 | some _::_,[],h=>by simp[aN]at h
 | none::r,_::t,h=>by simp only[aN]at h ⊢;exact iM A h
 | some j::r,x::t,h=>by
   simp only[aN,Bool.and_eq_true,Bool.or_eq_true,beq_iff_eq]at h ⊢
   exact⟨⟨⟨by rw[A.n];exact h.1.1.1,vp A h.1.1.2⟩,h.1.2⟩,iM A h.2⟩
theorem Hv(A:%[|42]){sc:Scope}{N':%[|0]}{C:Addr}{s:Shared}{H:Hp}{ex:List Addr}{cl:List (Str×Addr)}(hk:sc.kind=.function)(nd:N'.Nodup):At Ω (bz X sc N' C s H ex cl) r false N' sc.names where
 cd:=λ h=>nomatch h
 fr:=λ h=>nomatch h
 p:=A.p
 w:=A.w
 k:=A.k
 g:=A.g
 b:=A.b
 room:=A.room
 xe:=A.xe
 calm:=A.calm
 n:=rfl
 nd:=nd
 kind:=hk
 look:=by
  intro x k h
  show(relabel sc X.env).names.lookup x=some k∨_
  rw[jX,d9,h]
  rcases oE X.env x k with q | ⟨q1,q2⟩
  . exact .inl (congrArg some q)
  . refine .inr ⟨q1,?_⟩
    show(relabel sc X.env).names.lookup x=%[|19]
    rw[jX,d9,h]
    exact congrArg some q2
 fn:=λ x h=>by show(%[|39]==%[|19])=true;rw[h];rfl
theorem qL(A:%[|42]){sc:Scope}{N':%[|0]}{cap:%[|32]}{elt:Ex Ω}{tg:Tg}{cd:Cd Ω}{x t:Expr}{cs:%[|12]}{Γ:Gam}{W:WD}{ds:List D}{C0:%[|13]}{S1:Store}(le:elt.lev≤r)(lc:cd.lev≤r)(hk:sc.kind=.function)(nd:N'.Nodup)(hs:(tg.slots.all λ j=>cap[j]? ==some none)=true)
 (ht:tg.chk false N' sc.names t=true)(hcd:cd.chk false N' sc.names cs=true)(he:elt.chk false N' sc.names x=true)(h:rA cap Γ elt tg cd W ds C0 S1):yo X sc N' cap Γ x t cs W ds C0 S1:=by
 unfold rA at h
 obtain⟨hz,Pv,p0,pC,pt,pe⟩:=h
 refine⟨hz,Pv,p0,pC,λ i d acc S' hd hp C s H ex cl=>?_,pe⟩
 have B:=Hv A (C:=C) (s:=s) (H:=H) (ex:=ex) (cl:=cl) hk nd
 have sl:∀j∈tg.slots,(capt cap Γ)[j]? =some none:=λ j hj=>vz (by
  have:=List.all_eq_true.mp hs j hj
  exact ZI this)
 have base:=pt i d acc S' hd hp
 have go:∀Γ2,(cd.wp Γ2 S' λ ok S3=>(ok=true->elt.wp Γ2 S3 %[|74])/\(ok=false->Pv (i+1) acc S3))->
  TsA (bz X sc N' C s H ex cl) Γ2 S' cs λ ok S3=>(ok=true->Ev (bz X sc N' C s H ex cl) Γ2 S3 x %[|74])/\(ok=false->Pv (i+1) acc S3):=by
  intro Γ2 q
  have:=cd.sound B lc hcd q
  match cs,this with
  | [],this=>exact⟨λ hk=>elt.sound B le he (this.1 hk),this.2⟩
  | [c],this=>exact Ts.mono this λ ok S3 z=>⟨λ hk=>elt.sound B le he (z.1 hk),z.2⟩
  | _::_::_,this=>exact this.elim
 refine Tg.sound B (W:=λ Γ2 S2=>Sub (capt cap Γ) Γ2/\TsA (bz X sc N' C s H ex cl) Γ2 S2 cs λ ok S3=>(ok=true->Ev (bz X sc N' C s H ex cl) Γ2 S3 x %[|74])/\(ok=false->Pv (i+1) acc S3)) ht ?_
 cases tg with
 | nm j=>exact⟨(Sub.refl _).set j _ (sl j (by simp[Tg.slots])),go _ base⟩
 | tup is=>
   cases d with
   | tup es=>exact⟨base.1,Sub.setAll (Sub.refl _) sl,go _ base.2⟩
   | _=>exact base.elim
end
def Ex.comp(N':%[|0])(cap:%[|32])(elt:Ex Ω)(tg:Tg)(it:Itb Ω)(cd:Cd Ω):Ex Ω where
 lev:=max elt.lev (max it.lev cd.lev)
 chk top N nm e:=nA N' cap elt tg it cd top N nm e
 wp Γ S W:=it.wp Γ S λ ds S1=>mW cap Γ elt tg cd W ds S1
 sound:=by
  sleep 2
  sleep 3
  obtain⟨l2,l3⟩:=lv2 l2
  unfold nA at hc
  split at hc
  . rename_i x t i cs sc pos
    obtain⟨h1,hc⟩:=aa hc
    obtain⟨h2,hc⟩:=aa hc
    obtain⟨h3,hc⟩:=aa hc
    obtain⟨h4,hc⟩:=aa hc
    obtain⟨h5,hc⟩:=aa hc
    obtain⟨h6,hc⟩:=aa hc
    obtain⟨h7,hc⟩:=aa hc
    obtain⟨h8,hc⟩:=aa hc
    obtain⟨h9,hc⟩:=aa hc
    obtain⟨h10,hc⟩:=aa hc
    obtain⟨h11,h12⟩:=aa hc
    have hk:sc.kind=.function:=%[|18]
    refine OJ N' cap (ItW.toC (ItW.mono (it.sound A l2 h9 hw) λ ds S1 q=>qL A l1 l3 hk (ZF h8) h7 h10 h11 h12 q)) A.xe A.calm hk h2 (lQ A h3) (λ y hy e=>?_) (iM A h5) (gY h6 _)
    . have:=List.all_eq_true.mp h4 y hy
      simpa[e]using this
  . exact fE hc
end RF
namespace RF
open PySem PySem.Spec L2 DL
open PyProof.Rows
variable {Ω : Wd}
theorem mH{e:Expr}(h:noC e=true)(t:Expr)(l:Nat)(env:Env):swapsWithSole [t] e l env=pure false:=by
 unfold swapsWithSole
 exact kW h (some t) l env
set_option genInjectivity false in
structure Sm(Ω:Wd) where
 lev:Nat
 chk:Bool->%[|0]->Nm->Stmt->Bool
 wp:Gam->Store->DL.Fin->Prop
 sound:∀{X:Cx}{r:Nat}{top:Bool}{N:%[|0]}{nm:Nm}{st:Stmt}{Γ:Gam}{S:Store}{W:DL.Fin},%[|42]->lev≤r->chk top N nm st=true->wp Γ S W->Rn X Γ S st W
set_option genInjectivity false in
structure Bl(Ω:Wd) where
 lev:Nat
 chk:Bool->%[|0]->Nm->List Stmt->Bool
 wp:Gam->Store->DL.Fin->Prop
 sound:∀{X:Cx}{r:Nat}{top:Bool}{N:%[|0]}{nm:Nm}{sts:List Stmt}{Γ:Gam}{S:Store}{W:DL.Fin},%[|42]->lev≤r->chk top N nm sts=true->wp Γ S W->Rns X Γ S sts W
def Bl.nil:Bl Ω where
 lev:=0
 chk _ _ _ sts:=match sts with | []=>true | _=>false
 wp Γ S W:=W.nx Γ S
 sound:=by
  intro X r top N nm sts Γ S W A hl hc hw
  match sts,hc with
  | [],_=>exact UG hw
  | _::_,hc=>exact fE hc
def Bl.cons(s:Sm Ω)(b:Bl Ω):Bl Ω where
 lev:=max s.lev b.lev
 chk top N nm sts:=match sts with | st::sts=>s.chk top N nm st&&b.chk top N nm sts | _=>false
 wp Γ S W:=s.wp Γ S {W with nx:=λ Γ1 S1=>b.wp Γ1 S1 W}
 sound:=by
  intro X r top N nm sts Γ S W A hl hc hw
  sleep 3
  match sts,hc with
  | st::sts,hc=>
    sleep 1
    exact CN (Rn.mono (s.sound A l1 h1 hw) (λ G S1 q=>b.sound A l2 h2 q) (λ _ _ q=>q) (λ _ _ q=>q) λ _ _ q=>q)
  | [],hc=>exact fE hc
def Sm.ret(a:Ex Ω):Sm Ω where
 lev:=a.lev
 chk top N nm st:=match st with | .Return (some e) _=>a.chk top N nm e | _=>false
 wp Γ S W:=a.wp Γ S W.rt
 sound:=by
  intro X r top N nm st Γ S W A hl hc hw
  cases st with
  | Return o pos=>
    cases o with
    | some e=>exact V3 (a.sound A hl hc hw)
    | none=>exact fE hc
  | _=>exact fE hc
def Sm.expr(a:Ex Ω):Sm Ω where
 lev:=a.lev
 chk top N nm st:=match st with | .Expr e _=>noC e&&a.chk top N nm e | _=>false
 wp Γ S W:=a.wp Γ S λ _ S1=>W.nx Γ S1
 sound:=by
  intro X r top N nm st Γ S W A hl hc hw
  cases st with
  | Expr e pos=>
    sleep 1
    exact UV (a.sound A hl h2 hw) (kW h1 _ _ _)
  | _=>exact fE hc
def Sm.ite(c:Te Ω)(a b:Bl Ω):Sm Ω where
 lev:=max c.lev (max a.lev b.lev)
 chk top N nm st:=match st with | .If t xs ys _=>c.chk top N nm t&&(a.chk top N nm xs&&b.chk top N nm ys) | _=>false
 wp Γ S W:=c.wp Γ S λ k S1=>(k=true->a.wp Γ S1 W)/\(k=false->b.wp Γ S1 W)
 sound:=by
  intro X r top N nm st Γ S W A hl hc hw
  sleep 3
  obtain⟨l2,l3⟩:=lv2 l2
  cases st with
  | If t xs ys pos=>
    sleep 1
    sleep 5
    exact Xh (Ts.mono (c.sound A l1 h1 hw) λ k S1 q=>⟨λ hk=>a.sound A l2 h2 (q.1 hk),λ hk=>b.sound A l3 h3 (q.2 hk)⟩)
  | _=>exact fE hc
def Sm.set(i:Nat)(a:Ex Ω):Sm Ω where
 lev:=a.lev
 chk top N nm st:=setB st λ x e=>(N[i]? ==some x)&&(lcl top nm x&&(noC e&&a.chk top N nm e))
 wp Γ S W:=a.wp Γ S λ d S1=>W.nx (Γ.set i (some d)) S1
 sound:=by
  intro X r top N nm st Γ S W A hl hc hw
  obtain⟨x,xp,e,sp,rfl,hc_1⟩:=tV hc
  have hc:=hc_1
  . sleep 1
    sleep 5
    obtain⟨h3,h4⟩:=aa h3
    obtain⟨l1,l2⟩:=A.lcl h2
    exact M7 i (a.sound A hl h4 hw) (by rw[A.n];exact A.nd) (by rw[A.n];exact %[|18]) l1 (kW h3 _ _ _) l2
def Sm.setC(i:Nat)(N':%[|0])(cap:%[|32])(elt:Ex Ω)(tg:Tg)(it:Itb Ω)(cd:Cd Ω):Sm Ω where
 lev:=max elt.lev (max it.lev cd.lev)
 chk top N nm st:=match st with | .Assign [.Name x p] e _=>(N[i]? ==some x)&&(lcl top nm x&&(top&&(nA N' cap elt tg it cd top N nm e))) | _=>false
 wp Γ S W:=it.wp Γ S λ ds S1=>mW cap Γ elt tg cd (λ d S2=>W.nx (Γ.set i (some d)) S2) ds S1
 sound := by
  intro X r top N nm st Γ S W A hl hc hw
  split at hc
  . rename_i x p e spos
    obtain⟨k1,q1⟩:=aa hc
    obtain⟨k2,q2⟩:=aa q1
    obtain⟨k0,hcomp⟩:=aa q2
    obtain⟨l1,l2⟩:=A.lcl k2
    have hN:X.N[i]? =some x:=by rw[A.n];exact ZI k1
    have nd:X.N.Nodup:=by rw[A.n];exact A.nd
    have hc2:=hcomp
    obtain⟨le,l3⟩:=lv2 hl
    obtain⟨li,lc⟩:=lv2 l3
    unfold nA at hc2
    split at hc2
    . rename_i x' t i' cs sc pos
      obtain⟨h1,hc⟩:=aa hc2
      obtain⟨h2,hc⟩:=aa hc
      obtain⟨h3,hc⟩:=aa hc
      obtain⟨h4,hc⟩:=aa hc
      obtain⟨h5,hc⟩:=aa hc
      obtain⟨h6,hc⟩:=aa hc
      obtain⟨h7,hc⟩:=aa hc
      obtain⟨h8,hc⟩:=aa hc
      obtain⟨h9,hc⟩:=aa hc
      obtain⟨h10,hc⟩:=aa hc
      obtain⟨h11,h12⟩:=aa hc
      have hk:sc.kind=.function:=%[|18]
      by_cases hb:(X.env.blockKind==.function&&X.env.kindOf x==some .local&&p.line==(Expr.ListComp x' [⟨t,i',cs,0⟩] sc pos).pos.line&& !(sc.names.any λ(n,k)=>n==x&&(k==.local||k==.cell)))=true
      . refine Hs i N' cap (ItW.toC (ItW.mono (it.sound A li h9 hw) λ ds S1 q=>qL A le lc hk (ZF h8) h7 h10 h11 h12 q)) nd hN l1 ?_ l2 A.xe A.calm hk h2 (lQ A h3) (λ y hy e=>?_) (iM A h5) (gY h6 _)
        . show(pure (X.env.blockKind==.function&&X.env.kindOf x==some .local&&p.line==(Expr.ListComp x' [⟨t,i',cs,0⟩] sc pos).pos.line&& !(sc.names.any λ(n,k)=>n==x&&(k==.local||k==.cell))):Sem Bool)=pure true
          rw[hb]
        . have:=List.all_eq_true.mp h4 y hy
          simpa[e]using this
      . have hb:_=false:=Bool.eq_false_iff.mpr hb
        refine M7 i ((Ex.comp N' cap elt tg it cd).sound A hl hcomp hw) nd hN l1 ?_ l2
        show(pure (X.env.blockKind==.function&&X.env.kindOf x==some .local&&p.line==(Expr.ListComp x' [⟨t,i',cs,0⟩] sc pos).pos.line&& !(sc.names.any λ(n,k)=>n==x&&(k==.local||k==.cell))):Sem Bool)=pure false
        rw[hb]
    . exact(x5 hc2).elim
  . exact fE hc
def Sm.setIx(o i a:Ex Ω):Sm Ω where
 lev:=max a.lev (max o.lev i.lev)
 chk top N nm st:=match st with | .Assign [.Subscript x y _] e _=>noC e&&(okE y&&(a.chk top N nm e&&(o.chk top N nm x&&i.chk top N nm y))) | _=>false
 wp Γ S W:=a.wp Γ S λ d S1=>o.wp Γ S1 λ x S2=>i.wp Γ S2 λ y S3=>match x,y with | .loc k,.int n=>∃ds j,S3[k]? =some ds/\ixN ds.length n=some j/\W.nx Γ (S3.set k (ds.set j d)) | _,_=>False
 sound:=by
  intro X r top N nm st Γ S W A hl hc hw
  sleep 3
  obtain⟨l2,l3⟩:=lv2 l2
  split at hc
  . rename_i x y p e spos
    obtain⟨h1,hc⟩:=aa hc
    obtain⟨h2,hc⟩:=aa hc
    obtain⟨h3,hc⟩:=aa hc
    obtain⟨h4,h5⟩:=aa hc
    refine Pr ((a.sound A l1 h3 hw).mono λ d S1 q=>(o.sound A l2 h4 q).mono λ x S2 q=>(i.sound A l3 h5 q).mono λ y S3 q=>?_) ?_ (mH h1 _ _ _) ?_ rfl
    . cases x<;>first | exact q.elim | (cases y<;>first | exact q.elim | (obtain⟨ds,j,a,b,c⟩:=q;exact⟨_,_,ds,j,rfl,rfl,a,b,c⟩))
    . intro v
      cases y<;>first | rfl | exact(x5 h2).elim
    . rfl
  . exact fE hc
theorem J6{X:Cx}{Γ:Gam}{S:Store}{tg e:Expr}{pos:Pos}{W:DL.Fin}(h:Ev X Γ S e λ d S1=>BdW X tg d Γ S1 W.nx)(hs:swapsWithSole [tg] e pos.line X.env=pure false)(hw:swappedStores [tg] e X.env=pure none)(h1:(assignEach [tg] X.env).map (·.2)=[assign tg X.env]):Rn X Γ S (.Assign [tg] e pos) W:=by
 sleep 7
 refine wpAny_Assign_stores (thn %[|67] λ u s1 hq_=>?_) hs hw
 obtain⟨v,H1,I1,r1,O1,d,S1,w1,st1,ok1,rep1⟩:=hq_
 rw[h1]
 show wpAny _ _ (assign tg X.env u) _ _ _
 refine thn (w1 pins s1 σ H1 O1 v u I1 %[|20] ok1 rep1 r1) λ _ s2 ⟨σ',H',I',q⟩=>⟨σ',H',I',QN.pre st1 q⟩
def Ve:Expr->Bool
 | .Tuple .. =>false
 | e=>noC e
def Sm.unpack(t:List Nat)(a:Ex Ω):Sm Ω where
 lev:=a.lev
 chk top N nm st:=match st with | .Assign [.Tuple es k p] e _=>Ve e&&((Tg.tup t).chk top N nm (.Tuple es k p)&&a.chk top N nm e) | _=>false
 wp Γ S W:=a.wp Γ S λ d S1=>(Tg.tup t).wp d Γ λ Γ1=>W.nx Γ1 S1
 sound:=by
  intro X r top N nm st Γ S W A hl hc hw
  split at hc
  . rename_i es k p e spos
    obtain⟨h1,hc⟩:=aa hc
    obtain⟨h2,h3⟩:=aa hc
    have hnc:noC e=true:=by cases e<;>first | rfl | exact(x5 h1).elim
    refine J6 ((a.sound A hl h3 hw).mono λ d S1 q=>Tg.sound A (W:=W.nx) h2 q) (mH hnc _ _ _) ?_ rfl
    cases e<;>first | rfl | exact(x5 h1).elim
  . exact fE hc
@[irreducible] noncomputable def jt(Γ:Gam)(tg:Tg)(body:Bl Ω)(W:DL.Fin)(ds:List D)(S1:Store):Prop:=
  ∃Pv:Nat->Gam->%[|13],Pv 0 Γ S1/\(∀i d Γ' S',%[|33]->Pv i Γ' S'->tg.wp d Γ' λ Γ2=>body.wp Γ2 S' %[|80])/\(∀Γ' S',Pv ds.length Γ' S'->W.nx Γ' S')
theorem cG{Γ:Gam}{tg:Tg}{body:Bl Ω}{W:DL.Fin}{ds:List D}{S1:Store}(h:∃Pv:Nat->Gam->%[|13],Pv 0 Γ S1/\(∀i d Γ' S',%[|33]->Pv i Γ' S'->tg.wp d Γ' λ Γ2=>body.wp Γ2 S' %[|80])/\(∀Γ' S',Pv ds.length Γ' S'->W.nx Γ' S')):jt Γ tg body W ds S1:=by unfold jt;exact h
def Sm.for(tg:Tg)(it:Itb Ω)(body:Bl Ω):Sm Ω where
 lev:=max it.lev body.lev
 chk top N nm st:=match st with | .For t i b [] _=>okE i&&(tg.chk top N nm t&&(it.chk top N nm t i&&body.chk top N nm b)) | _=>false
 wp Γ S W:=it.wp Γ S λ ds S1=>jt Γ tg body W ds S1
 sound:=by
  intro X r top N nm st Γ S W A hl hc hw
  sleep 3
  split at hc
  . rename_i t i b pos
    obtain⟨h1,hc⟩:=aa hc
    obtain⟨h2,hc⟩:=aa hc
    obtain⟨h3,h4⟩:=aa hc
    refine V6 (ItW.mono (it.sound A l1 h3 hw) λ ds S1 q=>?_) (by rw[A.xe];exact PassesOwn.never) A.calm (gY h1 _)
    unfold jt at q
    obtain⟨Pv,p0,pt,pe⟩:=q
    refine⟨Pv,p0,λ i d Γ' S' hd hp=>BdW.mono (Tg.sound A (W:=λ Γ2 S2=>body.wp Γ2 S2 %[|80]) h2 (pt i d Γ' S' hd hp)) λ Γ2 S2 q=>body.sound A l2 h4 q,pe⟩
  . exact fE hc
def V4(N ps:%[|0])(sm:Stmt)(k:Nat)(body:Bl Ω):Bool:=
 ((ak sm).kind==.function)&&(!(ak sm).isCoroutine&&(!(ak sm).isGenerator&&(decide N.Nodup&&(decide (N.take ps.length=ps)&&((ps.all λ x=>(ak sm).names.lookup x==some .local||(ak sm).names.lookup x==%[|19])&&
   (((ak sm).names.all λ y=>!(y.2==.free))&&(Nat.ble body.lev k&&body.chk true N (ak sm).names (bu sm))))))))
theorem aD(N0:%[|14]){x qual:Str}{sm:Stmt}{f:Addr}{fd:FuncData}{N ps:%[|0]}{k:Nat}{F:Ct}(FF:Fun Ω.K x qual sm f fd)(body:Bl Ω)(hc:V4 N ps sm k body=true)
 (vc:∀(ds:List D)(S:Store)(W:WD),F ds S W->ds.length=ps.length->body.wp (ds.map some++List.replicate (N.length-ds.length) none) S {nx:=λ _ S1=>W .non S1,rt:=W}):FnOk Ω.P Ω.w Ω.K Ω.mg Ω.base CX0 (k+1) f fd ps (spC Ω.K ps.length F):=by
 obtain⟨h1,hc⟩:=aa hc
 obtain⟨h2,hc⟩:=aa hc
 obtain⟨h3,hc⟩:=aa hc
 obtain⟨h4,hc⟩:=aa hc
 obtain⟨h5,hc⟩:=aa hc
 obtain⟨h6,hc⟩:=aa hc
 obtain⟨h7,hc⟩:=aa hc
 obtain⟨h8,h9⟩:=aa hc
 have nd:N.Nodup:=ZF h4
 have sc:FnScope N ps (ak sm):=⟨%[|18],nt h2,nt h3,nd,ZF h5,λ x hx=>by
  have:=List.all_eq_true.mp h6 x hx
  simpa using this,λ y hy e=>by
  have:=List.all_eq_true.mp h7 y hy
  simp[e]at this⟩
 refine MK FF sc λ cdv A outer s H E ds S W _ hr hl h=>?_
 refine body.sound (r:=k) (top:=true) (N:=N) (nm:=(ak sm).names) ⟨rfl,rfl,rfl,rfl,rfl,hr,rfl,rfl,rfl,nd,sc.kind,λ x kk h=>.inl h,λ _ _=>rfl,λ _ p q=>(nomatch (N0.symm.trans q)),λ _=>⟨rfl,rfl,rfl⟩⟩ (Nat.le_of_ble_eq_true h8) h9 (vc ds S W h hl)
theorem callee{x qual:Str}{sm:Stmt}{f:Addr}{fd:FuncData}{ps:%[|0]}{k n:Nat}{F:Ct}(FF:Fun Ω.K x qual sm f fd)(h:FnOk Ω.P Ω.w Ω.K Ω.mg Ω.base CX0 k f fd ps (spC Ω.K n F))(hm:Ω.mg x=some (.ref f))(b:Binds Ω.K fd ps []):Callee Ω.P Ω.w Ω.K Ω.mg Ω.base x k n F:=⟨f,fd,ps,h,hm,FF.kp,b⟩
end RF
namespace RF
open PySem PySem.Spec L2 DL
open PyProof.Rows
def bM:Bf where
 x:="len"
 id:="len"
 boot:=%[|7]
 wp ds S W:=match ds with
  | [.tup ds]=>W (.int ds.length) S
  | [.lst ds]=>W (.int ds.length) S
  | [.loc k]=>∃ds,S[k]? =some ds/\W (.int ds.length) S
  | _=>False
 sound:=by
  intro X ds S W hc hr h
  split at h
  . exact Uw h
  . exact RQ h
  . obtain⟨ds,h1,h2⟩:=h;exact Uk h1 h2
  . exact h.elim
def fY:Bf where
 x:="all"
 id:="all"
 boot:=%[|7]
 wp ds S W:=match ds with
  | [.lst ds]=>∃bs:List Bool,ds=bs.map .bl/\W (.bl (bs.all id)) S
  | _=>False
 sound:=by
  intro X ds S W hc hr h
  split at h
  . obtain⟨bs,rfl,h⟩:=h;exact k_all h hc
  . exact h.elim
def WM:Bf where
 x:="abs"
 id:="abs"
 boot:=%[|7]
 wp ds S W:=match ds with
  | [.int i]=>W (.int (if i<0 then-i else i)) S
  | _=>False
 sound:=by
  intro X ds S W hc hr h
  split at h
  . refine cN Ly λ O H vs st r=>?_
    obtain⟨v,rfl,r'⟩:=di r
    cases r'
    exact⟨_,rfl,QG.here h st (.int _)⟩
  . exact h.elim
def cD:Bc where
 x:="tuple"
 id:="tuple"
 boot:=%[|7]
 wp ds S W:=match ds with
  | [.lst ds]=>W (.tup ds) S
  | [.loc k]=>∃ds,S[k]? =some ds/\W (.tup ds) S
  | _=>False
 sound:=by
  intro X ds S W hc hr h
  split at h
  . exact QC h
  . obtain⟨ds,h1,h2⟩:=h;exact Q3 h1 h2
  . exact h.elim
def JP:Bc where
 x:="int"
 id:="int"
 boot:=%[|7]
 wp ds S W:=match ds with
  | [.int i]=>W (.int i) S
  | [.bl k]=>W (.int (if k then 1 else 0)) S
  | _=>False
 sound:=by
  intro X ds S W hc hr h
  split at h
  . refine cN vQ λ O H vs st r=>?_
    obtain⟨v,rfl,r'⟩:=di r
    cases r'
    exact .inl ⟨_,rfl,QG.here h st (.int _)⟩
  . refine cN vQ λ O H vs st r=>?_
    obtain⟨v,rfl,r'⟩:=di r
    cases r'
    exact .inr ⟨_,rfl,QG.here h st (.int _)⟩
  . exact h.elim
section
variable {X : Cx} {Γ : Gam} {S : Store} {e : Expr} {pos : Pos}
theorem PP{elts:%[|12]}{k:Nat}{tp p:Pos}{W:%[|31]}(h:Ev X Γ S e λ d S1=>match d with | .lst ds=>W (ds.mapIdx λ i d=>.tup [.int i,d]) S1 | .tup ds=>W (ds.mapIdx λ i d=>.tup [.int i,d]) S1 | _=>False)(hm:X.mg "enumerate"=none)(hg:Gl X "enumerate")(hs:starEach [e] X.env=[(false,eval e X.env)]):
 ItW X Γ S (.Tuple elts k tp) (.Call (.Name "enumerate" p) [e] [] pos) W:=by
 sleep 0
 refine Call_ (eG I hg hm boot_enumerate (PyProof.Rows.callWith_type1 (thn (aP h.pe cH hs pos pins s σ H (λ vs H'=>∃v,vs=[v]/\QG X.K O H (λ d S1=>match d with | .lst ds=>W (ds.mapIdx λ i d=>.tup [.int i,d]) S1 | .tup ds=>W (ds.mapIdx λ i d=>.tup [.int i,d]) S1 | _=>False) v H') I ⟨O,env,st,λ v H' q=>⟨v,rfl,q⟩⟩) λ us s1 hq_=>?_) hs rfl))
 obtain⟨vs,H1,I1,r1,v,ev,O1,d,S1,w,st1,ok1,rep⟩:=hq_
 subst ev
 obtain⟨u,rfl,ru⟩:=vals1 r1
 cases rep with
 | @lst a xs ds h1 q1=>
   cases ru
   obtain⟨its,rv,pl,hz⟩:=I1.list h1.sq
   refine call_enumerate_list pl.isList λ h' he hi _ kp=>CT (Vi X.prog X.w X.K) I1 he hi kp ⟨O1,_,S1,w,st1,ok1,nW _ λ O' H' cv=>⟨xs,(h1.conv cv).sq,q1.conv cv⟩⟩
 | @tup a xs ds h1 q1=>
   cases ru
   obtain⟨its,rv,pl,hz⟩:=I1.tuple h1.sq
   obtain⟨⟨c,dct,dt,sl⟩,hl,hc,n,hd⟩:=pl
   replace hc:c=%[|29]:=hc
   replace hd:dt=.seq its.toArray n:=hd
   subst hc hd
   refine callType_new F.called_enumerate %[|2] (F.typeCall_enumerate_1 _) (F.newCall_enumerate_1 _) (λ obj=>F.args_object_init_2 obj _) F.entry_enumerate_new (Ht a its.toArray n dct sl) ⟨hl,?_⟩
   have hz:(s1.heap.push {cls:=.type "tuple_iterator",data:=.fields #[.ref a,.int 0 0]}).objs.size=s1.heap.objs.size+1:=Heap.size_push ..
   show _/\_
   rw[hz]
   have he:IsEnum ((s1.heap.push {cls:=.type "tuple_iterator",data:=.fields #[.ref a,.int 0 0]}).push {cls:=.type "enumerate",data:=.fields #[.none,.bool false,.ref s1.heap.objs.size,rawInt 0,.none,.none]}) (s1.heap.objs.size+1) s1.heap.objs.size 0 .none:=by
    have:=ZD (s1.heap.push {cls:=.type "tuple_iterator",data:=.fields #[.ref a,.int 0 0]}) (o:={cls:=.type "enumerate",data:=.fields #[.none,.bool false,.ref s1.heap.objs.size,rawInt 0,.none,.none]}) rfl
    rw[hz]at this
    exact this
   have hi:Heap.IsTupleIter ((s1.heap.push {cls:=.type "tuple_iterator",data:=.fields #[.ref a,.int 0 0]}).push {cls:=.type "enumerate",data:=.fields #[.none,.bool false,.ref s1.heap.objs.size,rawInt 0,.none,.none]}) s1.heap.objs.size a 0:=
    ⟨_,ZC _ %[|34],rfl,rfl⟩
   exact⟨⟨_,he,rfl⟩,CT (Li X.prog X.w X.K) I1 he hi (λ b o e=>ZC _ (ZC _ e)) ⟨O1,_,S1,w,st1,ok1,nW _ λ O' H' cv=>⟨xs,(h1.conv cv).sq,q1.conv cv⟩⟩⟩
 | _=>exact w.elim
end
variable {Ω : Wd}
def Itb.enm(hm:Ω.mg "enumerate"=none)(a:Ex Ω):Itb Ω where
 lev:=a.lev
 chk top N nm tg e:=Gm tg&&fP e λ y es=>du es λ b=>(y==("enumerate":Str))&&(glb nm "enumerate"&&(okE b&&a.chk top N nm b))
 wp Γ S W:=a.wp Γ S λ d S1=>match d with | .lst ds=>W (ds.mapIdx λ i d=>.tup [.int i,d]) S1 | .tup ds=>W (ds.mapIdx λ i d=>.tup [.int i,d]) S1 | _=>False
 sound:=by
  intro X r top N nm tg e Γ S W A hl hc hw
  obtain⟨h0,hc_1⟩:=aa hc
  obtain⟨ts,k,tp,rfl⟩:=Dj h0
  obtain⟨y,p,es,pos,rfl,hc_2⟩:=bU hc_1
  obtain⟨b,rfl,hc_3⟩:=bw hc_2
  have hc:=hc_3
  . sleep 1
    sleep 5
    obtain⟨h3,h4⟩:=aa h3
    have e:=%[|18]
    subst e
    exact PP (a.sound A hl h4 hw) (by rw[A.g];exact hm) (A.glb h2) (aH h3 [] _)
def Itb.zip(hm:Ω.mg "zip"=none)(a b:Ex Ω):Itb Ω where
 lev:=max a.lev b.lev
 chk top N nm tg e:=Gm tg&&fP e λ y es=>two2 es λ l r=>(y==("zip":Str))&&(glb nm "zip"&&((okE l&&okE r)&&%[|71]))
 wp Γ S W:=a.wp Γ S λ d S1=>b.wp Γ S1 λ d' S2=>match d,d' with | .tup ds,.tup es=>W (List.zipWith (λ x y=>.tup [x,y]) ds es) S2 | _,_=>False
 sound:=by
  intro X r top N nm tg e Γ S W A hl hc hw
  sleep 3
  obtain⟨h0,hc_1⟩:=aa hc
  obtain⟨ts,k,tp,rfl⟩:=Dj h0
  obtain⟨y,p,es,pos,rfl,hc_2⟩:=bU hc_1
  obtain⟨l',r',rfl,hc_3⟩:=two2_of hc_2
  have hc:=hc_3
  . sleep 1
    sleep 5
    obtain⟨h3,h4⟩:=aa h3
    obtain⟨h5,h6⟩:=aa h3
    obtain⟨h7,h8⟩:=aa h4
    have e:=%[|18]
    subst e
    refine J4 ((a.sound A l1 h7 hw).mono λ d S1 q=>(b.sound A l2 h8 q).mono λ d' S2 q=>?_) (by rw[A.g];exact hm) (A.glb h2) (aH h5 _ _) (aH h6 [] _)
    cases d<;>first | exact q.elim | (cases d'<;>first | exact⟨_,_,rfl,rfl,q⟩ | exact q.elim)
end RF
namespace RF
theorem ff{P:Prop}(h:false=true):P:=(x5 h).elim
theorem tf{P:Prop}(h:true=false):P:=(x5 h.symm).elim
open PySem PySem.Spec L2 DL
open PyProof.Rows
abbrev Cal(Ω:Wd)(x:Str)(k n:Nat)(F:Ct):Prop:=Callee Ω.P Ω.w Ω.K Ω.mg Ω.base x k n F
abbrev Ok(Ω:Wd)(k:Nat)(f:Addr)(fd:FuncData)(ps:%[|0])(F:Ct):Prop:=FnOk Ω.P Ω.w Ω.K Ω.mg Ω.base CX0 k f fd ps (spC Ω.K ps.length F)
def mX:Ct:=λ ds S W=>∃ns,ds=[.lst (List.map .int ns)]/\ns.length≤63/\(∀S',W (.bl true) S')/\S=[]
theorem QM{K:PySem.W.Frag}{H:Hp}{a:Addr}{ns:%[|6]}{E:XK}(hl:ns.length≤63)(hS:SqL K H a (ns.map V.int)):spC K 1 mX [.ref a] H (λ v _=>v=.bl true) E:=by
 refine⟨⟨[],[]⟩,[.lst (ns.map .int)],[],λ d _=>d=.bl true,rfl,.cons (.lst (xs:=ns.map V.int) ?_ (Reps.of_ints ns)) .nil,?_,⟨ns,rfl,hl,λ _=>rfl,rfl⟩,λ v H' q=>?_⟩
 . rcases hS with h | h
   . exact .inl ⟨λ z=>by rcases z with z | z<;>exact absurd (show a∈([]:List Addr)from z) (by simp),h⟩
   . exact .inr (.inr h)
 . exact⟨List.nodup_nil,rfl,λ k a ds e=>by simp at e,λ k a ds e=>by simp at e,λ a h=>absurd (show a∈([]:List Addr)from h) (by simp),λ a h=>absurd (show a∈([]:List Addr)from h) (by simp)⟩
 . obtain⟨O',d,S',w,_,_,r⟩:=q
   subst w
   cases r
   rfl
theorem walk{lev:Nat}{x:Str}{l:PySem.W.OpenLaw}{q:Program}{loose:%[|0]}{XP:%[|22]->Heap->Prop}{YP:World->Heap->Prop}{d:DefRec}{K:Params->PySem.W.Frag}(hn:l.most=some 63)(hdf:d.params.defaults=[])(hr:Room lev callerA)
 (hY:∀(w:World)(h:Heap),YP w h->(K w.params).In h)
 (F:∀(w:World)(mg:%[|22])(fa:Addr)(h:Heap),(K w.params).In h->h.Ns mainGlobals mg->mg d.name=some (.ref fa)->
  ∃fd:FuncData,(∀(s:Shared)(u:Value),BindsTo s fd ⟨[u],[]⟩ [(x,u)])/\∀base:Heap,(K w.params).In base->base.Ns mainGlobals mg->FnOk l.prog w (K w.params) mg base CX0 lev fa fd [x] (spC (K w.params) 1 mX)):
 PySem.W.WalkO q loose XP YP l.row.toRowW d [] (λ f vs=>PySem.call f vs):=
 L2.walk_of (n:=63) (k:=lev) (x:=x) (CX:=λ _=>CX0) (sp:=λ w=>spC (K w.params) 1 mX) hn %[|2] hdf hr hY F (λ _ _ a ns hl _ hS=>QM hl hS) λ _ _ _ _ _ z=>z
theorem Tg.mono{t:Tg}{d:D}{Γ:Gam}{W W':Gam->Prop}(h:t.wp d Γ W)(k:∀G,W G->W' G):t.wp d Γ W':=by
 cases t with
 | nm i=>exact k _ h
 | tup is=>
   cases d with
   | tup ds=>exact⟨h.1,k _ h.2⟩
   | _=>exact h.elim
section
variable {Ω : Wd} {cap : %[|32]} {Γ : Gam} {elt : Ex Ω} {tg : Tg} {cd : Cd Ω} {W : WD} {ds : List D} {S1 : Store}
theorem dZ(f:D->D)(hz:%[|60])(h:∀(i:Nat)(d:D),%[|33]->∀Q:WD,Q (f d) S1->tg.wp d (capt cap Γ) λ Γ2=>elt.wp Γ2 S1 Q)(w:W (.lst (ds.map f)) S1):mW cap Γ elt tg (Cd.no (Ω:=Ω)) W ds S1:=by
 refine gR ⟨hz,λ i acc S'=>acc=(ds.take i).map f/\S'=S1,⟨rfl,rfl⟩,?_,?_⟩
 . rintro i d acc S' hd ⟨rfl,rfl⟩
   refine Tg.mono (h i d hd (λ y S4=>(ds.take i).map f++[y]=(ds.take (i+1)).map f/\S4=S') ⟨?_,rfl⟩) λ G q=>⟨λ _=>q,λ z=>tf z⟩
   rw[bO hd,List.map_append];rfl
 . rintro acc S' ⟨rfl,rfl⟩
   rw[List.take_length];exact w
theorem mF(P:Nat->D->Prop)(Q:%[|13])(hz:%[|60])(q0:Q S1)(h:∀(i:Nat)(d:D)(S':Store),%[|33]->Q S'->∀R:WD,(∀y S4,P i y->Q S4->R y S4)->tg.wp d (capt cap Γ) λ Γ2=>elt.wp Γ2 S' R)
 (w:∀(ys:List D)(S':Store),ys.length=ds.length->(∀i y,ys[i]? =some y->P i y)->Q S'->W (.lst ys) S'):mW cap Γ elt tg (Cd.no (Ω:=Ω)) W ds S1:=by
 refine gR ⟨hz,λ i acc S'=>(acc.length=i/\∀j y,acc[j]? =some y->P j y)/\Q S',⟨⟨rfl,λ j y e=>by simp at e⟩,q0⟩,?_,λ acc S' h=>w acc S' h.1.1 h.1.2 h.2⟩
 rintro i d acc S' hd ⟨⟨hl,ha⟩,q⟩
 refine Tg.mono (h i d S' hd q (λ y S4=>((acc++[y]).length=i+1/\∀j y',(acc++[y])[j]? =some y'->P j y')/\Q S4) λ y S4 hy q4=>⟨⟨by simp[hl],λ j y' e=>?_⟩,q4⟩) λ G q=>⟨λ _=>q,λ z=>tf z⟩
 by_cases hj:j<acc.length
 . rw[List.getElem?_append_left hj]at e;exact ha j y' e
 . rw[List.getElem?_append_right %[|1]]at e
   have:j-acc.length=0:=by
    have:=(z0.mp e).1
    simp at this;omega
   rw[this]at e
   simp at e
   subst e
   have:j=i:=%[|1]
   rw[this];exact hy
end
theorem bT{A B:Prop}(h:A):(true=true->A)/\(true=false->B):=⟨λ _=>h,λ z=>tf z⟩
theorem bF{A B:Prop}(h:B):(false=true->A)/\(false=false->B):=⟨λ z=>ff z,λ _=>h⟩
variable {W : WD}
mutual
theorem eY{K:PySem.W.Frag}{O O':Own}{H:Hp}(h:∀a,¬O.has a->¬O'.has a):∀{v:V}{d:D},aq d=true->Rep K O H v d->Rep K O' H v d
 | _,_,_,.non=>.non
 | _,_,_,.bl b=>.bl b
 | _,_,_,.int i=>.int i
 | _,_,_,.str x=>.str x
 | _,_,n,.tup h1 r=>.tup ⟨h _ h1.1,h1.2⟩ (fU h (by simpa[aq]using n) r)
 | _,_,n,.lst h1 r=>.lst (h1.imp (λ q=>⟨h _ q.1,q.2⟩) id) (fU h (by simpa[aq]using n) r)
 | _,_,n,.loc _=>by simp[aq]at n
 | _,_,n,.dlo _ _=>by simp[aq]at n
 | _,_,_,.dic h1 e=>.dic (h _ h1) e
theorem fU{K:PySem.W.Frag}{O O':Own}{H:Hp}(h:∀a,¬O.has a->¬O'.has a):∀{vs:List V}{ds:List D},ao ds=true->Reps K O H vs ds->Reps K O' H vs ds
 | _,_,_,.nil=>.nil
 | _,_,n,.cons r t=>by
   simp only[ao,Bool.and_eq_true]at n
   exact .cons (eY h n.1 r) (fU h n.2 t)
end
theorem zb{K:PySem.W.Frag}{O O':Own}{H:Hp}(h:∀a,¬O.has a->¬O'.has a):∀{vs:List (List Key×V)}{ds:List D},ao ds=true->Kps K O H vs ds->Kps K O' H vs ds
 | _,_,_,.nil=>.nil
 | _,_,n,.cons r t=>by
   simp only[ao,aq,Bool.and_eq_true]at n
   exact .cons (eY h n.1.2.1 r) (zb h n.2 t)
theorem pY{K:PySem.W.Frag}{O O':Own}{H:Hp}(h:∀a,¬O.has a->¬O'.has a):∀{vs:Cy}{ds:List D},ao ds=true->Kcs K O H vs ds->Kcs K O' H vs ds
 | _,_,_,.nil=>.nil
 | _,_,n,.cons e rk rv r t=>by
   simp only[ao,aq,Bool.and_eq_true]at n
   exact .cons e (eY h n.1.1 rk) rv (eY h n.1.2.1 r) (pY h n.2 t)
theorem Ba{K:PySem.W.Frag}{O O':Own}{H:Hp}(h:∀a,¬O.has a->¬O'.has a):∀{vs:Oy}{ds:List D},ao ds=true->Kos K O H vs ds->Kos K O' H vs ds
 | _,_,_,.nil=>.nil
 | _,_,n,.cons e rv r t=>by
   simp only[ao,aq,Bool.and_eq_true]at n
   exact .cons e rv (eY h n.1.2.1 r) (Ba h n.2 t)
theorem Mr{K:PySem.W.Frag}{O O':Own}{H:Hp}{a:Addr}{ds:List D}(h:∀a,¬O.has a->¬O'.has a)(n:ao ds=true)(b:DOb K O H a ds):DOb K O' H a ds:=by
 cases b with
 | t kvs e r=>exact .t kvs e (zb h n r)
 | c ys z e r=>exact .c ys z e (pY h n r)
 | o ys z e r=>exact .o ys z e (Ba h n r)
 | m ys d' hd e r=>subst hd;exact .m ys d' rfl e (pY h (by simpa[ao,aq]using n) r)
 | p ps z b l c y q k e hd g=>exact .p ps z b l c y q k e hd (g.imp id λ⟨g1,x,g2,g3,g4⟩=>⟨g1,x,g2,h _ g3,g4⟩)
def flat(S:Store):Prop:=∀l∈S,ao l=true
theorem pU{A:List (Addr×Bool)}{n:Nat}{a:Addr}(h:a∈adr (A.take n)):a∈adr A:=by
 obtain⟨x,hx,rfl⟩:=ZO.mp h
 exact ZO.mpr ⟨x,List.mem_of_mem_take hx,rfl⟩
theorem ou{K:PySem.W.Frag}{O O':Own}{H H':Hp}{S':Store}{J:List (List D)}(st:Step O O' H H')(ok:StOk K O' H' (S'++J))(hl:O.A.length≤S'.length)(hS:flat S'):
 Step O ⟨O'.A.take S'.length,O'.B⟩ H H'/\StOk K ⟨O'.A.take S'.length,O'.B⟩ H' S'/\(∀b,¬O'.has b->¬(⟨O'.A.take S'.length,O'.B⟩:Own).has b)/\∀j a,S'.length≤j->∀{q:Bool},O'.A[j]? =some (a,q)->¬(⟨O'.A.take S'.length,O'.B⟩:Own).has a:=by
 obtain⟨N,eA,fN⟩:=st.ext
 have len:O'.A.length=S'.length+J.length:=by have:=ok.len;simpa using this
 have sub:∀b,¬O'.has b->¬(⟨O'.A.take S'.length,O'.B⟩:Own).has b:=λ b hb z=>hb (z.imp pU id)
 have nd:(adr (O'.A.take S'.length)).Nodup:=by
  show(List.map _ (List.take _ _)).Nodup
  rw[List.map_take]
  exact ok.nd.sublist (List.take_sublist _ _)
 refine⟨⟨st.kept,st.dom,⟨N.take (S'.length-O.A.length),by
  show O'.A.take S'.length=_
  rw[eA,List.take_append,List.take_of_length_le %[|1]],λ b hb=>fN b (pU hb)⟩,st.hid⟩,⟨nd,by simp[len],λ k b es e1 e2=>?_,λ k b es e1 e2=>?_,λ b hb=>ok.apart b (pU hb),ok.hidden⟩,sub,λ j a hj q ha z=>?_⟩
 . have hk:k<S'.length:=(z0.mp e2).1
   have e1':(O'.A.take S'.length)[k]? =some (b,false):=e1
   rw[List.getElem?_take,if_pos hk]at e1'
   obtain⟨ys,hy,r'⟩:=ok.obj k b es e1' (by rw[List.getElem?_append_left hk];exact e2)
   exact⟨ys,hy,fU sub (hS es (y9 e2)) r'⟩
 . have hk:k<S'.length:=(z0.mp e2).1
   have e1':(O'.A.take S'.length)[k]? =some (b,true):=e1
   rw[List.getElem?_take,if_pos hk]at e1'
   exact Mr sub (hS es (y9 e2)) (ok.dob k b es e1' (by rw[List.getElem?_append_left hk];exact e2))
 . rcases z with z | z
   . obtain⟨⟨a',q'⟩,hm,rfl⟩:=ZO.mp z
     obtain⟨i,hi⟩:=ZR hm
     rw[List.getElem?_take]at hi
     split at hi
     . rename_i hlt
       exact Ft ok.nd hi ha %[|1] rfl
     . cases hi
   . exact ok.apart a (d7 ha) z
def Frz(n:Nat)(W:WD):WD:=λ d S1=>W d S1∨∃ds S',d=.loc S'.length/\S1=S'++[ds]/\n≤S'.length/\ao ds=true/\flat S'/\W (.lst ds) S'
theorem QG.frz{K:PySem.W.Frag}{O:Own}{H H':Hp}{v:V}{n:Nat}(hn:O.A.length=n)(q:QG K O H (Frz n W) v H'):QG K O H W v H':=by
 obtain⟨O',d,S1,w,st,ok,r⟩:=q
 rcases w with w | ⟨ds,S',rfl,rfl,hl,hd,hS,w⟩
 . exact⟨O',d,S1,w,st,ok,r⟩
 . obtain⟨st2,ok2,sub,na⟩:=ou st ok %[|1] hS
   cases r with
   | @loc a _ ha=>
     obtain⟨xs,hx,q1⟩:=ok.obj S'.length a ds ha (by simp)
     exact⟨_,.lst ds,S',w,st2,ok2,.lst (.inl ⟨na _ a (x9 _) ha,.inl hx⟩) (fU sub hd q1)⟩
theorem Ou{X:Cx}{Γ:Gam}{S:Store}{sts:List Stmt}{W:DL.Fin}(h:Rns X Γ S sts {W with rt:=Frz S.length W.rt}):Rns X Γ S sts W:=λ pins s σ H O I env ok=>
 thn %[|67] λ f s' q=>by
  cases f with
  | next=>exact q
  | brk=>exact q
  | cont=>exact q
  | ret u=>obtain⟨v,σ',H',I',r,q⟩:=q;exact⟨v,σ',H',I',r,QG.frz ok.len q⟩
variable {Ω : Wd}
def Bl.frz(b:Bl Ω):Bl Ω where
 lev:=b.lev
 chk:=b.chk
 wp Γ S W:=b.wp Γ S {W with rt:=Frz S.length W.rt}
 sound:=by
  intro X r top N nm sts Γ S W A hl hc hw
  exact Ou (b.sound A hl hc hw)
def hand(W:WD)(ds:List D)(S:Store):Prop:=W (.lst ds) S∨W %[|77] (S++[ds])
theorem LQ{ds:List D}{S:Store}(h:hand W ds S)(hd:ao ds=true)(hS:flat S):Frz S.length W %[|77] (S++[ds]):=by
 rcases h with h | h
 . exact .inr ⟨ds,S,rfl,rfl,x9 _,hd,hS,h⟩
 . exact .inl h
theorem Jx{X:Cx}{Γ:Gam}{S:Store}{o e:Expr}{apos cpos:Pos}(h:Ev X Γ S o λ x S1=>∃k,x=.loc k/\Ev X Γ S1 e λ d S2=>∃ds,S2[k]? =some ds/\ds.length<1000000/\W .non (S2.set k (ds++[d])))
 (hbase:attributeBase o "append" X.env (eval o X.env)=eval o X.env)(hs:starEach [e] X.env=[(false,eval e X.env)])(hline:(apos.endLine==cpos.line)=true):Ev X Γ S (.Call (.Attribute o "append" apos) [e] [] cpos) W:=by
 sleep 0
 have hty:∀(O1:Own)(x:D)(v:V)(H1:Hp)(S1:Store),(∃k,x=.loc k)->StOk X.K O1 H1 S1->Rep X.K O1 H1 v x->tyV X.K "list" v H1:=by
  rintro O1 x v H1 S1 ⟨k,rfl⟩ ok r
  cases r with
  | @loc a _ ha=>
    have hl:k<S1.length:=by rw[←ok.len];exact(z0.mp ha).1
    obtain⟨xs,hx,_⟩:=ok.obj k a S1[k] ha (y8 hl)
    exact .inl ⟨rfl,xs,SqL.of hx⟩
 have hA:PA X [e] (λ σ H Q=>∃O Γ S W',%[|35]/\%[|23]/\Ev X Γ S e W'/\∀v H',QG X.K O H W' v H'->Q [v] H'):=by
  rintro pos pins s σ H Q I ⟨O,Γ,S,W',env,st,he,k⟩
  rw[hs]
  show wpAny _ _ (spliced ((false,eval e X.env)::backTo pos (starEach [] X.env))) _ _ s
  refine Calls.spliced_cons (thn (he pins s σ H O I env st) λ u s1 hq_=>?_)
  obtain⟨v,H1,I1,r1,q⟩:=hq_
  exact Calls.spliced_nil ⟨[v],H1,I1,.cons r1 .nil,k v H1 q⟩
 refine rD (T:="list") PySem.F.plainAttrs_list PySem.F.slot_list_append PySem.F.type_list_append lN (h.pe) hA hbase (by rw[hs];rfl) hline hs rfl pins s σ H _ I ⟨O,env,st,λ v H' q=>?_⟩
 obtain⟨O1,x,S1,⟨k,rfl,he⟩,st1,ok1,rep1⟩:=q
 refine⟨hty O1 _ v H' S1 ⟨k,rfl⟩ ok1 rep1,O1,Γ,S1,_,%[|20],ok1,he,λ v2 H2 q2=>?_⟩
 obtain⟨O2,d,S2,⟨ds,hk,hz,w⟩,st2,ok2,rep2⟩:=q2
 have r:=rep1.mono st2
 cases r with
 | @loc a _ ha=>
   obtain⟨xs,hx,q1⟩:=ok2.obj k a ds ha hk
   exact⟨a,xs,v2,rfl,rfl,hx,by rw[q1.length];exact ZM hz %[|2],O2,.non,_,w,(st1.trans st2).trans (Step.put (d7 ha) _),ok2.put ha (q1.append (.cons rep2 .nil)),.non⟩
def nameE:Expr->Bool
 | .Name .. =>true
 | _=>false
def Ex.m_append(o a:Ex Ω):Ex Ω where
 lev:=max o.lev a.lev
 chk top N nm e:=match e with | .Call (.Attribute x m p) [y] [] q=>(m==("append":Str))&&(nameE x&&((p.endLine==q.line)&&(okE y&&(o.chk top N nm x&&a.chk top N nm y)))) | _=>false
 wp Γ S W:=o.wp Γ S λ x S1=>match x with | .loc k=>a.wp Γ S1 λ d S2=>∃ds,S2[k]? =some ds/\ds.length<1000000/\W .non (S2.set k (ds++[d])) | _=>False
 sound:=by
  sleep 2
  sleep 3
  split at hc
  . rename_i x m p y q
    obtain⟨h1,g⟩:=aa hc
    obtain⟨h2,g⟩:=aa g
    obtain⟨h3,g⟩:=aa g
    obtain⟨h4,g⟩:=aa g
    obtain⟨h5,h6⟩:=aa g
    have e:=%[|18]
    subst e
    refine Jx ((o.sound A l1 h5 hw).mono λ x S1 q=>?_) ?_ (aH h4 [] _) h3
    . cases x<;>first | exact q.elim | exact⟨_,rfl,a.sound A l2 h6 q⟩
    . cases x<;>first | rfl | exact ff h2
  . exact ff hc
theorem aU(S:Store)(x:List D):(S++[x])[S.length]? =some x:=by simp
theorem dw(S:Store)(x y:List D):(S++[x]).set S.length y=S++[y]:=by simp
theorem jN{α β:Type}{xs:List α}{f:α->β}{i:Nat}{e:β}(h:(xs.map f)[i]? =some e):∃x,xs[i]? =some x/\e=f x:=by
 rw[x8]at h
 cases e1:xs[i]? with
 | none=>rw[e1]at h;cases h
 | some x=>rw[e1]at h;cases h;exact⟨x,rfl,rfl⟩
theorem jH{cap:%[|32]}{Γ:Gam}{elt:Ex Ω}{tg:Tg}{S1:Store}{α:Type}{xs:List α}{enc:α->D}(f:α->D)(hz:xs.length≤1000000)(h:∀(i:Nat)(x:α),xs[i]? =some x->∀Q:WD,Q (f x) S1->tg.wp (enc x) (capt cap Γ) λ Γ2=>elt.wp Γ2 S1 Q)
 (w:W (.lst (xs.map f)) S1):mW cap Γ elt tg (Cd.no (Ω:=Ω)) W (xs.map enc) S1:=by
 refine gR ⟨by rw[x6];exact hz,λ i acc S'=>acc=(xs.take i).map f/\S'=S1,⟨rfl,rfl⟩,?_,?_⟩
 . rintro i d acc S' hd ⟨rfl,rfl⟩
   obtain⟨x,hx,rfl⟩:=jN hd
   refine Tg.mono (h i x hx (λ y S4=>(xs.take i).map f++[y]=(xs.take (i+1)).map f/\S4=S') ⟨?_,rfl⟩) λ G q=>⟨λ _=>q,λ z=>tf z⟩
   rw[bO hx,List.map_append];rfl
 . rintro acc S' ⟨rfl,rfl⟩
   rw[x6,List.take_length];exact w
theorem wM1{i j:Int}{P:Prop}(h:L2.CMul i j)(p:P):L2.CMul i j/\P:=⟨h,p⟩
theorem wM2{i j:Int}{P:Prop}(h:L2.CPow i j)(p:P):L2.CPow i j/\P:=⟨h,p⟩
theorem wM3{i j:Int}{P:Prop}(h:0<i/\i<j)(p:P):(0<i/\i<j)/\P:=⟨h,p⟩
theorem wM5{α:Type}{l:List α}{P:Prop}(h:l.length≤1000000)(p:P):l.length≤1000000/\P:=⟨h,p⟩
theorem wM6{α β:Type}{l:List α}{k:List β}{P:Prop}(h:l.length+k.length≤1000000)(p:P):l.length+k.length≤1000000/\P:=⟨h,p⟩
theorem wM9{n:Int}{ds:List D}{d:D}{Q:D->Prop}(g:L2.atI ds n=some d)(q:Q d):∃d,L2.atI ds n=some d/\Q d:=⟨d,g,q⟩
end RF
namespace RF
open PySem PySem.Spec L2 DL
open PyProof.Rows
theorem Fo{K:PySem.W.Frag}{O:Own}{H:Hp}{a:Addr}{k:Nat}{ds:List D}(h:O.A[k]? =some (a,false)):t7 K (Itl K a) O H (λ S=>S[k]? =some ds) ds:=by
 intro O' H' S' st ok hS i
 have h':O'.A[k]? =some (a,false):=st.lc k _ h
 obtain⟨xs,hx,r⟩:=ok.obj k a ds h' hS
 have hq:SqL K H' a xs:=SqL.of hx
 refine⟨λ d hd=>?_,λ hi=>⟨xs,hq,by rw[r.length];exact Nat.le_of_eq hi.symm⟩⟩
 obtain⟨v,hv,rv⟩:=r.get hd
 refine⟨⟨xs,v,hq,hv⟩,λ x H'' y=>?_⟩
 obtain⟨e,y⟩:=y
 subst e
 have e:=y xs hq
 rw[hv]at e
 cases e
 exact⟨aQ.refl _,rv⟩
abbrev itC(W:List D->%[|13]->%[|13]):WD:=λ d S1=>match d with
 | .lst ds=>W ds (λ _=>True) S1
 | .tup ds=>W ds (λ _=>True) S1
 | .loc k=>∃ds,S1[k]? =some ds/\W ds (λ S=>S[k]? =some ds) S1
 | _=>False
theorem Q4{X:Cx}{Γ:Gam}{S:Store}{tg e:Expr}{W:List D->%[|13]->%[|13]}(h:Ev X Γ S e (itC W)):ItC X Γ S tg e W:=by
 sleep 0
 refine %[|58]
 obtain⟨v,H1,I1,r1,O1,d,S1,w,st1,ok1,rep⟩:=hq_
 cases rep with
 | @lst a xs ds h1 q1=>
   cases r1
   obtain⟨its,rv,p,hz⟩:=I1.list h1.sq
   refine wpAny_pyIter_list p.isList ?_
   refine⟨s1.heap.objs.size,[s1.heap.objs.size],_,_,H1,rfl,I1.kept (t':=s1.toks) %[|81],mj a _,⟨_,%[|34],rfl,rfl⟩,λ b hb=>?_,O1,ds,_,S1,w,st1,ok1,pD (nU h1 q1)⟩
   have e:b=s1.heap.objs.size:=by simpa using hb
   subst e
   exact I1.fpOk (x9 _) (I1.hok.fresh (x9 _))
 | @tup a xs ds h1 q1=>
   cases r1
   obtain⟨its,rv,p,hz⟩:=I1.tuple h1.sq
   refine wpAny_pyIter_tuple (show s1.heap.IsTuple a its.toArray from p) ?_
   refine⟨s1.heap.objs.size,[s1.heap.objs.size],_,_,H1,rfl,I1.kept (t':=s1.toks) %[|81],rF a _,⟨_,%[|34],rfl,rfl⟩,λ b hb=>?_,O1,ds,_,S1,w,st1,ok1,pD (rM h1 q1)⟩
   have e:b=s1.heap.objs.size:=by simpa using hb
   subst e
   exact I1.fpOk (x9 _) (I1.hok.fresh (x9 _))
 | @loc a k h1=>
   cases r1
   obtain⟨ds,hk,w⟩:=w
   obtain⟨xs,hx,q1⟩:=ok1.obj k a ds h1 hk
   obtain⟨its,rv,p,hz⟩:=I1.list (SqL.of hx)
   refine wpAny_pyIter_list p.isList ?_
   refine⟨s1.heap.objs.size,[s1.heap.objs.size],_,_,H1,rfl,I1.kept (t':=s1.toks) %[|81],mj a _,⟨_,%[|34],rfl,rfl⟩,λ b hb=>?_,O1,ds,_,S1,w,st1,ok1,Fo h1⟩
   have e:b=s1.heap.objs.size:=by simpa using hb
   subst e
   exact I1.fpOk (x9 _) (I1.hok.fresh (x9 _))
 | _=>exact w.elim
theorem Uz{X:Cx}{Γ:Gam}{S:Store}{W:DL.Fin}{pos:Pos}{tg iter:Expr}{body:List Stmt}(h:ItC X Γ S tg iter λ ds C S1=>∃Pv:Nat->Gam->%[|13],Pv 0 Γ S1/\(∀i Γ' S',Pv i Γ' S'->C S')/\
 (∀i d Γ' S',%[|33]->Pv i Γ' S'->BdW X tg d Γ' S' λ Γ2 S2=>Rns X Γ2 S2 body %[|80])/\(∀Γ' S',Pv ds.length Γ' S'->W.nx Γ' S'))
 (hp:PassesOwn %[|9] X.A X.env X.xe)(hc:X.calm=true)(hs:∀x,foldedSetIterable iter X.env x=pure x):Rn X Γ S (.For tg iter body [] pos) W:=by
 sleep 7
 let WI:List D->%[|13]->%[|13]:=λ ds C S1=>∃Pv:Nat->Gam->%[|13],Pv 0 Γ S1/\(∀i Γ' S',Pv i Γ' S'->C S')/\
     (∀i d Γ' S',%[|33]->Pv i Γ' S'->BdW X tg d Γ' S' λ Γ2 S2=>Rns X Γ2 S2 body %[|80])/\(∀Γ' S',Pv ds.length Γ' S'->W.nx Γ' S')
 have hI:PI X tg iter (λ σ H R=>∃O,%[|35]/\%[|23]/\∀J H',QIc X.K O H WI J H'->R J H'):=λ pins s σ H R I hh=>by
  obtain⟨O,env,st,k⟩:=hh
  refine thn %[|45] λ _ _ q=>thn q λ _ _ q2=>?_
  obtain⟨it,fp,tn,J,H',e1,e2,e3,e4,e5,e6⟩:=q2
  exact⟨it,fp,tn,J,H',e1,e2,e3,e4,e5,k J H' e6⟩
 have hG:PG X tg (λ v σ H Q=>∃O d Γ S W',%[|35]/\%[|23]/\Rep X.K O H v d/\BdW X tg d Γ S W'/\∀σ' H',QN X.K O H W' σ' H'->Q σ' H'):=λ pins s σ H v u Q I ru hh=>by
  obtain⟨O,d,Γ,S,W',env,st,r,b,k⟩:=hh
  refine thn (b pins s σ H O v u I env st r ru) λ _ _ q2=>?_
  obtain⟨σ',H',I',q⟩:=q2
  exact⟨σ',H',I',k σ' H' q⟩
 have hB:PSs X body (λ D σ H=>∃O Γ S W',%[|35]/\%[|23]/\Rns X Γ S body W'/\(∀σ' H',QN X.K O H W'.nx σ' H'->D.nx σ' H')/\(∀v H',QG X.K O H W'.rt v H'->D.rt v H')/\(∀σ' H',QN X.K O H W'.bk σ' H'->D.bk σ' H')/\∀σ' H',QN X.K O H W'.ct σ' H'->D.ct σ' H'):=
  λ pins s σ H D I hh=>by
   obtain⟨O,Γ,S,W',env,st,b,k1,k2,k3,k4⟩:=hh
   refine thn (b pins s σ H O I env st) λ f s' q=>?_
   cases f with
   | next=>obtain⟨σ',H',I',q⟩:=q;exact⟨σ',H',I',k1 σ' H' q⟩
   | brk=>obtain⟨σ',H',I',q⟩:=q;exact⟨σ',H',I',k3 σ' H' q⟩
   | cont=>obtain⟨σ',H',I',q⟩:=q;exact⟨σ',H',I',k4 σ' H' q⟩
   | ret u=>obtain⟨v,σ',H',I',r,q⟩:=q;exact⟨v,σ',H',I',r,k2 v H' q⟩
 refine zx hp hc hI hG hB hs pins s σ H _ I ⟨O,env,ok,λ J H1 q=>?_⟩
 obtain⟨O1,ds,C,S1,⟨Pv,p0,pC,pt,pe⟩,st1,ok1,yl⟩:=q
 refine⟨λ i m σ' H'=>m=ds.length-i/\i≤ds.length/\∃O' Γ' S',Pv i Γ' S'/\Step O1 O' H1 H'/\StOk X.K O' H' S'/\EnvOk X.K O' H' σ' Γ',⟨ds.length,by simp,Nat.zero_le _,O1,Γ,S1,p0,Step.refl _ _,ok1,%[|20]⟩,?_⟩
 rintro i m σ2 H2 ⟨rfl,hi,O2,Γ2,S2,p2,st2,ok2,env2⟩
 obtain⟨y1,y2⟩:=yl O2 H2 S2 st2.conv ok2 (pC _ _ _ p2) i
 by_cases hlt:i<ds.length
 . obtain⟨go,yy⟩:=y1 ds[i] (y8 hlt)
   refine .inr ⟨go,λ σ' H'=>i+1≤ds.length/\∃O' Γ' S',Pv (i+1) Γ' S'/\Step O1 O' H1 H'/\StOk X.K O' H' S'/\EnvOk X.K O' H' σ' Γ',λ σ' H' q=>⟨ds.length-(i+1),%[|1],rfl,q.1,q.2⟩,λ x H3 y=>?_⟩
   obtain⟨sm,rx⟩:=yy x H3 y
   have st3:=Step.same (O:=O2) sm
   refine⟨O2,ds[i],Γ2,S2,_,env2.mono st3,ok2.same sm,rx,pt i ds[i] Γ2 S2 (y8 hlt) p2,λ σ4 H4 q4=>?_⟩
   obtain⟨O4,Γ4,S4,w4,st4,ok4,env4⟩:=q4
   have stA:=(st2.trans st3).trans st4
   refine⟨O4,Γ4,S4,_,env4,ok4,w4,?_,?_,?_,?_⟩
   . rintro σ5 H5 ⟨O5,Γ5,S5,w5,st5,ok5,env5⟩
     exact⟨hlt,O5,Γ5,S5,w5,stA.trans st5,ok5,env5⟩
   . exact λ v H' q=>QG.pre (st1.trans stA) q
   . exact λ σ' H' q=>QN.pre (st1.trans stA) q
   . rintro σ5 H5 ⟨O5,Γ5,S5,w5,st5,ok5,env5⟩
     exact⟨hlt,O5,Γ5,S5,w5,stA.trans st5,ok5,env5⟩
 . have e:i=ds.length:=%[|1]
   subst e
   exact .inl ⟨y2 rfl,O2,Γ2,S2,pe Γ2 S2 p2,st1.trans st2,ok2,env2⟩
section
variable {Ω : Wd}
@[irreducible] noncomputable def UJ(Γ:Gam)(tg:Tg)(body:Bl Ω)(W:DL.Fin)(k:Nat)(ds:List D)(S1:Store):Prop:=
  ∃Pv:Nat->Gam->%[|13],Pv 0 Γ S1/\(∀i Γ' S',Pv i Γ' S'->S'[k]? =some ds)/\(∀i d Γ' S',%[|33]->Pv i Γ' S'->tg.wp d Γ' λ Γ2=>body.wp Γ2 S' %[|80])/\(∀Γ' S',Pv ds.length Γ' S'->W.nx Γ' S')
def Sm.forL(tg:Tg)(it:Ex Ω)(body:Bl Ω):Sm Ω where
 lev:=max it.lev body.lev
 chk top N nm st:=match st with | .For t i b [] _=>okE i&&(tg.chk top N nm t&&(it.chk top N nm i&&body.chk top N nm b)) | _=>false
 wp Γ S W:=it.wp Γ S λ d S1=>match d with
  | .lst ds=>jt Γ tg body W ds S1
  | .tup ds=>jt Γ tg body W ds S1
  | .loc k=>∃ds,S1[k]? =some ds/\UJ Γ tg body W k ds S1
  | _=>False
 sound:=by
  intro X r top N nm st Γ S W A hl hc hw
  sleep 3
  split at hc
  . rename_i t i b pos
    obtain⟨h1,hc⟩:=aa hc
    obtain⟨h2,hc⟩:=aa hc
    obtain⟨h3,h4⟩:=aa hc
    have step:∀(Pv:Nat->Gam->%[|13])(ds:List D),(∀i d Γ' S',%[|33]->Pv i Γ' S'->tg.wp d Γ' λ Γ2=>body.wp Γ2 S' %[|80])->∀i d Γ' S',%[|33]->Pv i Γ' S'->BdW X t d Γ' S' λ Γ2 S2=>Rns X Γ2 S2 b %[|80]:=
     λ Pv ds pt i d Γ' S' hd hp=>BdW.mono (Tg.sound A (W:=λ Γ2 S2=>body.wp Γ2 S2 %[|80]) h2 (pt i d Γ' S' hd hp)) λ Γ2 S2 q=>body.sound A l2 h4 q
    refine Uz (Q4 (Ev.mono (it.sound A l1 h3 hw) λ d S1 q=>?_)) (by rw[A.xe];exact PassesOwn.never) A.calm (gY h1 _)
    cases d with
    | lst ds=>
      have q:jt Γ tg body W ds S1:=q
      unfold jt at q
      obtain⟨Pv,p0,pt,pe⟩:=q
      exact⟨Pv,p0,λ _ _ _ _=>trivial,step Pv ds pt,pe⟩
    | tup ds=>
      have q:jt Γ tg body W ds S1:=q
      unfold jt at q
      obtain⟨Pv,p0,pt,pe⟩:=q
      exact⟨Pv,p0,λ _ _ _ _=>trivial,step Pv ds pt,pe⟩
    | loc k=>
      obtain⟨ds,hk,q⟩:=q
      unfold UJ at q
      obtain⟨Pv,p0,pC,pt,pe⟩:=q
      exact⟨ds,hk,Pv,p0,pC,step Pv ds pt,pe⟩
    | _=>exact(show False from q).elim
  . exact fE hc
end
variable {ds : List D}
def kJ(S:Store):D->Option (List D)
 | .lst ds=>some ds
 | .loc k=>S[k]?
 | _=>none
def putL(own:Bool)(W:WD)(ds:List D)(S:Store):Prop:=match own with
 | true=>W %[|77] (S++[ds])
 | false=>W (.lst ds) S
section
variable {X : Cx} {S : Store} {W : WD}
theorem yg{pins:Pins}{s:Shared}{σ:DL.St}{H:Hp}{O:Own}{v:V}{d:D}(st:%[|23])(r:Rep X.K O H v d)(h:kJ S d=some ds):∃a xs,v=.ref a/\SqL X.K H a xs/\Reps X.K O H xs ds:=by
 cases r with
 | @lst a xs _ h1 q1=>cases h;exact⟨a,xs,rfl,h1.sq,q1⟩
 | @loc a k h1=>
   obtain⟨xs,hx,q1⟩:=st.obj k a ds h1 h
   exact⟨a,xs,rfl,SqL.of hx,q1⟩
 | _=>cases h
theorem Ia{own:Bool}{K:PySem.W.Frag}{O:Own}{H:Hp}{p:Addr}{xs:List V}(w:putL own W ds S)(st:StOk K O H S)(h:H p=none)(r:Reps K O H xs ds):QG K O H W (.ref p) (upd H p (.lst xs)):=by
 cases own with
 | true=>exact Ax w st h r
 | false=>exact jT w st h r
theorem Td{own:Bool}{x y:D}{es:List D}(hx:kJ S x=some ds)(hy:kJ S y=some es)(hz:ds.length+es.length≤1000000)(w:putL own W (ds++es) S):cg X .Add x y S W:=by
 sleep 9
 obtain⟨a,xs,rfl,h1,q1⟩:=yg (pins:=pins) (s:=s) (σ:=σ) st r1 hx
 obtain⟨b,ys,rfl,h2,q2⟩:=yg (pins:=pins) (s:=s) (σ:=σ) st r2 hy
 cases r3
 cases r4
 obtain⟨its,v1,p1,_⟩:=I.list h1
 obtain⟨its2,v2,p2,_⟩:=I.list h2
 obtain⟨⟨cls,dd,data,sl⟩,n,ho,hc,hdd,hd⟩:=id p1
 obtain⟨⟨cls2,dd2,data2,sl2⟩,n2,ho2,hc2,hdd2,hd2⟩:=id p2
 simp only at hc hd hc2 hd2
 subst hc hd hc2 hd2
 have z:its.length+its2.length≤sizeLine:=by rw[←v1.length,←v2.length,q1.length,q2.length];exact small hz
 refine concat_meets ⟨_,ho,rfl⟩ ⟨_,ho2,rfl⟩ noFill_list_add seq_list_add PySem.F.slot_list_add PySem.F.entry_list_add (PySem.F.args_list_add_2 _ _)
  (list_addW a b its.toArray its2.toArray n n2 dd dd2 sl sl2 (by simpa using z)) ⟨ho,ho2,?_⟩
 have ea:its.toArray++its2.toArray=(its++its2).toArray:=by simp
 rw[ea]
 exact⟨%[|59],_,I.lnew (t':=s.toks) (v1.append v2) (by rw[List.length_append,q1.length,q2.length];exact small hz),rfl,Ia w st I.fresh (q1.append q2)⟩
theorem U6{own:Bool}{x:D}{k:Int}(hx:kJ S x=some ds)(hk: -(2 ^ 63)≤k/\k<2 ^ 63)(hz:ds.length*k.toNat≤1000000)(w:putL own W (List.replicate k.toNat ds).flatten S):cg X .Mult x (.int k) S W:=by
 sleep 9
 obtain⟨a,xs,rfl,h1,q1⟩:=yg (pins:=pins) (s:=s) (σ:=σ) st r1 hx
 cases r2
 cases r3
 obtain⟨t,rfl⟩:=r4
 obtain⟨its,v1,p1,_⟩:=I.list h1
 obtain⟨⟨cls,dd,data,sl⟩,n,ho,hc,hdd,hd⟩:=id p1
 simp only at hc hd
 subst hc hd
 have l1:its.length=ds.length:=by rw[←v1.length,q1.length]
 have big:its.length*k.toNat≤1000000:=by rw[l1];exact hz
 have sz:(1000000:Nat)≤sizeLine:=%[|2]
 refine PySem.wpAny_binaryOp_repeat_ref (T:="list") (U:="int") %[|2] ⟨_,ho,rfl⟩ (λ s'=>typeIs_int s' k t) PySem.noFill_list_mul F.fills_int_mul F.slot_int_rmul PySem.repeat_list F.slot_int_index.lookup
  (call_meets F.slot_int_rmul (typeIs_int s k t) F.entry_int_rmul (F.args_int_rmul_2 _ _) (PySem.lm_int_rmul_list_any k t a its.toArray n dd sl) ⟨ho,rfl,⟨_,ho,rfl⟩,?_⟩)
 refine call_meets F.slot_list_mul ⟨_,ho,rfl⟩ F.entry_list_mul (F.args_list_mul_2 _ _) (PySem.lm_list_mul_any a its.toArray n dd sl k t ?_ ?_ ?_) ⟨ho,?_⟩
 . have c1:Builtin.List.listFitsIndex k=true:=by
    unfold Builtin.List.listFitsIndex
    rw[ZG %[|1],ZG %[|1]];rfl
   rw[c1];decide
 . rw[List.size_toArray];omega
 . rw[List.size_toArray]
   unfold Builtin.List.listTooLong
   rw[decide_eq_true_eq];omega
 . have ez:(List.replicate (if its.toArray.isEmpty=true then 0 else k.toNat) its.toArray).foldl (λ x1 x2=>x1++x2) #[]=(List.replicate k.toNat its).flatten.toArray:=by
    have fz:∀m:Nat,(List.replicate m its.toArray).foldl (λ x1 x2=>x1++x2) #[]=(List.replicate m its).flatten.toArray:=λ m=>by
     have:=foldl_rep its m []
     rw[List.nil_append]at this
     exact this
    rw[fz]
    by_cases e:its=[]
    . subst e;simp
    . have:its.toArray.isEmpty=false:=by simpa using e
      rw[this];rfl
   rw[ez]
   exact⟨%[|59],_,I.lnew (t':=s.toks) (v1.rep _) (by rw[len_rep,q1.length,Nat.mul_comm];exact small hz),rfl,Ia w st I.fresh (Reps.rep q1 _)⟩
theorem Ua{ns:%[|6]}(w:W (.int ns.sum) S)(hc:X.calm=true):bA X (.builtin "sum") [.tup (ns.map .int)] S W:=by
 intro pins s σ H O vs us I st r ru
 obtain⟨v,rfl,r'⟩:=di r
 obtain⟨u,rfl,ru'⟩:=vals1 ru
 cases r' with
 | @tup a xs _ h1 q1=>
   cases ru'
   obtain⟨its,rv,pl,hz⟩:=I.tuple h1.sq
   have ex:=q1.ints
   subst ex
   have hi:IntsAre its ns:=intsAre_of rv
   obtain⟨zs,ez⟩:=hi.allInts.items
   have hT:s.heap.IsTuple a its.toArray:=pl
   rw[ez]at hT
   have hlt:a<s.heap.objs.size:=by obtain⟨_,e,_⟩:=hT;exact %[|37]
   refine call_sum_walkG (wpAny_pyIter_tuple hT ?_)
   refine⟨_,_,_,_,_,_,numAt zs,rfl,Walks.tuple (A:=X.A.in1) (I.ok.hd hc) _ a (ZN hlt) (intItems zs),⟨⟨_,%[|34],rfl,rfl⟩,hT.push _⟩,(λ b hb=>?_),(λ _ _=>intItems_at),λ h' tk t' hk=>?_⟩
   . show b<(s.heap.push _).objs.size
     rw[Heap.size_push]
     rcases ZJ.mp hb with rfl | hb
     . exact Nat.lt_succ_self _
     . rcases ZJ.mp hb with rfl | hb
       . exact Nat.lt_succ_of_lt hlt
       . cases hb
   . have e:preSum (numAt zs) (intItems zs).size=ns.sum:=by
      rw[show(intItems zs).size=zs.size by simp[intItems],preSum_eq,List.take_of_length_le (by simp),←nums_intItems,←ez]
      exact congrArg List.sum hi.numsOf
     rw[e]
     refine⟨.int _,H,I.kept (λ b o q=>hk b o (λ z=>?_) (ZC _ q)),%[|24],QG.here w st (.int _)⟩
     have z':b=s.heap.objs.size:=by simpa using z
     exact absurd (ZE q) (by rw[z'];exact Nat.lt_irrefl _)
end
def GQ:Bf where
 x:="sum"
 id:="sum"
 boot:=%[|7]
 wp ds S W:=match ds with
  | [.lst ds]=>∃ns:%[|6],ds=ns.map .int/\W (.int ns.sum) S
  | [.tup ds]=>∃ns:%[|6],ds=ns.map .int/\W (.int ns.sum) S
  | _=>False
 sound:=by
  intro X ds S W hc hr h
  split at h
  . obtain⟨bs,rfl,h⟩:=h;exact VD h hc
  . obtain⟨bs,rfl,h⟩:=h;exact Ua h hc
  . exact h.elim
def zA(own:Bool)(op:Operator)(x y:D)(S:Store)(W:WD):Prop:=match op with
 | .Add=>∃ds es,kJ S x=some ds/\kJ S y=some es/\ds.length+es.length≤1000000/\putL own W (ds++es) S
 | .Mult=>∃ds k,kJ S x=some ds/\y=.int k/\(-(2 ^ 63)≤k/\k<2 ^ 63)/\ds.length*k.toNat≤1000000/\putL own W (List.replicate k.toNat ds).flatten S
 | _=>False
theorem Jo{X:Cx}{own:Bool}{op:Operator}{x y:D}{S:Store}{W:WD}(h:zA own op x y S W):cg X op x y S W:=by
 unfold zA at h
 split at h
 . obtain⟨ds,es,h1,h2,h3,h4⟩:=h;exact Td h1 h2 h3 h4
 . obtain⟨ds,k,h1,rfl,h3,h4,h5⟩:=h;exact U6 h1 h3 h4 h5
 . exact h.elim
section
variable {Ω : Wd}
def Ex.binL(own:Bool)(op:Operator)(a b:Ex Ω):Ex Ω where
 lev:=max a.lev b.lev
 chk top N nm e:=match e with | .BinOp l o r _=>(o==op)&&%[|71] | _=>false
 wp Γ S W:=a.wp Γ S λ x S1=>b.wp Γ S1 λ y S2=>zA own op x y S2 W
 sound:=by
  sleep 2
  sleep 3
  cases e with
  | BinOp l o r' pos=>
    sleep 1
    sleep 5
    have e:o=op:=%[|18]
    subst e
    exact lO ((a.sound A l1 h2 hw).mono λ x S1 q=>(b.sound A l2 h3 q).mono λ y S2 q=>Jo q)
  | _=>exact fE hc
def Ex.fdiv(a b:Ex Ω):Ex Ω where
 lev:=max a.lev b.lev
 chk top N nm e:=match e with | .BinOp l o r _=>(o==.FloorDiv)&&%[|71] | _=>false
 wp Γ S W:=a.wp Γ S λ x S1=>b.wp Γ S1 λ y S2=>match x,y with
  | .int i,.int j=>(0<j/\j<1000000000000000000000000000000000000000000000000000000000000)/\W (.int (i/j)) S2
  | _,_=>False
 sound:=by
  sleep 2
  sleep 3
  cases e with
  | BinOp l o r' pos=>
    sleep 1
    sleep 5
    have e:o=.FloorDiv:=%[|18]
    subst e
    refine lO ((a.sound A l1 h2 hw).mono λ x S1 q=>(b.sound A l2 h3 q).mono λ y S2 q=>?_)
    split at q
    . rename_i i j
      refine gZ (C:=λ _ j=>0<j/\j<1000000000000000000000000000000000000000000000000000000000000) (g:=λ i j=>i/j) (opI λ i j _ _ _ _ _ hc q=>?_) q.1 q.2
      have h1:(0:Int)<j:=hc.1
      have h2:j<1000000000000000000000000000000000000000000000000000000000000:=hc.2
      refine floordiv_int %[|1] (by rw[Int.fdiv_eq_ediv_of_nonneg i %[|1]];exact q) (.inl (PyProof.noPylong_of_log2 ?_))
      have h3:j.natAbs<2 ^ 200:=%[|1]
      have:j.natAbs.log2<200:=(Nat.log2_lt %[|1]).mpr h3
      omega
    . exact q.elim
  | _=>exact fE hc
end
end RF
namespace RF
open PySem PySem.Spec L2 DL
open PyProof.Rows
def Drp(n:Nat)(W:WD):WD:=λ d S1=>W d S1∨∃J S',S1=S'++J/\n≤S'.length/\aq d=true/\flat S'/\W d S'
theorem QG.drp{K:PySem.W.Frag}{O:Own}{H H':Hp}{W:WD}{v:V}{n:Nat}(hn:O.A.length=n)(q:QG K O H (Drp n W) v H'):QG K O H W v H':=by
 obtain⟨O',d,S1,w,st,ok,r⟩:=q
 rcases w with w | ⟨J,S',rfl,hl,hd,hS,w⟩
 . exact⟨O',d,S1,w,st,ok,r⟩
 . obtain⟨st2,ok2,sub,na⟩:=ou st ok %[|1] hS
   exact⟨_,d,S',w,st2,ok2,eY sub hd r⟩
section
variable {Ω : Wd}
def Bl.drp(b:Bl Ω):Bl Ω where
 lev:=b.lev
 chk:=b.chk
 wp Γ S W:=b.wp Γ S {W with rt:=Drp S.length W.rt}
 sound:=by
  intro X r top N nm sts Γ S W A hl hc hw pins s σ H O I env ok
  refine thn (b.sound A hl hc hw pins s σ H O I env ok) λ f s' q=>?_
  cases f with
  | next=>exact q
  | brk=>exact q
  | cont=>exact q
  | ret u=>obtain⟨v,σ',H',I',r,q⟩:=q;exact⟨v,σ',H',I',r,QG.drp ok.len q⟩
end
abbrev tbl(led:Bool)(ps:List Nat):SetTable:={mask:=7,place:=ps.toArray,dummies:=#[],finger:=0,led:=led,moves:=0,plain:=true}
section
variable {Ω : Wd}
def Te.lval(a:Ex Ω):Te Ω where
 lev:=a.lev
 chk top N nm e:=Ek e&&a.chk top N nm e
 wp Γ S W:=a.wp Γ S λ d S1=>∃ds,vw S1 d=.lst ds/\(d=.lst ds∨∃k,d=.loc k/\S1[k]? =some ds)/\%[|60]/\W (!ds.isEmpty) S1
 sound:=by
  sleep 2
  sleep 1
  sleep 0
  refine isTrue_plain (thn (a.sound A hl h2 hw pins s σ H O I env st) λ u s3 hq_=>?_) (zU h1 _ _)
  obtain⟨z,H3,I3,r3,O3,d,S3,⟨ds,_,hd,hz,wc⟩,st3,ok3,rep3⟩:=hq_
  have main:∀(p:Addr)(xs:List V),z=.ref p->SqL X.K H3 p xs->xs.length=ds.length->wpAny %[|9] X.A (truthy u) (TP X pins σ (QT X.K O H W)) X.xe s3:=by
   rintro p xs rfl hs hlen
   cases r3
   obtain⟨its,rv,pl,hzz⟩:=I3.list hs
   have hl2:its.length=ds.length:=by rw[←rv.length,hlen]
   refine wpAny_truthy_list pl.isList (by rw[List.size_toArray];omega) ?_
   have e:(!its.toArray.isEmpty)= !ds.isEmpty:=by
    cases its with
    | nil=>cases ds with
      | nil=>rfl
      | cons _ _=>simp at hl2
    | cons _ _=>cases ds with
      | nil=>simp at hl2
      | cons _ _=>rfl
   rw[e]
   exact⟨H3,I3.tok _,O3,S3,wc,st3,ok3⟩
  rcases hd with rfl | ⟨k,rfl,hk⟩
  . cases rep3 with
    | @lst p xs _ g1 q1=>exact main p xs rfl g1.sq q1.length
  . cases rep3 with
    | @loc p _ g1=>
      obtain⟨xs,hx,q1⟩:=ok3.obj k p _ g1 hk
      exact main p xs rfl (SqL.of hx) q1.length
end
section
variable {Ω : Wd}
theorem WT{e:Expr}{env:Env}{cpos:Pos}(h:okE e=true):((backTo cpos (starEach [e] env)).all (λ x=>!x.1)&&(backToKw cpos (keywordEach [] env)).all (λ x=>x.1.isSome)
 &&decide ([e].length+([]:List Keyword).length+(if([]:List Keyword).isEmpty then 0 else 1)<30))=true:=by
 rw[aH h [] env];rfl
end
end RF
namespace XE
open PySem PySem.Spec PySem.W PySem.Calls PyProof.Rows Builtin Builtin.ObjectAttr Builtin.Getset_descriptor
def bK(x C:Addr)(po:Option Addr)(h:Heap):Prop:=∃o vs,h.get? x=some o/\o.cls=.ref C/\o.data=.fields vs/\∀dx,po=some dx->o.dict=some dx
structure Atr(K:Frag)(C:Addr):Prop where
 ga:findIn K (.ref C) "__getattribute__"=some (some (.builtin "BaseException.__getattribute__"))
 gh:findIn K (.ref C) "__getattr__"=some none
 ca:findIn K (.ref C) "__class__"=some (some (.builtin "object.__class__"))
 sp:specialIn K (.builtin "object.__class__") "__get__"=some (some (.builtin "getset_descriptor.__get__"))
 tk:takesIn K (.builtin "object.__class__")=some true
 mo:mroIn K C (.type "object")=some true
 mb:mroIn K C (.type "BaseException")=some true
section
variable {K : Frag} {x C : Addr} {po : Option Addr}
theorem Atr.cd(a:Atr K C):∃cd,clsIn K C=some cd:=by
 have:=a.mo
 unfold mroIn at this
 cases e:clsIn K C with
 | none=>rw[e]at this;cases this
 | some cd=>exact⟨cd,rfl⟩
theorem bK.ty{M:Model}{h:Heap}(p:bK x C po h):Looks M h (typeOf (.ref x)) (.ref C):=by
 obtain⟨o,_,h1,h2,_⟩:=p
 exact h2▸(Looks.ld h1).andThen .now
theorem KN{M:Model}{h:Heap}(X:K.In h)(a:Atr K C):Looks M h (find (.ref x) (.ref C) "__class__") (.bind (.builtin "getset_descriptor.__get__") (.builtin "object.__class__")):=by
 unfold ObjectAttr.find
 refine(looks_findIn X a.ca).andThen ?_
 refine Looks.andThen (a:=some (.builtin "getset_descriptor.__get__")) (looks_specialIn X a.sp) ?_
 refine Looks.andThen (a:=some (.builtin "getset_descriptor.__get__",.builtin "object.__class__")) ?_ (Looks.tag .now)
 exact(looks_takesIn X a.tk).andThen .now
variable {prog : Program} {w : World} {A : Around} {E : Value -> Shared -> Prop} {s : Shared}
theorem Qt{tp:Value}{R:Result->Shared->Prop}(X:K.In s.heap)(p:bK x C po s.heap)(a:Atr K C)(hq:R (.ok (.ret (.ref C))) s):
 codeAny (model prog w) A (.call (.builtin "getset_descriptor.__get__") ⟨[.builtin "object.__class__",.ref x,tp],[]⟩) R s:=by
 obtain⟨hh,g,dr,t,os⟩:=s
 have Lt:=p.ty (M:=model prog w);have Lm:=looks_mroIn (M:=model prog w) X a.mo
 refine codeAny_call_builtin KF.slot_gs.plain KF.entry_gs ?_;refine KF.slot_gs.check _ _ _ _ _ _ _ _ KF.type_class (KF.args_gs _ _ _) ?_
 unfold Builtin.«getset_descriptor.__get__» descrGet;rw[dga_obj];refine ZA (ZB ?_)
 unfold descrGetter descrCheckInstance descrNameAndClass isInstance;simp only[KF.owner_class]
 repeat lk
 refine⟨Code.quiet_builtin _ %[|7],?_⟩;refine codeAny_builtin KF.entry_class ?_
 unfold Builtin.«object.__class__» shownTypeOf;(repeat lk)
 exact hq
theorem Pj{Q:Option Value->Shared->Prop}(X:K.In s.heap)(p:bK x C po s.heap)(a:Atr K C)(hq:Q (some (.ref C)) {s with toks:=s.toks+1}):wpAny (model prog w) A (getAttr? (.ref x) "__class__") Q E s:=by
 obtain⟨hh,g,dr,t,os⟩:=s
 have L0:=p.ty (M:=model prog w)
 have L1:=looks_findIn (M:=model prog w) X a.ga
 have L2:=looks_findIn (M:=model prog w) X a.gh
 have L3:=KN (M:=model prog w) (x:=x) X a
 have LB:=looks_mroIn (M:=model prog w) X a.mb
 have hne:(Value.builtin "BaseException.__getattribute__"==Value.builtin "object.__getattribute__")=false:=%[|7]
 unfold getAttr? getAttrBy? getAttrBy
 refine ZA (wpAny_mkText ?_)
 refine ZA (wpAny_attempt (ZQ ?_))
 refine ZA (L0.at (ZA (L1.at ?_)))
 dsimp only
 rw[if_neg (by rw[hne,Bool.and_false];decide)]
 unfold getAttrByItsOwn hookBefore
 rw[if_pos (show onTheHeap (Value.ref C)=true from rfl)]
 refine ZA (L2.at ?_)
 refine ZA (wpAny_attempt (ZQ ?_))
 unfold callGetattribute boundAndCalled
 rw[if_neg %[|2],F.attr_ValueError.ga.bind]
 refine ZA (ZB ?_)
 refine wpAny_call (codeAny_call_builtin F.attr_ValueError.ga.plain F.entry_bexc_ga ?_)
 have hk:builtinKind "BaseException.__getattribute__"=some .slot:=%[|7]
 have hs:splitId "BaseException.__getattribute__"=some ("BaseException","__getattribute__"):=%[|7]
 have ha:=F.args_bexc_ga (.ref x) (.str "__class__" t)
 simp only[checkBuiltinCall,hk,hs]
 refine ZA (ZA (L0.at (LB.at ?_)))
 rw[if_neg %[|2]]
 unfold argsOk at ha
 rw[show([Value.ref x]++[Value.str (Str.ofString "__class__") t])=[Value.ref x,Value.str "__class__" t]from rfl]
 refine wpAny_of_eq (a:=()) (by with_unfolding_all exact ha) ?_
 unfold Builtin.«object.__getattribute__»
 refine ZA (wpAny_of_eq (a:=(Value.ref x,[Value.str "__class__" t])) rfl ?_)
 refine ZA (wpAny_of_eq (a:=("__class__":Str)) rfl ?_)
 refine ZA (L0.at (ZA (L3.at ?_)))
 dsimp only
 unfold bindTo
 dsimp only
 refine ZA (ZQ (wpAny_call ?_))
 refine Qt (K:=K) (C:=C) X p a ?_
 refine ZB ?_
 refine wpAny_of_eq (a:=Value.ref C) rfl ?_
 exact ZB hq
theorem Aj(a:Atr K C):KitX K (.ref x) (.ref C) (bK x C po) where
 ty _ _ _ p:=p.ty
 it M h X _:=by
  obtain⟨cd,hc⟩:=a.cd
  unfold clsIn at hc
  split at hc
  . next ho=>intro A' Q' E' s' k q;unfold isType loadHead;exact ZA (wpAny_loadPart (k _ _ (X _ _ ho)) (ZB q))
  . cases hc
 ne h tp dd its n sl X htp:=by
  obtain⟨cd,hc⟩:=a.cd
  unfold clsIn at hc
  split at hc
  . next ho=>
    cases hb:(Value.ref C==.ref tp)with
    | false=>rfl
    | true=>
      have e:C=tp:=Value.ref.inj (ZI hb)
      have z:=X _ _ ho
      rw[e,htp]at z
      cases z
  . cases hc
 ca X p k:=Pj X p a k
end
abbrev mD:%[|11]:=[.type "ValueError",.type "Exception",.type "BaseException",.type "object"]
abbrev jc:String:="ValueError.__new__"
theorem Qi{K:Frag}{h:Heap}{x:Str}{C:Addr}{bmB:%[|11]}{nid:String}{mg:%[|22]}(X:K.In h)(hm:mg x=some (.ref C))(q:excIn K C bmB nid=true):OwnCls x C bmB nid mg h:=by
 constructor
 . exact hm
 . unfold excIn at q
   split at q
   . next dd cd sl ho=>
     split at q
     . next C' bm k0 k1 k2 k3 n k5 hmr hsl=>
       rw[Bool.and_eq_true,Bool.and_eq_true,Bool.and_eq_true,Bool.and_eq_true,Bool.and_eq_true]at q
       obtain⟨⟨⟨⟨⟨e1,e2⟩,e3⟩,e4⟩,e5⟩,e6⟩:=q
       have e1:=ZI e1
       have e2:=ZI e2
       subst e1
       subst e2
       obtain⟨nm,bs,mro,ns,qn,hd,sn,sub,ab,col,del⟩:=cd
       simp only[Bool.not_eq_true']at hmr e3 e5 e6
       subst hmr
       subst e3
       obtain⟨l⟩:=sl
       obtain rfl:l=_:=hsl
       exact⟨bm,ns,nm,qn,bs,hd,sn,sub,ab,col,dd,k0,k1,k2,k3,k5,_,X _ _ ho,.of_isNs (isNs_of_in X e5),nsMap_none_of_in X e5 (ZI e6),tail_of_in X e4⟩
     . cases q
   . cases q
section
open Builtin
def DK(h h':Heap):Prop:=∀b o,h.get? b=some o->∃o',h'.get? b=some o'/\o'.dict=o.dict
theorem DK.refl(h:Heap):DK h h:=λ b o e=>⟨o,e,rfl⟩
theorem DK.trans{h h1 h2:Heap}(a:DK h h1)(b:DK h1 h2):DK h h2:=λ x o e=>by
 obtain⟨o1,e1,d1⟩:=a x o e
 obtain⟨o2,e2,d2⟩:=b x o1 e1
 exact⟨o2,e2,d2.trans d1⟩
inductive Dq{α:Type}:Sem α->Prop
 | pure(a:α):Dq (.pure a)
 | raise(e:Value):Dq (.raise e)
 | uns(w:String):Dq (.unsupported w)
 | rule{t:String}{k:Unit->Sem α}:Dq (k ())->Dq (.rule t k)
 | load{a:Addr}{p:Option Value}{k:Obj->Sem α}:(∀o,Dq (k o))->Dq (.load a p k)
 | update{a:Addr}{p:Option Value}{f:Obj->Obj}{k:Unit->Sem α}:(∀o,(f o).dict=o.dict/\(f o).isFreed=o.isFreed)->Dq (k ())->Dq (.update a p f k)
 | alloc{o:Obj}{k:Addr->Sem α}:(∀a,Dq (k a))->Dq (.alloc o k)
 | stack{k:List (Code×Pos)->Sem α}:(∀l,Dq (k l))->Dq (.stack k)
theorem Dq.bind{α β:Type}{m:Sem α}{f:α->Sem β}(h:Dq m)(g:∀a,Dq (f a)):Dq (m>>=f):=by
 show Dq (Sem.bind m f)
 induction h with
 | pure a=>exact g a
 | raise e=>exact .raise e
 | uns w=>exact .uns w
 | rule _ ih=>exact .rule ih
 | load _ ih=>exact .load ih
 | update c _ ih=>exact .update c ih
 | alloc _ ih=>exact .alloc ih
 | stack _ ih=>exact .stack ih
theorem Dq.wp{α:Type}{M:Model}{Γ:PySem.Ctx}{t:Sem α}(h:Dq t):∀{Q:α->Pos->Shared->Prop}{E:Value->Pos->Shared->Prop}{p:Pos}{s:Shared},Sem.wp M Γ t Q E p s->
 Sem.wp M Γ t (λ a p' s'=>Q a p' s'/\DK s.heap s'.heap) (λ e p' s'=>E e p' s'/\DK s.heap s'.heap) p s:=by
 induction h with
 | pure a=>intro Q E p s z;exact⟨z,DK.refl _⟩
 | raise e=>intro Q E p s z;exact⟨z,DK.refl _⟩
 | uns w=>intro Q E p s z;exact z
 | rule _ ih=>intro Q E p s z;exact ih z
 | load _ ih=>intro Q E p s z;obtain⟨o,ho,z⟩:=z;exact⟨o,ho,ih o z⟩
 | stack _ ih=>intro Q E p s z;exact ih _ z
 | @update a p f k c _ ih=>
   intro Q E p s z
   obtain⟨z1,z2⟩:=z
   have d:DK s.heap (s.heap.update a f):=λ b o e=>by
    by_cases hb:b=a
    . subst hb
      have fr:=(Heap.get?_some_iff.mp e).2
      exact⟨f o,Heap.get?_update_self _ e ((c o).2.trans fr),(c o).1⟩
    . exact⟨o,(Heap.get?_update_ne _ _ _ _ hb).trans e,rfl⟩
   exact⟨z1,Sem.wp_mono _ _ _ (λ _ _ _ q=>⟨q.1,d.trans q.2⟩) (λ _ _ _ q=>⟨q.1,d.trans q.2⟩) _ _ (ih z2)⟩
 | @alloc o k _ ih=>
   intro Q E p s z
   have d:DK s.heap (s.heap.push o):=λ b o' e=>⟨o',ZC _ e,rfl⟩
   exact Sem.wp_mono _ _ _ (λ _ _ _ q=>⟨q.1,d.trans q.2⟩) (λ _ _ _ q=>⟨q.1,d.trans q.2⟩) _ _ (ih _ z)
theorem Dq.any{α:Type}{M:Model}{A:Around}{t:Sem α}{Q:α->Shared->Prop}{E:%[|16]}{s:Shared}(h:Dq t)(z:wpAny M A t Q E s):wpAny M A t (λ a s'=>Q a s'/\DK s.heap s'.heap) (λ e s'=>E e s'/\DK s.heap s'.heap) s:=
 λ Γ p hΓ=>h.wp (z Γ p hΓ)
theorem km(v:Value)(i:Nat):Dq (field v i):=by
 unfold field fieldsOf
 refine .bind ?_ λ l=>?_
 . cases v<;>first | exact .uns _ | skip
   refine .load λ o=>?_
   show Dq (match o.data with | .fields vs=>pure vs | _=>unsupported "internal:no-fields")
   split
   . exact .pure _
   . exact .uns _
 . split
   . exact .pure _
   . exact .uns _
theorem jo(v:Value)(i:Nat)(x:Value):Dq (setField v i x):=by
 unfold setField
 cases v<;>first | exact .uns _ | skip
 unfold updateField
 refine .load λ o=>?_
 show Dq (match o.data with | .fields vs=>if i<vs.size then update _ (Obj.mapFields (·.setIfInBounds i x))else unsupported "internal:no-such-field" | _=>unsupported "internal:write-to-non-record")
 split
 . split
   . refine .update (λ o=>?_) (.pure _)
     obtain⟨c,d,dt,sl⟩:=o
     cases dt<;>exact⟨rfl,rfl⟩
   . exact .uns _
 . exact .uns _
theorem lK(e:Value)(f:Option Addr):Dq (setFlight e f):=by
 unfold setFlight
 refine .bind (km _ _) λ tb=>?_
 split
 . exact jo _ _ _
 . exact .pure _
theorem yI :∀l:List Env,Dq (readyFrames l)
 | []=>.pure _
 | env ::outer=>by
   unfold readyFrames
   split
   . refine .load λ o=>?_
     show Dq (if _ then _ else _)
     split
     . exact .pure _
     . refine .bind ?_ λ im=>.bind ?_ λ back=>.bind (.update (λ o=>⟨rfl,by cases o with | mk c d dt sl=>cases dt<;>rfl⟩) (.pure _)) λ _=>yI outer
       . unfold behindIsImport
         split
         . exact .pure _
         . split
           . exact .pure _
           . exact .bind (km _ _) λ _=>.pure _
       . unfold keptBack
         split
         . split
           . exact .pure _
           . exact .bind (.stack λ _=>.pure _) λ _=>.pure _
         . exact .pure _
   . exact .uns _
theorem El(env:Env):Dq (PySem.frameOf env):=by
 unfold PySem.frameOf
 refine .bind (.stack λ _=>.pure _) λ l=>.bind ?_ λ r=>?_
 . unfold frameObject
   split
   . exact .pure _
   . exact .bind (yI _) λ _=>.pure _
 . split
   . exact .pure _
   . exact .uns _
theorem Ld(f:Addr)(b:Bool):Dq (entryPlaceOf f b):=by
 unfold entryPlaceOf
 refine .bind (.stack λ _=>.pure _) λ l=>?_
 split<;>exact .pure _
theorem La(a b c d e:Value)(pl:%[|11]):Dq (EntryCells.newEntry a b c d e pl):=by
 have key:∀vs:Array Value,Dq (newObj (.type "traceback") (.fields vs)):=λ vs=>by
  unfold newObj
  dsimp only
  split
  . exact .bind (.uns _) λ _=>.alloc λ _=>.pure _
  . exact .alloc λ _=>.pure _
 exact key _
theorem uv(e:Value)(env:Env):Dq (noteFrame e env):=by
 unfold noteFrame
 split
 . rename_i L _
   refine .bind (km _ _) λ head=>?_
   have rest:Dq (do let a ←PySem.frameOf env;let pl ←entryPlaceOf L (head !=.none);let b ←EntryCells.newEntry head a .none (rawInt L) .none pl;setField e 1 b):=
    .bind (El _) λ _=>.bind (Ld _ _) λ _=>.bind (La _ _ _ _ _ _) λ _=>jo _ _ _
   split
   . refine .bind (km _ _) λ h3=>?_
     split
     . exact .pure _
     . exact .bind (jo _ _ _) λ _=>rest
   . exact rest
 . exact .uns _
theorem gK(env:Env)(e:Value):Dq (leaving env e):=.bind (uv _ _) λ _=>lK _ _
end
open PySem PySem.Spec L2 DL RF
open PyProof.Rows
variable {a : Addr}
theorem aZ.some{P:Program}{w:World}{H:Hp}{h:Heap}{o:HO}(x:aZ P w H h a o):∃u,h.get? a=some u:=by
 cases o with
 | lst xs=>obtain⟨_,_,_,_,e⟩:=x;exact⟨_,e⟩
 | tup xs=>obtain⟨_,_,_,o,e,_⟩:=x;exact⟨_,e⟩
 | dK kvs=>obtain⟨_,_,_,_,o,_,_,e,_⟩:=x;exact⟨_,e⟩
 | dT kvs=>obtain⟨_,_,_,_,o,_,_,e,_⟩:=x;exact⟨_,e⟩
 | set S n=>obtain⟨o,_,_,_,e,_⟩:=x;exact⟨_,e⟩
 | ins C dx fs=>obtain⟨_,_,_,e,_⟩:=x;exact⟨_,e⟩
 | own y=>exact x
 | xd fs=>obtain⟨_,⟨_,_,_,e,_⟩,_⟩:=x;exact⟨_,e⟩
 | rng lo hi=>obtain⟨_,_,_,e⟩:=x;exact⟨_,e⟩
 | frz ob u=>exact⟨_,x.1⟩
 | tbl ps=>exact⟨_,show h.get? a=_ from x⟩
 | met f y=>exact⟨_,show h.get? a=_ from x⟩
 | ext φ=>exact x.2.1
theorem HOk.none{P:Program}{w:World}{H:Hp}{h:Heap}(k:HOk P w H h)(e:h.get? a=none):H a=none:=by
 cases q:H a with
 | none=>rfl
 | some o=>obtain⟨u,z⟩:=aZ.some (k a o q);rw[e]at z;cases z
structure Fl(P:Program)(w:World)(outer:List Env)(H:Hp)(h0:Heap)(H':Hp)(B h:Heap):Prop where
 hok:HOk P w H' B
 keep:∀b o,h0.get? b=some o->H b=none->b∉frs outer->B.get? b=some o
 there:∀b o,h0.get? b=some o->b∉frs outer->∃o',B.get? b=some o'
 slot:∀b o,h0.get? b=some o->b∈frs outer->∃sl,h.get? b=some {o with slots:=sl}
 free:∀b o,h0.get? b=some o->H b=none->H' b=none
 tups:∀b xs,H b=some (.tup xs)->H' b=some (.tup xs)
 frzs:∀b o u,H b=some (.frz o u)->H' b=some (.frz o u)
 tbls:∀b ps,H b=some (.tbl ps)->∃more,H' b=some (.tbl (ps++more))
section
variable {P : Program} {w : World} {outer : List Env} {H H' : Hp} {h0 B h h' : Heap}
theorem Fl.un(f:Fl P w outer H h0 H' B h)(st:B.StaysIn h):Un (frs outer) [] H H' h0 h where
 keep b o q n hb _:=st b o (f.keep b o q n hb)
 slot b o q n hb _:=f.slot b o q hb
 free b o q n _:=f.free b o q n
 there b o q _:=by
  by_cases hb:b∈frs outer
  . obtain⟨sl,e⟩:=f.slot b o q hb;exact⟨_,e⟩
  . obtain⟨o',e⟩:=f.there b o q hb;exact⟨o',st b o' e⟩
 tups:=f.tups
 frzs:=f.frzs
 tbls:=f.tbls
theorem Fl.on(f:Fl P w outer H h0 H' B h)(u:h.UpToSlots h')(ff:h.FunFrames B outer):Fl P w outer H h0 H' B h':=by
 refine⟨f.hok,f.keep,f.there,λ b o q hb=>?_,f.free,f.tups,f.frzs,f.tbls⟩
 obtain⟨sl,e⟩:=f.slot b o q hb
 obtain⟨_,o',e',d⟩:=ff.mem hb
 rw[e]at e'
 cases e'
 obtain⟨sl2,e2⟩:=u b _ e d
 exact⟨sl2,e2⟩
end
def CXE(P:Program)(w:World):CXT:=λ outer H s E e s'=>∃a C t po H' B,e=.ref a/\s'.os=s.os/\AllBare s'.gens/\Fl P w outer H s.heap H' B s'.heap/\Heap.FlyingW B outer a (.ref C) (.ref t) s'.heap/\(∀dx,po=some dx->∃o,s'.heap.get? a=some o/\o.dict=some dx)/\E (.ref C) po H'
section
variable {X : Cx} {pins : Pins} {σ : L2.St} {H1 : Hp} {s1 : Shared}
theorem fu(l:List Env)(env:Env){L:Addr}(h:env.frame=some L):frs (env::l)=L::frs l:=by
 unfold frs;rw[List.filterMap_cons,h]
theorem Mx(I:Inv X pins σ H1 s1)(hst:X.stack=X.env::X.outer)(hfr:%[|72])(hex:X.ex=[]){h':Heap}
 (hs:∀b o,s1.heap.get? b=some o->b∈frs X.outer->∃sl,h'.get? b=some {o with slots:=sl}):
 Fl X.prog X.w X.outer X.H₀ X.s₀.heap H1 (PySem.W.hideAll s1.heap %[|26]) h':=by
 have ne:∀b o,X.s₀.heap.get? b=some o->b≠X.env.locals:=λ b o q z=>absurd (ZM (ZE q) (z▸I.ok.above)) (Nat.lt_irrefl _)
 have nin:∀b o,X.s₀.heap.get? b=some o->b∉frs X.outer->b∉%[|26]:=λ b o q hb z=>by
  rw[hst,fu _ _ hfr]at z
  rcases ZJ.mp z with z | z
  . exact ne b o q z
  . exact hb z
 have nx:∀b,b∉X.ex:=λ b z=>by rw[hex]at z;cases z
 refine⟨λ a o e=>?_,λ b o q n hb=>?_,λ b o q hb=>?_,λ b o q hb=>?_,λ b o q n=>I.base.free b o q n (nx b),I.base.tups,I.base.frzs,I.base.tbls⟩
 . refine(I.hok a o e).stay (λ b u hb r=>?_) (λ _ r=>r) (λ _ _ r=>r)
   refine PySem.W.hideAll_get _ r λ z=>?_
   have n:=I.stkFree b z
   rcases hb with rfl | hb
   . rw[e]at n;cases n
   . rw[hb]at n;cases n
 . exact PySem.W.hideAll_get _ (I.base.keep b o q n hb (nx b)) (nin b o q hb)
 . obtain⟨o',e⟩:=I.base.there b o q (nx b)
   exact⟨o',PySem.W.hideAll_get _ e (nin b o q hb)⟩
 . obtain⟨sl,e⟩:=I.base.slot b o q (I.ok.frf b hb) hb (nx b)
   obtain⟨sl2,e2⟩:=hs b _ e hb
   exact⟨sl2,e2⟩
theorem Gz{P:Program}{w:World}{K:PySem.W.Frag}{mg:%[|22]}{base:Heap}{N:%[|0]}{qual:Str}{sc:Scope}{f:Addr}{cd:Value}{A:Around}{outer:List Env}{s:Shared}{H:Hp}{E:XK}{C:Addr}{vs:%[|11]}{s2:Shared}
 (I:Inv %[|82] pins σ H1 s1)(ho:s2.os=s1.os)(hg:s2.gens=s1.gens)(hx:Heap.MadeExcOf s1.heap s2.heap a (.ref C) vs)(hE:E (.ref C) none H1):
 %[|82].xe (.ref a) s2:=by
 let X:=%[|82]
 have hin:∀env∈X.stack,∀b,env.frame=some b->b∈%[|26]:=λ env he b hb=>List.mem_filterMap.mpr ⟨env,he,hb⟩
 refine wpAny_leaves_madeW (base:=PySem.W.hideAll s1.heap %[|26]) (h:=s1.heap) (outer:=outer) I.ok.frames rfl (λ b o q=>PySem.W.of_hideAll _ q) (PySem.W.funFrames_hide I.stack hin) hx λ h' t x1 x2 x3 x4=>?_
 refine⟨a,C,t,none,H1,_,rfl,ho.trans I.os,by show AllBare s2.gens;rw[hg];exact I.bare,?_,x1,(λ _ z=>nomatch z),hE⟩
 refine Mx I rfl rfl rfl λ b o q hb=>?_
 obtain⟨_,o',e',d⟩:=I.funs.mem hb
 rw[q]at e'
 cases e'
 exact x4 b o (hx.keeps b o q) d
theorem Kl{P:Program}{w:World}{K:PySem.W.Frag}{mg:%[|22]}{base:Heap}{N:%[|0]}{qual:Str}{sc:Scope}{f:Addr}{cd:Value}{A:Around}{outer:List Env}{s:Shared}{H:Hp}{E E':XK}{e:Value}{s2:Shared}
 (I:Inv %[|82] pins σ H1 s1)(h:CXE P w %[|82].stack H1 s1 E' e s2)(hE:∀c po H',E' (.ref c) po H'->E (.ref c) po H'):
 %[|82].xe e s2:=by
 let X:=%[|82]
 obtain⟨a,C,t,po,H',B,rfl,ho,hg,fl,fw,lk,hq⟩:=h
 refine wpAny_mono ((gK X.env (.ref a)).any (wpAny_leaves_onW (Q:=λ _ s'=>∃h',s'={s2 with heap:=h'}/\Heap.FlyingW B outer a (.ref C) (.ref t) h'/\s2.heap.UpToSlots h') (E:=%[|25]) (base:=B) (outer:=outer) I.ok.frames rfl fw λ h' x1 x2=>⟨h',rfl,x1,x2⟩)) (λ _ s' z=>?_) λ _ _ z=>z.1.elim
 obtain⟨⟨h',rfl,x1,x2⟩,dk⟩:=z
 refine⟨a,C,t,po,H',B,rfl,ho.trans I.os,hg,?_,x1,λ dx e=>?_,hE _ _ _ hq⟩
 rotate_left
 . obtain⟨o,e1,e2⟩:=lk dx e
   obtain⟨o',e3,e4⟩:=dk a o e1
   exact⟨o',e3,e4.trans e2⟩
 have ne:∀b o,%[|56]->b≠X.env.locals:=λ b o q z=>absurd (ZM (ZE q) (z▸I.ok.above)) (Nat.lt_irrefl _)
 have nin:∀b o,%[|56]->b∉frs outer->b∉%[|26]:=λ b o q hb z=>by
  rw[show %[|26]=X.env.locals::frs outer from fu outer X.env rfl]at z
  rcases ZJ.mp z with z | z
  . exact ne b o q z
  . exact hb z
 have nx:∀b:Addr,b∉([]:List Addr):=λ b z=>nomatch z
 refine⟨fl.hok,λ b o q n hb=>?_,λ b o q hb=>?_,λ b o q hb=>?_,λ b o q n=>?_,λ b xs q=>fl.tups b xs (I.base.tups b xs q),λ b o u q=>fl.frzs b o u (I.base.frzs b o u q),λ b ps q=>?_⟩
 . exact fl.keep b o (I.base.keep b o q n hb (nx b)) (I.base.free b o q n (nx b)) (nin b o q hb)
 . obtain⟨o',e⟩:=I.base.there b o q (nx b)
   exact fl.there b o' e (nin b o q hb)
 . obtain⟨sl,e⟩:=I.base.slot b o q (I.ok.frf b hb) hb (nx b)
   have hb':b∈%[|26]:=by rw[show %[|26]=X.env.locals::frs outer from fu outer X.env rfl];exact w9 _ hb
   obtain⟨sl2,e2⟩:=fl.slot b _ e hb'
   obtain⟨_,o',e',d⟩:=fw.2.2.1.mem hb'
   rw[e2]at e'
   cases e'
   obtain⟨sl3,e3⟩:=x2 b _ e2 d
   exact⟨sl3,e3⟩
 . obtain⟨o',e⟩:=I.base.there b o q (nx b)
   exact fl.free b o' e (I.base.free b o q n (nx b))
 . obtain⟨m1,e1⟩:=I.base.tbls b ps q
   obtain⟨m2,e2⟩:=fl.tbls b _ e1
   exact⟨m1++m2,by rw[e2,Array.append_assoc]⟩
def ExO(a C t:Addr)(od:Option Addr)(h:Heap):Prop:=h.get? a=some {cls:=.ref C,dict:=od,data:=.fields #[.ref t,.none,.none,.none,.bool false,.none]}
def off(H:Hp)(a:Addr):Hp:=λ b=>if b=a then none else H b
theorem off_ne{H:Hp}{b:Addr}(h:b≠a):off H a b=H b:=if_neg h
theorem G3{H:Hp}{b:Addr}{o:HO}(h:off H a b=some o):b≠a/\H b=some o:=by
 unfold off at h
 split at h
 . cases h
 . rename_i n;exact⟨n,h⟩
theorem Hf{P:Program}{w:World}{K:PySem.W.Frag}{mg:%[|22]}{base:Heap}{N:%[|0]}{qual:Str}{sc:Scope}{f:Addr}{cd:Value}{A:Around}{outer:List Env}{s:Shared}{H:Hp}{E:XK}{C t dx:Addr}
 (I:Inv %[|82] pins σ H1 s1)(ha:H1 a=some (.ext (ExO a C t (some dx))))(new:s.heap.get? a=none)(hE:E (.ref C) (some dx) (off H1 a)):
 %[|82].xe (.ref a) s1:=by
 let X:=%[|82]
 have he:ExO a C t (some dx) s1.heap:=(I.hok a _ ha).1
 have hin:∀env∈X.stack,∀b,env.frame=some b->b∈a::%[|26]:=λ env he b hb=>w9 _ (List.mem_filterMap.mpr ⟨env,he,hb⟩)
 have hen:(PySem.W.hideAll s1.heap (a::%[|26])).get? a=none:=PySem.W.hideAll_none _ (List.mem_cons_self ..)
 have lv:=wpAny_leaving_firstW (M:=model P w) (A:=X.A) (E:=%[|25]) (Q:=λ _ s'=>∃h',s'={s1 with heap:=h'}/\Heap.LeftW (PySem.W.hideAll s1.heap (a::%[|26])) (X.env::outer) a (.ref C) (.ref t) s1.heap h')
  (base:=PySem.W.hideAll s1.heap (a::%[|26])) I.ok.frames (PySem.W.funFrames_hide I.stack hin) rfl he (λ b o q=>PySem.W.of_hideAll _ q) hen rfl rfl rfl λ h' hL=>⟨h',rfl,hL⟩
 refine wpAny_mono ((gK X.env (.ref a)).any lv) (λ _ s' z=>?_) λ _ _ z=>z.1.elim
 obtain⟨⟨h',rfl,k1,⟨_,_,k2⟩,k3,k4⟩,dk⟩:=z
 have ne:∀b o,%[|56]->b≠X.env.locals:=λ b o q z=>absurd (ZM (ZE q) (z▸I.ok.above)) (Nat.lt_irrefl _)
 have na:∀b o,%[|56]->b≠a:=λ b o q z=>by rw[z,new]at q;cases q
 have nin:∀b o,%[|56]->b∉frs outer->b∉a::%[|26]:=λ b o q hb z=>by
  rcases ZJ.mp z with z | z
  . exact na b o q z
  . rw[show %[|26]=X.env.locals::frs outer from fu outer X.env rfl]at z
    rcases ZJ.mp z with z | z
    . exact ne b o q z
    . exact hb z
 have nx:∀b:Addr,b∉([]:List Addr):=λ b z=>nomatch z
 have up:∀b u,H1 b=some u->(∀φ,u≠.ext φ)->off H1 a b=some u:=λ b u q n=>by
  rw[off_ne λ z=>?_];exact q
  rw[z,ha]at q
  exact n _ (Option.some.inj q).symm
 refine⟨a,C,t,some dx,off H1 a,_,rfl,I.os,I.bare,⟨λ b o e=>?_,λ b o q n hb=>?_,λ b o q hb=>?_,λ b o q hb=>?_,λ b o q n=>?_,λ b xs q=>?_,λ b o u q=>?_,λ b ps q=>?_⟩,⟨k1,hen,k2,k3⟩,λ d e=>?_,hE⟩
 . obtain⟨n,e⟩:=G3 e
   refine(I.hok b o e).stay (λ c u hc r=>?_) (λ c r=>up c _ r λ _ z=>nomatch z) (λ c xs r=>up c _ r λ _ z=>nomatch z)
   refine PySem.W.hideAll_get _ r λ z=>?_
   rcases ZJ.mp z with z | z
   . rcases hc with rfl | hc
     . exact n z
     . rw[z,ha]at hc;cases hc
   . have n':=I.stkFree c z
     rcases hc with rfl | hc
     . rw[e]at n';cases n'
     . rw[hc]at n';cases n'
 . exact PySem.W.hideAll_get _ (I.base.keep b o q n hb (nx b)) (nin b o q hb)
 . obtain⟨o',e⟩:=I.base.there b o q (nx b)
   exact⟨o',PySem.W.hideAll_get _ e (nin b o q hb)⟩
 . obtain⟨sl,e⟩:=I.base.slot b o q (I.ok.frf b hb) hb (nx b)
   obtain⟨_,o',e',d⟩:=I.funs.mem hb
   rw[e]at e'
   cases e'
   obtain⟨sl2,e2⟩:=k4 b _ e d
   exact⟨sl2,e2⟩
 . rw[off_ne (na b o q)];exact I.base.free b o q n (nx b)
 . exact up b _ (I.base.tups b xs q) λ _ z=>nomatch z
 . exact up b _ (I.base.frzs b o u q) λ _ z=>nomatch z
 . obtain⟨m,e⟩:=I.base.tbls b ps q
   exact⟨m,up b _ e λ _ z=>nomatch z⟩
 . obtain⟨o',e1,e2⟩:=dk a _ he
   cases e
   exact⟨o',e1,e2⟩
end
end XE
namespace XE
open PySem PySem.Spec L2 DL RF
open PyProof.Rows
variable {K : PySem.W.Frag} {H' H : Hp} {O : Own}
abbrev WX:=Str->%[|13]
abbrev XCt:=List D->Store->WD->WX->Prop
def QP(K:PySem.W.Frag)(O':Own)(H':Hp)(WE:WX)(nm:Str)(S':Store)(c:Value):Option Addr->Prop
 | none=>WE nm S'/\∀C,c=.ref C->PySem.W.excIn K C mD jc=true
 | some dx=>(∀C,c=.ref C->PySem.W.excIn K C mD jc=false)/\∃f d v,WE nm (S'++[[.str f,d]])/\H' dx=some (.xd [(f,v)])/\Rep K O' H' v d
def QX(mg:%[|22])(K:PySem.W.Frag)(O:Own)(H:Hp)(WE:WX)(c:Value)(po:Option Addr)(H':Hp):Prop:=∃nm O' S',mg nm=some c/\QP K O' H' WE nm S' c po/\Step O O' H H'/\StOk K O' H' S'
theorem QP.no{O':Own}{WE:WX}{nm:Str}{S':Store}{C:Addr}{po:Option Addr}(h:QP K O' H' WE nm S' (.ref C) po)(x:PySem.W.excIn K C mD jc=true):po=none/\WE nm S':=by
 cases po with
 | none=>exact⟨rfl,h.1⟩
 | some dx=>have:=h.1 C rfl;rw[x]at this;cases this
theorem QP.imp{O':Own}{WE WE2:WX}{nm:Str}{S':Store}{c:Value}{po:Option Addr}(h:QP K O' H' WE nm S' c po)(q:∀S1,WE nm S1->WE2 nm S1):QP K O' H' WE2 nm S' c po:=by
 cases po with
 | none=>exact⟨q _ h.1,h.2⟩
 | some dx=>
   obtain⟨h1,f,d,v,h2,h3⟩:=h
   exact⟨h1,f,d,v,q _ h2,h3⟩
theorem QP.ex{O':Own}{WE:WX}{nm:Str}{S':Store}{c:Value}{po:Option Addr}(h:QP K O' H' WE nm S' c po):∃S1,WE nm S1:=by
 cases po with
 | none=>exact⟨_,h.1⟩
 | some dx=>
   obtain⟨_,_,_,_,h2,_⟩:=h
   exact⟨_,h2⟩
theorem QX.pre{mg:%[|22]}{O1:Own}{H1:Hp}{WE:WX}{c:Value}{po:Option Addr}(st:Step O O1 H H1)(q:QX mg K O1 H1 WE c po H'):QX mg K O H WE c po H':=by
 obtain⟨nm,O',S',h1,h2,h3,h4⟩:=q
 exact⟨nm,O',S',h1,h2,st.trans h3,h4⟩
def spX(mg:%[|22])(K:PySem.W.Frag)(n:Nat)(F:XCt):Sp:=λ vs H Q E=>∃O ds S W WE,ds.length=n/\Reps K O H vs ds/\StOk K O H S/\F ds S W WE/\(∀v H',QG K O H W v H'->Q v H')/\∀c po H',QX mg K O H WE (.ref c) po H'->E (.ref c) po H'
def XL(X:Cx)(O:Own)(H:Hp)(WE:WX)(e:Value)(s2:Shared):Prop:=wpAny %[|9] X.A (leaving X.env e) (λ _ s3=>∃E',CXE X.prog X.w X.outer X.H₀ X.s₀ E' e s3/\∀c po H',E' (.ref c) po H'->QX X.mg X.K O H WE (.ref c) po H') %[|25] s2
theorem XL.pre{X:Cx}{O1:Own}{H1:Hp}{WE:WX}{e:Value}{s2:Shared}(st:Step O O1 H H1)(h:XL X O1 H1 WE e s2):XL X O H WE e s2:=
 wpAny_mono h (λ _ s3 z=>by obtain⟨E',h1,h2⟩:=z;exact⟨E',h1,λ c po H' q=>(h2 c po H' q).pre st⟩) λ _ _ z=>z
def XR(X:Cx)(O:Own)(H:Hp)(WE:WX)(e:Value)(s2:Shared):Prop:=
 (∃pins σ H1 s1 a C vs,e=.ref a/\Inv X pins σ H1 s1/\s2.os=s1.os/\s2.gens=s1.gens/\Heap.MadeExcOf s1.heap s2.heap a (.ref C) vs/\QX X.mg X.K O H WE (.ref C) none H1)∨
 (∃pins σ H1 s1 E',Inv X pins σ H1 s1/\CXE X.prog X.w X.stack H1 s1 E' e s2/\∀c po H',E' (.ref c) po H'->QX X.mg X.K O H WE (.ref c) po H')∨
 (∃pins σ H1 a C t dx,e=.ref a/\Inv X pins σ H1 s2/\H1 a=some (.ext (ExO a C t (some dx)))/\(X.ex=[]->X.s₀.heap.get? a=none)/\QX X.mg X.K O H WE (.ref C) (some dx) (off H1 a))∨
 XL X O H WE e s2
theorem XR.pre{X:Cx}{O1:Own}{H1:Hp}{WE:WX}{e:Value}{s2:Shared}(st:Step O O1 H H1)(h:XR X O1 H1 WE e s2):XR X O H WE e s2:=by
 rcases h with⟨pins,σ,H2,s1,a,C,vs,h1,h2,h3,h4,h5,h6⟩ | ⟨pins,σ,H2,s1,E',h1,h2,h3⟩ | ⟨pins,σ,H2,a,C,t,dx,h1,h2,h3,h4,h5⟩ | h
 . exact .inl ⟨pins,σ,H2,s1,a,C,vs,h1,h2,h3,h4,h5,h6.pre st⟩
 . exact .inr (.inl ⟨pins,σ,H2,s1,E',h1,h2,λ c po H' z=>(h3 c po H' z).pre st⟩)
 . exact .inr (.inr (.inl ⟨pins,σ,H2,a,C,t,dx,h1,h2,h3,h4,h5.pre st⟩))
 . exact .inr (.inr (.inr (h.pre st)))
def aR(X:Cx)(Γ:Gam)(S:Store)(sts:List Stmt)(W:DL.Fin)(WE:WX):Prop:=
 ∀ (pins:Pins)(s:Shared)(σ:L2.St)(H:Hp)(O:Own),%[|4]->%[|35]->%[|23]->
   wpAny %[|9] X.A (execs sts X.env) (SP X pins (ends X.K O H W)) (XR X O H WE) s
section
variable {X : Cx} {Γ : Gam} {S : Store} {sts : List Stmt} {st : Stmt} {W : DL.Fin} {WE : WX} {e : Expr} {es : %[|12]}
theorem Wb(h:Rns X.nox Γ S sts W):aR X Γ S sts W WE:=λ pins s σ H O I env ok=>
 wpAny_mono (h pins s σ H O (I.wish _) env ok) (λ _ _ q=>q.unwish) %[|30]
theorem Qn(h:Rn X.nox Γ S st {W with nx:=λ Γ1 S1=>aR X Γ1 S1 sts W WE}):aR X Γ S (st::sts) W WE:=by
 sleep 7
 refine wpAny_execs_cons (wpAny_mono (h pins s σ H O (I.wish _) env ok) (λ f s1 q=>?_) %[|30])
 cases f with
 | next=>
   obtain⟨σ',H',I',O1,Γ1,S1,w,st1,ok1,env1⟩:=q
   exact wpAny_mono (w pins s1 σ' H' O1 I'.unwish env1 ok1) (λ _ _ q=>bQ st1 q) λ _ _ z=>z.pre st1
 | ret v=>exact q.unwish
 | brk=>exact q.unwish
 | cont=>exact q.unwish
def Exc(Ω:Wd)(x:Str):Prop:=∃C,Ω.mg x=some (.ref C)/\PySem.W.excIn Ω.K C mD jc=true/\Atr Ω.K C
theorem Ea{x:Str}{C:Addr}{np cp rp:Pos}{pins:Pins}{s:Shared}{σ:L2.St}{Q:Flow->Shared->Prop}(hm:X.mg x=some (.ref C))(hx:PySem.W.excIn X.K C mD jc=true)(hcalm:X.calm=true)
 (h:EvA X.nox Γ S [e] λ ds S1=>ds.length=1/\WE x S1)(hg:Gl X x)(hdb:%[|55])(hs:starEach [e] X.env=[(false,eval e X.env)])
 (I:%[|4])(env:%[|35])(ok:%[|23]):
 wpAny %[|9] X.A (exec (.Raise (some (.Call (.Name x np) [e] [] cp)) none rp) X.env) Q (XR X O H WE) s:=by
 have OC:=Qi (mg:=X.mg) I.ok.mod.kin hm hx
 obtain⟨tl,N,nm,q,bs,hd,sn,sub,ab,col,dd,k0,k1,k2,k3,k5,mN,hC,hN,hni,T⟩:=OC.obj
 have hpl:(backTo cp (starEach [e] X.env)).any (·.1)=false:=by rw[hs];rfl
 refine wpAny_Raise_call_subT (C:=C) (bm:=tl) (mN:=mN) (hdct:=hd) (N:=N) (nm:=nm) (q:=q) (bs:=bs) (sn:=sn) (sub:=sub) (ab:=ab) (col:=col) (dd:=dd) (k0:=k0) (k1:=k1) (k2:=k2) (k3:=k3) (k5:=k5) PySem.F.excBase_ValueError (T.hasType PySem.F.excBase_ValueError.hasBase) (I.ok.hd hcalm) hpl hni (jK I hg hm ⟨rfl,?_⟩ hdb)
 have h':=h cp pins s σ H O (I.wish _) env ok
 have h':wpAny %[|9] X.A (spliced (backTo cp (starEach [e] X.env))) (AP X.nox pins σ (QA X.K O H λ ds S1=>ds.length=1/\WE x S1)) %[|25] s:=h'
 rw[hs]at h' ⊢
 refine Calls.evalArgs_plain (wpAny_mono h' (λ vs s2 hq=>?_) %[|30])
 obtain⟨ws,H1,I1,r1,O1,ds,S1,⟨l1,w1⟩,st1,ok1,rp1⟩:=hq
 have I1:=I1.unwish
 refine⟨rfl,?_,I1.bk _ _ hC,hN.keeps I1.bk,T.keeps I1.bk,λ h2 a hm2=>.inl ⟨pins,σ,H1,s2,a,C,vs,rfl,I1,rfl,rfl,hm2,x,O1,S1,hm,⟨w1,λ C' e=>by cases e;exact hx⟩,st1,ok1⟩⟩
 rw[←r1.length,rp1.length,l1];decide
theorem Ro{c:Expr}{x:Str}{C:Addr}{np cp rp pos:Pos}(hm:X.mg x=some (.ref C))(hx:PySem.W.excIn X.K C mD jc=true)(hcalm:X.calm=true)
 (h:Ts X.nox Γ S c λ k S1=>(k=true->EvA X.nox Γ S1 [e] λ ds S2=>ds.length=1/\WE x S2)/\(k=false->aR X Γ S1 sts W WE))(hg:Gl X x)(hdb:%[|55])(hs:starEach [e] X.env=[(false,eval e X.env)]):
 aR X Γ S (.If c [.Raise (some (.Call (.Name x np) [e] [] cp)) none rp] [] pos::sts) W WE:=by
 sleep 7
 refine wpAny_execs_cons (wpAny_If (wpAny_mono (h pins s σ H O (I.wish _) env ok) (λ d s1 hq=>?_) %[|30]))
 obtain⟨H1,I1,O1,S1,w,st1,ok1⟩:=hq
 have I1:=I1.unwish
 cases d with
 | true=>
   refine wpAny_execs_cons (wpAny_mono (Ea (Q:=%[|25]) hm hx hcalm (w.1 rfl) hg hdb hs I1 %[|20] ok1) %[|30] λ _ _ z=>z.pre st1)
 | false=>
   refine wpAny_execs_nil ?_
   exact wpAny_mono (w.2 rfl pins s1 σ H1 O1 I1 %[|20] ok1) (λ _ _ q=>bQ st1 q) λ _ _ z=>z.pre st1
end
end XE
namespace XE
open PySem PySem.Spec L2 DL RF
open PyProof.Rows
variable {Ω : Wd}
structure BX(Ω:Wd) where
 lev:Nat
 chk:Bool->%[|0]->Nm->List Stmt->Bool
 wp:Gam->Store->DL.Fin->WX->Prop
 sound:∀{X:Cx}{r:Nat}{top:Bool}{N:%[|0]}{nm:Nm}{sts:List Stmt}{Γ:Gam}{S:Store}{W:DL.Fin}{WE:WX},At Ω X.nox r top N nm->lev≤r->chk top N nm sts=true->wp Γ S W WE->aR X Γ S sts W WE
def BX.of(b:Bl Ω):BX Ω where
 lev:=b.lev
 chk:=b.chk
 wp Γ S W _:=b.wp Γ S W
 sound:=by
  sleep 8
  exact Wb (b.sound A hl hc hw)
def Ka:Stmt->Option (Expr×List Stmt×Bool)
 | .If e b o _=>some (e,b,o.isEmpty)
 | _=>none
theorem PK{st:Stmt}{e:Expr}{b:List Stmt}(h:Ka st=some (e,b,true)):∃p,st=.If e b [] p:=by
 unfold Ka at h
 split at h
 . rename_i e' b' o p
   have h:=Option.some.inj h
   have h1:e'=e:=congrArg Prod.fst h
   have h2:b'=b:=congrArg (λ z=>z.2.1) h
   have h3:o.isEmpty=true:=congrArg (λ z=>z.2.2) h
   cases o with
   | nil=>subst h1 h2;exact⟨p,rfl⟩
   | cons=>cases h3
 . cases h
def rsV:Stmt->Option (Option Expr×Bool)
 | .Raise e c _=>some (e,c.isNone)
 | _=>none
theorem Jz{st:Stmt}{e:Option Expr}(h:rsV st=some (e,true)):∃p,st=.Raise e none p:=by
 unfold rsV at h
 split at h
 . rename_i e' c p
   have h:=Option.some.inj h
   have h1:e'=e:=congrArg Prod.fst h
   have h2:c.isNone=true:=congrArg Prod.snd h
   cases c with
   | none=>subst h1;exact⟨p,rfl⟩
   | some=>cases h2
 . cases h
def GF:Expr->Bool
 | .Constant (.str _) _ _=>true
 | _=>false
theorem CV{e:Expr}(h:GF e=true):∃x k p,e=.Constant (.str x) k p:=by
 unfold GF at h
 split at h
 . exact⟨_,_,_,rfl⟩
 . cases h
def BX.ifr{x:Str}(ex:Exc Ω x)(c:Te Ω)(rest:BX Ω):BX Ω where
 lev:=max c.lev rest.lev
 chk top N nm sts:=match sts with
  | []=>false
  | st::sts=>anB (Ka st) λ z=>z.2.2&&du z.2.1 λ b=>anB (rsV b) λ u=>u.2&&anB u.1 λ v=>fP v λ y es=>du es λ m=>GF m&&((y==x)&&(glb nm x&&(okN x&&(c.chk top N nm z.1&&rest.chk top N nm sts))))
 wp Γ S W WE:=c.wp Γ S λ k S1=>(k=true->WE x S1)/\(k=false->rest.wp Γ S1 W WE)
 sound:=by
  sleep 8
  sleep 3
  cases sts with
  | nil=>exact fE hc
  | cons st sts=>
    obtain⟨⟨ce,bs,bb⟩,g1,hc_1⟩:=bc hc
    obtain⟨g2,hc_2⟩:=aa hc_1
    obtain⟨b,g3,hc_3⟩:=bw hc_2
    obtain⟨⟨v,vb⟩,g4,hc_4⟩:=bc hc_3
    obtain⟨g5,hc_5⟩:=aa hc_4
    obtain⟨v',g6,hc_6⟩:=bc hc_5
    obtain⟨y,np,es,cp,rfl,hc_7⟩:=bU hc_6
    obtain⟨m,rfl,hc_8⟩:=bw hc_7
    obtain⟨g7,hc_9⟩:=aa hc_8
    obtain⟨m',j,cp0,rfl⟩:=CV g7
    have hc:=hc_9
    have g2:bb=true:=g2
    have g3:bs=[b]:=g3
    have g5:vb=true:=g5
    have g6:v=some (.Call (.Name y np) [.Constant (.str m') j cp0] [] cp):=g6
    subst g2 g3 g5 g6
    obtain⟨pos,rfl⟩:=PK g1
    obtain⟨rp,rfl⟩:=Jz g4
    obtain⟨h1,hc⟩:=aa hc
    obtain⟨h2,hc⟩:=aa hc
    obtain⟨h3,hc⟩:=aa hc
    obtain⟨h4,h5⟩:=aa hc
    have e:y=x:=%[|18]
    subst e
    obtain⟨C,hm,hx,_⟩:=ex
    refine Ro (C:=C) (by rw[show X.mg=Ω.mg from A.g];exact hm) (by rw[show X.K=Ω.K from A.k];exact hx) A.calm (Ts.mono (c.sound A l1 h4 hw) λ k S1 q=>⟨λ hk=>?_,λ hk=>rest.sound A l2 h5 (q.2 hk)⟩) (A.glb h2) (aY h3).1 rfl
    exact cL (Aq (gW ⟨rfl,q.1 hk⟩)) rfl
def BX.cons(s:Sm Ω)(rest:BX Ω):BX Ω where
 lev:=max s.lev rest.lev
 chk top N nm sts:=match sts with | st::sts=>s.chk top N nm st&&rest.chk top N nm sts | _=>false
 wp Γ S W WE:=s.wp Γ S {W with nx:=λ Γ1 S1=>rest.wp Γ1 S1 W WE}
 sound:=by
  sleep 8
  sleep 3
  cases sts with
  | nil=>exact fE hc
  | cons st sts=>
    sleep 1
    exact Qn (Rn.mono (s.sound A l1 h1 hw) (λ G S1 q=>rest.sound A l2 h2 q) (λ _ _ q=>q) (λ _ _ q=>q) λ _ _ q=>q)
structure CalleeX(P:Program)(w:World)(K:PySem.W.Frag)(mg:%[|22])(base:Heap)(x:Str)(k n:Nat)(F:XCt):Prop where
 ex:∃f fd ps,FnOk P w K mg base (CXE P w) k f fd ps (spX mg K n F)/\mg x=some (.ref f)/\PySem.W.keepIn K (.ref f)=true/\Binds K fd ps []
abbrev az(Ω:Wd)(x:Str)(k n:Nat)(F:XCt):Prop:=CalleeX Ω.P Ω.w Ω.K Ω.mg Ω.base x k n F
abbrev OkX(Ω:Wd)(k:Nat)(f:Addr)(fd:FuncData)(ps:%[|0])(F:XCt):Prop:=FnOk Ω.P Ω.w Ω.K Ω.mg Ω.base (CXE Ω.P Ω.w) k f fd ps (spX Ω.mg Ω.K ps.length F)
theorem bD{x qual:Str}{sm:Stmt}{f:Addr}{fd:FuncData}{ps:%[|0]}{k n:Nat}{F:XCt}(FF:Fun Ω.K x qual sm f fd)(h:FnOk Ω.P Ω.w Ω.K Ω.mg Ω.base (CXE Ω.P Ω.w) k f fd ps (spX Ω.mg Ω.K n F))(hm:Ω.mg x=some (.ref f))(b:Binds Ω.K fd ps []):CalleeX Ω.P Ω.w Ω.K Ω.mg Ω.base x k n F:=⟨f,fd,ps,h,hm,FF.kp,b⟩
theorem G7{K:PySem.W.Frag}{O:Own}{H:Hp}{N:%[|0]}{vs:List V}{ds:List D}(r:Reps K O H vs ds):EnvOk K O H (L2.start N vs) (ds.map some++List.replicate (N.length-ds.length) none):=by
 have hv:vs.length=ds.length:=r.length
 constructor
 . simp[L2.start,hv]
 . intro i d h
   by_cases hi:i<ds.length
   . rw[List.getElem?_append_left (by simpa using hi),x8]at h
     cases e:ds[i]? with
     | none=>rw[e]at h;cases h
     | some d'=>
       rw[e]at h
       cases h
       obtain⟨v,hv',rv⟩:=r.get e
       refine⟨v,?_,rv⟩
       unfold L2.start
       rw[List.getElem?_append_left (by rw[x6,hv];exact hi),x8,hv']
       rfl
   . rw[List.getElem?_append_right (by simpa using hi),List.getElem?_replicate]at h
     split at h<;>cases h
theorem Uq{P:Program}{w:World}{K:PySem.W.Frag}{mg:%[|22]}{base:Heap}{x qual:Str}{sm:Stmt}{f:Addr}{fd:FuncData}{N ps:%[|0]}{k:Nat}{F:XCt}(FF:Fun K x qual sm f fd)(SC:FnScope N ps (ak sm))
 (body:∀(cdv:Value)(A:Around)(outer:List Env)(s:Shared)(H:Hp)(E:XK)(ds:List D)(S:Store)(W:WD)(WE:WX),Room k (A.deeper (envOfC qual (ak sm) s.heap.objs.size f cdv))->ds.length=ps.length->F ds S W WE->
  aR (bW (CXE P w) P w K mg base N qual (ak sm) f cdv A outer s H E) (ds.map some++List.replicate (N.length-ds.length) none) S (bu sm) {nx:=λ _ S1=>W .non S1,rt:=W} WE):FnOk P w K mg base (CXE P w) (k+1) f fd ps (spX mg K ps.length F):=by
 obtain⟨oc,od,kV,doc,pm,an,cdv,ct,osl,rfl,lk,hcd⟩:=FF.ex
 refine Nu lk hcd SC (λ vs H Q E h=>?_) λ A outer s H vs Q E hr h=>?_
 . obtain⟨O,ds,S,W,WE,hl,r,_⟩:=h
   rw[r.length,hl]
 . obtain⟨O,ds,S,W,WE,hl,r,st,hF,q,qe⟩:=h
   have hB:=body cdv A outer s H E ds S W WE hr hl hF
   refine⟨λ D σ H'=>σ=L2.start N vs/\H'=H/\(∀σ' H2,QN K O H (λ _ S1=>W .non S1) σ' H2->D.nx σ' H2)/\(∀v H2,QG K O H W v H2->D.rt v H2),?_,rfl,rfl,?_,λ v H2 z=>q v H2 z⟩
   . rintro pins s1 σ H' D I ⟨rfl,rfl,k1,k2⟩
     refine wpAny_mono (hB pins s1 _ H' O I (G7 r) st) (λ f s' q=>?_) λ e s2 z=>?_
     . cases f with
       | next=>obtain⟨σ',H',I',q⟩:=q;exact⟨σ',H',I',k1 σ' H' q⟩
       | brk=>obtain⟨σ',H',I',_,_,_,q,_⟩:=q;exact q.elim
       | cont=>obtain⟨σ',H',I',_,_,_,q,_⟩:=q;exact q.elim
       | ret u=>obtain⟨v,σ',H',I',r,q⟩:=q;exact⟨v,σ',H',I',r,k2 v H' q⟩
     . rcases z with⟨pins,σ,H1,s1,a,C,vs,rfl,I1,h3,h4,h5,h6⟩ | ⟨pins,σ,H2,s1,E',I1,h2,h3⟩ | ⟨pins,σ,H2,a,C,t,dx,rfl,I1,h3,h4,h5⟩ | z
       . exact Gz I1 h3 h4 h5 (qe C none H1 h6)
       . exact Kl I1 h2 λ c po H' z=>qe c po H' (h3 c po H' z)
       . exact Hf I1 h3 (h4 rfl) (qe C (some dx) _ h5)
       . refine wpAny_mono z (λ _ s3 z=>?_) %[|30]
         obtain⟨E',⟨a,C,t,po,H',B,rfl,y1,y2,y3,y4,y5,y6⟩,y7⟩:=z
         exact⟨a,C,t,po,H',B,rfl,y1,y2,y3,y4,y5,qe C po H' (y7 C po H' y6)⟩
   . rintro σ' H2 ⟨O',Γ',S',w,st',ok',_⟩
     exact q _ _ ⟨O',.non,S',w,st',ok',.non⟩
def Q0(N ps:%[|0])(sm:Stmt)(k:Nat)(body:BX Ω):Bool:=
 ((ak sm).kind==.function)&&(!(ak sm).isCoroutine&&(!(ak sm).isGenerator&&(decide N.Nodup&&(decide (N.take ps.length=ps)&&((ps.all λ x=>(ak sm).names.lookup x==some .local||(ak sm).names.lookup x==%[|19])&&
   (((ak sm).names.all λ y=>!(y.2==.free))&&(Nat.ble body.lev k&&body.chk true N (ak sm).names (bu sm))))))))
theorem dh(N0:%[|14]){x qual:Str}{sm:Stmt}{f:Addr}{fd:FuncData}{N ps:%[|0]}{k:Nat}{F:XCt}(FF:Fun Ω.K x qual sm f fd)(body:BX Ω)(hc:Q0 N ps sm k body=true)
 (vc:∀(ds:List D)(S:Store)(W:WD)(WE:WX),F ds S W WE->ds.length=ps.length->body.wp (ds.map some++List.replicate (N.length-ds.length) none) S {nx:=λ _ S1=>W .non S1,rt:=W} WE):OkX Ω (k+1) f fd ps F:=by
 obtain⟨h1,hc⟩:=aa hc
 obtain⟨h2,hc⟩:=aa hc
 obtain⟨h3,hc⟩:=aa hc
 obtain⟨h4,hc⟩:=aa hc
 obtain⟨h5,hc⟩:=aa hc
 obtain⟨h6,hc⟩:=aa hc
 obtain⟨h7,hc⟩:=aa hc
 obtain⟨h8,h9⟩:=aa hc
 have nd:N.Nodup:=ZF h4
 have sc:FnScope N ps (ak sm):=⟨%[|18],nt h2,nt h3,nd,ZF h5,λ x hx=>by
  have:=List.all_eq_true.mp h6 x hx
  simpa using this,λ y hy e=>by
  have:=List.all_eq_true.mp h7 y hy
  simp[e]at this⟩
 refine Uq FF sc λ cdv A outer s H E ds S W WE hr hl h=>?_
 refine body.sound (r:=k) (top:=true) (N:=N) (nm:=(ak sm).names) ⟨rfl,rfl,rfl,rfl,rfl,hr,rfl,rfl,rfl,nd,sc.kind,λ x kk h=>.inl h,λ _ _=>rfl,λ _ p q=>(nomatch (N0.symm.trans q)),λ _=>⟨rfl,rfl,rfl⟩⟩ (Nat.le_of_ble_eq_true h8) h9 (vc ds S W WE h hl)
def XQ(X:Cx)(pins:Pins)(σ:L2.St)(O:Own)(H:Hp)(WE:WX)(e:Value)(s2:Shared):Prop:=
 ∃H1 s1 E',Inv X pins σ H1 s1/\CXE X.prog X.w X.stack H1 s1 E' e s2/\∀c po H',E' (.ref c) po H'->QX X.mg X.K O H WE (.ref c) po H'
theorem XQ.pre{X:Cx}{pins:Pins}{σ:L2.St}{O O1:Own}{H H1:Hp}{WE:WX}{e:Value}{s2:Shared}(st:Step O O1 H H1)(h:XQ X pins σ O1 H1 WE e s2):XQ X pins σ O H WE e s2:=by
 obtain⟨H2,s1,E',h1,h2,h3⟩:=h
 exact⟨H2,s1,E',h1,h2,λ c po H' z=>(h3 c po H' z).pre st⟩
def EvX(X:Cx)(Γ:Gam)(S:Store)(e:Expr)(W:WD)(WE:WX):Prop:=
 ∀ (pins:Pins)(s:Shared)(σ:L2.St)(H:Hp)(O:Own),%[|4]->%[|35]->%[|23]->
   wpAny %[|9] X.A (eval e X.env) (EP X pins σ (QG X.K O H W)) (XQ X pins σ O H WE) s
section
variable {X : Cx} {Γ : Gam} {S : Store} {W : WD} {WE : WX} {e : Expr} {es : %[|12]} {pos : Pos}
theorem Ks{x:Str}{p:Pos}{k n:Nat}{F:XCt}(C:CalleeX X.prog X.w X.K X.mg X.base x k n F)(hr:Room k X.A)(h:EvA X.nox Γ S (e::es) λ ds S1=>ds.length=n/\F ds S1 W WE)(hg:Gl X x)(hdb:%[|55])
 (he:%[|79])(hpl:%[|76].any (·.1)=false):EvX X Γ S (.Call (.Name x p) (e::es) [] pos) W WE:=by
 sleep 0
 obtain⟨f,fd,ps,hF,hm,hk,hb⟩:=C.ex
 refine wpAny_Call_Name_kw (jK I hg hm ?_ hdb)
 refine PySem.W.callWith_K (h₀:=X.base) I.ok.mod.kin hk (wpAny_mono (h pos pins s σ H O (I.wish _) env st) (λ us s1 hq=>?_) %[|30]) he hpl
 obtain⟨vs,H1,I1,r1,O1,ds,S1,⟨hl,w⟩,st1,ok1,rep⟩:=hq
 have I1:=I1.unwish
 refine⟨I1.kIn,?_⟩
 have h:spX X.mg X.K n F vs H1 (QG X.K O H W) (λ c po H'=>∃d,c=.ref d/\QX X.mg X.K O H WE (.ref d) po H'):=⟨O1,ds,S1,W,WE,hl,rep,ok1,w,λ v H' q=>q.pre st1,λ c po H' q=>⟨c,rfl,q.pre st1⟩⟩
 have hl2:us.length=ps.length:=by rw[←r1.length];exact hF.len _ _ _ _ h
 refine wpAny_call (codeAny_mono (hF.run X.A X.stack s1 H1 ⟨us,[]⟩ us vs _ _ hr I1.env0 ?_ r1 h) λ r s' hq=>?_)
 . have:=hb s1 us I1.kIn (by rw[List.append_nil];exact hl2)
   rw[List.append_nil]at this
   exact this
 . cases r with
   | error e=>
     refine⟨H1,s1,λ c po H'=>∃d,c=.ref d/\QX X.mg X.K O H WE (.ref d) po H',I1,hq,λ c po H' z=>?_⟩
     obtain⟨d,e,z⟩:=z
     cases e
     exact z
   | ok fl=>
     cases fl with
     | ret u=>exact I1.after hq
     | next=>exact False.elim hq
     | brk=>exact False.elim hq
     | cont=>exact False.elim hq
end
structure XEx(Ω:Wd) where
 lev:Nat
 chk:Bool->%[|0]->Nm->Expr->Bool
 wp:Gam->Store->WD->WX->Prop
 sound:∀{X:Cx}{r:Nat}{top:Bool}{N:%[|0]}{nm:Nm}{e:Expr}{Γ:Gam}{S:Store}{W:WD}{WE:WX},At Ω X.nox r top N nm->lev≤r->chk top N nm e=true->wp Γ S W WE->EvX X Γ S e W WE
def XEx.call{x:Str}{k n:Nat}{F:XCt}(C:az Ω x k n F)(as:Ar Ω):XEx Ω where
 lev:=max k as.lev
 chk top N nm e:=match e with | .Call (.Name y _) (a::es) [] _=>(y==x)&&(glb nm x&&(okN x&&as.chk top N nm (a::es))) | _=>false
 wp Γ S W WE:=as.wp Γ S λ ds S1=>ds.length=n/\F ds S1 W WE
 sound:=by
  intro X r top N nm e Γ S W WE A hl hc hw
  sleep 3
  split at hc
  . rename_i y _ a es _
    sleep 1
    sleep 5
    obtain⟨h3,h4⟩:=aa h3
    have e:y=x:=%[|18]
    subst e
    have pl:=as.plain h4
    rw[List.all_cons]at pl
    obtain⟨p1,p2⟩:=aa pl
    have C':CalleeX X.prog X.w X.K X.mg X.base y k n F:=by
     have:=C
     rw[show X.prog=Ω.P from A.p,show X.w=Ω.w from A.w,show X.K=Ω.K from A.k,show X.mg=Ω.mg from A.g,show X.base=Ω.base from A.b];exact C
    exact Ks C' (A.room.mono l1) (as.sound A l2 h4 hw) (A.glb h2) (aY h3).1 (aH p1 _ _) (my p2 _ _)
  . exact fE hc
end XE
namespace XE
open PySem PySem.Spec L2 DL RF
open PyProof.Rows
abbrev sup(X:Cx)(e:Value):Cx:={X with A:=X.A.mark (some e),calm:=false,xe:=%[|25]}
section
variable {X : Cx} {pins : Pins} {σ : L2.St} {H : Hp} {s : Shared} {e : Value}
theorem Inv.sup(I:%[|4]):Inv (sup X e) pins σ H s:=
 ⟨⟨I.ok.mod,I.ok.kind,I.ok.glob,I.ok.blt,I.ok.above,I.ok.inj,I.ok.has,I.ok.cab,(λ h=>nomatch h),I.ok.frames,I.ok.stk,I.ok.exf,I.ok.bs,I.ok.bsz,I.ok.noex,I.ok.exfs,I.ok.funs,I.ok.frf⟩,I.os,I.bare,I.base,I.loc,I.cell,I.free,I.freeC,I.pin,I.hok,I.len⟩
theorem Inv.unsup(ok:X.Ok)(I:Inv (XE.sup X e) pins σ H s):%[|4]:=⟨ok,I.os,I.bare,I.base,I.loc,I.cell,I.free,I.freeC,I.pin,I.hok,I.len⟩
theorem HQ{M:Model}{A:Around}{E:%[|16]}{i:Nat}{x:Str}{pos:Pos}{Q:Unit->Shared->Prop}(I:%[|4])(hN:X.N.Nodup)(hi:X.N[i]? =some x)(hk:X.env.scope.names.lookup x=some .local)
 (h:∀s',Inv X pins (σ.set i none) H s'->Q () s'):wpAny M A (do bindName X.env x .none;unbindBehindTheSuite X.env x pos) Q E s:=by
 obtain⟨m,hn,hl⟩:=id I.loc
 have hcls:(X.env.scope.kind==.class||(X.env.scope.kind==.module&&X.env.locals !=X.env.globals))=false:=by rw[I.ok.kind];rfl
 have cne:=I.cne
 have ne:∀b o,X.s₀.heap.get? b=some o->b≠X.env.locals:=λ b o e=>ZN (ZM %[|37] I.ok.above)
 have hiσ:i<σ.length:=by rw[I.len];exact(z0.mp hi).1
 refine wpAny_nameGoes_keeps hk hn hcls λ h' v hn' hs=>h _ ⟨I.ok,I.os,I.bare,⟨λ b o e n hb hx=>?_,λ b o e n hb hx=>?_,I.base.free,λ b o e hx=>?_,I.base.tups,I.base.frzs,I.base.tbls⟩,⟨_,hn',λ j y w e1 e2 e3=>?_⟩,λ y c e=>?_,I.free,I.freeC,λ p hp=>?_,λ b ob e=>?_,by simpa using I.len⟩
 . exact(hs.2 b (ne b o e)).trans (I.base.keep b o e n hb hx)
 . obtain⟨sl,e1⟩:=I.base.slot b o e n hb hx;exact⟨sl,(hs.2 b (ne b o e)).trans e1⟩
 . obtain⟨o',e1⟩:=I.base.there b o e hx;exact⟨o',(hs.2 b (ne b o e)).trans e1⟩
 . by_cases hj:j=i
   . subst hj
     rw[List.getElem?_set_self hiσ]at e2
     cases e2
   . rw[List.getElem?_set_ne (Ne.symm hj)]at e2
     obtain⟨u',r',q⟩:=hl j y w e1 e2 e3
     refine⟨u',r',?_⟩
     rcases q with⟨k,e⟩ | ⟨k,c,e,z⟩
     . refine .inl ⟨k,?_⟩
       have nx:y≠x:=λ e=>hj (pH hN e1 (e▸hi))
       simp[nx,e]
     . exact .inr ⟨k,c,e,z.sameBut hs (cne y c e)⟩
 . obtain⟨w',z⟩:=I.cell y c e;exact⟨w',z.sameBut hs (cne y c e)⟩
 . obtain⟨e,n,ne,nf,d⟩:=I.pin p hp;exact⟨(hs.2 p.1 ne).trans e,n,ne,nf,d⟩
 . refine(I.hok b ob e).stay (λ c w' hc q=>(hs.2 c ?_).trans q) (λ _ q=>q) λ _ _ q=>q
   intro z
   have hf:=I.free
   rw[←z]at hf
   rcases hc with z2 | hc
   . rw[z2,e]at hf;cases hf
   . rw[hf]at hc;cases hc
theorem TX{P:Program}{w:World}{H:Hp}{h:Heap}{a C:Addr}{po:Option Addr}(e:bK a C po h):aZ P w H h a (.ext (bK a C po)):=by
 obtain⟨o,vs,h1,h2,h3⟩:=e
 exact⟨⟨o,vs,h1,h2,h3⟩,⟨o,h1⟩,λ g1 g2 ⟨o',vs',z1,z2,z3⟩ k=>⟨o',vs',k o' z1,z2,z3⟩⟩
theorem Inv.exc{a C:Addr}{po:Option Addr}{H1:Hp}{s1:Shared}(I:%[|4])(I1:Inv X pins σ H1 s1)(hex:X.ex=[])(new:∀b o,s1.heap.get? b=some o->b≠a)(hH:H a=none)(e:bK a C po s.heap):Inv X pins σ (upd H a (.ext (bK a C po))) s:=by
 have nx:∀b,b∉X.ex:=λ b z=>by rw[hex]at z;cases z
 have n0:∀b o,X.s₀.heap.get? b=some o->b≠a:=λ b o q=>by
  obtain⟨o',q'⟩:=I1.base.there b o q (nx b)
  exact new b o' q'
 have nL:X.env.locals≠a:=by
  obtain⟨m,⟨o,_,_,ho,_⟩,_⟩:=I1.loc
  exact new _ o ho
 have nt:∀b u,H b=some u->b≠a:=λ b u q z=>by rw[z,hH]at q;cases q
 refine⟨I.ok,I.os,I.bare,⟨I.base.keep,I.base.slot,λ b o q n hx=>?_,I.base.there,λ b xs q=>?_,λ b o u q=>?_,λ b ps q=>?_⟩,I.loc,I.cell,?_,λ x c q=>?_,λ p hp=>?_,λ b u q=>?_,I.len⟩
 . rw[aj (n0 b o q)];exact I.base.free b o q n hx
 . have:=I.base.tups b xs q;rw[aj (nt b _ this)];exact this
 . have:=I.base.frzs b o u q;rw[aj (nt b _ this)];exact this
 . obtain⟨m,this⟩:=I.base.tbls b ps q;exact⟨m,by rw[aj (nt b _ this)];exact this⟩
 . rw[aj nL];exact I.free
 . obtain⟨v,o,ho,_⟩:=I1.cell x c q
   rw[aj (new c o ho)];exact I.freeC x c q
 . obtain⟨z1,z2,z3⟩:=I.pin p hp
   obtain⟨w1,_⟩:=I1.pin p hp
   exact⟨z1,by rw[aj (new _ _ w1)];exact z2,z3⟩
 . by_cases hb:b=a
   . subst hb
     rw[aB]at q
     cases q
     exact TX e
   . rw[aj hb]at q
     exact(I.hok b u q).stay (λ _ _ _ r=>r) (λ c r=>by rw[aj (nt c _ r)];exact r) λ c xs r=>by rw[aj (nt c _ r)];exact r
theorem caught{a C T t:Addr}{po:Option Addr}{B:Heap}{i:Nat}{n y:Str}{np hp:Pos}{b₀:Stmt}{suite:List Stmt}{rest:List ExceptHandler}{Q:Flow->Shared->Prop}{E:%[|16]}
 {H1:Hp}{s1:Shared}(ok:X.Ok)(I1:Inv X pins σ H1 s1)(hex:X.ex=[])(new:∀b o,s1.heap.get? b=some o->b≠a)(hst:X.stack=X.env::X.outer)(hfr:%[|72])(fw:Heap.FlyingW B X.stack a (.ref C) (.ref t) s.heap)
 (inv:∀h',Heap.FlyingW B X.stack a (.ref C) (.ref t) h'->s.heap.UpToSlots h'->Inv X pins σ H {s with heap:=h'})(hok:HOk X.prog X.w H B)(lk:∀dx,po=some dx->∃o,s.heap.get? a=some o/\o.dict=some dx)
 (hg:Gl X y)(hy:X.mg y=some (.ref T))(hyd:(y==("__debug__":Str))=false)(hx:PySem.W.exmOne X.K (.ref C) (.ref T)=some true)
 (hN:X.N.Nodup)(hi:X.N[i]? =some n)(hn:X.env.scope.names.lookup n=some .local)
 (body:∀s6,Inv (XE.sup X (.ref a)) pins (σ.set i (some (.ref a))) (upd H a (.ext (bK a C po))) s6->wpAny %[|9] (X.A.mark (some (.ref a))) (execs (b₀::suite) X.env)
  (λ f s7=>wpAny %[|9] X.A (do bindName X.env n .none;unbindBehindTheSuite X.env n hp) (λ _ s8=>Q f s8) E s7) %[|25] s6):
 wpAny %[|9] X.A (noteFrame (.ref a) X.env) (λ _ s2=>wpAny %[|9] X.A (setFlight (.ref a) none) (λ _ s3=>
  wpAny %[|9] X.A (handleBy (.ref a) X.env (.ExceptHandler (some (.Name y np)) (some n) (b₀::suite) hp::rest)) Q E s3) E s2) E s:=by
 have hH:H a=none:=HOk.none hok fw.2.1
 have on:∀{h1 h2:Heap},(∀dx,po=some dx->∃o,h1.get? a=some o/\o.dict=some dx)->DK h1 h2->∀dx,po=some dx->∃o,h2.get? a=some o/\o.dict=some dx:=λ z dk dx e=>by
  obtain⟨o,e1,e2⟩:=z dx e
  obtain⟨o',e3,e4⟩:=dk a o e1
  exact⟨o',e3,e4.trans e2⟩
 have at_:∀{h1:Heap},Heap.FlyingW B X.stack a (.ref C) (.ref t) h1->(∀dx,po=some dx->∃o,h1.get? a=some o/\o.dict=some dx)->bK a C po h1:=λ f z=>by
  obtain⟨ob,vs,ho,hc,hd,_⟩:=f.first
  refine⟨ob,vs,ho,hc,hd,λ dx e=>?_⟩
  obtain⟨o,e1,e2⟩:=z dx e
  rw[ho]at e1
  cases e1
  exact e2
 refine wpAny_mono ((uv (.ref a) X.env).any (wpAny_looks_onW (Q:=λ _ s'=>∃h4,s'={s with heap:=h4}/\Heap.HeldW B (X.env::X.outer) a (.ref C) (.ref t) X.env.locals h4/\s.heap.UpToSlots h4) (E:=%[|25]) (base:=B) (outer:=X.outer) (by rw[ok.frames,hst]) hfr (by rw[←hst];exact fw) λ h4 f4 u4=>⟨h4,rfl,f4,u4⟩)) (λ _ s4 z=>?_) λ _ _ z=>z.1.elim
 obtain⟨⟨h4,rfl,f4,u4⟩,d4⟩:=z
 have lk4:=on lk d4
 refine wpAny_mono ((lK (.ref a) none).any (wpAny_landsW (s:={s with heap:=h4}) (Q:=λ _ s'=>∃h5,s'={s with heap:=h5}/\Heap.FlyingW B (X.env::X.outer) a (.ref C) (.ref t) h5/\h4.UpToSlots h5) (E:=%[|25]) f4 λ h5 f5 u5=>⟨h5,rfl,f5,u5⟩)) (λ _ s5 z=>?_) λ _ _ z=>z.1.elim
 obtain⟨⟨h5,rfl,f5,u5⟩,d5⟩:=z
 have lk5:=on lk4 d5
 rw[←hst]at f5
 have u45:=u4.trans u5
 have I5:=inv h5 f5 u45
 refine wpAny_handleBy_cons (codeAny_handlers_test (jK (X:=XE.sup X (.ref a)) (Inv.sup I5) hg hy ?_ hyd)) (by intro q;cases q)
 refine(PySem.W.exm_one (M:=%[|9]) (K:=X.K) (h:=h5) (e:=a) I5.kIn (at_ f5 lk5).ty hx).here (codeAny_handlers_suite_as ?_)
 refine wpAny_mono ((lK (.ref a) none).any (lands_againW (Q:=λ _ s'=>∃h6,s'={s with heap:=h6}/\Heap.FlyingW B X.stack a (.ref C) (.ref t) h6/\h5.UpToSlots h6) (E:=%[|25]) (s:={s with heap:=h5}) f5 λ h6 f6 u6=>⟨h6,rfl,f6,u6⟩)) (λ _ s6 z=>?_) λ _ _ z=>z.1.elim
 obtain⟨⟨h6,rfl,f6,u6⟩,d6⟩:=z
 have I6:=inv h6 f6 (u45.trans u6)
 have J:Inv X pins σ (upd H a (.ext (bK a C po))) {s with heap:=h6}:=Inv.exc I6 I1 hex new hH (at_ f6 (on lk5 d6))
 refine fj (X:=XE.sup X (.ref a)) (Inv.sup J) hN hi (.inl hn) (v:=.ref a) rfl (λ s7 I7=>?_) (.inr hn)
 exact wpAny_mono (body s7 I7) (λ f s8 q=>q) %[|30]
end
end XE
set_option maxHeartbeats 400000
namespace XE
open PySem PySem.Spec L2 DL RF
open PyProof.Rows
variable {e : Expr} {es : %[|12]} {y : Str} {pos : Pos}
inductive HT where
 | one(y:Str) | any(ys:%[|0]) | no(t:HT) | or(s t:HT) | and(s t:HT) | eq(y z:Str)
def ye:Expr->Option (Str×%[|12])
 | .Call (.Name f _) es [] _=>some (f,es)
 | _=>none
def Mv:Expr->Option %[|12]
 | .Tuple es _ _=>some es
 | _=>none
def FJ:Expr->Option Expr
 | .UnaryOp .Not e _=>some e
 | _=>none
def orV:Expr->Option %[|12]
 | .BoolOp .Or es _=>some es
 | _=>none
def Gh:Expr->Option %[|12]
 | .BoolOp .And es _=>some es
 | _=>none
def eqV:Expr->Option (Expr×%[|12])
 | .Compare a [.Eq] es _=>some (a,es)
 | _=>none
theorem Ai{f:Str}(h:ye e=some (f,es)):∃p pos,e=.Call (.Name f p) es [] pos:=by
 unfold ye at h
 split at h
 . cases h;exact⟨_,_,rfl⟩
 . cases h
def m6:%[|12]->Option %[|0]
 | []=>some []
 | e::r=>(nameV e).bind λ y=>(m6 r).map (y::·)
theorem PX(h:Mv e=some es):∃k p,e=.Tuple es k p:=by
 unfold Mv at h
 split at h
 . cases h;exact⟨_,_,rfl⟩
 . cases h
theorem Oe{x:Expr}(h:FJ e=some x):∃p,e=.UnaryOp .Not x p:=by
 unfold FJ at h
 split at h
 . cases h;exact%[|24]
 . cases h
theorem Rk(h:orV e=some es):∃p,e=.BoolOp .Or es p:=by
 unfold orV at h
 split at h
 . cases h;exact%[|24]
 . cases h
theorem NP(h:Gh e=some es):∃p,e=.BoolOp .And es p:=by
 unfold Gh at h
 split at h
 . cases h;exact%[|24]
 . cases h
theorem Q7{a:Expr}(h:eqV e=some (a,es)):∃p,e=.Compare a [.Eq] es p:=by
 unfold eqV at h
 split at h
 . cases h;exact%[|24]
 . cases h
def isV(n y:Str)(e:Expr):Bool:=match ye e with
 | some (f,[a,b])=>(f==("isinstance":Str))&&((nameV a==some n)&&(nameV b==some y))
 | _=>false
theorem jR{n:Str}(h:isV n y e=true):∃p1 p2 p3 pos,e=.Call (.Name "isinstance" p1) [.Name n p2,.Name y p3] [] pos:=by
 unfold isV at h
 split at h
 . rename_i f a b hc
   obtain⟨h1,h⟩:=aa h
   obtain⟨h2,h3⟩:=aa h
   obtain⟨p,pos,rfl⟩:=Ai hc
   obtain⟨p2,rfl⟩:=bx (ZI h2)
   obtain⟨p3,rfl⟩:=bx (ZI h3)
   obtain rfl:=%[|18]
   exact⟨_,_,_,_,rfl⟩
 . cases h
def Ej(n:Str)(ys:%[|0])(e:Expr):Bool:=match ye e with
 | some (f,[a,b])=>(f==("isinstance":Str))&&((nameV a==some n)&&(match Mv b with | some es=>m6 es==some ys | none=>false))
 | _=>false
theorem Ov{n:Str}{ys:%[|0]}(h:Ej n ys e=true):∃p1 p2 p3 k es pos,m6 es=some ys/\e=.Call (.Name "isinstance" p1) [.Name n p2,.Tuple es k p3] [] pos:=by
 unfold Ej at h
 split at h
 . rename_i f a b hc
   obtain⟨h1,h⟩:=aa h
   obtain⟨h2,h3⟩:=aa h
   obtain⟨p,pos,rfl⟩:=Ai hc
   obtain⟨p2,rfl⟩:=bx (ZI h2)
   obtain rfl:=%[|18]
   split at h3
   . rename_i es ht
     obtain⟨k,p3,rfl⟩:=PX ht
     exact⟨_,_,_,_,_,_,ZI h3,rfl⟩
   . cases h3
 . cases h
def HT.chk(n:Str):HT->Expr->Bool
 | .one y,e=>isV n y e
 | .any ys,e=>Ej n ys e
 | .no t,e=>match FJ e with | some x=>t.chk n x | none=>false
 | .or s t,e=>match orV e with | some [a,b]=>s.chk n a&&t.chk n b | _=>false
 | .and s t,e=>match Gh e with | some [a,b]=>s.chk n a&&t.chk n b | _=>false
 | .eq y z,e=>match eqV e with | some (a,[b])=>isV n y a&&isV n z b | _=>false
def HT.val(q:Str->Bool):HT->Bool
 | .one y=>q y
 | .any ys=>ys.any q
 | .no t=>!t.val q
 | .or s t=>s.val q||t.val q
 | .and s t=>s.val q&&t.val q
 | .eq y z=>q y==q z
def HT.nms:HT->%[|0]
 | .one y=>[y] | .any ys=>ys | .no t=>t.nms | .or s t=>s.nms++t.nms | .and s t=>s.nms++t.nms | .eq y z=>[y,z]
def Ans(Y:Cx)(C:Addr)(y:Str)(b:Bool):Prop:=Gl Y y/\(y==("__debug__":Str))=false/\∃(v:V) (u:Value),((∃T,v=.ref T/\u=.ref T)∨∃t,v=.ty t/\u=.type t)/\(Y.mg y=some u∨(Y.mg y=none/\bootBuiltins y=some u/\y≠"__name__"))/\PySem.W.kitOne Y.K (.ref C) u=some b
structure Sx(Y:Cx)(n:Str)(i:Nat)(C:Addr)(q:Str->Bool):Prop where
 ni:Y.N[i]? =some n
 vis:Vis Y.env.scope n
 d1:(n==("__debug__":Str))=false
 d2:(n==("__classdict__":Str))=false
 atr:Atr Y.K C
 mi:Y.mg "isinstance"=none
 gi:Gl Y "isinstance"
section
variable {Y : Cx} {n : Str} {i : Nat} {a C : Addr} {po : Option Addr} {q : Str -> Bool} {pins : Pins} {s : Shared} {σ : L2.St} {H : Hp}
theorem bh{H H1 H2:Hp}(a:aQ H H1)(b:aQ H1 H2):aQ H H2:=λ x o h=>b x o (a x o h)
theorem same_refl{H:Hp}:aQ H H:=λ _ _ h=>h
theorem Ju{b:Bool}(h:Ans Y C y b):∃v u,PE Y (.Name y pos) (tC v)/\(RelV v u/\∀u',RelV v u'->u'=u)/\PySem.W.kitOne Y.K (.ref C) u=some b:=by
 obtain⟨g,d,v,u,rr,hm,k⟩:=h
 have r':RelV v u/\∀u',RelV v u'->u'=u:=by
  rcases rr with⟨T,rfl,rfl⟩ | ⟨t,rfl,rfl⟩
  . exact⟨rfl,λ u' z=>z⟩
  . exact⟨rfl,λ u' z=>z⟩
 have r:=r'.1
 rcases hm with hm | ⟨hm,hb,hn⟩
 . exact⟨v,u,jC g hm r d,r',k⟩
 . exact⟨v,u,ug g hm hb r hn d,r',k⟩
theorem RZ:∀{ys:%[|0]},m6 es=some ys->(∀y∈ys,Ans Y C y (q y))->∃vs us,PA Y es (λ _ H Q=>Q vs H)/\(Vals vs us/\∀us',Vals vs us'->us'=us)/\PySem.W.kitAny Y.K (.ref C) us=some (ys.any q)/\vs.length=ys.length:=by
 induction es with
 | nil=>intro ys h _;cases h;exact⟨[],[],cH,⟨.nil,λ us' z=>by cases z;rfl⟩,rfl,rfl⟩
 | cons x es ih=>
   intro ys h hq
   obtain⟨y,hy,h⟩:=Option.bind_eq_some_iff.mp (show(nameV x).bind (λ y=>(m6 es).map (y::·))=some ys from h)
   obtain⟨zs,e,h⟩:=Option.map_eq_some_iff.mp h
   subst h
   obtain⟨p,rfl⟩:=bx hy
   obtain⟨v,u,h1,h2,h3⟩:=Ju (pos:=p) (hq y (.head _))
   obtain⟨vs,us,g1,g2,g3,g4⟩:=ih e λ z hz=>hq z (.tail _ hz)
   refine⟨v::vs,u::us,?_,⟨.cons h2.1 g2.1,λ us' z=>?_⟩,?_,by simp[g4]⟩
   . exact aP h1 g1
   . cases z with
     | cons z1 z2=>rw[h2.2 _ z1,g2.2 _ z2]
   . unfold PySem.W.kitAny
     rw[h3,List.any_cons]
     cases q y with
     | true=>rfl
     | false=>exact g3
theorem qi{p1 p2 p3:Pos}(sx:Sx Y n i C q)(hq:Ans Y C y (q y))(hs:σ[i]? =some (some (.ref a)))(ha:H a=some (.ext (bK a C po)))(I:Inv Y pins σ H s):
 wpAny (model Y.prog Y.w) Y.A (eval (.Call (.Name "isinstance" p1) [.Name n p2,.Name y p3] [] pos) Y.env) (EP Y pins σ (λ v H'=>v=.bl (q y)/\aQ H H')) Y.xe s:=by
 obtain⟨v,u,pe,ru,k1⟩:=Ju (pos:=p3) hq
 have hcr:eQ Y (.builtin "isinstance") (λ xs H' Q=>xs=[.ref a,v]/\H' a=some (.ext (bK a C po))/\Q (.bl (q y)) H'):=by
  rintro pins s σ H xs us Q I r ⟨rfl,ha,hq⟩
  obtain⟨u1,u2,rfl,r1,r2⟩:=vals2 r
  cases r1
  rw[ru.2 _ r2]
  exact PySem.W.kia_one (Aj sx.atr) I.kIn (I.hok a _ ha).1 k1 (λ z=>nomatch z) λ tk=>⟨.bl _,H,I.tok tk,rfl,hq⟩
 exact jZ (e:=.Name n p2) (es:=[.Name y p3]) hcr sx.gi sx.mi PyProof.Rows.boot_isinstance (aP (mz sx.ni sx.vis sx.d1 sx.d2) (aP pe cH)) %[|2] %[|2] rfl rfl pins s σ H _ I ⟨.ref a,hs,rfl,ha,rfl,same_refl⟩
theorem QW{ys:%[|0]}{k:Nat}{p1 p2 p3:Pos}(sx:Sx Y n i C q)(hn:m6 es=some ys)(hl:ys.length≤1000)(hq:∀y∈ys,Ans Y C y (q y))(hs:σ[i]? =some (some (.ref a)))(ha:H a=some (.ext (bK a C po)))(I:Inv Y pins σ H s):
 wpAny (model Y.prog Y.w) Y.A (eval (.Call (.Name "isinstance" p1) [.Name n p2,.Tuple es k p3] [] pos) Y.env) (EP Y pins σ (λ v H'=>v=.bl (ys.any q)/\aQ H H')) Y.xe s:=by
 obtain⟨vs,us,pa,ru,k1,l1⟩:=RZ hn hq
 have hcr:eQ Y (.builtin "isinstance") (λ xs H' Q=>∃p,xs=[.ref a,.ref p]/\H' p=some (.tup vs)/\H' a=some (.ext (bK a C po))/\Q (.bl (ys.any q)) H'):=by
  rintro pins s σ H xs us' Q I r ⟨p,rfl,hp,ha,hq⟩
  obtain⟨u1,u2,rfl,r1,r2⟩:=vals2 r
  cases r1
  cases r2
  obtain⟨its,rv,⟨⟨cls,dd,data,sl⟩,e1,e2,m,e3⟩,_⟩:=I.tuple (SqT.of (K:=Y.K) hp)
  simp only at e2 e3
  subst e2 e3
  rw[ru.2 _ rv]at e1
  exact PySem.W.kia_tup (Aj sx.atr) I.kIn (I.hok a _ ha).1 e1 k1 (λ z=>nomatch z) λ tk=>⟨.bl _,H,I.tok tk,rfl,hq⟩
 refine jZ (e:=.Name n p2) (es:=[.Tuple es k p3]) hcr sx.gi sx.mi PyProof.Rows.boot_isinstance (aP (mz sx.ni sx.vis sx.d1 sx.d2) (aP (SJ pa) cH)) %[|2] %[|2] rfl rfl pins s σ H _ I ⟨.ref a,hs,by rw[l1];exact small %[|1],λ p hp=>?_⟩
 exact⟨p,rfl,aB,by rw[aj (aC ha hp)];exact ha,rfl,aQ.fresh hp _⟩
theorem yQ{p1 p2 p3:Pos}(sx:Sx Y n i C q)(hq:Ans Y C y (q y)):PE Y (.Call (.Name "isinstance" p1) [.Name n p2,.Name y p3] [] pos) (λ σ H Q=>σ[i]? =some (some (.ref a))/\H a=some (.ext (bK a C po))/\∀H',aQ H H'->Q (.bl (q y)) H'):=
 λ pins s σ H Q I ⟨hs,ha,k⟩=>thn (qi sx hq hs ha I) λ u s1 ⟨v,H1,I1,r,e,sm⟩=>⟨v,H1,I1,r,by rw[e];exact k H1 sm⟩
def HT.small:HT->Bool
 | .any ys=>Nat.ble ys.length 1000
 | .no t=>t.small | .or s t=>s.small&&t.small | .and s t=>s.small&&t.small
 | _=>true
theorem HT.test(sx:Sx Y n i C q)(hs:σ[i]? =some (some (.ref a))):∀(t:HT)(e:Expr),t.chk n e=true->t.small=true->(∀y∈t.nms,Ans Y C y (q y))->∀(s:Shared)(H:Hp),H a=some (.ext (bK a C po))->Inv Y pins σ H s->
 wpAny (model Y.prog Y.w) Y.A (isTrue e Y.env (eval e Y.env)) (TP Y pins σ (λ b H'=>b=t.val q/\aQ H H')) Y.xe s
 | .one y,e,hc,_,hq,s,H,ha,I=>by
   obtain⟨p1,p2,p3,pos,rfl⟩:=jR (show isV n y e=true from hc)
   refine isTrue_plain (thn (qi sx (hq y (.head _)) hs ha I) λ u s1 hq_=>?_) rfl
   obtain⟨v,H1,I1,r,e,sm⟩:=hq_
   subst e
   cases r
   exact wpAny_truthy_bool ⟨H1,I1,rfl,sm⟩
 | .any ys,e,hc,hl,hq,s,H,ha,I=>by
   obtain⟨p1,p2,p3,k,es,pos,hn,rfl⟩:=Ov (show Ej n ys e=true from hc)
   refine isTrue_plain (thn (QW sx hn (Nat.le_of_ble_eq_true hl) hq hs ha I) λ u s1 hq_=>?_) rfl
   obtain⟨v,H1,I1,r,e,sm⟩:=hq_
   subst e
   cases r
   exact wpAny_truthy_bool ⟨H1,I1,rfl,sm⟩
 | .no t,e,hc,hl,hq,s,H,ha,I=>by
   have hc:(match FJ e with | some x=>t.chk n x | none=>false)=true:=hc
   split at hc
   . rename_i x hv
     obtain⟨p,rfl⟩:=Oe hv
     exact isTrue_not (thn (HT.test sx hs t x hc hl hq s H ha I) λ c s1 ⟨H1,I1,e,sm⟩=>⟨H1,I1,by rw[e];rfl,sm⟩)
   . cases hc
 | .or u t,e,hc,hl,hq,s,H,ha,I=>by
   have hc:(match orV e with | some [a,b]=>u.chk n a&&t.chk n b | _=>false)=true:=hc
   split at hc
   . rename_i x y hv
     obtain⟨p,rfl⟩:=Rk hv
     sleep 1
     obtain⟨l1,l2⟩:=aa hl
     refine isTrue_or (thn (HT.test sx hs u x h1 l1 (λ z hz=>hq z (List.mem_append_left _ hz)) s H ha I) λ c s1 hq_=>?_)
     obtain⟨H1,I1,e,sm⟩:=hq_
     cases c with
     | true=>exact⟨H1,I1,by show true=(u.val q||t.val q);rw[←e];rfl,sm⟩
     | false=>
       refine isTrue_or (thn (HT.test sx hs t y h2 l2 (λ z hz=>hq z (List.mem_append_right _ hz)) s1 H1 (sm a _ ha) I1) λ c s2 hq_=>?_)
       obtain⟨H2,I2,e2,sm2⟩:=hq_
       have ev:(HT.or u t).val q=c:=by show(u.val q||t.val q)=c;rw[←e,e2];rfl
       cases c with
       | true=>exact⟨H2,I2,ev.symm,bh sm sm2⟩
       | false=>exact isTrue_or_nil ⟨H2,I2,ev.symm,bh sm sm2⟩
   . cases hc
 | .and u t,e,hc,hl,hq,s,H,ha,I=>by
   have hc:(match Gh e with | some [a,b]=>u.chk n a&&t.chk n b | _=>false)=true:=hc
   split at hc
   . rename_i x y hv
     obtain⟨p,rfl⟩:=NP hv
     sleep 1
     obtain⟨l1,l2⟩:=aa hl
     refine isTrue_and (thn (HT.test sx hs u x h1 l1 (λ z hz=>hq z (List.mem_append_left _ hz)) s H ha I) λ c s1 hq_=>?_)
     obtain⟨H1,I1,e,sm⟩:=hq_
     cases c with
     | false=>exact⟨H1,I1,by show false=(u.val q&&t.val q);rw[←e];rfl,sm⟩
     | true=>
       refine isTrue_and (thn (HT.test sx hs t y h2 l2 (λ z hz=>hq z (List.mem_append_right _ hz)) s1 H1 (sm a _ ha) I1) λ c s2 hq_=>?_)
       obtain⟨H2,I2,e2,sm2⟩:=hq_
       have ev:(HT.and u t).val q=c:=by show(u.val q&&t.val q)=c;rw[←e,e2];rfl
       cases c with
       | false=>exact⟨H2,I2,ev.symm,bh sm sm2⟩
       | true=>exact isTrue_and_nil ⟨H2,I2,ev.symm,bh sm sm2⟩
   . cases hc
 | .eq y z,e,hc,hl,hq,s,H,ha,I=>by
   have hc:(match eqV e with | some (a,[b])=>isV n y a&&isV n z b | _=>false)=true:=hc
   split at hc
   . rename_i a' b' hv
     obtain⟨p,rfl⟩:=Q7 hv
     sleep 1
     obtain⟨p1,p2,p3,p4,rfl⟩:=jR h1
     obtain⟨p5,p6,p7,p8,rfl⟩:=jR h2
     refine wpAny_isTrue_Compare1 (thn (qi sx (hq y (.head _)) hs ha I) λ u s1 hq_=>?_) (cB rfl)
     obtain⟨v,H1,I1,r,e,sm⟩:=hq_
     subst e
     cases r
     refine thn (qi sx (hq z (.tail _ (.head _))) hs (sm a _ ha) I1) λ u s2 hq_=>?_
     obtain⟨v,H2,I2,r,e,sm2⟩:=hq_
     subst e
     cases r
     refine thn (Ep pins s2 σ H2 (.bl (q y)) (.bl (q z)) _ _ (λ v H'=>v=.bl (q y==q z)/\H'=H2) I2 rfl rfl ⟨rfl,by rw[mG];exact⟨rfl,rfl⟩⟩) λ w s3 hq_=>?_
     obtain⟨v,H3,I3,r,e,e2⟩:=hq_
     subst e e2
     cases r
     exact wpAny_truthy_bool ⟨H3,I3,rfl,bh sm sm2⟩
   . cases hc
inductive Oc where
 | str(x:Str) | bl(b:Bool) | non
 deriving DecidableEq
def Oc.v:Oc->V
 | .str x=>.str x | .bl b=>.bl b | .non=>.non
def Oc.d:Oc->D
 | .str x=>.str x | .bl b=>.bl b | .non=>.non
def QS:Expr->Option Oc
 | .Constant (.str y) _ _=>some (.str y)
 | .Constant (.bool c) _ _=>some (.bl c)
 | .Constant .none _ _=>some .non
 | _=>none
def Oc.chk(o:Oc)(e:Expr):Bool:=match QS e with
 | some o'=>decide (o'=o)
 | none=>false
theorem Oc.pe(o:Oc)(e:Expr)(h:o.chk e=true):PE Y e (tC o.v):=by
 unfold Oc.chk QS at h
 split at h
 . rename_i o' hv
   obtain rfl:=ZF h
   split at hv
   . cases hv;exact Ik
   . cases hv;exact yj
   . cases hv;exact Io
   . cases hv
 . cases h
def zL:Stmt->Option Expr
 | .Return (some e) _=>some e
 | _=>none
theorem vd{st:Stmt}(h:zL st=some e):∃p,st=.Return (some e) p:=by
 unfold zL at h
 split at h
 . cases h;exact%[|24]
 . cases h
def ifV:Stmt->Option (Expr×List Stmt)
 | .If e b [] _=>some (e,b)
 | _=>none
theorem Jq{st:Stmt}{b:List Stmt}(h:ifV st=some (e,b)):∃p,st=.If e b [] p:=by
 unfold ifV at h
 split at h
 . cases h;exact%[|24]
 . cases h
def subV:Expr->Option (Expr×Expr)
 | .Subscript (.List es p) b q=>some (.List es p,b)
 | _=>none
def Gw:Expr->Option %[|12]
 | .List es _=>some es
 | _=>none
theorem N5{a b:Expr}(h:subV e=some (a,b)):∃p,e=.Subscript a b p:=by
 unfold subV at h
 split at h
 . cases h;exact%[|24]
 . cases h
theorem DN(h:Gw e=some es):∃p,e=.List es p:=by
 unfold Gw at h
 split at h
 . cases h;exact%[|24]
 . cases h
def sH(n:Str)(t:HT)(o:Oc)(st:Stmt):Bool:=match ifV st with
 | some (e,[r])=>(match zL r with | some c=>t.chk n e&&(t.small&&o.chk c) | none=>false)
 | _=>false
def HE(Y:Cx)(pins:Pins)(σ:L2.St)(H:Hp)(o:Option Oc)(f:Flow)(s':Shared):Prop:=∃H',Inv Y pins σ H' s'/\aQ H H'/\match o with | some c=>∃u,f=.ret u/\RelV c.v u | none=>f=.next
theorem Pg{t:HT}{o:Oc}{st:Stmt}(sx:Sx Y n i C q)(hs:σ[i]? =some (some (.ref a)))(hc:sH n t o st=true)(hq:∀y∈t.nms,Ans Y C y (q y))(ha:H a=some (.ext (bK a C po)))(I:Inv Y pins σ H s):
 wpAny (model Y.prog Y.w) Y.A (exec st Y.env) (HE Y pins σ H (if t.val q then some o else none)) Y.xe s:=by
 unfold sH at hc
 split at hc
 . rename_i e r' hv
   obtain⟨pos,rfl⟩:=Jq hv
   split at hc
   case h_2=>cases hc
   rename_i c hr
   obtain⟨rp,rfl⟩:=vd hr
   obtain⟨h1,hc⟩:=aa hc
   obtain⟨h2,h3⟩:=aa hc
   refine wpAny_If (thn (HT.test sx hs t e h1 h2 hq s H ha I) λ k s1 hq_=>?_)
   obtain⟨H1,I1,ev,sm⟩:=hq_
   cases k with
   | true=>
     refine wpAny_execs_cons (wpAny_Return_some (thn (Oc.pe o c h3 pins s1 σ H1 (λ v H'=>v=o.v/\H'=H1) I1 ⟨rfl,rfl⟩) λ u s2 hq_=>?_))
     obtain⟨v,H2,I2,r,e1,e2⟩:=hq_
     subst e1 e2
     rw[←ev]
     exact⟨H2,I2,sm,u,rfl,r⟩
   | false=>
     rw[←ev]
     exact wpAny_execs_nil ⟨H1,I1,sm,rfl⟩
 . exact fE hc
end
end XE
set_option maxHeartbeats 1000000
namespace XE
open PySem PySem.Spec L2 DL RF
open PyProof.Rows
def qOf(x y:Str):Bool:=y==("TurnError":Str)||(y==("ValueError":Str)||y==x)
structure ExF(mg:%[|22])(K:PySem.W.Frag)(L T:%[|0]):Prop where
 cls:∀x∈L,∃C,mg x=some (.ref C)/\PySem.W.excIn K C mD jc=true/\Atr K C/\(∃t,mg "TurnError"=some (.ref t)/\PySem.W.exmOne K (.ref C) (.ref t)=some true)/\
  ∀y∈T,∃(v:V) (u:Value),((∃t,v=.ref t/\u=.ref t)∨∃t,v=.ty t/\u=.type t)/\(mg y=some u∨(mg y=none/\bootBuiltins y=some u/\y≠"__name__"))/\PySem.W.kitOne K (.ref C) u=some (qOf x y)
theorem ExF.exc{Ω:Wd}{L T:%[|0]}(E:ExF Ω.mg Ω.K L T){x:Str}(h:x∈L):Exc Ω x:=by
 obtain⟨C,h1,h2,h3,_⟩:=E.cls x h
 exact⟨C,h1,h2,h3⟩
def Uy(K:PySem.W.Frag)(C:Addr):Bool:=
 (PySem.W.findIn K (.ref C) "__getattribute__"==some (some (.builtin "BaseException.__getattribute__")))&&((PySem.W.findIn K (.ref C) "__getattr__"==some none)&&((PySem.W.findIn K (.ref C) "__class__"==some (some (.builtin "object.__class__")))&&
 ((PySem.W.specialIn K (.builtin "object.__class__") "__get__"==some (some (.builtin "getset_descriptor.__get__")))&&((PySem.W.takesIn K (.builtin "object.__class__")==some true)&&((PySem.W.mroIn K C (.type "object")==some true)&&(PySem.W.mroIn K C (.type "BaseException")==some true))))))
def TF(K:PySem.W.Frag)(C:Addr)(x y:Str):Bool:=match PySem.W.nsIn K mainGlobals y with
 | some (some (.ref t))=>PySem.W.kitOne K (.ref C) (.ref t)==some (qOf x y)
 | some none=>(y==("ValueError":Str))&&(PySem.W.kitOne K (.ref C) (.type "ValueError")==some (qOf x y))
 | _=>false
def KR(K:PySem.W.Frag)(T:%[|0])(x:Str):Bool:=match PySem.W.nsIn K mainGlobals x with
 | some (some (.ref C))=>PySem.W.excIn K C mD jc&&(Uy K C&&((match PySem.W.nsIn K mainGlobals "TurnError" with | some (some (.ref t))=>PySem.W.exmOne K (.ref C) (.ref t)==some true | _=>false)&&T.all (TF K C x)))
 | _=>false
theorem Tw{K:PySem.W.Frag}{h:Heap}{mg:%[|22]}{L T:%[|0]}(X:K.In h)(G:h.Ns mainGlobals mg)(e:L.all (KR K T)=true):ExF mg K L T:=by
 constructor
 intro x hx
 have e:=List.all_eq_true.mp e x hx
 unfold KR at e
 split at e
 . rename_i C hn
   obtain⟨e1,e⟩:=aa e
   obtain⟨e2,e⟩:=aa e
   obtain⟨e3,e4⟩:=aa e
   refine⟨C,PySem.W.mg_of X G hn,e1,?_,?_,λ y hy=>?_⟩
   . unfold Uy at e2
     obtain⟨a1,e⟩:=aa e2
     obtain⟨a2,e⟩:=aa e
     obtain⟨a3,e⟩:=aa e
     obtain⟨a4,e⟩:=aa e
     obtain⟨a5,e⟩:=aa e
     obtain⟨a6,a7⟩:=aa e
     exact⟨ZI a1,ZI a2,ZI a3,ZI a4,ZI a5,ZI a6,ZI a7⟩
   . split at e3
     . rename_i t ht
       exact⟨t,PySem.W.mg_of X G ht,ZI e3⟩
     . cases e3
   . have e:=List.all_eq_true.mp e4 y hy
     unfold TF at e
     split at e
     . rename_i t ht
       exact⟨.ref t,.ref t,.inl ⟨t,rfl,rfl⟩,.inl (PySem.W.mg_of X G ht),ZI e⟩
     . rename_i ht
       obtain⟨a1,a2⟩:=aa e
       obtain rfl:=ZI a1
       exact⟨.ty "ValueError",.type "ValueError",.inr ⟨_,rfl,rfl⟩,.inr ⟨PySem.W.mg_none_of X G ht,%[|7],%[|2]⟩,ZI a2⟩
     . cases e
 . cases e
variable {Ω : Wd}
structure BT(Ω:Wd) where
 lev:Nat
 chk:%[|0]->Nm->List Stmt->Bool
 wp:Gam->Store->DL.Fin->Prop
 sound:∀{X:Cx}{r:Nat}{N:%[|0]}{nm:Nm}{sts:List Stmt}{Γ:Gam}{S:Store}{W:DL.Fin},At Ω X r true N nm->X.stack=X.env::X.outer->%[|72]->X.ex=[]->lev≤r->chk N nm sts=true->wp Γ S W->Rns X Γ S sts W
def BT.of(b:Bl Ω):BT Ω where
 lev:=b.lev
 chk N nm sts:=b.chk true N nm sts
 wp:=b.wp
 sound:=by
  intro X r N nm sts Γ S W A _ _ _ hl hc hw
  exact b.sound A hl hc hw
section
variable {X : Cx} {Γ : Gam} {S : Store} {W : DL.Fin} {WE : WX} {e : Expr}
theorem Jt{P:Program}{w:World}{outer:List Env}{H1 H':Hp}{h1 B h2:Heap}{a C t:Addr}(fl:Fl P w outer H1 h1 H' B h2)(fw:Heap.FlyingW B outer a (.ref C) (.ref t) h2):∀b o,h1.get? b=some o->b≠a:=by
 intro b o q z
 by_cases hb:b∈frs outer
 . obtain⟨_,o',e',d⟩:=fw.2.2.1.mem hb
   obtain⟨oe,vs,e2,_,e3,_⟩:=fw.first
   rw[z,e2]at e'
   cases e'
   exact d vs e3
 . obtain⟨o',e'⟩:=fl.there b o q hb
   rw[z,fw.2.1]at e'
   cases e'
end
def Ul(N ps:%[|0])(sm:Stmt)(k:Nat)(body:BT Ω):Bool:=
 ((ak sm).kind==.function)&&(!(ak sm).isCoroutine&&(!(ak sm).isGenerator&&(decide N.Nodup&&(decide (N.take ps.length=ps)&&((ps.all λ x=>(ak sm).names.lookup x==some .local||(ak sm).names.lookup x==%[|19])&&
   (((ak sm).names.all λ y=>!(y.2==.free))&&(Nat.ble body.lev k&&body.chk N (ak sm).names (bu sm))))))))
theorem V1(N0:%[|14]){x qual:Str}{sm:Stmt}{f:Addr}{fd:FuncData}{N ps:%[|0]}{k:Nat}{F:Ct}(FF:Fun Ω.K x qual sm f fd)(body:BT Ω)(hc:Ul N ps sm k body=true)
 (vc:∀(ds:List D)(S:Store)(W:WD),F ds S W->ds.length=ps.length->body.wp (ds.map some++List.replicate (N.length-ds.length) none) S {nx:=λ _ S1=>W .non S1,rt:=W}):Ok Ω (k+1) f fd ps F:=by
 obtain⟨h1,hc⟩:=aa hc
 obtain⟨h2,hc⟩:=aa hc
 obtain⟨h3,hc⟩:=aa hc
 obtain⟨h4,hc⟩:=aa hc
 obtain⟨h5,hc⟩:=aa hc
 obtain⟨h6,hc⟩:=aa hc
 obtain⟨h7,hc⟩:=aa hc
 obtain⟨h8,h9⟩:=aa hc
 have nd:N.Nodup:=ZF h4
 have sc:FnScope N ps (ak sm):=⟨%[|18],nt h2,nt h3,nd,ZF h5,λ x hx=>by
  have:=List.all_eq_true.mp h6 x hx
  simpa using this,λ y hy e=>by
  have:=List.all_eq_true.mp h7 y hy
  simp[e]at this⟩
 refine MK FF sc λ cdv A outer s H E ds S W _ hr hl h=>?_
 refine body.sound (r:=k) (N:=N) (nm:=(ak sm).names) ⟨rfl,rfl,rfl,rfl,rfl,hr,rfl,rfl,rfl,nd,sc.kind,λ x kk h=>.inl h,λ _ _=>rfl,λ _ p q=>(nomatch (N0.symm.trans q)),λ _=>⟨rfl,rfl,rfl⟩⟩ rfl rfl rfl (Nat.le_of_ble_eq_true h8) h9 (vc ds S W h hl)
end XE
namespace RF
open PySem PySem.Spec L2 DL
open PyProof.Rows
def isStr:D->Bool
 | .str _=>true
 | _=>false
theorem Ql(K:PySem.W.Frag)(d:D):PySem.W.kitOne K (.type (tyD d)) (.type "str")=some (isStr d):=by cases d<;>kernel_rfl
theorem Qv{X:Cx}{Γ:Gam}{S:Store}{W:WD}{a:Expr}{p q pos:Pos}(h:Ev X Γ S a λ x S1=>W (.bl (isStr x)) S1)(hm1:X.mg "isinstance"=none)(hm:X.mg "str"=none)(hg1:Gl X "isinstance")(hg:Gl X "str")
 (hs1:starEach [a,.Name "str" q] X.env=(false,eval a X.env)::starEach [.Name "str" q] X.env):Ev X Γ S (.Call (.Name "isinstance" p) [a,.Name "str" q] [] pos) W:=by
 sleep 0
 have hc:eQ X (.builtin "isinstance") (λ xs H' Q=>∃v,xs=[v,.ty "str"]/\∃O' d S',StOk X.K O' H' S'/\Rep X.K O' H' v d/\Q (.bl (isStr d)) H'):=by
  intro pins s σ H xs us Q I r h
  obtain⟨v,rfl,O',d,S',st',rep,q⟩:=h
  obtain⟨u,u2,rfl,r1,r2⟩:=vals2 r
  cases r2
  refine CK I st' rep r1 λ Z e p ne=>?_
  subst e
  exact PySem.W.kia_one Z I.kIn p (Ql X.K d) ne λ tk=>⟨.bl _,H,I.tok tk,rfl,q⟩
 refine jZ hc hg1 hm1 PyProof.Rows.boot_isinstance (aP h.pe (aP (ug hg hm (show bootBuiltins "str"=some (.type "str")from %[|7]) (v:=.ty "str") rfl %[|2] %[|2]) cH rfl) hs1) %[|2] %[|2] hs1 rfl pins s σ H _ I ⟨O,env,st,λ v H' q=>?_⟩
 obtain⟨O',d,S',w,st1,ok1,rep⟩:=q
 exact⟨v,rfl,O',d,S',ok1,rep,O',_,S',w,st1,ok1,.bl _⟩
section
variable {Ω : Wd}
def Ex.isiS(hm1:Ω.mg "isinstance"=none)(a:Ex Ω)(hm:Ω.mg "str"=none):Ex Ω where
 lev:=a.lev
 chk top N nm e:=fP e λ f es=>two2 es λ b n=>anB (nameV n) λ t=>(f==("isinstance":Str))&&((t==("str":Str))&&(glb nm "isinstance"&&(glb nm "str"&&(okE b&&a.chk top N nm b))))
 wp Γ S W:=a.wp Γ S λ x S1=>W (.bl (isStr x)) S1
 sound:=by
  sleep 2
  obtain⟨f,p,es,pos,rfl,hc_1⟩:=bU hc
  obtain⟨b,n,rfl,hc_2⟩:=two2_of hc_1
  have hc_2:anB (nameV n) (λ t=>(f==("isinstance":Str))&&((t==("str":Str))&&(glb nm "isinstance"&&(glb nm "str"&&(okE b&&a.chk top N nm b)))))=true:=hc_2
  obtain⟨t,hn,hc_3⟩:=bc hc_2
  obtain⟨q,rfl⟩:=bx hn
  obtain⟨h1,hc⟩:=aa hc_3
  obtain⟨h2,hc⟩:=aa hc
  obtain⟨h3,hc⟩:=aa hc
  obtain⟨h4,hc⟩:=aa hc
  obtain⟨h5,h6⟩:=aa hc
  obtain rfl:=%[|18]
  obtain rfl:=ZI h2
  exact Qv (a.sound A hl h6 hw) (by rw[A.g];exact hm1) (by rw[A.g];exact hm) (A.glb h3) (A.glb h4) (aH h5 _ _)
end
end RF
namespace XE
open PySem PySem.Spec L2 DL RF
open PyProof.Rows
variable {Ω : Wd}
section
variable {X : Cx} {Γ : Gam} {S : Store} {sts : List Stmt} {W : DL.Fin} {WE : WX} {e : Expr} {pos : Pos}
theorem XQ.xr{pins:Pins}{σ:L2.St}{O:Own}{H:Hp}{ev:Value}{s2:Shared}(z:XQ X pins σ O H WE ev s2):XR X O H WE ev s2:=by
 obtain⟨H1,s1,E',h1,h2,h3⟩:=z
 exact .inr (.inl ⟨pins,σ,H1,s1,E',h1,h2,h3⟩)
theorem Up(w:W.nx Γ S):aR X Γ S [] W WE:=λ pins s σ H O I env st=>wpAny_execs_nil ⟨σ,H,I,O,Γ,S,w,Step.refl O H,st,env⟩
theorem Um(h:EvX X Γ S e (λ _ S1=>aR X Γ S1 sts W WE) WE)(hs:swapsWith e none pos.line X.env=pure false):aR X Γ S (.Expr e pos::sts) W WE:=by
 sleep 7
 refine wpAny_execs_cons (wpAny_Expr_any (wpAny_mono %[|67] (λ v s1 hq=>?_) λ _ _ z=>z.xr) I.quiet hs)
 obtain⟨x,H1,I1,r1,O1,d,S1,w,st1,ok1,rep1⟩:=hq
 exact wpAny_mono (w pins s1 σ H1 O1 I1 %[|20] ok1) (λ _ _ q=>bQ st1 q) λ _ _ z=>z.pre st1
theorem Ub(h:EvX X Γ S e W.rt WE):aR X Γ S (.Return (some e) pos::sts) W WE:=by
 sleep 7
 refine wpAny_execs_cons (wpAny_Return_some (wpAny_mono %[|67] (λ v s1 hq=>?_) λ _ _ z=>z.xr))
 obtain⟨x,H1,I1,r1,q1⟩:=hq
 exact⟨x,σ,H1,I1,r1,q1⟩
theorem Uo(i:Nat){x:Str}{pos':Pos}(h:EvX X Γ S e (λ d S1=>aR X (Γ.set i (some d)) S1 sts W WE) WE)(hN:X.N.Nodup)(hi:X.N[i]? =some x)(hx:Loc X.env.scope x)
 (hs:swapsWith e (some (.Name x pos')) pos.line X.env=pure false)(hf:%[|85]):aR X Γ S (.Assign [.Name x pos'] e pos::sts) W WE:=by
 sleep 7
 refine wpAny_execs_cons (wpAny_Assign_Name (wpAny_mono %[|67] (λ v s1 hq=>?_) λ _ _ z=>z.xr) hs)
 obtain⟨y,H1,I1,r1,O1,d,S1,w,st1,ok1,rep1⟩:=hq
 refine fj I1 hN hi hx r1 (λ s2 I2=>?_) hf
 exact wpAny_mono (w pins s2 _ H1 O1 I2 (%[|20].set rep1 i) ok1) (λ _ _ q=>bQ st1 q) λ _ _ z=>z.pre st1
theorem Ux{c:Expr}{xs ys:List Stmt}(h:Ts X.nox Γ S c λ k S1=>(k=true->aR X Γ S1 xs {W with nx:=λ Γ1 S2=>aR X Γ1 S2 sts W WE} WE)/\(k=false->aR X Γ S1 ys {W with nx:=λ Γ1 S2=>aR X Γ1 S2 sts W WE} WE)):
 aR X Γ S (.If c xs ys pos::sts) W WE:=by
 sleep 7
 refine wpAny_execs_cons (wpAny_If (wpAny_mono (h pins s σ H O (I.wish _) env ok) (λ d s1 hq=>?_) %[|30]))
 obtain⟨H1,I1,O1,S1,w,st1,ok1⟩:=hq
 have I1:=I1.unwish
 have go:∀zs:List Stmt,aR X Γ S1 zs {W with nx:=λ Γ1 S2=>aR X Γ1 S2 sts W WE} WE->wpAny %[|9] X.A (execs zs X.env) (λ f s2=>match f with | .next=>wpAny %[|9] X.A (execs sts X.env) (SP X pins (ends X.K O H W)) (XR X O H WE) s2 | f=>SP X pins (ends X.K O H W) f s2) (XR X O H WE) s1:=by
  intro zs hz
  refine wpAny_mono (hz pins s1 σ H1 O1 I1 %[|20] ok1) (λ f s2 q=>?_) λ _ _ z=>z.pre st1
  cases f with
  | next=>
    obtain⟨σ',H',I',O2,Γ2,S2,w2,st2,ok2,env2⟩:=q
    exact wpAny_mono (w2 pins s2 σ' H' O2 I' env2 ok2) (λ _ _ q=>bQ (st1.trans st2) q) λ _ _ z=>z.pre (st1.trans st2)
  | ret v=>exact bQ (W:=W) st1 q
  | brk=>exact bQ (W:=W) st1 q
  | cont=>exact bQ (W:=W) st1 q
 cases d with
 | true=>exact go xs (w.1 rfl)
 | false=>exact go ys (w.2 rfl)
end
def BX.nil:BX Ω where
 lev:=0
 chk _ _ _ sts:=sts.isEmpty
 wp Γ S W _:=W.nx Γ S
 sound:=by
  sleep 8
  cases sts with
  | nil=>exact Up hw
  | cons=>exact fE hc
def yq:Expr->Bool
 | .Call (.Name _ _) _ [] _=>true
 | _=>false
theorem qD{e:Expr}{t:Option Expr}{l:Nat}{env:Env}(h:yq e=true):swapsWith e t l env=pure false:=by
 unfold yq at h
 split at h
 . rfl
 . cases h
def BX.exs(x:XEx Ω)(rest:BX Ω):BX Ω where
 lev:=max x.lev rest.lev
 chk top N nm sts:=match sts with | .Expr e _::sts=>yq e&&(x.chk top N nm e&&rest.chk top N nm sts) | _=>false
 wp Γ S W WE:=x.wp Γ S (λ _ S1=>rest.wp Γ S1 W WE) WE
 sound:=by
  sleep 8
  sleep 3
  split at hc
  . obtain⟨h0,hc⟩:=aa hc
    sleep 1
    refine Um (λ pins s σ H O I env ok=>wpAny_mono (x.sound A l1 h1 hw pins s σ H O I env ok) (λ v s1 hq=>?_) λ _ _ z=>z) (qD h0)
    obtain⟨y,H1,I1,r1,O1,d,S1,w,q⟩:=hq
    exact⟨y,H1,I1,r1,O1,d,S1,rest.sound A l2 h2 w,q⟩
  . exact fE hc
def BX.retx(x:XEx Ω)(rest:BX Ω):BX Ω where
 lev:=x.lev
 chk top N nm sts:=match sts with | .Return (some e) _::_=>x.chk top N nm e | _=>false
 wp Γ S W WE:=x.wp Γ S W.rt WE
 sound:=by
  sleep 8
  split at hc
  . exact Ub (x.sound A hl hc hw)
  . exact fE hc
def BX.setx(i:Nat)(x:XEx Ω)(rest:BX Ω):BX Ω where
 lev:=max x.lev rest.lev
 chk top N nm sts:=match sts with | []=>false | st::sts=>setB st λ m e=>(N[i]? ==some m)&&(lcl top nm m&&(yq e&&(x.chk top N nm e&&rest.chk top N nm sts)))
 wp Γ S W WE:=x.wp Γ S (λ d S1=>rest.wp (Γ.set i (some d)) S1 W WE) WE
 sound:=by
  sleep 8
  obtain⟨q1,q2⟩:=lv2 hl
  cases sts with
  | nil=>exact fE hc
  | cons st sts=>
    obtain⟨m,mp,e,sp,rfl,hc_1⟩:=tV hc
    have hc:=hc_1
    obtain⟨h1,hc⟩:=aa hc
    obtain⟨h2,hc⟩:=aa hc
    obtain⟨h3,hc⟩:=aa hc
    obtain⟨h4,h5⟩:=aa hc
    obtain⟨l1,l2⟩:=A.lcl h2
    refine Uo i (λ pins s σ H O I env ok=>wpAny_mono (x.sound A q1 h4 hw pins s σ H O I env ok) (λ v s1 hq=>?_) λ _ _ z=>z) (by rw[show X.N=N from A.n];exact A.nd) (by rw[show X.N=N from A.n];exact %[|18]) l1 (qD h3) l2
    obtain⟨y,H1,I1,r1,O1,d,S1,w,q⟩:=hq
    exact⟨y,H1,I1,r1,O1,d,S1,rest.sound A q2 h5 w,q⟩
def BX.ite(c:Te Ω)(t e:BX Ω)(rest:BX Ω):BX Ω where
 lev:=max (max c.lev rest.lev) (max t.lev e.lev)
 chk top N nm sts:=match sts with | .If ce xs ys _::sts=>c.chk top N nm ce&&(t.chk top N nm xs&&(e.chk top N nm ys&&rest.chk top N nm sts)) | _=>false
 wp Γ S W WE:=c.wp Γ S λ k S1=>(k=true->t.wp Γ S1 {W with nx:=λ Γ1 S2=>rest.wp Γ1 S2 W WE} WE)/\(k=false->e.wp Γ S1 {W with nx:=λ Γ1 S2=>rest.wp Γ1 S2 W WE} WE)
 sound :=by
  sleep 8
  sleep 3
  obtain⟨l3,l4⟩:=lv2 l1
  obtain⟨l5,l6⟩:=lv2 l2
  split at hc
  . rename_i ce xs ys p0 sts
    obtain⟨h1,hc⟩:=aa hc
    obtain⟨h2,hc⟩:=aa hc
    obtain⟨h3,h4⟩:=aa hc
    have up:∀(b:BX Ω)(zs:List Stmt)(S1:Store),b.lev≤r->b.chk top N nm zs=true->b.wp Γ S1 {W with nx:=λ Γ1 S2=>rest.wp Γ1 S2 W WE} WE->aR X Γ S1 zs {W with nx:=λ Γ1 S2=>aR X Γ1 S2 sts W WE} WE:=by
     intro b zs S1 lb hb hw pins s σ H O I env ok
     refine wpAny_mono (b.sound A lb hb hw pins s σ H O I env ok) (λ f s1 q=>?_) λ _ _ z=>z
     cases f with
     | next=>
       obtain⟨σ',H',I',O1,Γ1,S1,w,st1,ok1,env1⟩:=q
       exact⟨σ',H',I',O1,Γ1,S1,rest.sound A l4 h4 w,st1,ok1,env1⟩
     | ret v=>exact q
     | brk=>exact q
     | cont=>exact q
    exact Ux (Ts.mono (c.sound A l3 h1 hw) λ k S1 q=>⟨λ hk=>up t _ S1 l5 h2 (q.1 hk),λ hk=>up e _ S1 l6 h3 (q.2 hk)⟩)
  . exact fE hc
def TrS(X:Cx)(Γ:Gam)(S:Store)(sts:List Stmt)(W:DL.Fin)(WE:WX):Prop:=
 ∀ (pins:Pins)(s:Shared)(σ:L2.St)(H:Hp)(O:Own),%[|4]->%[|35]->%[|23]->
   wpAny %[|9] X.A (execs sts X.env) (SP X pins (ends X.K O H W)) (XQ X pins σ O H WE) s
structure TB(Ω:Wd) where
 lev:Nat
 chk:Bool->%[|0]->Nm->List Stmt->Bool
 wp:Gam->Store->DL.Fin->WX->Prop
 sound:∀{X:Cx}{r:Nat}{top:Bool}{N:%[|0]}{nm:Nm}{sts:List Stmt}{Γ:Gam}{S:Store}{W:DL.Fin}{WE:WX},At Ω X.nox r top N nm->lev≤r->chk top N nm sts=true->wp Γ S W WE->TrS X Γ S sts W WE
def TB.ret(x:XEx Ω):TB Ω where
 lev:=x.lev
 chk top N nm sts:=match sts with | [.Return (some e) _]=>x.chk top N nm e | _=>false
 wp Γ S W WE:=x.wp Γ S W.rt WE
 sound:=by
  sleep 8
  split at hc
  . sleep 7
    refine wpAny_execs_cons (wpAny_Return_some (wpAny_mono (x.sound A hl hc hw pins s σ H O I env ok) (λ v s1 hq=>?_) λ _ _ z=>z))
    obtain⟨x,H1,I1,r1,q1⟩:=hq
    exact⟨x,σ,H1,I1,r1,q1⟩
  . exact fE hc
def Mf:Stmt->Option (List Stmt×ExceptHandler)
 | .Try b [h] [] [] _=>some (b,h)
 | _=>none
def Kq:ExceptHandler->Option (Expr×Str×List Stmt)
 | .ExceptHandler (some y) (some m) (b::bs) _=>some (y,m,b::bs)
 | _=>none
theorem Qe{st:Stmt}{b:List Stmt}{h:ExceptHandler}(e:Mf st=some (b,h)):∃p,st=.Try b [h] [] [] p:=by
 unfold Mf at e
 split at e
 . cases e;exact%[|24]
 . cases e
theorem Og{h:ExceptHandler}{y:Expr}{m:Str}{bs:List Stmt}(e:Kq h=some (y,m,bs)):∃c cs p,bs=c::cs/\h=.ExceptHandler (some y) (some m) (c::cs) p:=by
 unfold Kq at e
 split at e
 . cases e;exact⟨_,_,_,rfl,rfl⟩
 . cases e
end XE
namespace RF
open PySem PySem.Spec L2 DL
open PyProof.Rows
variable {Ω : Wd}
end RF
namespace RF
open PySem PySem.Spec L2 DL
open PyProof.Rows
variable {Ω : Wd}
end RF
namespace RF
open PySem PySem.Spec L2 DL
open PyProof.Rows
variable {Ω : Wd}
end RF
namespace RF
open PySem PySem.Spec L2 DL
open PyProof.Rows
variable {Ω : Wd}
end RF
namespace RF
open PySem PySem.Spec L2 DL
open PyProof.Rows
section
variable {X : Cx}
theorem Ni{x:D}{ds:List D}{pins:Pins}{s:Shared}{σ:DL.St}{H:Hp}{v w':V}{u u':Value}(hu:X.A.units+60<cLine)(I:%[|4])(sx:Sn X.K H v x)(sy:Sn X.K H w' (.lst ds))(r3:RelV v u)(r4:RelV w' u')(h3:aM ds≤50):
 ∃(l:Addr) (its:%[|11]) (e:Value->Bool),u'=.ref l/\PlainL s.heap l its.toArray/\its.length=ds.length/\its.length≤sizeLine/\(∀y,y∈its.toArray->SeqAt.EqAt X.A.in1 s y u (e y))/\∀(i:Nat)(y:Value)(d:D),its[i]? =some y->%[|33]->e y=eqD d x:=by
 classical
 cases sy with
 | @lst a xs _ h1 q1=>
   cases r4
   obtain⟨its,rv,pl,hz⟩:=I.list h1
   let e:Value->Bool:=λ y=>decide (∃(v':V) (d:D),RelV v' y/\Sn X.K H v' d/\eqD d x=true)
   have ev:∀(y:Value)(v':V)(d:D),RelV v' y->Sn X.K H v' d->e y=eqD d x:=by
    intro y v' d hr hs
    cases hd:eqD d x with
    | true=>exact ZG ⟨v',d,hr,hs,hd⟩
    | false=>
      refine ZH ?_
      rintro⟨v2,d2,hr2,hs2,hd2⟩
      have ev':=hr2.inj hr
      subst ev'
      have:=lM I hs2 hs
      subst this
      rw[hd]at hd2;cases hd2
   have at_:∀(i:Nat)(y:Value)(d:D),its[i]? =some y->%[|33]->e y=eqD d x/\SeqAt.EqAt X.A.in1 s y u (eqD d x):=by
    intro i y d hi hd
    obtain⟨v',hv',hs⟩:=q1.get hd
    obtain⟨y',hy2,hr⟩:=j5 rv hv'
    rw[hi]at hy2;cases hy2
    exact⟨ev y v' d hr hs,Fe 50 d x (Nat.le_trans (cF hd) h3) I hs sx hr r3 (by show X.A.units+1+50<cLine;omega)⟩
   have hlen:its.length=ds.length:=by rw[←rv.length,q1.length]
   refine⟨a,its,e,rfl,pl,hlen,by rw[←rv.length];exact hz,λ y hy=>?_,λ i y d h h'=>(at_ i y d h h').1⟩
   have hy':y∈its:=by simpa using hy
   obtain⟨i,hi⟩:=ZR hy'
   obtain⟨d,hd⟩:∃d,%[|33]:=⟨_,y8 (by rw[←hlen];exact(z0.mp hi).1)⟩
   obtain⟨g1,g2⟩:=at_ i y d hi hd
   rw[g1]
   exact g2
def Ui(X:Cx):V->List V->Hp->VK->Prop:=λ x vs H Q=>∃(w:V) (d:D) (ds:List D) (j:Nat) (y:D),vs=[w]/\Sn X.K H x (.lst ds)/\Sn X.K H w d/\aM ds≤50/\ds[j]? =some y/\eqD y d=true/\(∀(m:Nat)(z:D),m<j->ds[m]? =some z->eqD z d=false)/\Q (.int j) H
theorem Lr(hu:X.A.units+60<cLine):MtM X "list.index" (Ui X):=by
 intro pins s σ H x vs v us Q I rx rv h
 obtain⟨w,d,ds,j,y,rfl,sx,sd,h3,hj,hy,hn,q⟩:=h
 obtain⟨u,rfl,ru⟩:=rv.one
 obtain⟨l,its,e,rfl,pl,hlen,hz,he,hat⟩:=Ni hu I sd sx ru rx h3
 obtain⟨⟨cls,dd,data,sl⟩,n,ho,hc,hd,hs⟩:=pl
 simp only at hc hd hs
 subst hc hd hs
 have hjl:j<its.length:=by rw[hlen];exact(z0.mp hj).1
 refine call_meets PySem.F.slot_list_index ⟨_,ho,rfl⟩ PySem.F.entry_list_index (PySem.F.args_list_index_2 _ _)
  (SeqAt.list_indexAt l its.toArray n _ sl u e j (by simpa using hjl) (by have:sizeLine<2 ^ 63-1:=%[|2]
                                                                          omega) ?_ ?_) ⟨ho,he,⟨.int j,H,I.tok _,%[|24],q⟩⟩
 . rw[hat j _ y (by simp) hj]
   exact hy
 . intro m hm hlt
   have hml:m<its.length:=by simpa using hm
   obtain⟨z,hz⟩:∃z,ds[m]? =some z:=⟨_,y8 %[|1]⟩
   rw[hat m _ z (by simp[hml]) hz]
   exact hn m z hlt hz
end
end RF
namespace XE
open PySem PySem.Spec L2 DL RF
open PyProof.Rows
variable {Ω : Wd}
end XE
namespace RF
open PySem PySem.Spec L2 DL
open PyProof.Rows
def KD:Bc where
 x:="str"
 id:="str"
 boot:=%[|7]
 wp ds S W:=match ds with
  | [.int i]=>i.natAbs.log2<1920/\W (.str (toString i)) S
  | _=>False
 sound:=by
  intro X ds S W hc hr h
  split at h
  . refine cN yV λ O H vs st r=>?_
    obtain⟨v,rfl,r'⟩:=di r
    cases r'
    exact⟨_,rfl,h.1,QG.here h.2 st (.str _)⟩
  . exact h.elim
section
variable {X : Cx} {Γ : Gam} {S : Store} {W : WD}
theorem RG{o e:Expr}{es:%[|12]}{name:Str}{id:String}{apos cpos:Pos}(slot:Slot "str" name id)(hty:typeOf (.builtin id)=pure (.type "method_descriptor"))
 (h:Ev X Γ S o λ x S1=>∃sx,x=.str sx/\EvA X Γ S1 (e::es) λ ds S2=>bA X (.builtin id) (.str sx::ds) S2 W)
 (hbase:attributeBase o name X.env (eval o X.env)=eval o X.env)
 (hfew:((backTo cpos (starEach (e::es) X.env)).all (λ x=>!x.1)&&(backToKw cpos (keywordEach [] X.env)).all (λ x=>x.1.isSome)
  &&decide ((e::es).length+([]:List Keyword).length+(if([]:List Keyword).isEmpty then 0 else 1)<30))=true)
 (hline:(apos.endLine==cpos.line)=true)(hs:%[|79])(hplain:(backTo cpos (starEach es X.env)).any (·.1)=false):Ev X Γ S (.Call (.Attribute o name apos) (e::es) [] cpos) W:=by
 sleep 0
 have hm:MtR X id λ x vs H Q=>∃O sx ds S W',x=.str sx/\Reps X.K O H vs ds/\%[|23]/\bA X (.builtin id) (.str sx::ds) S W'/\∀v H',QG X.K O H W' v H'->Q v H':=by
  rintro pins s σ H x xs v us Q I r1 r2 ⟨O,sx,ds,S,W',rfl,rp,ok,c,k⟩
  refine thn (c pins s σ H O (.str sx::xs) (v::us) I ok (.cons (.str sx) rp) (.cons r1 r2)) λ u s1 q=>?_
  obtain⟨v',H',I',r',q⟩:=q
  exact⟨v',H',I',r',k v' H' q⟩
 have hA:PA X (e::es) (λ σ H Q=>∃O Γ S W',%[|35]/\%[|23]/\EvA X Γ S (e::es) W'/\∀vs H',QA X.K O H W' vs H'->Q vs H'):=by
  rintro pos pins s σ H Q I ⟨O,Γ,S,W',env,st,he,k⟩
  refine thn (he pos pins s σ H O I env st) λ us s1 q=>?_
  obtain⟨vs,H1,I1,r1,q⟩:=q
  exact⟨vs,H1,I1,r1,k vs H1 q⟩
 refine rD (T:="str") PySem.F.plainAttrs_str slot hty hm (h.pe) hA hbase hfew hline hs hplain pins s σ H _ I ⟨O,env,st,λ v H' q=>?_⟩
 obtain⟨O1,x,S1,⟨sx,rfl,he⟩,st1,ok1,rep1⟩:=q
 cases rep1
 refine⟨rfl,O1,Γ,S1,_,%[|20],ok1,he,λ vs H2 q2=>?_⟩
 obtain⟨O2,ds,S2,c,st2,ok2,rep2⟩:=q2
 exact⟨O2,sx,ds,S2,W,rfl,rep2,ok2,c,λ v' H3 q3=>q3.pre (st1.trans st2)⟩
theorem JL{x y:Str}(w:W (.bl (Txt.startswith x y)) S):bA X (.builtin "str.startswith") [.str x,.str y] S W:=by
 intro pins s σ H O vs us I st r ru
 cases r with
 | cons r1 r2=>cases r2 with
   | cons r2 r3=>
     cases r3
     cases r1
     cases r2
     cases ru with
     | cons u1 u2=>cases u2 with
       | cons u2 u3=>
         cases u3
         obtain⟨t1,rfl⟩:=u1
         obtain⟨t2,rfl⟩:=u2
         exact SC.startswith ⟨.bl _,H,I,rfl,QG.here w st (.bl _)⟩
theorem vP:∀{xs:%[|0]}{its:%[|11]},Vals (xs.map V.str) its->∃l:List (Str×Tok),strValues l=its/\l.map (·.1)=xs
 | [],its,h=>by
   cases h
   exact⟨[],rfl,rfl⟩
 | x ::xs,its,h=>by
   cases h with
   | cons r1 r2=>
     obtain⟨t,rfl⟩:=r1
     obtain⟨l,e1,e2⟩:=vP r2
     exact⟨(x,t)::l,by rw[←e1];rfl,by rw[List.map_cons,e2]⟩
theorem mK:∀(l:List (Str×Tok)),Vals ((l.map (·.1)).map V.str) (strValues l)
 | []=>.nil
 | (x,t)::l=>.cons ⟨t,rfl⟩ (mK l)
theorem vM{K:PySem.W.Frag}{O:Own}{H:Hp}:∀{xs:%[|0]}{ys:List V},Reps K O H ys (xs.map D.str)->ys=xs.map V.str
 | [],ys,h=>by cases h;rfl
 | x ::xs,ys,h=>by
   cases h with
   | cons r1 r2=>
     cases r1
     rw[vM r2];rfl
theorem iy{K:PySem.W.Frag}{O:Own}{H:Hp}:∀xs:%[|0],Reps K O H (xs.map V.str) (xs.map D.str)
 | []=>.nil
 | x::xs=>.cons (.str x) (iy xs)
theorem QZ{sep:Str}{d:D}{xs:%[|0]}(hd:kJ S d=some (xs.map D.str))(hj:JoinOk sep xs=true)(w:W (.str (Txt.join sep xs)) S):bA X (.builtin "str.join") [.str sep,d] S W:=by
 intro pins s σ H O vs us I st r ru
 cases r with
 | cons r1 r2=>cases r2 with
   | cons r2 r3=>
     cases r3
     cases r1
     obtain⟨a,ys,rfl,hs,hq⟩:=yg (pins:=pins) (s:=s) (σ:=σ) (X:=X) st r2 hd
     obtain rfl:=vM hq
     cases ru with
     | cons u1 u2=>cases u2 with
       | cons u2 u3=>
         cases u3
         obtain⟨t1,rfl⟩:=u1
         cases u2
         obtain⟨its,rv,pl,hz⟩:=I.list hs
         obtain⟨l,rfl,e2⟩:=vP rv
         exact SC.join pl.isList e2 hj λ t' k=>⟨.str _,H,I.tok _,%[|24],QG.here w st (.str _)⟩
theorem Oa {x y:Str}(hy:(y.length==0)=false)(hx:x.length≤1000000)(w:W (.lst ((Txt.split x y).map D.str)) S∨W %[|77] (S++[(Txt.split x y).map D.str])):bA X (.builtin "str.split") [.str x,.str y] S W:=by
 intro pins s σ H O vs us I st r ru
 cases r with
 | cons r1 r2=>cases r2 with
   | cons r2 r3=>
     cases r3
     cases r1
     cases r2
     cases ru with
     | cons u1 u2=>cases u2 with
       | cons u2 u3=>
         cases u3
         obtain⟨t1,rfl⟩:=u1
         obtain⟨t2,rfl⟩:=u2
         have hz:x.length≤sizeLine:=by rw[sizeLine_eq];omega
         have done:∀(l:List (Str×Tok))(tk:Nat),l.map (·.1)=Txt.split x y->l.length≤sizeLine->EP X pins σ (QG X.K O H W) %[|59] {s with toks:=tk,heap:=s.heap.push {cls:=.type "list",data:=.seq (strValues l).toArray}}:=λ l tk e hl=>by
          have hp:=I.hok.fresh (x9 _)
          have I2:=I.laid (a:=s.heap.objs.size) (o:=.lst ((l.map (·.1)).map V.str)) (t':=tk) (h':=s.heap.push {cls:=.type "list",data:=.seq (strValues l).toArray}) %[|81] (x9 _) ⟨by rw[x6,x6];exact hl,strValues l,0,mK l,%[|34]⟩
          rw[e]at I2
          refine⟨.ref _,_,I2,rfl,?_⟩
          rcases w with w | w
          . exact jT w st hp (iy _)
          . exact Ax w st hp (iy _)
         have szl:(Txt.split x y).length≤x.length+1:=by
          have:=split_weight x y (by have:=ne_of_beq_false hy;omega)
          omega
         cases h1:(decide (x.length<y.length)||decide (Builtin.Str.strKind x<Builtin.Str.strKind y))with
         | true=>exact call_meets F.slot_str_split (typeIs_str _ _ _) F.entry_str_split (F.args_str_split_2 _ _) (meets_str_split_cannot_occur x y t1 t2 h1) (done [(x,t1)] _ (by unfold Txt.split;rw[if_pos h1];rfl) (by show 1≤sizeLine;decide))
         | false=>
           cases hf:(Builtin.Str.occurrences x y 0 x.length (x.length+1)).isEmpty with
           | true=>exact call_meets F.slot_str_split (typeIs_str _ _ _) F.entry_str_split (F.args_str_split_2 _ _) (meets_str_split_not_found x y t1 t2 h1 hy hf) (done [(x,t1)] _ (by unfold Txt.split;rw[if_neg (by rw[h1];decide),if_pos hf];rfl) (by show 1≤sizeLine;decide))
           | false=>
             have e:Txt.split x y=Builtin.Str.partsBetween x (Builtin.Str.occurrences x y 0 x.length (x.length+1)) y.length:=by unfold Txt.split;rw[if_neg (by rw[h1];decide),if_neg (by rw[hf];decide)]
             have hn:(Builtin.Str.partsBetween x (Builtin.Str.occurrences x y 0 x.length (x.length+1)) y.length).length≤sizeLine:=by rw[←e,sizeLine_eq];omega
             refine call_meets F.slot_str_split (typeIs_str _ _ _) F.entry_str_split (F.args_str_split_2 _ _) (meets_str_split_sep x y t1 t2 h1 hy hf hz hn) ?_
             rw[strsFrom_eq]
             exact done (numbered s.toks _) _ (by rw[numbered_texts,e]) (by rw[←x6 (f:=Prod.fst),numbered_texts];exact hn)
end
def inT(y x:Str):Bool:=!(Builtin.Str.occurrences x y 0 x.length 1).isEmpty
section
variable {X : Cx} {S : Store}
theorem VJ{x y:Str}{W:%[|28]}(w:W (inT y x) S):bf X .In (.str y) (.str x) S (asB W):=by
 sleep 9
 cases r1
 cases r2
 obtain⟨t1,rfl⟩:=r3
 obtain⟨t2,rfl⟩:=r4
 exact PySem.P.in_str ⟨.bl _,H,I,rfl,QG.here ⟨_,rfl,w⟩ st (.bl _)⟩
end
def U7:Bc where
 x:="int"
 id:="int"
 boot:=%[|7]
 wp ds S W:=match ds with
  | [.str x]=>∃n,intText? x=some n/\x.length≤640/\W (.int n) S
  | _=>False
 sound:=by
  intro X ds S W hc hr h
  split at h
  . rename_i x
    obtain⟨n,h1,h2,w⟩:=h
    intro pins s σ H O vs us I st r ru
    cases r with
    | cons r1 r2=>
      cases r2
      cases r1
      cases ru with
      | cons u1 u2=>
        cases u2
        obtain⟨t1,rfl⟩:=u1
        exact PySem.W.KIN.call_text h1 h2 ⟨.int _,H,I.tok _,%[|24],QG.here w st (.int _)⟩
  . exact h.elim
structure Ms where
 name:Str
 id:String
 slot:Slot "str" name id
 hty:typeOf (.builtin id)=pure (.type "method_descriptor")
 wp:Str->List D->Store->WD->Prop
 sound:∀{X:Cx}{sx:Str}{ds:List D}{S:Store}{W:WD},wp sx ds S W->bA X (.builtin id) (.str sx::ds) S W
def dX:Ms where
 name:="join"
 id:="str.join"
 slot:=F.slot_str_join
 hty:=F.type_str_join
 wp sx ds S W:=∃d xs,ds=[d]/\kJ S d=some (List.map D.str xs)/\JoinOk sx xs=true/\W (.str (Txt.join sx xs)) S
 sound:=by
  rintro X sx ds S W ⟨d,xs,rfl,h1,h2,w⟩
  exact QZ h1 h2 w
def nD:Ms where
 name:="split"
 id:="str.split"
 slot:=F.slot_str_split
 hty:=F.type_str_split
 wp sx ds S W:=∃y,ds=[.str y]/\(y.length==0)=false/\sx.length≤1000000/\(W (.lst ((Txt.split sx y).map D.str)) S∨W %[|77] (S++[(Txt.split sx y).map D.str]))
 sound:=by
  rintro X sx ds S W ⟨y,rfl,h1,h2,w⟩
  exact Oa h1 h2 w
def Ln:Ms where
 name:="startswith"
 id:="str.startswith"
 slot:=F.slot_str_startswith
 hty:=F.type_str_startswith
 wp sx ds S W:=∃y,ds=[.str y]/\W (.bl (Txt.startswith sx y)) S
 sound:=by
  rintro X sx ds S W ⟨y,rfl,w⟩
  exact JL w
def SM:Expr->Bool
 | .Constant .. =>true
 | _=>false
theorem Qs{x:Expr}{name:Str}{env:Env}(h:(nameE x||SM x)=true):attributeBase x name env (eval x env)=eval x env:=by
 cases x<;>first | rfl | exact ff h
section
variable {Ω : Wd}
def Ex.ms(m:Ms)(o a:Ex Ω):Ex Ω where
 lev:=max o.lev a.lev
 chk top N nm e:=match e with
  | .Call f es ks q=>ks.isEmpty&&du es λ y=>anB (sS f) λ u=>(u.2.1==m.name)&&((nameE u.1||SM u.1)&&((u.2.2.endLine==q.line)&&(okE y&&(o.chk top N nm u.1&&a.chk top N nm y))))
  | _=>false
 wp Γ S W:=o.wp Γ S λ x S1=>match x with | .str sx=>a.wp Γ S1 λ d S2=>m.wp sx [d] S2 W | _=>False
 sound:=by
  sleep 2
  sleep 3
  cases e with
  | Call f es ks q=>
    obtain⟨g1,h_1⟩:=aa hc
    obtain⟨y,rfl,h_2⟩:=bw h_1
    obtain⟨⟨x,n,p⟩,g2,h_3⟩:=bc h_2
    obtain⟨g3,h_4⟩:=aa h_3
    obtain⟨g4,h_5⟩:=aa h_4
    obtain⟨g5,h_6⟩:=aa h_5
    obtain⟨g6,h_7⟩:=aa h_6
    obtain⟨g7,g8⟩:=aa h_7
    obtain rfl:=oG g2
    have g3:n=m.name:=ZI g3
    subst g3
    cases ks with
    | cons=>cases g1
    | nil=>
      refine RG m.slot m.hty ((o.sound A l1 g7 hw).mono λ x S1 q=>?_) (Qs g4) (WT g6) g5 (aH g6 _ _) rfl
      cases x with
      | str sx=>exact⟨sx,rfl,cL ((a.sound A l2 g8 q).mono λ d S2 q=>gW (m.sound q)) (aH g6 _ _)⟩
      | _=>exact(show False from q).elim
  | _=>exact fE hc
end
variable {x : Str}
section
variable {X : Cx} {Γ : Gam} {S : Store} {W : WD} {a b e : Expr} {pos : Pos}
theorem JV{y:Str}{t:Tok}(hm:X.mg x=some (.str y t))(w:W (.str y) S)(hg:Gl X x)(hd:%[|55]):Ev X Γ S (.Name x pos) W:=
 λ pins s σ H O I _ st=>jC hg hm (v:=.str y) ⟨t,rfl⟩ hd pins s σ H _ I (QG.here w st (.str y))
theorem Uu{y:Str}(hz:x.length+y.length≤1000000)(w:W (.str (x++y)) S):cg X .Add (.str x) (.str y) S W:=
 cX Ge λ O H v w' st r1 r2=>by cases r1;cases r2;exact⟨x,y,rfl,rfl,small hz,QG.here w st (.str _)⟩
theorem Vy{i:Int}{c:Nat}(hz:x.length≤1000000)(h:atI x.cps.toList i=some c)(w:W (.str ⟨#[c]⟩) S):IxW X a b (.str x) (.int i) S W:=by
 intro pins s σ H O v w' u u' I st r1 r2 r3 r4 hs
 cases r1
 cases r2
 exact Sg a b pins s σ H _ _ u u' _ I r3 r4 ⟨x,i,c,rfl,rfl,small hz,h,QG.here w st (.str _)⟩ hs
theorem VP{lo hi:%[|17]}(hz:x.length≤1000000)(w:W (.str (Txt.slice x lo hi)) S):SlW X (.str x) lo hi S W:=by
 intro pins s σ H O v u vl vu sl I st r1 r3 hs pl pu
 cases r1
 obtain⟨t,rfl⟩:=r3
 have hq:∀(t':Tok)(k:Nat),EP X pins σ (QG X.K O H W) (.str (Txt.slice x lo hi) t') {s with toks:=k}:=λ t' k=>⟨.str _,H,I.tok _,%[|24],QG.here w st (.str _)⟩
 have hl:=Nat.le_trans (Txt.slice_le x lo hi) (small hz)
 refine⟨"str",_,F.slot_str_getitem.lookup,typeIs_str _ _ _,?_⟩
 cases pl<;>cases pu
 . exact wpAny_getItem_str_slice (l:=none) (u:=none) (st:=none) hs rfl (post_val_or_str ⟨hl,hq⟩)
 . exact wpAny_getItem_str_slice (l:=none) (u:=some (_,_)) (st:=none) hs rfl (post_val_or_str ⟨hl,hq⟩)
 . exact wpAny_getItem_str_slice (l:=some (_,_)) (u:=none) (st:=none) hs rfl (post_val_or_str ⟨hl,hq⟩)
 . exact wpAny_getItem_str_slice (l:=some (_,_)) (u:=some (_,_)) (st:=none) hs rfl (post_val_or_str ⟨hl,hq⟩)
def ItS(x:Str):It:=⟨λ i _=>i<x.cps.size,λ i H y H'=>H'=H/\∃c,x.cps[i]? =some c/\y=.str ⟨#[c]⟩,λ i _=>i=x.cps.size⟩
theorem Ah{P:Program}{w:World}{K:PySem.W.Frag}{tg:Expr}{ty:String}{t:Tok}(it:Addr)(hn:["enumerate","zip","dict_itemiterator","dict_reverseitemiterator","odict_iterator","itertools.zip_longest","itertools.pairwise"].contains ty=false)
 (W:∀A:Around,A.handled=none->Walks P w A it [it] [it] x.cps.size (SignAt x) (λ i h=>h.IsStrIter it ty x t i))
 (D:∀(A:Around)(E:%[|16])(s:Shared)(Q:Option Value->Shared->Prop),A.handled=none->s.heap.IsStrIter it ty x t x.cps.size->(∀h',Heap.ExtBut it s.heap h'->Q none {s with heap:=h'})->wpAny (model P w) A (pyNext (.ref it)) Q E s)
 (Z:∀(A:Around)(E:%[|16])(i:Nat)(s:Shared)(Q:%[|16]),s.heap.IsStrIter it ty x t i->Q (.ref it) s->wpAny (model P w) A (pyIter (.ref it)) Q E s):
 Turn P w K tg (ItS x) [it] it (λ i h=>h.IsStrIter it ty x t i) where
 mem:=by simp
 obj:=λ i h st b hb=>by
  have e:b=it:=by simpa using hb
  subst e
  obtain⟨o,e,c,d⟩:=st
  exact⟨o,e,λ v z=>by rw[d]at z;cases z⟩
 keep:=λ i h h' st k=>by
  obtain⟨o,e,r⟩:=st
  exact⟨o,k it (by simp) o e,r⟩
 item:=by
  intro X hP hw hK hc i pins s σ H E I hf st hg
  subst hP hw hK
  obtain⟨f0,f1,f2,f3,f4,f5⟩:=hf it (by simp)
  refine(W X.A (I.ok.hd hc)).item i s _ _ hg st λ v h' tk hv st' kk=>?_
  obtain⟨c,u,hc',rfl⟩:=hv
  have I1:Inv X pins σ H {s with heap:=h',toks:=tk}:=I.turned (λ b o hb e=>kk b o (by simpa using hb) e) f0 f1 f3 f4 f5
  obtain⟨o,e1,e2,e3⟩:=id st'
  exact⟨_,rfl,yp (s:={s with heap:=h',toks:=tk}) e1 e2 e3 hn ⟨.str ⟨#[c]⟩,H,I1,⟨u,rfl⟩,⟨rfl,c,hc',rfl⟩,st',λ b hb=>(hf b hb).1⟩⟩
 done:=by
  intro X hP hw hK hc i pins s σ H E I hf st hg
  subst hP hw hK
  have hg:i=x.cps.size:=hg
  subst hg
  obtain⟨f0,f1,f2,f3,f4,f5⟩:=hf it (by simp)
  exact D X.A E s _ (I.ok.hd hc) st λ h' eb=>⟨rfl,I.turned (t':=s.toks) (λ b o hb e=>eb b o hb e) f0 f1 f3 f4 f5⟩
 self:=λ A i s Q E st h=>Z A E i s Q st h
def sgs(x:Str):List D:=x.cps.toList.map λ c=>.str ⟨#[c]⟩
theorem sZ{K:PySem.W.Frag}{O:Own}{H:Hp}(x:Str):fW K (ItS x) O H (sgs x):=by
 intro O' H' st _ i
 refine⟨λ d hd=>?_,λ hi=>by rw[hi];show(sgs x).length=x.cps.size;simp[sgs]⟩
 unfold sgs at hd
 rw[x8]at hd
 cases e:x.cps.toList[i]? with
 | none=>rw[e]at hd;cases hd
 | some c=>
   rw[e]at hd
   cases hd
   have hl:=(z0.mp e).1
   refine⟨(by simpa using hl:i<x.cps.size),λ y H'' z=>?_⟩
   obtain⟨rfl,c',hc,rfl⟩:=z
   have:c'=c:=by
    have e':x.cps[i]? =some c:=by simpa using e
    rw[hc]at e'
    exact Option.some.inj e'
   subst this
   exact⟨aQ.refl _,.str _⟩
theorem Tz{tg:Expr}{W:%[|31]}(h:Ev X Γ S e λ d S1=>match d with | .str x=>W (sgs x) S1 | _=>False):ItW X Γ S tg e W:=by
 sleep 0
 refine %[|58]
 obtain⟨v,H1,I1,r1,O1,d,S1,w,st1,ok1,rep⟩:=hq_
 cases rep with
 | str x=>
   obtain⟨t,rfl⟩:=r1
   have fp:∀b∈[s1.heap.objs.size],cW X pins H1 b:=λ b hb=>by
    have e:b=s1.heap.objs.size:=by simpa using hb
    subst e
    exact I1.fpOk (x9 _) (I1.hok.fresh (x9 _))
   cases ha:x.cps.all (· <128)
   . refine wpAny_pyIter_wide ha ?_
     exact⟨s1.heap.objs.size,[s1.heap.objs.size],_,ItS x,H1,rfl,I1.kept (t':=s1.toks) %[|81],Ah (t:=t) _ %[|2] (λ A hA=>Walks.strWide hA _ x t) (λ A E s Q hA st hQ=>wpAny_pyNext_wide_end hA st (by simp) hQ) (λ A E i s Q st hQ=>wpAny_pyIter_striter_wide st hQ),⟨_,%[|34],rfl,rfl⟩,fp,O1,_,S1,w,st1,ok1,sZ x⟩
   . refine wpAny_pyIter_ascii ha ?_
     exact⟨s1.heap.objs.size,[s1.heap.objs.size],_,ItS x,H1,rfl,I1.kept (t':=s1.toks) %[|81],Ah (t:=t) _ %[|2] (λ A hA=>Walks.strAscii hA _ x t) (λ A E s Q hA st hQ=>wpAny_pyNext_ascii_end hA st (by simp) hQ) (λ A E i s Q st hQ=>wpAny_pyIter_striter_ascii st hQ),⟨_,%[|34],rfl,rfl⟩,fp,O1,_,S1,w,st1,ok1,sZ x⟩
 | _=>exact w.elim
end
section
variable {Ω : Wd}
def Ex.gstr{x i:Str}(h:∃t,Ω.mg x=some (.str i t)):Ex Ω where
 lev:=0
 chk _ _ nm e:=anB (nameV e) λ y=>(y==x)&&(glb nm x&&okN x)
 wp _ S W:=W (.str i) S
 sound:=by
  intro X r top N nm e Γ S W A _ hc hw
  obtain⟨y,g,h0⟩:=bc hc
  obtain⟨p,rfl⟩:=bx g
  obtain⟨h1,h2⟩:=aa h0
  sleep 5
  have e:y=x:=%[|18]
  subst e
  obtain⟨t,h⟩:=h
  exact JV (by rw[A.g];exact h) hw (A.glb h2) (aY h3).1
def Ex.catS(a b:Ex Ω):Ex Ω where
 lev:=max a.lev b.lev
 chk top N nm e:=match e with | .BinOp l o r _=>(o==.Add)&&%[|71] | _=>false
 wp Γ S W:=a.wp Γ S λ x S1=>b.wp Γ S1 λ y S2=>∃u v,x=.str u/\y=.str v/\u.length+v.length≤1000000/\W (.str (u++v)) S2
 sound:=by
  sleep 2
  sleep 3
  cases e with
  | BinOp l o r' pos=>
    sleep 1
    sleep 5
    have e:o=.Add:=%[|18]
    subst e
    refine lO ((a.sound A l1 h2 hw).mono λ x S1 q=>(b.sound A l2 h3 q).mono λ y S2 q=>?_)
    obtain⟨u,v,rfl,rfl,z,w⟩:=q
    exact Uu z w
  | _=>exact fE hc
def Ex.ixS(a b:Ex Ω):Ex Ω where
 lev:=max a.lev b.lev
 chk top N nm e:=match e with | .Subscript l r _=>okE r&&%[|71] | _=>false
 wp Γ S W:=a.wp Γ S λ x S1=>b.wp Γ S1 λ y S2=>∃u i c,x=.str u/\y=.int i/\u.length≤1000000/\atI u.cps.toList i=some c/\W (.str ⟨#[c]⟩) S2
 sound:=by
  sleep 2
  sleep 3
  cases e with
  | Subscript l r' pos=>
    sleep 1
    sleep 5
    refine M3 ((a.sound A l1 h2 hw).mono λ x S1 q=>(b.sound A l2 h3 q).mono λ y S2 q=>?_) (pB h1)
    obtain⟨u,i,c,rfl,rfl,z,g,w⟩:=q
    exact Vy z g w
  | _=>exact fE hc
def Jh:Expr->Option (Option Expr×Option Expr×Bool)
 | .Slice x y z _=>some (x,y,z.isNone)
 | _=>none
theorem Jk{e:Expr}{x y:Option Expr}(h:Jh e=some (x,y,true)):∃p,e=.Slice x y none p:=by
 cases e with
 | Slice a b c p=>
   have h:=Option.some.inj h
   have h1:a=x:=congrArg (λ z=>z.1) h
   have h2:b=y:=congrArg (λ z=>z.2.1) h
   have h3:c.isNone=true:=congrArg (λ z=>z.2.2) h
   cases c with
   | none=>subst h1 h2;exact⟨p,rfl⟩
   | some c=>cases h3
 | _=>cases h
def Ex.slS(a:Ex Ω)(lo hi:Po Ω):Ex Ω where
 lev:=max a.lev (max lo.lev hi.lev)
 chk top N nm e:=match e with | .Subscript l s _=>anB (Jh s) λ z=>z.2.2&&(a.chk top N nm l&&(lo.chk top N nm z.1&&hi.chk top N nm z.2.1)) | _=>false
 wp Γ S W:=a.wp Γ S λ x S1=>lo.wp Γ S1 λ l S2=>hi.wp Γ S2 λ h S3=>∃u,x=.str u/\u.length≤1000000/\W (.str (Txt.slice u l h)) S3
 sound:=by
  sleep 2
  sleep 3
  obtain⟨l2,l3⟩:=lv2 l2
  cases e with
  | Subscript l sl pos=>
    obtain⟨⟨x,y,z⟩,g,h0⟩:=bc hc
    obtain⟨hz,h1⟩:=aa h0
    have hz:z=true:=hz
    subst hz
    obtain⟨p,rfl⟩:=Jk g
    obtain⟨h1,h2⟩:=aa h1
    sleep 5
    refine zj ((a.sound A l1 h1 hw).mono λ x S1 q=>PoD.mono (lo.sound A l2 h2 q) λ l S2 q=>PoD.mono (hi.sound A l3 h3 q) λ h S3 q=>?_)
    obtain⟨u,rfl,z,w⟩:=q
    exact VP z w
  | _=>exact fE hc
def Itb.str(a:Ex Ω):Itb Ω where
 lev:=a.lev
 chk top N nm _ e:=a.chk top N nm e
 wp Γ S W:=a.wp Γ S λ d S1=>match d with | .str x=>W (sgs x) S1 | _=>False
 sound:=by
  intro X r top N nm tg e Γ S W A hl hc hw
  exact Tz (a.sound A hl hc hw)
def Ex.inS(a b:Ex Ω):Ex Ω where
 lev:=max a.lev b.lev
 chk top N nm e:=match e with | .Compare l os rs _=>du os λ o=>du rs λ r=>(o==.In)&&(okE r&&%[|71]) | _=>false
 wp Γ S W:=a.wp Γ S λ x S1=>b.wp Γ S1 λ y S2=>∃u v,x=.str u/\y=.str v/\W (.bl (inT u v)) S2
 sound:=by
  sleep 2
  sleep 3
  cases e with
  | Compare l os rs pos=>
    obtain⟨o,rfl,hc1⟩:=bw hc
    obtain⟨r',rfl,hc2⟩:=bw hc1
    obtain⟨h1,h2⟩:=aa hc2
    obtain⟨h0,h2⟩:=aa h2
    sleep 5
    have e:o=.In:=%[|18]
    subst e
    refine HH ((a.sound A l1 h2 hw).mono λ x S1 q=>(b.sound A l2 h3 q).mono λ y S2 q=>?_) (cB h0)
    obtain⟨u,v,rfl,rfl,w⟩:=q
    exact(VJ (W:=λ c S3=>W (.bl c) S3) w).mono λ d S3 hq=>by obtain⟨c,rfl,w⟩:=hq;exact w
  | _=>exact fE hc
end
end RF
namespace RF
open PySem PySem.Spec L2 DL
open PyProof.Rows
abbrev LC(items:Array Value)(x:Value):Nat->Option PySem.Fin×Unit->Sem (ForInStep (Option PySem.Fin×Unit)):=λ i __s=>
 match items[i]? with
 | some y=>do
   let __do_lift ←eqBool y x
   if __do_lift=true then do
    let __do_lift ←retInt ↑i
    pure (ForInStep.done (some __do_lift,()))
    else pure (ForInStep.yield (none,()))
 | x=>pure (ForInStep.yield (none,()))
theorem An{prog:Program}{w:World}{A:Around}{E:%[|16]}{s:Shared}{items:Array Value}{x:Value}{e:Value->Bool}{j:Nat}{Q:Option PySem.Fin×Unit->Shared->Prop}(hj:j<items.size)
 (hit:e items[j]=true)(hno:∀m(hm:m<items.size),m<j->e items[m]=false)(he:∀y,y∈items->SeqAt.EqAt A s y x (e y))(h:Q (some (PySem.Fin.done (.ret (.int j s.toks))),()) {s with toks:=s.toks+1}):
 ∀(k i:Nat),i+k=items.size->i≤j->wpAny (model prog w) A (forIn (List.range' i k) (none,()) (LC items x)) Q E s
 | 0,i,hk,hi=>absurd hj %[|1]
 | k +1,i,hk,hi=>by
   have hlt:i<items.size:=%[|1]
   rw[List.range'_succ,List.forIn_cons]
   refine ZA ?_
   have g:items[i]? =some items[i]:=by simp[hlt]
   unfold LC
   rw[g]
   refine ZA (he _ (Array.getElem_mem hlt) prog w _ _ ?_)
   by_cases hij:i=j
   . subst hij
     rw[hit]
     wp_walk
     exact h
   . rw[hno i hlt %[|1]]
     exact ZB (An hj hit hno he h k (i+1) %[|1] %[|1])
theorem xO(l:Addr)(items:Array Value)(n:Nat)(dd:Option Addr)(sl:Array (Option Value))(x:Value)(e:Value->Bool)(j:Nat)(hj:j<items.size)
 (hit:e items[j]=true)(hno:∀m(hm:m<items.size),m<j->e items[m]=false):
 Meets (Builtin.«tuple.index» ⟨[.ref l,x],[]⟩)
  (λ A R s=>s.heap.get? l=some {cls:=%[|29],dict:=dd,data:=.seq items n,slots:=sl}/\(∀y,y∈items->SeqAt.EqAt A.in1 s y x (e y))/\R (.ok (.ret (.int j s.toks))) {s with toks:=s.toks+1}):=by
 intro prog w A R s h
 obtain⟨hp,g,d,tk,os⟩:=s;obtain⟨hl,he,h⟩:=h
 unfold Builtin.«tuple.index»
 simp only[Std.Legacy.Range.forIn_eq_forIn_range',Std.Legacy.Range.size,Nat.sub_zero,Nat.add_sub_cancel,Nat.div_one,Nat.min_self]
 wp_walk using %[|69]
 have em:min items.size items.size-0=items.size:=%[|1]
 show wpAny (model prog w) A.in1 (forIn (List.range' 0 (min items.size items.size-0)) (none,()) (LC items x)) _ _ _
 rw[em]
 refine An hj hit hno he ?_ items.size 0 %[|1] (Nat.zero_le _)
 exact ZB h
def GT(mg:%[|22])(K:PySem.W.Frag)(x:Str)(ss:%[|0]):Prop:=∃(a:Addr) (o:Obj) (its:Array Value) (n:Nat),mg x=some (.ref a)/\K.lookup a=some o/\o.cls=%[|29]/\o.dict=none/\o.data=.seq its n/\its.size≤sizeLine/\Vals (ss.map V.str) its.toList
def Ff:%[|0]->%[|11]->Bool
 | [],vs=>vs.isEmpty
 | s::ss,vs=>match vs with
   | .str x _::vs=>(x==s)&&Ff ss vs
   | _=>false
theorem zW:∀{ss:%[|0]}{vs:%[|11]},Ff ss vs=true->Vals (ss.map V.str) vs
 | [],vs,h=>by
   cases vs with
   | nil=>exact .nil
   | cons=>cases h
 | s ::ss,vs,h=>by
   cases vs with
   | nil=>cases h
   | cons v vs=>
     cases v with
     | str x t=>
       obtain⟨h1,h2⟩:=aa h
       obtain rfl:=%[|18]
       exact .cons ⟨t,rfl⟩ (zW h2)
     | _=>exact(x5 h).elim
def gtO(ss:%[|0])(o:Obj):Bool:=(o.cls==%[|29])&&(o.dict.isNone&&(match o.data with | .seq its _=>decide (its.size≤1000)&&Ff ss its.toList | _=>false))
def gtB(K:PySem.W.Frag)(x:Str)(ss:%[|0]):Bool:=match PySem.W.nsIn K mainGlobals x with
 | some (some (.ref a))=>anB (K.lookup a) (gtO ss)
 | _=>false
theorem U8{K:PySem.W.Frag}{h:Heap}{mg:%[|22]}{x:Str}{ss:%[|0]}(X:K.In h)(G:h.Ns mainGlobals mg)(e:gtB K x ss=true):GT mg K x ss:=by
 unfold gtB at e
 split at e
 . rename_i a hn
   obtain⟨o,ho,e⟩:=bc e
   obtain⟨e1,e⟩:=aa e
   obtain⟨e2,e⟩:=aa e
   split at e
   . rename_i its n hd
     obtain⟨e3,e4⟩:=aa e
     exact⟨a,o,its,n,PySem.W.mg_of X G hn,ho,ZI e1,Option.isNone_iff_eq_none.mp e2,hd,Nat.le_trans (ZF e3) %[|2],zW e4⟩
   . cases e
 . cases e
section
variable {X : Cx} {Γ : Gam} {S : Store} {W : WD} {a b e : Expr} {pos : Pos}
theorem Lz(z:Str)(ss:%[|0]):inV (.str z) (ss.map V.str)=ss.contains z:=by
 unfold inV
 induction ss with
 | nil=>rfl
 | cons s ss ih=>
   rw[List.map_cons,List.any_cons,ih,List.contains_cons]
   have e:eqV (.str s) (.str z)=(s==z):=rfl
   rw[e]
   congr 1
   cases h:decide (s=z)with
   | true=>have:=ZF h;subst this;rfl
   | false=>have:=of_decide_eq_false h;rw[beq_eq_false_iff_ne.mpr this,beq_eq_false_iff_ne.mpr (Ne.symm this)]
theorem Q8{x:Str}{ss:%[|0]}{p:Pos}{no:Bool}{W:%[|28]}(g:GT X.mg X.K x ss)(h:Ev X Γ S a λ d S1=>∃z,d=.str z/\W (if no then !ss.contains z else ss.contains z) S1)(hg:Gl X x)(hd:%[|55]):Ts X Γ S (.Compare a [if no then CmpOp.NotIn else CmpOp.In] [.Name x p] pos) W:=by
 sleep 0
 obtain⟨t,o,its,n,hm,hk,hc,hd',hdt,hz,hv⟩:=g
 refine wpAny_isTrue_Compare1 %[|58] (cB rfl)
 obtain⟨v,H1,I1,r1,O1,x,S1,⟨z,rfl,w⟩,st1,ok1,rep1⟩:=hq_
 cases rep1
 refine thn (jC hg hm (v:=.ref t) rfl hd pins s1 σ H1 (λ v H'=>v=.ref t/\H'=H1) I1 ⟨rfl,rfl⟩) λ u' s2 hq=>?_
 obtain⟨v,H2,I2,r2,rfl,rfl⟩:=hq
 have fin:∀(c:Value)(s3:Shared),EP X pins σ (λ v H'=>v=.bl (if no then !inV (.str z) (ss.map V.str)else inV (.str z) (ss.map V.str))/\H'=H2) c s3->wpAny %[|9] X.A (truthy c) (TP X pins σ (QT X.K O H W)) X.xe s3:=by
  rintro c s3 ⟨v,H3,I3,r3,rfl,rfl⟩
  cases r3
  refine wpAny_truthy_bool ⟨_,I3,O1,S1,?_,st1,ok1⟩
  rw[Lz];exact w
 have all:(ss.map V.str).all fQ=true:=by rw[List.all_eq_true];intro y hy;obtain⟨s',_,rfl⟩:=ZO.mp hy;rfl
 cases no with
 | true=>exact thn (zY pins s2 σ H2 _ _ u u' _ I2 r1 r2 ⟨t,ss.map V.str,rfl,.inr (.inr ⟨o,its,n,hk,hc,hdt,hz,hv⟩),rfl,all,rfl,rfl⟩) fin
 | false=>exact thn (HF pins s2 σ H2 _ _ u u' _ I2 r1 r2 ⟨t,ss.map V.str,rfl,.inr (.inr ⟨o,its,n,hk,hc,hdt,hz,hv⟩),rfl,all,rfl,rfl⟩) fin
theorem Hx{t:Addr}{o:Obj}{its:Array Value}{n:Nat}{ss:%[|0]}(hk:X.K.lookup t=some o)(hc:o.cls=%[|29])(hdt:o.data=.seq its n)(hz:its.size≤sizeLine)(hv:Vals (ss.map V.str) its.toList):
 MtR X "tuple.index" (λ x vs H Q=>∃(z:Str) (j:Nat),x=.ref t/\vs=[.str z]/\ss[j]? =some z/\(∀m,m<j->ss[m]?≠some z)/\Q (.int j) H):=by
 intro pins s σ H x vs v us Q I rx rv h
 obtain⟨z,j,rfl,rfl,hj,hn,q⟩:=h
 cases rx
 obtain⟨u,rfl,ru⟩:=rv.one
 obtain⟨its,v1,p1,_⟩:=I.tuple (a:=t) (.inr ⟨o,its,n,hk,hc,hdt,hz,hv⟩)
 obtain⟨⟨cls,dd,data,sl⟩,ho,hc',n',hd'⟩:=id p1
 simp only at hc' hd'
 subst hc' hd'
 have all:(ss.map V.str).all fQ=true:=by rw[List.all_eq_true];intro y hy;obtain⟨s',_,rfl⟩:=ZO.mp hy;rfl
 have hlen:its.length=ss.length:=by rw[←v1.length,x6]
 have at_:∀(m:Nat)(hm:m<its.length)(y:Str),ss[m]? =some y->eqU (.str z) its[m]=(y==z):=by
  intro m hm y hy
  obtain⟨w,hw,rw'⟩:=j5 v1 (i:=m) (v:=.str y) (by rw[x8,hy];rfl)
  have e:its[m]=w:=by rw[y8 hm]at hw;exact Option.some.inj hw
  rw[e,zF rw' rfl];rfl
 have hjl:j<its.length:=by rw[hlen];exact(z0.mp hj).1
 refine call_meets F.slot_tuple_index ⟨_,ho,rfl⟩ F.entry_tuple_index (F.args_tuple_index_2 _ _) (xO t its.toArray n' dd sl u (eqU (.str z)) j (by simpa using hjl) ?_ ?_) ⟨ho,λ y hy=>fH ru rfl v1 all y (by simpa using hy),.int j,H,I.tok _,%[|24],q⟩
 . have:=at_ j hjl z hj
   simpa using this
 . intro m hm hlt
   have hml:m<its.length:=by simpa using hm
   obtain⟨y,hy⟩:∃y,ss[m]? =some y:=⟨_,y8 %[|1]⟩
   have:=at_ m hml y hy
   have ne:(y==z)=false:=beq_eq_false_iff_ne.mpr λ e=>hn m hlt (by rw[hy,e])
   rw[ne]at this
   simpa using this
theorem Ie{x:Str}{ss:%[|0]}{p apos cpos:Pos}(g:GT X.mg X.K x ss)(h:Ev X Γ S e λ d S1=>∃(z:Str) (j:Nat),d=.str z/\ss[j]? =some z/\(∀m,m<j->ss[m]?≠some z)/\W (.int j) S1)(hg:Gl X x)(hd:%[|55])
 (hs:starEach [e] X.env=[(false,eval e X.env)])(hline:(apos.endLine==cpos.line)=true):Ev X Γ S (.Call (.Attribute (.Name x p) "index" apos) [e] [] cpos) W:=by
 sleep 0
 obtain⟨t,o,its,n,hm,hk,hc,hd',hdt,hz,hv⟩:=g
 have hA:PA X [e] (λ σ H Q=>∃O Γ S W',%[|35]/\%[|23]/\Ev X Γ S e W'/\∀v H',QG X.K O H W' v H'->Q [v] H'):=by
  rintro pos pins s σ H Q I ⟨O,Γ,S,W',env,st,he,k⟩
  rw[hs]
  show wpAny _ _ (spliced ((false,eval e X.env)::backTo pos (starEach [] X.env))) _ _ s
  refine Calls.spliced_cons (thn (he pins s σ H O I env st) λ u s1 hq_=>?_)
  obtain⟨v,H1,I1,r1,q⟩:=hq_
  exact Calls.spliced_nil ⟨[v],H1,I1,.cons r1 .nil,k v H1 q⟩
 refine rD (T:="tuple") PySem.F.plainAttrs_tuple PySem.F.slot_tuple_index PySem.F.type_tuple_index (Hx hk hc hdt hz hv) (jC hg hm (v:=.ref t) rfl hd) hA rfl (by rw[hs];rfl) hline hs rfl pins s σ H _ I ?_
 refine⟨.inr (.inl ⟨rfl,o,hk,hc,hd'⟩),O,Γ,S,_,env,st,h,λ v H' q=>?_⟩
 obtain⟨O1,d,S1,⟨z,j,rfl,h1,h2,w⟩,st1,ok1,rep1⟩:=q
 cases rep1
 exact⟨z,j,rfl,rfl,h1,h2,O1,_,S1,w,st1,ok1,.int _⟩
end
section
variable {Ω : Wd}
def Te.inG{x:Str}{ss:%[|0]}(g:GT Ω.mg Ω.K x ss)(no:Bool)(a:Ex Ω):Te Ω where
 lev:=a.lev
 chk top N nm e:=match e with | .Compare l os rs _=>du os λ o=>du rs λ r=>anB (nameV r) λ y=>(o==(if no then CmpOp.NotIn else CmpOp.In))&&((y==x)&&(glb nm x&&(okN x&&a.chk top N nm l))) | _=>false
 wp Γ S W:=a.wp Γ S λ d S1=>∃z,d=.str z/\W (if no then !ss.contains z else ss.contains z) S1
 sound:=by
  sleep 2
  cases e with
  | Compare l os rs pos=>
    obtain⟨o,rfl,hc1⟩:=bw hc
    obtain⟨r',rfl,hc2⟩:=bw hc1
    obtain⟨y,q,h0⟩:=bc hc2
    obtain⟨p,rfl⟩:=bx q
    obtain⟨h1,h2⟩:=aa h0
    sleep 5
    obtain⟨h3,h4⟩:=aa h3
    obtain⟨h4,h5⟩:=aa h4
    obtain rfl:=ZI h2
    obtain rfl:=%[|18]
    exact Q8 (by rw[A.g,A.k];exact g) (a.sound A hl h5 hw) (A.glb h3) (aY h4).1
  | _=>exact fE hc
def Ex.indexG{x:Str}{ss:%[|0]}(g:GT Ω.mg Ω.K x ss)(a:Ex Ω):Ex Ω where
 lev:=a.lev
 chk top N nm e:=match e with
  | .Call f es ks q=>ks.isEmpty&&du es λ y=>anB (sS f) λ u=>anB (nameV u.1) λ z=>(u.2.1==("index":Str))&&((u.2.2.endLine==q.line)&&((z==x)&&(glb nm x&&(okN x&&(okE y&&a.chk top N nm y)))))
  | _=>false
 wp Γ S W:=a.wp Γ S λ d S1=>∃(z:Str) (j:Nat),d=.str z/\ss[j]? =some z/\(∀m,m<j->ss[m]?≠some z)/\W (.int j) S1
 sound:=by
  sleep 2
  cases e with
  | Call f es ks q=>
    obtain⟨g1,h_1⟩:=aa hc
    obtain⟨y,rfl,h_2⟩:=bw h_1
    obtain⟨⟨f',n,p⟩,g2,h_3⟩:=bc h_2
    obtain⟨z,g3,h_4⟩:=bc h_3
    obtain⟨p',g4⟩:=bx g3
    have g4:f'=.Name z p':=g4
    subst g4
    obtain rfl:=oG g2
    obtain⟨k1,h2⟩:=aa h_4
    obtain⟨k2,h3⟩:=aa h2
    obtain⟨k3,h4⟩:=aa h3
    obtain⟨k4,h5⟩:=aa h4
    obtain⟨k5,h6⟩:=aa h5
    obtain⟨k6,k7⟩:=aa h6
    have k1:n="index":=ZI k1
    subst k1
    obtain rfl:=ZI k3
    cases ks with
    | cons=>cases g1
    | nil=>exact Ie (by rw[A.g,A.k];exact g) (a.sound A hl k7 hw) (A.glb k4) (aY k5).1 (aH k6 [] _) k2
  | _=>exact fE hc
end
variable {c : Nat}
section
variable {Ω : Wd}
def Te.tval(a:Ex Ω):Te Ω where
 lev:=a.lev
 chk top N nm e:=Ek e&&a.chk top N nm e
 wp Γ S W:=a.wp Γ S λ d S1=>∃ds,d=.tup ds/\%[|60]/\W (!ds.isEmpty) S1
 sound :=by
  sleep 2
  sleep 1
  sleep 0
  refine isTrue_plain (thn (a.sound A hl h2 hw pins s σ H O I env st) λ u s3 hq_=>?_) (zU h1 _ _)
  obtain⟨z,H3,I3,r3,O3,d,S3,⟨ds,rfl,hz,wc⟩,st3,ok3,rep3⟩:=hq_
  cases rep3 with
  | @tup p xs _ g1 q1=>
    cases r3
    obtain⟨its,rv,pl,hzz⟩:=I3.tuple g1.sq
    have l1:=rv.length
    have l2:=q1.length
    refine truthy_tuple pl (by simp only[List.size_toArray];omega) ⟨H3,I3.tok _,O3,S3,?_,st3,ok3⟩
    rw[Gp rv]
    have e:xs.isEmpty=ds.isEmpty:=by
     cases xs with
     | nil=>cases ds with
       | nil=>rfl
       | cons _ _=>simp at l2
     | cons _ _=>cases ds with
       | nil=>simp at l2
       | cons _ _=>rfl
    rw[e]
    exact wc
end
section
variable {a b : Str} {S : Store} {W : Bool -> Store -> Prop}
theorem bV(w:W (a==b) S):aK .Eq (.str a) (.str b) S W:=by unfold aK;exact⟨⟨rfl,rfl,Nat.zero_le _⟩,w⟩
theorem Gr(w:W (!(a==b)) S):aK .NotEq (.str a) (.str b) S W:=by unfold aK;exact .inl ⟨⟨rfl,rfl,Nat.zero_le _⟩,w⟩
end
def mkS(l:List Nat):Str:=⟨l.toArray⟩
theorem ie(x:Str):mkS x.cps.toList=x:=by cases x;simp[mkS]
theorem aF(l:List Nat):(mkS l).cps.toList=l:=by simp[mkS]
theorem gQ(l:List Nat):(mkS l).length=l.length:=by simp[mkS,Str.length]
theorem aO(x y:Str):(x++y).cps.toList=x.cps.toList++y.cps.toList:=by simp[Str.cps_append]
theorem len_app(x y:Str):(x++y).length=x.length+y.length:=Str.length_append x y
theorem aW(x:Str):x.length=x.cps.toList.length:=by simp[Str.length]
theorem eX{x y:Str}(h:x.cps.toList=y.cps.toList):x=y:=by rw[←ie x,←ie y,h]
def jn(c:Nat):List (List Nat)->List Nat
 | []=>[]
 | [x]=>x
 | x::y::r=>x++c::jn c (y::r)
theorem Pu{x:List Nat}{r:List (List Nat)}(h:r≠[]):jn c (x::r)=x++c::jn c r:=by
 cases r with
 | nil=>exact absurd rfl h
 | cons y r=>rfl
theorem dD(xs:%[|0]):(Txt.join (mkS [c]) xs).cps.toList=jn c (xs.map λ x=>x.cps.toList):=by
 show(Builtin.Str.glued (mkS [c]) xs).cps.toList=_
 rw[StrLaws.glued_eq_join]
 induction xs with
 | nil=>rfl
 | cons x r ih=>
   cases r with
   | nil=>rfl
   | cons y r=>
     show(x++mkS [c]++Str.join (mkS [c]) (y::r)).cps.toList=x.cps.toList++c::jn c _
     rw[aO,aO,ih,aF,List.append_assoc]
     rfl
theorem HJ(xs:%[|0]):(Txt.join (mkS []) xs).cps.toList=(xs.map λ x=>x.cps.toList).flatten:=by
 show(Builtin.Str.glued (mkS []) xs).cps.toList=_
 rw[StrLaws.glued_eq_join]
 induction xs with
 | nil=>rfl
 | cons x r ih=>
   cases r with
   | nil=>show x.cps.toList=_;simp
   | cons y r=>
     show(x++mkS []++Str.join (mkS []) (y::r)).cps.toList=_
     rw[aO,aO,ih,aF,List.append_nil]
     rfl
theorem RP:∀{xs ys:List (List Nat)},xs≠[]->ys≠[]->(∀x∈xs,c∉x)->(∀y∈ys,c∉y)->jn c xs=jn c ys->xs=ys:=by
 have cut:∀(a b r s:List Nat),c∉a->c∉b->a++c::r=b++c::s->a=b/\r=s:=by
  intro a
  induction a with
  | nil=>
    intro b r s _ hb e
    cases b with
    | nil=>exact⟨rfl,by simpa using e⟩
    | cons z b=>
      have e1:c=z:=by simpa using(List.cons.inj e).1
      exact absurd (by rw[e1];exact List.mem_cons_self) hb
  | cons z a ih=>
    intro b r s ha hb e
    cases b with
    | nil=>
      have e1:z=c:=by simpa using(List.cons.inj e).1
      exact absurd (by rw[e1];exact List.mem_cons_self) ha
    | cons z' b=>
      obtain⟨e1,e2⟩:=List.cons.inj e
      obtain⟨i1,i2⟩:=ih b r s (λ h=>ha (w9 _ h)) (λ h=>hb (w9 _ h)) e2
      exact⟨by rw[e1,i1],i2⟩
 intro xs
 induction xs with
 | nil=>intro ys h;exact absurd rfl h
 | cons x r ih=>
   intro ys _ hy hx hyc e
   cases ys with
   | nil=>exact absurd rfl hy
   | cons y s=>
     have cx:=hx x List.mem_cons_self
     have cy:=hyc y List.mem_cons_self
     cases r with
     | nil=>
       cases s with
       | nil=>exact congrArg (λ z=>[z]) e
       | cons y' s=>
         have e:x=y++c::jn c (y'::s):=e
         exact absurd (by rw[e];simp) cx
     | cons x' r=>
       cases s with
       | nil=>
         have e:x++c::jn c (x'::r)=y:=e
         exact absurd (by rw[←e];simp) cy
       | cons y' s=>
         obtain⟨e1,e2⟩:=cut x y _ _ cx cy e
         rw[e1,ih (by simp) (by simp) (λ z hz=>hx z (w9 _ hz)) (λ z hz=>hyc z (w9 _ hz)) e2]
theorem b8{xs:%[|0]}(h0:xs≠[])(h:∀x∈xs,c∉x.cps.toList):Txt.split (Txt.join (mkS [c]) xs) (mkS [c])=xs:=by
 have e1:=StrLaws.join_split (Txt.join (mkS [c]) xs) (mkS [c])
 have e2:=StrLaws.split_free (Txt.join (mkS [c]) xs) c
 have e3:Txt.join (mkS [c]) (Txt.split (Txt.join (mkS [c]) xs) (mkS [c]))=Txt.join (mkS [c]) xs:=by
  show Builtin.Str.glued _ _=_
  rw[StrLaws.glued_eq_join];exact e1
 have e4:=congrArg (λ z:Str=>z.cps.toList) e3
 simp only[dD]at e4
 have n:Txt.split (Txt.join (mkS [c]) xs) (mkS [c])≠[]:=λ z=>by
  have:=split_pos (Txt.join (mkS [c]) xs) (mkS [c])
  rw[z]at this
  simp at this
 have e5:=RP (by simpa using n) (by simpa using h0) (λ x hx=>by obtain⟨s,hs,rfl⟩:=ZO.mp hx;exact e2 s hs) (λ x hx=>by obtain⟨s,hs,rfl⟩:=ZO.mp hx;exact h s hs) e4
 have inj:∀(a b:%[|0]),(a.map λ x=>x.cps.toList)=(b.map λ x=>x.cps.toList)->a=b:=by
  intro a
  induction a with
  | nil=>intro b e;cases b with
    | nil=>rfl
    | cons _ _=>cases e
  | cons x a ih=>intro b e;cases b with
    | nil=>cases e
    | cons y b=>
      obtain⟨e1,e2⟩:=List.cons.inj e
      rw[eX e1,ih b e2]
 exact inj _ _ e5
end RF
namespace RF
open PySem PySem.Spec L2 DL
open PyProof.Rows
abbrev nS(n:Int):Str:=Str.ofString (toString n)
def dg(m:Nat):List Nat:=(Nat.toDigits 10 m).map Char.toNat
def sg(n:Int):List Nat:=if n<0 then 45::dg n.natAbs else dg n.natAbs
theorem dG(n:Int):(nS n).cps.toList=sg n:=by
 rw[signs_ofString]
 cases n with
 | ofNat m=>
   show(Nat.repr m).toList.map Char.toNat=_
   rw[Nat.toList_repr];rfl
 | negSucc m=>
   show(("-":String)++Nat.repr (m+1)).toList.map Char.toNat=_
   rw[String.toList_append,List.map_append,Nat.toList_repr]
   have e1:(Int.negSucc m).natAbs=m+1:=rfl
   have e2:List.map Char.toNat ("-":String).toList=[45]:=%[|7]
   unfold sg dg
   rw[if_pos %[|1],e1,e2];rfl
theorem il{m:Nat}(h:m<10):dg m=[48+m]:=by
 unfold dg
 rw[Nat.toDigits_of_lt_base h]
 have:∀d:Nat,d<10->(Nat.digitChar d).toNat=48+d:=%[|2]
 show[(Nat.digitChar m).toNat]=_
 rw[this m h]
theorem tY{m:Nat}(h:10≤m):dg m=dg (m/10)++[48+m % 10]:=by
 have hm:m % 10<10:=Nat.mod_lt m %[|2]
 have t:Nat.toDigits 10 (m/10)++Nat.toDigits 10 (m % 10)=Nat.toDigits 10 (10*(m/10)+m % 10):=Nat.toDigits_append_toDigits %[|2] %[|1] hm
 rw[Nat.div_add_mod]at t
 have e:=il hm
 unfold dg at e ⊢
 rw[←t,List.map_append,e]
theorem ig(m:Nat):∀c∈dg m,48≤c/\c≤57:=by
 induction m using Nat.strongRecOn with
 | _ m ih=>
   by_cases h:m<10
   . rw[il h]
     intro c hc
     rw[ZL.mp hc];omega
   . rw[tY %[|1]]
     intro c hc
     rcases ZK.mp hc with hc | hc
     . exact ih (m/10) %[|1] c hc
     . rw[ZL.mp hc];omega
theorem DR(m:Nat):∃c r,dg m=c::r/\(m≠0->c≠48)/\(m=0->c=48/\r=[]):=by
 induction m using Nat.strongRecOn with
 | _ m ih=>
   by_cases h:m<10
   . rw[il h]
     exact⟨_,_,rfl,λ z=>by omega,λ z=>by subst z;exact⟨rfl,rfl⟩⟩
   . obtain⟨c,r,e,h1,_⟩:=ih (m/10) %[|1]
     rw[tY %[|1],e]
     exact⟨c,_,rfl,λ _=>h1 %[|1],λ z=>by omega⟩
theorem Ud:∀(k:Nat){m:Nat},m<10 ^ (k+1)->(dg m).length≤k+1:=by
 intro k
 induction k with
 | zero=>intro m h;rw[il (by simpa using h)];simp
 | succ k ih=>
   intro m h
   by_cases h1:m<10
   . rw[il h1];simp
   . rw[tY %[|1],List.length_append]
     have e:10 ^ (k+1+1)=10*10 ^ (k+1):=by rw[Nat.pow_succ,Nat.mul_comm]
     have:=ih (m:=m/10) %[|1]
     simp only[List.length_cons,List.length_nil];omega
theorem JH(m:Nat):NumText.digitsVal (dg m)=m:=PySem.W.KIN.val_back m
theorem Ph(n:Int):∀c∈sg n,c=45∨(48≤c/\c≤57):=by
 intro c hc
 unfold sg at hc
 split at hc
 . rcases ZJ.mp hc with rfl | hc
   . exact .inl rfl
   . exact .inr (ig _ c hc)
 . exact .inr (ig _ c hc)
theorem Rg{n:Int}{k:Nat}(h:n.natAbs<10 ^ (k+1)):(sg n).length≤k+2:=by
 have:=Ud k h
 unfold sg
 split<;>simp<;>omega
theorem JM{n:Int}(h:(sg n).length≤600):intText? (nS n)=some n:=by
 have hl:(nS n).length≤4300:=by rw[aW,dG];omega
 obtain⟨c,r,e,_⟩:=DR n.natAbs
 by_cases hn:n<0
 . have e1:(nS n).cps.toList=45::dg n.natAbs:=by rw[dG];unfold sg;rw[if_pos hn]
   rw[intText_neg e1 (ig _) (by rw[e];simp) hl,JH]
   congr 1;omega
 . have e1:(nS n).cps.toList=dg n.natAbs:=by rw[dG];unfold sg;rw[if_neg hn]
   rw[intText_digits (by rw[e1];exact ig _) (by rw[e1,e];simp) hl,e1,JH]
   congr 1;omega
def dgB(c:Nat):Bool:=decide (48≤c)&&decide (c≤57)
def woS(l:List Nat):List Nat:=if l.head? =some 45 then l.drop 1 else l
def fO(l:List Nat):Bool:=!(woS l).isEmpty&&((woS l).all dgB&&(!((woS l).head? ==some 48)||l==[48]))
theorem Ko(n:Int):fO (sg n)=true:=by
 obtain⟨c,r,e,h1,h2⟩:=DR n.natAbs
 have hd:=ig n.natAbs
 have all:(dg n.natAbs).all dgB=true:=by
  rw[List.all_eq_true]
  intro x hx
  have:=hd x hx
  unfold dgB
  rw[ZG this.1,ZG this.2];rfl
 have e2:woS (sg n)=dg n.natAbs:=by
  unfold sg
  split
  . rfl
  . unfold woS
    rw[if_neg]
    rw[e]at hd ⊢
    have:=hd c List.mem_cons_self
    simp;omega
 unfold fO
 rw[e2,all,e]
 by_cases hz:n.natAbs=0
 . obtain⟨rfl,rfl⟩:=h2 hz
   have:sg n=[48]:=by unfold sg;rw[if_neg %[|1],e]
   rw[this];rfl
 . have:=h1 hz
   have:(some c==some 48)=false:=by simpa using this
   simp[this]
theorem O9(x:Str)(c:Nat):Txt.startswith x (mkS [c])=decide (x.cps.toList.head? =some c):=by
 show(decide (0+(mkS [c]).length≤x.length)&&Builtin.Str.subAt x (mkS [c]) 0)=_
 rw[StrLaws.subAt_eq,gQ,aF,aW,List.drop_zero]
 generalize x.cps.toList=l
 cases l with
 | nil=>rfl
 | cons a l=>
   simp only[List.length_cons,List.length_nil,List.head?_cons,List.take_succ_cons,List.take_zero]
   rw[ZG (%[|1]:0+(0+1)≤l.length+1),Bool.true_and]
   by_cases h:a=c
   . subst h
     rw[show([a]==[a])=true by simp]
     exact(ZG rfl).symm
   . rw[show([a]==[c])=false by simpa using h]
     exact(ZH (by simpa using h)).symm
theorem Eo(x:Str)(h:1≤x.length):Txt.slice x (some 1) none=mkS (x.cps.toList.drop 1):=by
 have hs:Builtin.Str.strSliceIndices (some 1) none 1 x.length=Builtin.Str.strSliceIndices (some ((1:Nat):Int)) (some ((x.length:Nat):Int)) 1 x.length:=by
  have h2:¬((x.length:Int)<0):=%[|1]
  have e2:max (0:Int) (min (x.length:Int) (x.length:Int))=x.length:=%[|1]
  simp[Builtin.Str.strSliceIndices,sliceRange,h2,e2]
 unfold Txt.slice
 rw[hs,StrLaws.sliced_plain x h (x9 _),StrLaws.strSliceIndices_plain h (x9 _)]
 have:((List.range (x.length-1)).map λ k=>1+k).length≠x.length:=by simp;omega
 rw[if_neg (by simpa using this)]
 have hl:=aW x
 show mkS _=mkS _
 congr 1
 exact List.take_of_length_le (by rw[List.length_drop];omega)
theorem Le(x:Str){k:Nat}(h:x.length≤k):Txt.slice x none (some (k:Int))=x:=by
 have hs:Builtin.Str.strSliceIndices none (some (k:Int)) 1 x.length=Builtin.Str.strSliceIndices (some ((0:Nat):Int)) (some ((x.length:Nat):Int)) 1 x.length:=by
  have h1:¬((k:Int)<0):=%[|1]
  have h2:¬((x.length:Int)<0):=%[|1]
  have e1:max (0:Int) (min (k:Int) (x.length:Int))=x.length:=%[|1]
  have e2:max (0:Int) (min (x.length:Int) (x.length:Int))=x.length:=%[|1]
  have e3:min (k:Int) (x.length:Int)=x.length:=%[|1]
  have e4:max (0:Int) (min 0 (x.length:Int))=0:=%[|1]
  simp[Builtin.Str.strSliceIndices,h1,h2,e1,e2,e3,e4]
 unfold Txt.slice
 rw[hs,StrLaws.strSliceIndices_plain (Nat.zero_le _) (x9 _)]
 rw[if_pos (by simp)]
end RF
namespace XE
open PySem PySem.Spec L2 DL RF
open PyProof.Rows
def M5(base:Heap)(l:List Env)(e:Addr)(cls a0:Value)(h:Heap):Prop:=base.StaysIn h/\base.get? e=none/\h.FunFrames base l/\∃fl,h.TracedAtW base e cls a0 fl
section
variable {M : Model} {A : Around} {E : Value -> Shared -> Prop} {s : Shared}
theorem G5{base:Heap}{env:Env}{outer:List Env}{L e:Addr}{cls a0:Value}{Q:Unit->Shared->Prop}(fr:A.frames=some (env::outer))(hf:env.frame=some L)(x:M5 base (env::outer) e cls a0 s.heap)
 (k:∀h',Heap.FlyingW base outer e cls a0 h'->(∀b o,%[|56]->(∀vs,o.data≠.fields vs)->∃sl,h'.get? b=some {o with slots:=sl})->Q () {s with heap:=h'}):wpAny M A (leaving env (.ref e)) Q E s:=by
 obtain⟨x1,x2,x3,fl,x4⟩:=x
 by_cases hl:fl=rawInt L
 . subst hl
   unfold leaving
   refine ZA (wpAny_noteFrame_againW hf x4 ?_)
   refine wpAny_landsW ⟨x1,x2,x3,x4⟩ λ h' hfl up=>?_
   obtain⟨k1,k2,⟨_,_,k3⟩,k4⟩:=hfl
   exact k h' ⟨k1,k2,k3,k4⟩ up
 . obtain⟨oe,vs,T,oT,ts,he,⟨rfl,g0⟩,hd,g1,gn,gne,hT,gd,g3⟩:=x4
   have nr:∀b o,%[|56]->(∀vs,o.data≠.fields vs)->b≠T:=λ b o hb z q=>by
    subst q
    rw[hT]at hb
    cases hb
    exact z ts gd
   have ot:∀b,b≠T->(s.heap.update T (Obj.mapFields (·.setIfInBounds 3 Value.none))).get? b=s.heap.get? b:=λ b hb=>Heap.get?_update_other _ _ λ q=>hb q.symm
   unfold leaving noteFrame
   rw[hf]
   refine ZA (ZA (wpAny_field he hd g1 ?_))
   rw[if_pos (by rfl)]
   refine ZA (wpAny_field hT gd g3 ?_)
   rw[if_neg (by simpa using hl)]
   refine ZA (wpAny_setField hT gd (Array.getElem?_eq_some_iff.mp g3).1 ?_)
   refine wpAny_newEntryW fr (x3.of_keeps λ b o hb z=>⟨o,(ot b (nr b o hb z)).trans hb,rfl⟩) hf ((ot e gne.symm).trans he) (λ b o hb=>(ot b λ q=>by subst q;rw[gn]at hb;cases hb).trans (x1 b o hb)) x2 hd (Array.getElem?_eq_some_iff.mp g1).1 g0 λ h' hL=>?_
   obtain⟨k1,⟨_,_,k2⟩,k3,k4⟩:=hL
   exact k h' ⟨k1,x2,k2,k3⟩ λ b o hb z=>k4 b o ((ot b (nr b o hb z)).trans hb) z
end
section
variable {X : Cx} {pins : Pins} {σ : L2.St} {H1 : Hp} {s1 : Shared} {O : Own} {H : Hp} {WE : WX}
theorem Dk(I:Inv X pins σ H1 s1)(hst:X.stack=X.env::X.outer)(hfr:%[|72])(hex:X.ex=[]){a C t:Addr}{po:Option Addr}{H':Hp}{B:Heap}{Z:List Addr}{s2:Shared}{h3:Heap}
 (hZ:∀b∈Z,X.s₀.heap.objs.size≤b/\H' b=none)(ho:s2.os=s1.os)(hg:AllBare s2.gens)(fl:Fl X.prog X.w X.stack H1 s1.heap H' B s2.heap)(hv:M5 (PySem.W.hideAll B Z) X.stack a (.ref C) (.ref t) h3)
 (up:∀b o,s2.heap.get? b=some o->b∈%[|26]->∃sl,h3.get? b=some {o with slots:=sl})(lk:∀dx,po=some dx->∃o,h3.get? a=some o/\o.dict=some dx)(hE:QX X.mg X.K O H WE (.ref C) po H'):XL X O H WE (.ref a) {s2 with heap:=h3}:=by
 have fs:%[|26]=X.env.locals::frs X.outer:=by rw[hst];exact fu X.outer X.env hfr
 unfold XL
 rw[hst]at hv
 refine wpAny_mono ((gK X.env (.ref a)).any (G5 (Q:=λ _ s'=>∃h',s'={s2 with heap:=h'}/\Heap.FlyingW (PySem.W.hideAll B Z) X.outer a (.ref C) (.ref t) h'/\∀b o,h3.get? b=some o->(∀vs,o.data≠.fields vs)->∃sl,h'.get? b=some {o with slots:=sl}) (E:=%[|25]) (I.ok.frames.trans (by rw[hst])) hfr hv λ h' x1 x2=>⟨h',rfl,x1,x2⟩)) (λ _ s' z=>?_) λ _ _ z=>z.1
 obtain⟨⟨h',rfl,x1,x2⟩,dk⟩:=z
 have ne:∀b o,X.s₀.heap.get? b=some o->b≠X.env.locals:=λ b o q z=>absurd (ZM (ZE q) (z▸I.ok.above)) (Nat.lt_irrefl _)
 have nz:∀b o,X.s₀.heap.get? b=some o->b∉Z:=λ b o q z=>absurd (ZM (ZE q) (hZ b z).1) (Nat.lt_irrefl _)
 have nin:∀b o,X.s₀.heap.get? b=some o->b∉frs X.outer->b∉%[|26]:=λ b o q hb z=>by
  rw[fs]at z
  rcases ZJ.mp z with z | z
  . exact ne b o q z
  . exact hb z
 have nx:∀b:Addr,b∉X.ex:=λ b z=>by rw[hex]at z;cases z
 refine⟨λ c q H2=>c=.ref C/\q=po/\H2=H',⟨a,C,t,po,H',_,rfl,ho.trans I.os,hg,⟨λ b u e=>?_,λ b o q n hb=>?_,λ b o q hb=>?_,λ b o q hb=>?_,λ b o q n=>?_,λ b xs q=>fl.tups b xs (I.base.tups b xs q),λ b o u q=>fl.frzs b o u (I.base.frzs b o u q),λ b ps q=>?_⟩,x1,λ dx e=>?_,rfl,rfl,rfl⟩,?_⟩
 . refine(fl.hok b u e).stay (λ c v hc r=>?_) (λ _ r=>r) (λ _ _ r=>r)
   refine PySem.W.hideAll_get _ r λ z=>?_
   have n:=(hZ c z).2
   rcases hc with rfl | hc
   . rw[e]at n;cases n
   . rw[hc]at n;cases n
 . exact PySem.W.hideAll_get _ (fl.keep b o (I.base.keep b o q n hb (nx b)) (I.base.free b o q n (nx b)) (nin b o q hb)) (nz b o q)
 . obtain⟨o',e⟩:=I.base.there b o q (nx b)
   obtain⟨o2,e2⟩:=fl.there b o' e (nin b o q hb)
   exact⟨o2,PySem.W.hideAll_get _ e2 (nz b o q)⟩
 . obtain⟨sl,e⟩:=I.base.slot b o q (I.ok.frf b hb) hb (nx b)
   have hb':b∈%[|26]:=by rw[fs];exact w9 _ hb
   obtain⟨sl2,e2⟩:=fl.slot b _ e hb'
   obtain⟨sl3,e3⟩:=up b _ e2 hb'
   have hb2:b∈(X.env::X.outer).filterMap (·.frame):=by rw[←hst];exact hb'
   obtain⟨_,o',e',d⟩:=hv.2.2.1.mem hb2
   rw[e3]at e'
   cases e'
   obtain⟨sl4,e4⟩:=x2 b _ e3 d
   exact⟨sl4,e4⟩
 . obtain⟨o',e⟩:=I.base.there b o q (nx b)
   exact fl.free b o' e (I.base.free b o q n (nx b))
 . obtain⟨m1,e1⟩:=I.base.tbls b ps q
   obtain⟨m2,e2⟩:=fl.tbls b _ e1
   exact⟨m1++m2,by rw[e2,Array.append_assoc]⟩
 . obtain⟨o,e1,e2⟩:=lk dx e
   obtain⟨o',e3,e4⟩:=dk a o e1
   exact⟨o',e3,e4.trans e2⟩
 . rintro c q H2 ⟨e,rfl,rfl⟩
   cases e
   exact hE
theorem VR(I:Inv X pins σ H1 s1)(hst:X.stack=X.env::X.outer)(hfr:%[|72])(hex:X.ex=[]){E':XK}{e:Value}{s2:Shared}(h:CXE X.prog X.w X.stack H1 s1 E' e s2)(hE:∀c po H',E' (.ref c) po H'->QX X.mg X.K O H WE (.ref c) po H'):XL X O H WE e s2:=by
 obtain⟨a,C,t,po,H',B,rfl,ho,hg,fl,fw,lk,hq⟩:=h
 obtain⟨f1,f2,f3,f4⟩:=fw
 exact Dk (Z:=[]) I hst hfr hex (λ b hb=>nomatch hb) ho hg fl ⟨f1,f2,f3,_,f4⟩ (λ b o e _=>⟨o.slots,e⟩) lk (hE C po H' hq)
theorem Qg(I:Inv X pins σ H1 s1)(hst:X.stack=X.env::X.outer)(hfr:%[|72])(hex:X.ex=[]){a C:Addr}{vs:%[|11]}{s2:Shared}(ho:s2.os=s1.os)(hg:s2.gens=s1.gens)(hx:Heap.MadeExcOf s1.heap s2.heap a (.ref C) vs)(hE:QX X.mg X.K O H WE (.ref C) none H1):XL X O H WE (.ref a) s2:=by
 have hin:∀env∈X.env::X.outer,∀b,env.frame=some b->b∈%[|26]:=λ env he b hb=>by rw[hst];exact List.mem_filterMap.mpr ⟨env,he,hb⟩
 unfold XL
 refine wpAny_leaves_madeW (base:=PySem.W.hideAll s1.heap %[|26]) (h:=s1.heap) (outer:=X.outer) (I.ok.frames.trans (by rw[hst])) hfr (λ b o q=>PySem.W.of_hideAll _ q) (PySem.W.funFrames_hide (by have:=I.stack;rw[hst]at this;exact this) hin) hx λ h' t x1 x2 x3 x4=>?_
 refine⟨λ c q H2=>c=.ref C/\q=none/\H2=H1,⟨a,C,t,none,H1,_,rfl,ho.trans I.os,by show AllBare s2.gens;rw[hg];exact I.bare,?_,x1,(λ _ z=>nomatch z),rfl,rfl,rfl⟩,?_⟩
 . refine Mx I hst hfr hex λ b o q hb=>?_
   obtain⟨_,o',e',d⟩:=I.funs.mem hb
   rw[q]at e'
   cases e'
   exact x4 b o (hx.keeps b o q) d
 . rintro c q H2 ⟨e,rfl,rfl⟩
   cases e
   exact hE
theorem Tc(I:Inv X pins σ H1 s1)(hst:X.stack=X.env::X.outer)(hfr:%[|72])(hex:X.ex=[]){a C t dx:Addr}(ha:H1 a=some (.ext (ExO a C t (some dx))))(new:X.s₀.heap.get? a=none)(hE:QX X.mg X.K O H WE (.ref C) (some dx) (off H1 a)):XL X O H WE (.ref a) s1:=by
 unfold XL
 have fs:%[|26]=X.env.locals::frs X.outer:=by rw[hst];exact fu X.outer X.env hfr
 have he:ExO a C t (some dx) s1.heap:=(I.hok a _ ha).1
 have hin:∀env∈X.env::X.outer,∀b,env.frame=some b->b∈a::%[|26]:=λ env he b hb=>w9 _ (by rw[hst];exact List.mem_filterMap.mpr ⟨env,he,hb⟩)
 have hen:(PySem.W.hideAll s1.heap (a::%[|26])).get? a=none:=PySem.W.hideAll_none _ (List.mem_cons_self ..)
 have lv:=wpAny_leaving_firstW (M:=%[|9]) (A:=X.A) (E:=%[|25]) (Q:=λ _ s'=>∃h',s'={s1 with heap:=h'}/\Heap.LeftW (PySem.W.hideAll s1.heap (a::%[|26])) (X.env::X.outer) a (.ref C) (.ref t) s1.heap h')
  (base:=PySem.W.hideAll s1.heap (a::%[|26])) (I.ok.frames.trans (by rw[hst])) (PySem.W.funFrames_hide (by have:=I.stack;rw[hst]at this;exact this) hin) hfr he (λ b o q=>PySem.W.of_hideAll _ q) hen rfl rfl rfl λ h' hL=>⟨h',rfl,hL⟩
 refine wpAny_mono ((gK X.env (.ref a)).any lv) (λ _ s' z=>?_) λ _ _ z=>z.1
 obtain⟨⟨h',rfl,k1,⟨_,_,k2⟩,k3,k4⟩,dk⟩:=z
 have ne:∀b o,X.s₀.heap.get? b=some o->b≠X.env.locals:=λ b o q z=>absurd (ZM (ZE q) (z▸I.ok.above)) (Nat.lt_irrefl _)
 have na:∀b o,X.s₀.heap.get? b=some o->b≠a:=λ b o q z=>by rw[z,new]at q;cases q
 have nin:∀b o,X.s₀.heap.get? b=some o->b∉frs X.outer->b∉a::%[|26]:=λ b o q hb z=>by
  rcases ZJ.mp z with z | z
  . exact na b o q z
  . rw[fs]at z
    rcases ZJ.mp z with z | z
    . exact ne b o q z
    . exact hb z
 have nx:∀b:Addr,b∉X.ex:=λ b z=>by rw[hex]at z;cases z
 have up:∀b u,H1 b=some u->(∀φ,u≠.ext φ)->off H1 a b=some u:=λ b u q n=>by
  rw[off_ne λ z=>?_];exact q
  rw[z,ha]at q
  exact n _ (Option.some.inj q).symm
 refine⟨λ c q H2=>c=.ref C/\q=some dx/\H2=off H1 a,⟨a,C,t,some dx,off H1 a,_,rfl,I.os,I.bare,⟨λ b o e=>?_,λ b o q n hb=>?_,λ b o q hb=>?_,λ b o q hb=>?_,λ b o q n=>?_,λ b xs q=>?_,λ b o u q=>?_,λ b ps q=>?_⟩,⟨k1,hen,k2,k3⟩,λ d e=>?_,rfl,rfl,rfl⟩,?_⟩
 . obtain⟨n,e⟩:=G3 e
   refine(I.hok b o e).stay (λ c u hc r=>?_) (λ c r=>up c _ r λ _ z=>nomatch z) (λ c xs r=>up c _ r λ _ z=>nomatch z)
   refine PySem.W.hideAll_get _ r λ z=>?_
   rcases ZJ.mp z with z | z
   . rcases hc with rfl | hc
     . exact n z
     . rw[z,ha]at hc;cases hc
   . have n':=I.stkFree c z
     rcases hc with rfl | hc
     . rw[e]at n';cases n'
     . rw[hc]at n';cases n'
 . exact PySem.W.hideAll_get _ (I.base.keep b o q n hb (nx b)) (nin b o q hb)
 . obtain⟨o',e⟩:=I.base.there b o q (nx b)
   exact⟨o',PySem.W.hideAll_get _ e (nin b o q hb)⟩
 . obtain⟨sl,e⟩:=I.base.slot b o q (I.ok.frf b hb) hb (nx b)
   obtain⟨_,o',e',d⟩:=I.funs.mem hb
   rw[e]at e'
   cases e'
   obtain⟨sl2,e2⟩:=k4 b _ e d
   exact⟨sl2,e2⟩
 . rw[off_ne (na b o q)];exact I.base.free b o q n (nx b)
 . exact up b _ (I.base.tups b xs q) λ _ z=>nomatch z
 . exact up b _ (I.base.frzs b o u q) λ _ z=>nomatch z
 . obtain⟨m,e⟩:=I.base.tbls b ps q
   exact⟨m,up b _ e λ _ z=>nomatch z⟩
 . obtain⟨o',e1,e2⟩:=dk a _ he
   cases e
   exact⟨o',e1,e2⟩
 . rintro c q H2 ⟨e,rfl,rfl⟩
   cases e
   exact hE
theorem XR.xl(hst:X.stack=X.env::X.outer)(hfr:%[|72])(hex:X.ex=[]){e:Value}{s2:Shared}(z:XR X O H WE e s2):XL X O H WE e s2:=by
 rcases z with⟨pins,σ,H1,s1,a,C,vs,rfl,I1,h3,h4,h5,h6⟩ | ⟨pins,σ,H2,s1,E',I1,h2,h3⟩ | ⟨pins,σ,H2,a,C,t,dx,rfl,I1,h3,h4,h5⟩ | z
 . exact Qg I1 hst hfr hex h3 h4 h5 h6
 . exact VR I1 hst hfr hex h2 h3
 . exact Tc I1 hst hfr hex h3 (h4 hex) h5
 . exact z
end
def EvR(X:Cx)(Γ:Gam)(S:Store)(e:Expr)(W:WD)(WE:WX):Prop:=
 ∀ (pins:Pins)(s:Shared)(σ:L2.St)(H:Hp)(O:Own),%[|4]->%[|35]->%[|23]->
   wpAny %[|9] X.A (eval e X.env) (EP X pins σ (QG X.K O H W)) (XR X O H WE) s
def tK(X:Cx)(Γ:Gam)(S:Store)(es:%[|12])(W:%[|31])(WE:WX):Prop:=
 ∀ (pos:Pos)(pins:Pins)(s:Shared)(σ:L2.St)(H:Hp)(O:Own),%[|4]->%[|35]->%[|23]->
   wpAny %[|9] X.A (spliced %[|76]) (AP X pins σ (QA X.K O H W)) (XR X O H WE) s
section
variable {X : Cx} {Γ : Gam} {S : Store} {W : WD} {WE : WX} {a b e : Expr} {es : %[|12]} {sts : List Stmt} {F : DL.Fin} {pos : Pos}
theorem Ey{pins:Pins}{σ:L2.St}{Q:VK}{u:Value}{s:Shared}(h:EP X.nox pins σ Q u s):EP X pins σ Q u s:=by
 obtain⟨v,H',I,r,q⟩:=h
 exact⟨v,H',I.unwish,r,q⟩
theorem Sv(h:Ev X.nox Γ S e W):EvR X Γ S e W WE:=λ pins s σ H O I env st=>
 wpAny_mono (h pins s σ H O (I.wish _) env st) (λ _ _ q=>Ey q) %[|30]
theorem Wm(h:EvX X Γ S e W WE):EvR X Γ S e W WE:=λ pins s σ H O I env st=>
 wpAny_mono %[|45] (λ _ _ q=>q) λ _ _ z=>z.xr
theorem EvR.mono{W':WD}(h:EvR X Γ S e W WE)(k:∀d S',W d S'->W' d S'):EvR X Γ S e W' WE:=λ pins s σ H O I env st=>
 thn %[|45] λ _ _ hq_=>by obtain⟨v,H',I',r,O',d,S',w,q⟩:=hq_;exact⟨v,H',I',r,O',d,S',k d S' w,q⟩
theorem Ox{op:Operator}(h:EvR X Γ S a (λ x S1=>EvR X Γ S1 b (λ y S2=>cg X.nox op x y S2 W) WE) WE):EvR X Γ S (.BinOp a op b pos) W WE:=by
 sleep 0
 refine wpAny_BinOp %[|58]
 obtain⟨v,H1,I1,r1,O1,x,S1,hb,st1,ok1,rep1⟩:=hq_
 refine wpAny_mono (hb pins s1 σ H1 O1 I1 %[|20] ok1) (λ u' s2 hq_=>?_) λ _ _ z=>z.pre st1
 obtain⟨w,H2,I2,r2,O2,y,S2,hw,st2,ok2,rep2⟩:=hq_
 exact wpAny_mono (hw pins s2 σ H2 O2 v w u u' (I2.wish _) ok2 (rep1.mono st2) rep2 r1 r2) (λ _ _ q=>cQ (st1.trans st2) (Ey q)) %[|30]
theorem zV{W:%[|31]}(w:W [] S):tK X Γ S [] W WE:=λ _ pins s σ H O I _ st=>Calls.spliced_nil ⟨[],H,I,.nil,O,[],S,w,Step.refl O H,st,.nil⟩
theorem vy{W:%[|31]}(h:EvR X Γ S e (λ d S1=>tK X Γ S1 es (λ ds S2=>W (d::ds) S2) WE) WE)(hs:%[|79]):tK X Γ S (e::es) W WE:=by
 intro pos pins s σ H O I env st
 rw[hs]
 show wpAny _ _ (spliced ((false,eval e X.env)::%[|76])) _ _ s
 refine Calls.spliced_cons %[|58]
 obtain⟨v,H1,I1,r1,O1,x,S1,hb,st1,ok1,rep1⟩:=hq_
 exact wpAny_mono (hb pos pins s1 σ H1 O1 I1 %[|20] ok1) (λ us s2 hq_=>by obtain⟨xs,H2,I2,r2,O2,ds,S2,w,st2,ok2,rep2⟩:=hq_;exact⟨v::xs,H2,I2,.cons r1 r2,O2,x::ds,S2,w,st1.trans st2,ok2,.cons (rep1.mono st2) rep2⟩) λ _ _ z=>z.pre st1
theorem Pa{x1}(h:tK X Γ S es (λ ds S1=>%[|60]/\W (.tup ds) S1) WE):EvR X Γ S (.Tuple es x1 pos) W WE:=by
 sleep 0
 refine wpAny_Tuple_spliced (thn (h pos pins s σ H O I env st) λ us s1 hq_=>?_)
 obtain⟨xs,H1,I1,r,O1,ds,S1,⟨z,w⟩,st1,ok1,rep⟩:=hq_
 refine⟨by rw[←r.length,rep.length];exact small z,?_⟩
 have hf:H1 s1.heap.objs.size=none:=I1.hok.fresh (x9 _)
 refine⟨.ref s1.heap.objs.size,upd H1 s1.heap.objs.size (.tup xs),I1.laid (t':=s1.toks) (λ b u e=>ZC _ e) (x9 _) ?_,rfl,(iH w ok1 hf rep).pre st1⟩
 exact⟨by rw[rep.length];exact small z,us,r,⟨_,%[|34],rfl,_,rfl⟩⟩
theorem Oo{x:Str}{p:Pos}{T:String}(h:tK X Γ S (e::es) (λ ds S1=>bA X.nox (.type T) ds S1 W) WE)(hm:X.mg x=none)(hv:bootBuiltins x=some (.type T))(hg:Gl X x)(hn:x≠"__name__")(hdb:%[|55])
 (he:%[|79])(hpl:%[|76].any (·.1)=false):EvR X Γ S (.Call (.Name x p) (e::es) [] pos) W WE:=by
 sleep 0
 refine wpAny_Call_Name_kw (eG I hg hm hv ?_ hn hdb)
 refine PyProof.Rows.callWith_type1 (thn (h pos pins s σ H O I env st) λ us s1 hq_=>?_) he hpl
 obtain⟨vs,H1,I1,r1,O1,ds,S1,w,st1,ok1,rep⟩:=hq_
 exact wpAny_mono (w pins s1 σ H1 O1 vs us (I1.wish _) ok1 rep r1) (λ _ _ q=>cQ st1 (Ey q)) %[|30]
theorem Ti(h:EvR X Γ S e F.rt WE):aR X Γ S (.Return (some e) pos::sts) F WE:=by
 sleep 7
 refine wpAny_execs_cons (wpAny_Return_some (thn %[|67] λ v s1 hq=>?_))
 obtain⟨x,H1,I1,r1,q1⟩:=hq
 exact⟨x,σ,H1,I1,r1,q1⟩
theorem Tj(i:Nat){x:Str}{pos':Pos}(h:EvR X Γ S e (λ d S1=>aR X (Γ.set i (some d)) S1 sts F WE) WE)(hN:X.N.Nodup)(hi:X.N[i]? =some x)(hx:Loc X.env.scope x)
 (hs:swapsWith e (some (.Name x pos')) pos.line X.env=pure false)(hf:%[|85]):aR X Γ S (.Assign [.Name x pos'] e pos::sts) F WE:=by
 sleep 7
 refine wpAny_execs_cons (wpAny_Assign_Name (thn %[|67] λ v s1 hq=>?_) hs)
 obtain⟨y,H1,I1,r1,O1,d,S1,w,st1,ok1,rep1⟩:=hq
 refine fj I1 hN hi hx r1 (λ s2 I2=>?_) hf
 exact wpAny_mono (w pins s2 _ H1 O1 I2 (%[|20].set rep1 i) ok1) (λ _ _ q=>bQ st1 q) λ _ _ z=>z.pre st1
theorem J9{o i:Expr}{tpos:Pos}(h:EvR X Γ S e (λ d S1=>Ev X.nox Γ S1 o λ x S2=>Ev X.nox Γ S2 i λ y S3=>∃k n ds j,x=.loc k/\y=.int n/\S3[k]? =some ds/\L2.ixN ds.length n=some j/\aR X Γ (S3.set k (ds.set j d)) sts F WE) WE)
 (ha:∀v,assign (.Subscript o i tpos) X.env v=(do
  let p ←holding [v] (eval o X.env)
  let q ←holding [v,p] (eval i X.env)
  standAt tpos
  holding [v,p,q] (setItem p q v)
  release [v,p,q] []))(hs:swapsWithSole [.Subscript o i tpos] e pos.line X.env=pure false)(hw:swappedStores [.Subscript o i tpos] e X.env=pure none)
 (h1:(assignEach [.Subscript o i tpos] X.env).map (·.2)=[assign (.Subscript o i tpos) X.env]):aR X Γ S (.Assign [.Subscript o i tpos] e pos::sts) F WE:=by
 sleep 7
 refine wpAny_execs_cons (wpAny_Assign_stores (thn %[|67] λ u s1 hq_=>?_) hs hw)
 obtain⟨v,H1,I1,r1,O1,d,S1,w1,st1,ok1,rep1⟩:=hq_
 rw[h1]
 show wpAny _ _ (assign (.Subscript o i tpos) X.env u) _ _ _
 rw[ha]
 refine ZA (ZQ (wpAny_mono (w1 pins s1 σ H1 O1 (I1.wish _) %[|20] ok1) (λ ov s2 hq_=>?_) %[|30]))
 obtain⟨x,H2,I2,r2,O2,dx,S2,w2,st2,ok2,rep2⟩:=hq_
 refine ZA (ZQ (wpAny_mono (w2 pins s2 σ H2 O2 I2 (%[|20].mono st2) ok2) (λ iv s3 hq_=>?_) %[|30]))
 obtain⟨y,H3,I3,r3,O3,dy,S3,⟨k,n,ds,j,ex,ey,hk,hj,w⟩,st3,ok3,rep3⟩:=hq_
 subst ex
 subst ey
 have rx:=rep2.mono st3
 cases rx with
 | @loc p _ hp=>
   cases rep3
   obtain⟨xs,hx,q⟩:=ok3.obj k p ds hp hk
   have rd:=(rep1.mono st2).mono st3
   refine ZA (wpAny_standAt (ZA (ZQ (wpAny_mono (set_list (X:=X.nox) pins s3 σ H3 _ _ v ov iv u (λ H'=>H'=upd H3 p (.lst (xs.set j v))) I3 r2 r3 r1 ⟨p,xs,n,j,rfl,rfl,hx,by rw[q.length];exact hj,rfl⟩) (λ _ s4 hq_=>?_) %[|30]))))
   obtain⟨H4,I4,e4⟩:=hq_
   subst e4
   have stA:=((st1.trans st2).trans st3).trans (Step.put (d7 hp) (.lst (xs.set j v)))
   refine wpAny_release ?_
   exact wpAny_mono (w pins s4 σ _ O3 I4.unwish ((((%[|20].mono st2).mono st3)).mono (Step.put (d7 hp) _)) (ok3.put hp (q.set rd j))) (λ _ _ q=>bQ stA q) λ _ _ z=>z.pre stA
theorem T7{tg iter:Expr}{body:List Stmt}(hst:X.stack=X.env::X.outer)(hfr:%[|72])(hex:X.ex=[])(h:ItW X.nox Γ S tg iter λ ds S1=>∃Pv:Nat->Gam->%[|13],Pv 0 Γ S1/\
 (∀i d Γ' S',%[|33]->Pv i Γ' S'->BdW X.nox tg d Γ' S' λ Γ2 S2=>aR X Γ2 S2 body {F with nx:=Pv (i+1),ct:=Pv (i+1),bk:=λ Γ' S'=>aR X Γ' S' sts F WE} WE)/\(∀Γ' S',Pv ds.length Γ' S'->aR X Γ' S' sts F WE))
 (hc:X.calm=true)(hs:∀x,foldedSetIterable iter X.env x=pure x):aR X Γ S (.For tg iter body [] pos::sts) F WE:=by
 sleep 7
 let Y:Cx:=X.wish (XL X O H WE)
 let NX:Gam->%[|13]:=λ Γ' S'=>aR X Γ' S' sts F WE
 let WI:%[|31]:=λ ds S1=>∃Pv:Nat->Gam->%[|13],Pv 0 Γ S1/\
     (∀i d Γ' S',%[|33]->Pv i Γ' S'->BdW X.nox tg d Γ' S' λ Γ2 S2=>aR X Γ2 S2 body {F with nx:=Pv (i+1),ct:=Pv (i+1),bk:=NX} WE)/\(∀Γ' S',Pv ds.length Γ' S'->NX Γ' S')
 have hI:PI Y tg iter (λ σ H R=>∃O,%[|35]/\%[|23]/\∀J H',QI X.K O H WI J H'->R J H'):=λ pins s σ H R I hh=>by
  obtain⟨O,env,st,k⟩:=hh
  refine wpAny_mono (h pins s σ H O (I.unwish.wish _) env st) (λ _ _ q=>wpAny_mono q (λ _ _ q2=>?_) %[|30]) %[|30]
  obtain⟨it,fp,tn,J,H',e1,e2,e3,e4,e5,e6⟩:=q2
  exact⟨it,fp,tn,J,H',e1,e2.unwish.wish _,e3,e4,e5,k J H' e6⟩
 have hG:PG Y tg (λ v σ H Q=>∃O d Γ S W',%[|35]/\%[|23]/\Rep X.K O H v d/\BdW X.nox tg d Γ S W'/\∀σ' H',QN X.K O H W' σ' H'->Q σ' H'):=λ pins s σ H v u Q I ru hh=>by
  obtain⟨O,d,Γ,S,W',env,st,r,b,k⟩:=hh
  refine wpAny_mono (b pins s σ H O v u (I.unwish.wish _) env st r ru) (λ _ _ q2=>?_) %[|30]
  obtain⟨σ',H',I',q⟩:=q2
  exact⟨σ',H',I'.unwish.wish _,k σ' H' q⟩
 have hB:PSs Y body (λ D σ H'=>∃O' Γ S W',EnvOk X.K O' H' σ Γ/\StOk X.K O' H' S/\Step O O' H H'/\aR X Γ S body W' WE/\(∀σ' H2,QN X.K O' H' W'.nx σ' H2->D.nx σ' H2)/\(∀v H2,QG X.K O' H' W'.rt v H2->D.rt v H2)/\(∀σ' H2,QN X.K O' H' W'.bk σ' H2->D.bk σ' H2)/\∀σ' H2,QN X.K O' H' W'.ct σ' H2->D.ct σ' H2):=
  λ pins s σ H' D I hh=>by
   obtain⟨O',Γ,S,W',env,st,stp,b,k1,k2,k3,k4⟩:=hh
   refine wpAny_mono (b pins s σ H' O' I.unwish env st) (λ f s' q=>?_) λ e s2 z=>(z.pre stp).xl hst hfr hex
   cases f with
   | next=>obtain⟨σ',H',I',q⟩:=q;exact⟨σ',H',I'.wish _,k1 σ' H' q⟩
   | brk=>obtain⟨σ',H',I',q⟩:=q;exact⟨σ',H',I'.wish _,k3 σ' H' q⟩
   | cont=>obtain⟨σ',H',I',q⟩:=q;exact⟨σ',H',I'.wish _,k4 σ' H' q⟩
   | ret u=>obtain⟨v,σ',H',I',r,q⟩:=q;exact⟨v,σ',H',I'.wish _,r,k2 v H' q⟩
 have hp:PassesOwn (model Y.prog Y.w) Y.A Y.env Y.xe:=by
  show PassesOwn %[|9] X.A X.env (λ e s2=>XL X O H WE e s2)
  unfold XL
  exact PassesOwn.leaving (Q₁:=λ e s3=>∃E',CXE X.prog X.w X.outer X.H₀ X.s₀ E' e s3/\∀c po H',E' (.ref c) po H'->QX X.mg X.K O H WE (.ref c) po H')
 refine wpAny_execs_cons (wpAny_mono (zx (X:=Y) hp hc hI hG hB hs pins s σ H (ends X.K O H {F with nx:=NX}) (I.wish _) ⟨O,env,ok,λ J H1 q=>?_⟩) (λ f s1 q=>?_) λ e s2 z=>.inr (.inr (.inr z)))
 . obtain⟨O1,ds,S1,⟨Pv,p0,pt,pe⟩,st1,ok1,yl⟩:=q
   refine⟨λ i m σ' H'=>m=ds.length-i/\i≤ds.length/\∃O' Γ' S',Pv i Γ' S'/\Step O1 O' H1 H'/\StOk X.K O' H' S'/\EnvOk X.K O' H' σ' Γ',⟨ds.length,by simp,Nat.zero_le _,O1,Γ,S1,p0,Step.refl _ _,ok1,%[|20]⟩,?_⟩
   rintro i m σ2 H2 ⟨rfl,hi,O2,Γ2,S2,p2,st2,ok2,env2⟩
   obtain⟨y1,y2⟩:=yl O2 H2 st2.conv (λ a ha=>ok2.tracked ha) i
   by_cases hlt:i<ds.length
   . obtain⟨go,yy⟩:=y1 ds[i] (y8 hlt)
     refine .inr ⟨go,λ σ' H'=>i+1≤ds.length/\∃O' Γ' S',Pv (i+1) Γ' S'/\Step O1 O' H1 H'/\StOk X.K O' H' S'/\EnvOk X.K O' H' σ' Γ',λ σ' H' q=>⟨ds.length-(i+1),%[|1],rfl,q.1,q.2⟩,λ x H3 y=>?_⟩
     obtain⟨sm,rx⟩:=yy x H3 y
     have st3:=Step.same (O:=O2) sm
     refine⟨O2,ds[i],Γ2,S2,_,env2.mono st3,ok2.same sm,rx,pt i ds[i] Γ2 S2 (y8 hlt) p2,λ σ4 H4 q4=>?_⟩
     obtain⟨O4,Γ4,S4,w4,st4,ok4,env4⟩:=q4
     have stA:=(st2.trans st3).trans st4
     refine⟨O4,Γ4,S4,_,env4,ok4,st1.trans stA,w4,?_,?_,?_,?_⟩
     . rintro σ5 H5 ⟨O5,Γ5,S5,w5,st5,ok5,env5⟩
       exact⟨hlt,O5,Γ5,S5,w5,stA.trans st5,ok5,env5⟩
     . exact λ v H' q=>QG.pre (st1.trans stA) q
     . exact λ σ' H' q=>QN.pre (st1.trans stA) q
     . rintro σ5 H5 ⟨O5,Γ5,S5,w5,st5,ok5,env5⟩
       exact⟨hlt,O5,Γ5,S5,w5,stA.trans st5,ok5,env5⟩
   . have e:i=ds.length:=%[|1]
     subst e
     exact .inl ⟨y2 rfl,O2,Γ2,S2,pe Γ2 S2 p2,st1.trans st2,ok2,env2⟩
 . cases f with
   | next=>
     obtain⟨σ',H',I',O1,Γ1,S1,w,st1,ok1,env1⟩:=q
     exact wpAny_mono (w pins s1 σ' H' O1 I'.unwish env1 ok1) (λ _ _ q=>bQ st1 q) λ _ _ z=>z.pre st1
   | ret v=>exact q.unwish
   | brk=>exact q.unwish
   | cont=>exact q.unwish
end
end XE
set_option maxHeartbeats 4000000
namespace XE
open PySem PySem.Spec L2 DL RF
open PyProof.Rows
abbrev HX(X:Cx)(sc:Scope)(N':%[|0])(cap:%[|32])(Γ:Gam)(elt tg:Expr)(ifs:%[|12])(W:WD)(WE:WX):List D->%[|13]->%[|13]:=λ ds C0 S1=>
 %[|60]/\∃Pv:Nat->%[|31],Pv 0 [] S1/\(∀i acc S',Pv i acc S'->C0 S')/\
  (∀i d acc S',%[|33]->Pv i acc S'->∀(C:Addr)(s:Shared)(H:Hp)(ex:List Addr)(cl:List (Str×Addr)),BdW (bz X sc N' C s H ex cl) tg d (capt cap Γ) S' λ Γ2 S2=>Sub (capt cap Γ) Γ2/\
   TsA (bz X sc N' C s H ex cl) Γ2 S2 ifs λ ok S3=>(ok=true->EvX (bz X sc N' C s H ex cl) Γ2 S3 elt %[|74] WE)/\(ok=false->Pv (i+1) acc S3))/\
  ∀acc S',Pv ds.length acc S'->W (.lst acc) S'∨W (.loc S'.length) (S'++[acc])
theorem Ga {X :Cx}{WE:WX}{Γ:Gam}{S:Store}{elt tg iter:Expr}{ifs:%[|12]}{sc:Scope}{cpos:Pos}{N':%[|0]}{cap:%[|32]}{W:WD}{E:%[|16]}{pins:Pins}{s:Shared}{σ:L2.St}{H:Hp}{O:Own}
 {RR:Value->Addr->Result->Shared->Prop}
 (hx:X.xe=%[|25])(hc:X.calm=true)(hkind:sc.kind=.function)(hcell:lg sc.names=true)(hfree:∀y∈sc.names,y.2=.free->X.env.kindOf y.1=%[|19]∨X.env.kindOf y.1=some .free)
 (hcap:aN X.N X.env.scope.names N' sc.names cap N'=true)(h:ItC X Γ S tg iter (HX X sc N' cap Γ elt tg ifs W WE))(I:%[|4])(env:%[|35])(st:%[|23])
 (ferr:∀(ev:Value)(s8 s1:Shared)(H1:Hp)(E':XK)(D0 C:Addr)(m:%[|22])(env':Env),Inv X pins σ H1 s1->s1.heap.Ns C m->H1 C=none->X.s₀.heap.objs.size≤C->C∉%[|26]->env'.frame=X.env.frame->CXE X.prog X.w X.stack H1 s1 E' ev s8->(∀c po H',E' (.ref c) po H'->QX X.mg X.K O H WE (.ref c) po H')->notedBy %[|9] X.A env' (λ x s9=>RR (.ref D0) C (.error x) s9) ev s8)
 (fin:∀(s':Shared)(Hc:Hp)(D0 C:Addr)(m:%[|22]),Inv X pins σ Hc s'->s'.heap.Ns C m->cW X pins Hc C->D0≠C->QG X.K O H W (.ref D0) Hc->RR (.ref D0) C (.ok .next) s'):
 wpAny %[|9] X.A (eval iter X.env) (λ x s₁=>wpAny %[|9] X.A (pyIter x) (λ it s₂=>wpAny %[|9] X.A (newList []) (λ acc s₃=>
  wpAny %[|9] X.A (newFunctionEnv sc X.env.globals %[|64] [] X.env.qual none .none (some X.env)) (λ cenv s₄=>
   codeAny %[|9] X.A (.compStart (.ListComp elt [⟨tg,iter,ifs,0⟩] sc cpos) 0 it acc {cenv with scope:=relabel sc X.env}) (RR acc cenv.locals) s₄) E s₃) E s₂) E s₁) E s:=by
 refine thn (iJ hx %[|45]) λ xv s1 h1=>thn (iJ hx h1) λ itv s2 h2=>?_
 obtain⟨it,fp,tn,J,H2,e,I2,T,st2,f2,O2,ds,C0,S2,⟨hz,Pv,p0,pC,pt,pe⟩,stp,ok2,yl⟩:=h2
 subst e
 refine wpAny_newObj_type (Dl ?_)
 dsimp only
 have hD0:H2 s2.heap.objs.size=none:=I2.hok.fresh (x9 _)
 have hsz:%[|73].objs.size=%[|44]:=Heap.size_push ..
 rw[hsz]
 have ns0:=Heap.Ns.new %[|73] (.type "dict")
 rw[hsz]at ns0
 obtain⟨cl,hcleq⟩:∃cl,cellsFrom (%[|44]+1) sc.names %[|64]=cl:=%[|24]
 obtain⟨h₁,hh1⟩:∃h₁,pushCells (%[|73].push {cls:=.type "dict",data:=.dict #[]}) sc.names=h₁:=%[|24]
 have hns₁:h₁.Ns %[|44] (λ _=>none):=by rw[←hh1];exact ns0.keeps (pushCells_keeps _ _)
 have kp0:∀b u,%[|73].get? b=some u->h₁.get? b=some u:=λ b u e=>by rw[←hh1];exact pushCells_keeps _ _ b u (ZC _ e)
 have kp:∀b u,s2.heap.get? b=some u->h₁.get? b=some u:=λ b u e=>kp0 b u (ZC _ e)
 have hD1:h₁.get? s2.heap.objs.size=some {cls:=.type "list",data:=.seq #[] 0}:=kp0 _ _ %[|34]
 have hf:∀y∈sc.names,y.2=.free->∃c,X.env.cells.lookup y.1=some c:=λ y hy e=>I.ok.has y.1 (hfree y hy e)
 have hcl :CelsB X sc cl (s2.heap.objs.size+2) h₁:=by
  have look:∀{x c},%[|64].lookup x=some c->%[|53]:=λ{x c} h=>jz sc.names [] hf (λ c h=>by simp at h) h
  have cpy:∀x c,%[|39]=some .free->%[|53]->%[|64].lookup x=some c:=λ x c d hc=>by
   obtain⟨c2,h2⟩:=bR (env:=X.env) sc.names [] (.inr d)
   have e:=look h2
   rw[hc]at e
   cases e
   exact h2
  unfold lg at hcell
  split at hcell
  . rename_i hfl
    have e1:=(oK hfl (%[|44]+1) %[|64] s2.heap).1
    rw[hcleq]at e1
    have no:∀x,%[|39]≠%[|19]:=λ x z=>by
     have:(x,NameKind.cell)∈sc.names.filter (λ y=>y.2==.cell):=List.mem_filter.mpr ⟨PySem.mem_of_lookup z,rfl⟩
     rw[hfl]at this
     cases this
    rw[e1]
    exact⟨λ x c h=>.inl (look h),λ x hx=>hx.elim (λ z=>absurd z (no x)) λ z=>bR sc.names [] (.inr z),cpy,λ x c z=>absurd z (no x)⟩
  . rename_i y hfl
    have hy:sc.names.lookup y.1=%[|19]:=ZI hcell
    obtain⟨e1,_⟩:=ji hfl (%[|44]+1) %[|64] s2.heap
    rw[hcleq]at e1
    have e2:=(ji hfl 0 [] (%[|73].push {cls:=.type "dict",data:=.dict #[]})).2
    rw[hh1]at e2
    have e3:(%[|73].push {cls:=.type "dict",data:=.dict #[]}).objs.size=s2.heap.objs.size+2:=by rw[Heap.size_push,hsz]
    have cel:h₁.IsCell (s2.heap.objs.size+2) none:=by
     rw[e2,←e3]
     exact⟨_,%[|34],rfl⟩
    have only:∀x,%[|39]=%[|19]->x=y.1:=λ x z=>by
     have:(x,NameKind.cell)∈sc.names.filter (λ y=>y.2==.cell):=List.mem_filter.mpr ⟨PySem.mem_of_lookup z,rfl⟩
     rw[hfl]at this
     have:=ZL.mp this
     rw[←this]
    have lt0:∀{x c},%[|64].lookup x=some c->c<s2.heap.objs.size:=λ{x c} h=>by
     obtain⟨v,q⟩:=I2.cell x c (look h)
     exact q.lt
    have lk2:∀x,cl.lookup x=if x=y.1 then some (%[|44]+1)else%[|64].lookup x:=λ x=>by
     rw[e1,List.lookup_cons]
     by_cases z:x=y.1
     . subst z;simp
     . rw[if_neg z,beq_eq_false_iff_ne.mpr z]
    refine⟨λ x c h=>?_,λ x hx=>?_,λ x c d hc=>?_,λ x c z h=>?_⟩
    . rw [lk2]at h
      by_cases z:x=y.1
      . rw[if_pos z]at h
        cases h
        refine .inr ⟨rfl,by rw[z];exact hy,cel,λ u hu=>?_⟩
        rw[lk2]at hu
        by_cases z2:u=y.1
        . rw[z2,z]
        . rw[if_neg z2]at hu
          exact(Nat.lt_irrefl _ (Nat.lt_of_le_of_lt (Nat.le_add_right _ 2) (lt0 hu))).elim
      . rw[if_neg z]at h
        exact .inl (look h)
    . rw[lk2]
      by_cases z:x=y.1
      . exact⟨_,if_pos z⟩
      . rw[if_neg z]
        exact hx.elim (λ q=>absurd (only x q) z) λ q=>bR sc.names [] (.inr q)
    . rw[lk2,if_neg (λ z=>by rw[z,hy]at d;cases d)]
      exact cpy x c d hc
    . rw[lk2,if_pos (only x z)]at h
      cases h
      exact x9 _
  . cases hcell
 rw[hcleq,hh1]
 have hob:∀b∈fp,∃o,s2.heap.get? b=some o:=λ b hb=>let ⟨o,e,_⟩:=T.obj _ _ st2 b hb;⟨o,e⟩
 have I4:=Df (t:=s2.toks) (h1:=h₁) I2 f2 hob hkind hcl hfree hcap kp hD1 ⟨_,hns₁⟩
 generalize hX':bz X sc N' %[|44] s2 H2 fp cl=X' at I4
 have pt':=λ i d acc S' a b=>pt i d acc S' a b %[|44] s2 H2 fp cl
 rw[hX']at pt'
 have eP:X'.prog=X.prog:=%[|49]
 have ew:X'.w=X.w:=%[|49]
 have eK:X'.K=X.K:=%[|49]
 have eA:X'.A=X.A:=%[|49]
 have ec:X'.calm=true:=by rw[←hX'];exact hc
 have ex':X'.xe=%[|25]:=by rw[←hX'];exact hx
 have eenv:X'.env=compEnvC sc cl %[|44] X.env:=%[|49]
 have eex:X'.ex=fp:=%[|49]
 have estk:X'.stack=X.stack:=%[|49]
 have emg:X'.mg=X.mg:=%[|49]
 have eout:X'.outer=X.stack:=%[|49]
 have es0:X'.s₀=s2:=%[|49]
 have eH0:X'.H₀=H2:=%[|49]
 have epn:X'.pn=[]:=%[|49]
 have stat:∀{H':Hp},(∀b∈fp,H' b=none)->∀b∈fp,cW X' [] H' b:=λ hn b hb=>by
  refine⟨hn b hb,(I4.ok.exf b (by rw[eex];exact hb)).1,I4.ok.exfs b (by rw[eex];exact hb),.inl (by rw[eex];exact hb),(I4.ok.exf b (by rw[eex];exact hb)).2,λ p hp=>?_⟩
  rw[epn]at hp
  exact absurd hp (by simp)
 have loop : ∀s₃:Shared,s₃={s2 with heap:=h₁}->
  codeAny %[|9] X.A (.compLoop (.ListComp elt [⟨tg,iter,ifs,0⟩] sc cpos) 0 (.ref it) (.ref s2.heap.objs.size) (compEnvC sc cl %[|44] X.env))
   (RR (.ref s2.heap.objs.size) %[|44]) s₃:=by
  intro s₃ es
  rw[←eenv]
  refine codeAny_loop rfl (λ n s'=>∃i acc xs Hc Ac Sc σc,n=ds.length-i/\i≤ds.length/\Inv X' [] σc Hc s'/\tn i s'.heap/\(∀b∈fp,Hc b=none)/\Pv i acc Sc/\Hc s2.heap.objs.size=some (.lst xs)/\xs.length≤i/\
   Reps X.K %[|40] Hc xs acc/\Step O2 ⟨Ac,O2.B⟩ H2 Hc/\StOk X.K %[|40] Hc Sc/\EnvOk X.K %[|40] Hc σc (capt cap Γ)) ?_ ds.length ?_
  . rintro n s' ⟨i,acc,xs,Hc,Ac,Sc,σc,rfl,hi,Ic,stc,frc,pc,hxs,hxl,rc,sc',okc,envc⟩
    show wpAny _ _ ((compTurn (.ListComp elt [⟨tg,iter,ifs,0⟩] sc cpos) 0 (.ref it) (.ref s2.heap.objs.size) X'.env).onRaise (λ x=>do noteFrame x X'.env;theTreesLotGoes x)) _ _ s'
    refine wpAny_noted ?_
    rw[compTurn_list]
    refine ZA (wpAny_standAt (ZA ?_))
    have cv:Conv O2 %[|40] H2 Hc:=by
     refine⟨λ a u n t=>?_,sc'.conv.lc⟩
     obtain⟨x1,x2⟩:=sc'.conv.tr a u n t
     refine⟨λ z=>?_,x2⟩
     rcases z with z | z
     . exact x1 (.inl z)
     . rcases ZJ.mp z with z | z
       . subst z;rw[hD0]at t;cases t
       . exact x1 (.inr z)
    obtain⟨y1,y2⟩:=yl _ _ _ cv okc (pC _ _ _ pc) i
    by_cases hlt:i<ds.length
    . obtain ⟨go,yy⟩:=y1 ds[i] (y8 hlt)
      have it1:=T.item X' eP ew eK ec i [] s' σc Hc %[|25] Ic (stat frc) stc go
      rw[eA]at it1
      refine wpAny_mono it1 (λ r s3 hq_=>?_) %[|30]
      obtain⟨u,hr,h3⟩:=hq_
      subst hr
      refine ZA (wpAny_mono h3 (λ _ s5 hq_=>?_) %[|30])
      obtain⟨x,H5,I5,r5,y5,st5,fr5⟩:=hq_
      obtain⟨sm,rx⟩:=yy x H5 y5
      have I5':=I5.pinned (stat fr5) (T.obj _ _ st5)
      have st35:=Step.same (O:=%[|40]) sm
      have bd:=pt' i ds[i] acc Sc (y8 hlt) pc _ s5 σc H5 %[|40] x u I5' (by rw[eK];exact envc.mono st35) (by rw[eK];exact okc.same sm) (by rw[eK];exact rx) r5
      rw[eP,ew,eA]at bd
      refine ZA (wpAny_mono (iJ (E':=%[|25]) ex' bd) (λ _ s6 hq_=>?_) %[|30])
      obtain⟨σ6,H6,I6,O6,Γ6,S6,⟨sub6,w6⟩,st6,ok6,env6⟩:=hq_
      have tst:=Dr w6 I6 env6 ok6
      rw[eP,ew,eA]at tst
      refine ZA (wpAny_mono (iJ (E':=%[|25]) ex' tst) (λ ok s7 hq_=>?_) %[|30])
      obtain⟨H7,I7,O7,S7,w7,st7,ok7⟩:=hq_
      have st57:Step %[|40] O7 Hc H7:=st35.trans (st6.trans st7)
      have eB7:O7.B=%[|78]:=st57.hid
      have next:∀(s9:Shared)(H8:Hp)(O8:Own)(S8:Store)(ys:List V)(acc':List D),Step %[|40] O8 Hc H8->
       StOk X.K O8 H8 S8->EnvOk X.K O8 H8 σ6 (capt cap Γ)->Pv (i+1) acc' S8->Inv X' ([]++jO fp s5.heap) σ6 (upd H8 s2.heap.objs.size (.lst ys)) s9->Reps X.K O8 H8 ys acc'->ys.length≤i+1->
       ∃ m,m<ds.length-i/\∃i acc xs Hc Ac Sc σc,m=ds.length-i/\i≤ds.length/\Inv X' [] σc Hc s9/\tn i s9.heap/\(∀b∈fp,Hc b=none)/\Pv i acc Sc/\Hc s2.heap.objs.size=some (.lst xs)/\xs.length≤i/\
         Reps X.K %[|40] Hc xs acc/\Step O2 ⟨Ac,O2.B⟩ H2 Hc/\StOk X.K %[|40] Hc Sc/\EnvOk X.K %[|40] Hc σc (capt cap Γ):=by
       intro s9 H8 O8 S8 ys acc' st8 ok8 env8 p8 I8 r8 hl8
       have eB:O8.B=%[|78]:=st8.hid
       obtain⟨A8,B8⟩:=O8
       have eB':B8=%[|78]:=eB
       subst eB'
       have mem:s2.heap.objs.size∈(⟨A8,%[|78]⟩:Own).B:=List.mem_cons_self
       refine⟨ds.length-(i+1),%[|1],i+1,acc',ys,_,A8,S8,σ6,rfl,hlt,I8.unpinned,T.keep _ _ _ st5 λ b hb o e=>(I8.pin (b,o) (List.mem_append_right _ (List.mem_append_right _ (cP hb e)))).1,λ b hb=>?_,p8,aB,hl8,
        r8.conv (Conv.updHid mem _),sc'.inner st8 hD0 _,ok8.updHid mem _,env8.conv (Conv.updHid mem _)⟩
       obtain⟨o,e,d⟩:=T.obj _ _ st5 b hb
       exact(I8.pin (b,o) (List.mem_append_right _ (List.mem_append_right _ (cP hb e)))).2.1
      rw[eK]at ok7 env6 ok6
      have hid:∀{O':Own}{H':Hp}{S':Store},Step %[|40] O' Hc H'->H' s2.heap.objs.size=some (.lst xs):=λ st'=>
       st'.kept _ _ (λ z=>okc.apart _ z List.mem_cons_self) hxs
      cases ok with
      | false=>
        refine ZB ⟨rfl,?_⟩
        have hx7:=hid (S':=S7) st57
        have eq7:upd H7 s2.heap.objs.size (.lst xs)=H7:=by
         funext b
         by_cases hb:b=s2.heap.objs.size
         . subst hb;rw[aB];exact hx7.symm
         . exact aj hb
        exact next s7 H7 O7 S7 xs acc st57 ok7 ((env6.mono st7).sub sub6) (w7.2 rfl) (by rw[eq7];exact I7) (rc.mono st57) (Nat.le_succ_of_le hxl)
      | true =>
        have el:=w7.1 rfl _ s7 σ6 H7 O7 I7 (by rw[eK];exact env6.mono st7) (by rw[eK];exact ok7)
        rw[eP,ew,eA]at el
        refine ZA (ZA (wpAny_mono el (λ xe s8 hq_=>?_) λ ev s8 z=>?_))
        rotate_left
        . obtain⟨H1,s1,E',I1',cx,hE⟩:=z
          have un:Un %[|26] fp H2 H1 s2.heap s1.heap:=by
           have:=I1'.base
           rw[eex,eH0,es0]at this
           show Un %[|26] fp H2 H1 s2.heap s1.heap
           rw[←eout]
           exact this
          have os:s1.os=s2.os:=by
           have:=I1'.os
           rw[es0]at this
           exact this
          have hok1:HOk X.prog X.w H1 s1.heap:=by
           have:=I1'.hok
           rw[eP,ew]at this
           exact this
          have IX:Inv X pins σ H1 s1:=I2.call' os un hok1 I1'.bare (λ b hb=>⟨(f2 b hb).2.2.2.1,(f2 b hb).2.1,(f2 b hb).2.2.2.2.1,(f2 b hb).2.2.2.2.2⟩)
          obtain⟨m,hm,_⟩:=I1'.loc
          refine ferr ev s8 s1 H1 E' _ _ m X'.env IX (by rw[eenv]at hm;exact hm) (by have:=I1'.free;rw[eenv]at this;exact this) (Nat.le_succ_of_le I2.sz) (λ z=>?_) (by rw[eenv];rfl) (by rw[eP,ew,estk]at cx;exact cx) λ c po H' q=>?_
          . obtain⟨_,o,ho,_⟩:=I2.stack.mem z
            exact absurd (ZE ho) (Nat.not_lt.mpr (Nat.le_succ _))
          . obtain⟨nm,O',S',h1,h2,h3,h4⟩:=hE c po H' q
            rw[emg]at h1
            rw[eK]at h2 h4
            have stA:=st57.trans h3
            have eB:O'.B=%[|78]:=stA.hid
            obtain⟨A9,B9⟩:=O'
            have eB':B9=%[|78]:=eB
            subst eB'
            have hx9:=hid (S':=S') stA
            have equ:upd H' s2.heap.objs.size (.lst xs)=H':=by
             funext b
             by_cases hb:b=s2.heap.objs.size
             . subst hb;rw[aB];exact hx9.symm
             . exact aj hb
            have stI:=sc'.inner stA hD0 (.lst xs)
            rw[equ]at stI
            refine⟨nm,⟨A9,O2.B⟩,S',h1,?_,stp.trans stI,h4.unhide⟩
            cases po with
            | none=>exact h2
            | some dx=>
              obtain⟨p1,f,d,v,p2,p3,p4⟩:=h2
              exact⟨p1,f,d,v,p2,p3,p4.conv Conv.unhide⟩
        obtain⟨v8,H8,I8,r8,O8,y,S8,w8,st8,ok8,rep8⟩:=hq_
        rw[eK]at ok8 rep8
        have st58:=st57.trans st8
        have hx8:=hid (S':=S8) st58
        have ap:=lN (X:=X') _ s8 σ6 H8 (.ref s2.heap.objs.size) [v8] (.ref s2.heap.objs.size) [xe] (λ v H'=>H'=upd H8 s2.heap.objs.size (.lst (xs++[v8]))) I8 rfl (.cons r8 .nil)
         ⟨s2.heap.objs.size,xs,v8,rfl,rfl,hx8,Nat.lt_of_le_of_lt (Nat.le_trans hxl (Nat.le_trans hi hz)) %[|2],rfl⟩
        rw[eP,ew,eA]at ap
        refine ZA (wpAny_mono (iJ (E':=%[|25]) ex' ap) (λ _ s9 hq_=>ZB (ZB ⟨rfl,?_⟩)) %[|30])
        obtain⟨_,H9,I9,_,e9⟩:=hq_
        subst e9
        exact next s9 H8 O8 S8 (xs++[v8]) (acc++[y]) st58 ok8 (((env6.mono st7).mono st8).sub sub6) w8 I9 ((rc.mono st58).append (.cons rep8 .nil)) (by rw[List.length_append,List.length_singleton];omega)
    . have e:i=ds.length:=%[|1]
      subst e
      have dn:=T.done X' eP ew eK ec ds.length [] s' σc Hc %[|25] Ic (stat frc) stc (y2 rfl)
      rw[eA]at dn
      refine wpAny_mono dn (λ r s3 hq_=>?_) %[|30]
      obtain⟨hr,I3⟩:=hq_
      subst hr
      refine ZB ?_
      obtain⟨m,hm,_⟩:=I3.loc
      have un:Un %[|26] fp H2 Hc s2.heap s3.heap:=by
       have:=I3.base
       rw[eex,eH0,es0]at this
       show Un %[|26] fp H2 Hc s2.heap s3.heap
       rw[←eout]
       exact this
      have os:s3.os=s2.os:=by
       have:=I3.os
       rw[es0]at this
       exact this
      have hok3:HOk X.prog X.w Hc s3.heap:=by
       have:=I3.hok
       rw[eP,ew]at this
       exact this
      have IX:Inv X pins σ Hc s3:=I2.call' os un hok3 I3.bare (λ b hb=>⟨(f2 b hb).2.2.2.1,(f2 b hb).2.1,(f2 b hb).2.2.2.2.1,(f2 b hb).2.2.2.2.2⟩)
      have hCn:Hc %[|44]=none:=by
       have:=I3.free
       rw[eenv]at this
       exact this
      refine fin s3 Hc _ _ m IX (by rw[eenv]at hm;exact hm) (I2.fpOk (Nat.le_succ _) hCn) (ZN (Nat.lt_succ_self _)) ?_
      rcases pe acc Sc pc with w | w
      . refine⟨⟨Ac,O2.B⟩,.lst acc,Sc,w,stp.trans sc',okc.unhide,.lst (.inl ⟨λ z=>?_,.inl hxs⟩) (rc.conv Conv.unhide)⟩
        rcases z with z | z
        . exact okc.apart _ z List.mem_cons_self
        . exact ok2.hidden _ z hD0
      . refine⟨⟨Ac++[(s2.heap.objs.size,false)],O2.B⟩,.loc Sc.length,Sc++[acc],w,stp.trans (sc'.adopt hD0),okc.adopt (λ z=>ok2.hidden _ z hD0) hxs rc,.loc ?_⟩
        have el:Ac.length=Sc.length:=okc.len
        show(Ac++[(s2.heap.objs.size,false)])[Sc.length]? =some _
        rw[←el];simp
  . refine⟨0,[],[],upd H2 s2.heap.objs.size (.lst []),O2.A,S2,capt cap σ,rfl,Nat.zero_le _,by rw[es];exact I4,by rw[es];exact T.keep 0 s2.heap h₁ st2 λ b hb o e=>kp b o e,λ b hb=>?_,p0,aB,x9 0,.nil,Step.fresh hD0 _,ok2.hide hD0 _,((env.mono stp).capt cap).conv (Conv.hide hD0 _)⟩
    obtain⟨o,e⟩:=hob b hb
    rw[aj (ZN %[|37])]
    exact(f2 b hb).1
 exact codeAny_compStart_list (loop _ rfl) (T.self _ 0 _ _ _ (T.keep 0 s2.heap h₁ st2 λ b hb o e=>kp b o e) (loop _ rfl))
theorem GZ{base base' h h3:Heap}:∀{l:List Env},h.FunFrames base l->(∀L∈frs l,base'.get? L=none/\∀o,h.get? L=some o->(∀vs,o.data≠.fields vs)->h3.get? L=some o)->h3.FunFrames base' l
 | [],_,_=>trivial
 | env::l,⟨hk,⟨L,o,hf,hn,ho,hd⟩,hr⟩,k=>by
   have m:L∈frs (env::l):=List.mem_filterMap.mpr ⟨env,List.mem_cons_self,hf⟩
   obtain⟨k1,k2⟩:=k L m
   refine⟨hk,⟨L,o,hf,k1,k2 o ho hd,hd⟩,GZ hr λ L' h'=>k L' ?_⟩
   obtain⟨e,he,hf'⟩:=List.mem_filterMap.mp h'
   exact List.mem_filterMap.mpr ⟨e,w9 _ he,hf'⟩
section
variable {X : Cx} {Γ : Gam} {S : Store} {elt tg iter : Expr} {ifs : %[|12]} {sc : Scope} {pos : Pos}
theorem K6(N':%[|0])(cap:%[|32]){W:WD}{WE:WX}(hst:X.stack=X.env::X.outer)(hfr:%[|72])(hex:X.ex=[])(h:ItC X.nox Γ S tg iter (HX X.nox sc N' cap Γ elt tg ifs W WE))(hc:X.calm=true)(hkind:sc.kind=.function)
 (hcell:lg sc.names=true)(hfo:freeOk X.env.scope.names sc.names=true)(hnames:∀y∈sc.names,y.2=.local->sc.names.lookup y.1=some .local)(hcap:aN X.N X.env.scope.names N' sc.names cap N'=true)(hs:∀x,foldedSetIterable iter X.env x=pure x):
 EvR X Γ S (.ListComp elt [⟨tg,iter,ifs,0⟩] sc pos) W WE:=by
 sleep 0
 have hfree:∀y∈sc.names,y.2=.free->X.env.kindOf y.1=%[|19]∨X.env.kindOf y.1=some .free:=jf hfo
 have hf:∀y∈sc.names,y.2=.free->∃c,X.env.cells.lookup y.1=some c:=λ y hy e=>I.ok.has y.1 (hfree y hy e)
 rw[eval_ListComp]
 refine wpAny_comprehension_free (use:=none) (g:=⟨tg,iter,ifs,0⟩) (gs:=[]) rfl hs (gj hf) hkind hnames ?_
 refine Ga (X:=X.nox) (WE:=WE) (RR:=λ acc C=>compPost %[|9] X.A (XR X O H WE) none (EP X pins σ (QG X.K O H W)) acc C) rfl hc hkind hcell hfree hcap h (I.wish _) env st ?_ ?_
 . intro ev s8 s1 H1 E' D0 C m env' I1 hm hC hsz hCf hfe cx hE
   have I1:Inv X pins σ H1 s1:=I1.unwish
   obtain⟨a,cl,t,po,H',B,rfl,ho,hg,fl,fw,lk,hq⟩:=cx
   have hn:noteFrame (.ref a) env'=noteFrame (.ref a) X.env:=by unfold noteFrame PySem.frameOf;rw[hfe]
   show wpAny _ _ (noteFrame (.ref a) env') _ _ s8
   rw[hn]
   have hst':X.nox.stack=X.env::X.outer:=hst
   have fw':=fw
   rw[hst']at fw'
   refine wpAny_mono ((uv (.ref a) X.env).any (wpAny_looks_onW (E:=%[|25]) (Q:=λ _ s9=>∃h9,s9={s8 with heap:=h9}/\Heap.HeldW B (X.env::X.outer) a (.ref cl) (.ref t) X.env.locals h9/\s8.heap.UpToSlots h9) (I1.ok.frames.trans (by rw[hst])) hfr fw' λ h' x1 x2=>⟨h',rfl,x1,x2⟩)) (λ _ s9 z=>?_) λ _ _ z=>z.1.elim
   obtain⟨⟨h9,rfl,⟨k1,k2,k3,k4⟩,up9⟩,dk⟩:=z
   obtain⟨oC,es,ep,gC,rC⟩:=id hm
   have hCf':C∉%[|26]:=hCf
   have bC:B.get? C=some oC:=fl.keep C oC gC hC hCf
   have cC:h9.get? C=some oC:=k1 C oC bC
   refine⟨m,⟨oC,es,ep,cC,rC⟩,λ h' sb cenv _=>?_⟩
   obtain⟨oe,vs,T,oT,ts,he,⟨hcls,g0⟩,hd,g1,gn,gne,hT,gd,g3⟩:=k4
   have naC:a≠C:=λ q=>by rw[q,bC]at k2;cases k2
   have nTC:T≠C:=λ q=>by rw[q,bC]at gn;cases gn
   have at_:∀b,b≠C->h'.get? b=h9.get? b:=λ b hb=>sb.2 b hb
   have hsz3:3<ts.size:=(Array.getElem?_eq_some_iff.mp g3).1
   unfold PySem.passOn
   refine ZA (wpAny_field ((at_ a naC).trans he) hd g1 ?_)
   rw[if_neg (show ¬((Value.ref T==Value.none)=true) by simp)]
   first | refine ZA (ZB ?_) | skip
   refine ZA ?_
   unfold setFlight
   refine ZA (wpAny_field ((at_ a naC).trans he) hd g1 ?_)
   rw[if_pos (show(Value.ref T !=Value.none)=true by simp)]
   refine wpAny_setField ((at_ T nTC).trans hT) gd hsz3 ?_
   refine wpAny_throw (.inr (.inr (.inr ?_)))
   have ot:∀b,b≠T->(h'.update T (Obj.mapFields (·.setIfInBounds 3 (cenv.frame.elim .none λ f=>rawInt f)))).get? b=h'.get? b:=λ b hb=>Heap.get?_update_other _ _ λ q=>hb q.symm
   have fld:∀b o,h9.get? b=some o->(∀vs,o.data≠.fields vs)->b≠T:=λ b o hb z q=>by
    subst q
    rw[hT]at hb
    cases hb
    exact z ts gd
   have hid:∀b o,(PySem.W.hideAll B [C]).get? b=some o->b≠C/\B.get? b=some o:=λ b o q=>⟨λ z=>(by rw[z,PySem.W.hideAll_none _ (ZL.mpr rfl)]at q;cases q),PySem.W.of_hideAll _ q⟩
   have hno:∀b,B.get? b=none->(PySem.W.hideAll B [C]).get? b=none:=λ b q=>by
    cases e:(PySem.W.hideAll B [C]).get? b with
    | none=>rfl
    | some o=>rw[(hid b o e).2]at q;cases q
   refine Dk (Z:=[C]) (s2:=s8) I1 hst hfr hex (λ b hb=>by rw[ZL.mp hb];exact⟨hsz,fl.free C oC gC hC⟩) ho hg fl ⟨λ b o q=>?_,hno a k2,?_,_,oe,vs,T,_,_,(ot a gne.symm).trans ((at_ a naC).trans he),⟨hcls,g0⟩,hd,g1,hno T gn,gne,Heap.get?_update_self _ ((at_ T nTC).trans hT) (Obj.isFreed_of_fields (Obj.data_mapFields gd _)),Obj.data_mapFields gd _,by simp[hsz3];rfl⟩ (λ b o e hb=>?_) (λ dx e=>?_) (hE cl po H' hq)
   . obtain⟨q1,q2⟩:=hid b o q
     exact(ot b λ z=>by rw[z,gn]at q2;cases q2).trans ((at_ b q1).trans (k1 b o q2))
   . rw[hst]
     refine GZ k3 λ L hL=>⟨?_,λ o ho' z=>?_⟩
     . obtain⟨n,_⟩:=k3.mem hL
       exact hno L n
     . exact(ot L (fld L o ho' z)).trans ((at_ L λ q=>hCf' (by rw[hst,←q];exact hL)).trans ho')
   . obtain⟨_,o',e',d⟩:=fw.2.2.1.mem hb
     rw[e]at e'
     cases e'
     obtain⟨sl,e9⟩:=up9 b o e d
     exact⟨sl,(ot b (fld b _ e9 d)).trans ((at_ b λ q=>hCf' (by rw[←q];exact hb)).trans e9)⟩
   . obtain⟨o,e1,e2⟩:=lk dx e
     obtain⟨o',e3,e4⟩:=dk a o e1
     exact⟨o',(ot a gne.symm).trans ((at_ a naC).trans e3),e4.trans e2⟩
 . intro s' Hc D0 C m I' hm fp ne q
   refine⟨m,hm,λ h' sb=>⟨.ref D0,Hc,?_,rfl,q⟩⟩
   obtain⟨f0,f1,f2,f3,f4,f5⟩:=fp
   exact(I'.turned (t':=s'.toks) (λ b o hb e=>(sb.2 b hb).trans e) f0 f1 f3 f4 f5).unwish
end
end XE
set_option maxHeartbeats 1000000
namespace XE
open PySem PySem.Spec L2 DL RF
open PyProof.Rows
variable {Ω : Wd}
structure RX(Ω:Wd) where
 lev:Nat
 chk:Bool->%[|0]->Nm->Expr->Bool
 wp:Gam->Store->WD->WX->Prop
 sound:∀{X:Cx}{r:Nat}{top:Bool}{N:%[|0]}{nm:Nm}{e:Expr}{Γ:Gam}{S:Store}{W:WD}{WE:WX},At Ω X.nox r top N nm->lev≤r->chk top N nm e=true->wp Γ S W WE->EvR X Γ S e W WE
def RX.of(a:Ex Ω):RX Ω where
 lev:=a.lev
 chk:=a.chk
 wp Γ S W _:=a.wp Γ S W
 sound:=by
  intro X r top N nm e Γ S W WE A hl hc hw
  exact Sv (a.sound A hl hc hw)
def RX.x(a:XEx Ω):RX Ω where
 lev:=a.lev
 chk:=a.chk
 wp:=a.wp
 sound:=by
  intro X r top N nm e Γ S W WE A hl hc hw
  exact Wm (a.sound A hl hc hw)
def RX.bin(op:Operator)(a b:RX Ω):RX Ω where
 lev:=max a.lev b.lev
 chk top N nm e:=match e with | .BinOp l o r _=>(o==op)&&%[|71] | _=>false
 wp Γ S W WE:=a.wp Γ S (λ x S1=>b.wp Γ S1 (λ y S2=>Eh op x y S2 W) WE) WE
 sound:=by
  intro X r top N nm e Γ S W WE A hl hc hw
  sleep 3
  cases e with
  | BinOp l o r' pos=>
    sleep 1
    sleep 5
    have e:o=op:=%[|18]
    subst e
    exact Ox ((a.sound A l1 h2 hw).mono λ x S1 q=>(b.sound A l2 h3 q).mono λ y S2 q=>z9 q)
  | _=>exact fE hc
structure RA(Ω:Wd) where
 lev:Nat
 chk:Bool->%[|0]->Nm->%[|12]->Bool
 wp:Gam->Store->%[|31]->WX->Prop
 plain:∀{top:Bool}{N:%[|0]}{nm:Nm}{es:%[|12]},chk top N nm es=true->es.all okE=true
 sound:∀{X:Cx}{r:Nat}{top:Bool}{N:%[|0]}{nm:Nm}{es:%[|12]}{Γ:Gam}{S:Store}{W:%[|31]}{WE:WX},At Ω X.nox r top N nm->lev≤r->chk top N nm es=true->wp Γ S W WE->tK X Γ S es W WE
def RA.nil:RA Ω where
 lev:=0
 chk _ _ _ es:=es.isEmpty
 wp _ S W _:=W [] S
 plain:=by
  intro top N nm es hc
  cases es with
  | nil=>rfl
  | cons=>cases hc
 sound:=by
  intro X r top N nm es Γ S W WE A _ hc hw
  cases es with
  | nil=>exact zV hw
  | cons=>cases hc
def RA.cons(a:RX Ω)(k:RA Ω):RA Ω where
 lev:=max a.lev k.lev
 chk top N nm es:=match es with | e::es=>okE e&&(a.chk top N nm e&&k.chk top N nm es) | []=>false
 wp Γ S W WE:=a.wp Γ S (λ d S1=>k.wp Γ S1 (λ ds S2=>W (d::ds) S2) WE) WE
 plain:=by
  intro top N nm es hc
  cases es with
  | nil=>cases hc
  | cons e es=>
    sleep 1
    sleep 5
    rw[List.all_cons,h1,k.plain h3];rfl
 sound:=by
  intro X r top N nm es Γ S W WE A hl hc hw
  sleep 3
  cases es with
  | nil=>cases hc
  | cons e es=>
    sleep 1
    sleep 5
    exact vy ((a.sound A l1 h2 hw).mono λ d S1 q=>k.sound A l2 h3 q) (aH h1 _ _)
def RX.tup(as:RA Ω):RX Ω where
 lev:=as.lev
 chk top N nm e:=match e with | .Tuple es _ _=>as.chk top N nm es | _=>false
 wp Γ S W WE:=as.wp Γ S (λ ds S1=>%[|60]/\W (.tup ds) S1) WE
 sound:=by
  intro X r top N nm e Γ S W WE A hl hc hw
  cases e with
  | Tuple es k pos=>exact Pa (as.sound A hl hc hw)
  | _=>exact fE hc
def RX.typ(b:Bc)(hm:Ω.mg b.x=none)(a:RX Ω):RX Ω where
 lev:=a.lev
 chk top N nm e:=fP e λ y es=>du es λ x=>(y==b.x)&&(glb nm b.x&&(okN b.x&&(okE x&&a.chk top N nm x)))
 wp Γ S W WE:=a.wp Γ S (λ d S1=>b.wp [d] S1 W) WE
 sound:=by
  intro X r top N nm e Γ S W WE A hl hc hw
  obtain⟨y,p,es,pos,rfl,h0⟩:=bU hc
  obtain⟨x,rfl,h1⟩:=bw h0
  obtain⟨h1,h2⟩:=aa h1
  sleep 5
  obtain⟨h3,h4⟩:=aa h3
  obtain⟨h4,h5⟩:=aa h4
  have e:y=b.x:=%[|18]
  subst e
  refine Oo (vy ((a.sound A hl h5 hw).mono λ d S1 q=>zV (b.sound A.calm (A.room.mono (Nat.zero_le _)) q)) (aH h4 _ _)) (by rw[show X.mg=Ω.mg from A.g];exact hm) b.boot (A.glb h2) (aY h3).2.2 (aY h3).1 (aH h4 _ _) rfl
@[irreducible] noncomputable def CompX(cap:%[|32])(Γ:Gam)(elt:XEx Ω)(tg:Tg)(W:WD)(WE:WX)(ds:List D)(S1:Store):Prop:=
  %[|60]/\∃Pv:Nat->%[|31],Pv 0 [] S1/\
   (∀i d acc S',%[|33]->Pv i acc S'->tg.wp d (capt cap Γ) λ Γ2=>elt.wp Γ2 S' %[|74] WE)/\
   ∀acc S',Pv ds.length acc S'->W (.lst acc) S'
def Qy(N':%[|0])(cap:%[|32])(elt:XEx Ω)(tg:Tg)(it:Itb Ω)(top:Bool)(N:%[|0])(nm:Nm)(e:Expr):Bool:=match e with
 | .ListComp x gs sc _=>du gs λ g=>(g.is_async==0)&&(g.ifs.isEmpty&&((sc.kind==.function)&&(lg sc.names&&(freeOk nm sc.names&&((sc.names.all λ y=>!(y.2==.local)||(sc.names.lookup y.1==some .local))&&(aN N nm N' sc.names cap N'&&
  (okE g.iter&&((tg.slots.all λ j=>cap[j]? ==some none)&&(decide N'.Nodup&&(it.chk top N nm g.target g.iter&&(tg.chk false N' sc.names g.target&&(elt.chk false N' sc.names x&&top))))))))))))
 | _=>false
def RX.comp(N':%[|0])(cap:%[|32])(elt:XEx Ω)(tg:Tg)(it:Itb Ω):RX Ω where
 lev:=max elt.lev it.lev
 chk top N nm e:=Qy N' cap elt tg it top N nm e
 wp Γ S W WE:=it.wp Γ S λ ds S1=>CompX cap Γ elt tg W WE ds S1
 sound :=by
  intro X r top N nm e Γ S W WE A hl hc hw
  sleep 3
  cases e with
  | ListComp x gs sc pos=>
    obtain⟨⟨t,i,cs,as⟩,rfl,hc⟩:=bw hc
    obtain⟨g1,hc⟩:=aa hc
    obtain⟨g2,hc⟩:=aa hc
    obtain⟨h1,hc⟩:=aa hc
    obtain⟨h2,hc⟩:=aa hc
    obtain⟨h3,hc⟩:=aa hc
    obtain⟨h4,hc⟩:=aa hc
    obtain⟨h5,hc⟩:=aa hc
    obtain⟨h6,hc⟩:=aa hc
    obtain⟨h7,hc⟩:=aa hc
    obtain⟨h8,hc⟩:=aa hc
    obtain⟨h9,hc⟩:=aa hc
    obtain⟨h10,hc⟩:=aa hc
    obtain⟨h11,ht⟩:=aa hc
    have g1:as=0:=ZI g1
    subst g1
    have g2:cs=[]:=by cases cs with | nil=>rfl | cons=>cases g2
    subst g2
    have hk:sc.kind=.function:=%[|18]
    have nd:N'.Nodup:=ZF h8
    obtain⟨f1,f2,f3⟩:=A.fr ht
    refine K6 N' cap f1 f2 f3 (ItW.toC (ItW.mono (it.sound A l2 h9 hw) λ ds S1 q=>?_)) A.calm hk h2 (lQ A h3) (λ y hy e=>?_) (iM A h5) (gY h6 _)
    . unfold CompX at q
      obtain⟨hz,Pv,p0,pt,pe⟩:=q
      refine⟨hz,Pv,p0,λ _ _ _ _=>trivial,λ i d acc S' hd hp C s H ex cl=>?_,λ acc S' q=>.inl (pe acc S' q)⟩
      have B:=Hv A (C:=C) (s:=s) (H:=H) (ex:=ex) (cl:=cl) hk nd
      have sl:∀j∈tg.slots,(capt cap Γ)[j]? =some none:=λ j hj=>vz (by
       have:=List.all_eq_true.mp h7 j hj
       exact ZI this)
      have base:=pt i d acc S' hd hp
      have go:∀Γ2,elt.wp Γ2 S' %[|74] WE->TsA (bz X.nox sc N' C s H ex cl) Γ2 S' [] λ ok S3=>(ok=true->EvX (bz X.nox sc N' C s H ex cl) Γ2 S3 x %[|74] WE)/\(ok=false->Pv (i+1) acc S3):=by
       intro Γ2 q
       exact⟨λ _=>elt.sound (X:=bz X.nox sc N' C s H ex cl) B l1 h11 q,λ z=>by cases z⟩
      refine Tg.sound B (W:=λ Γ2 S2=>Sub (capt cap Γ) Γ2/\TsA (bz X.nox sc N' C s H ex cl) Γ2 S2 [] λ ok S3=>(ok=true->EvX (bz X.nox sc N' C s H ex cl) Γ2 S3 x %[|74] WE)/\(ok=false->Pv (i+1) acc S3)) h10 ?_
      cases tg with
      | nm j=>exact⟨(Sub.refl _).set j _ (sl j (by simp[Tg.slots])),go _ base⟩
      | tup is=>
        cases d with
        | tup es=>exact⟨base.1,Sub.setAll (Sub.refl _) sl,go _ base.2⟩
        | _=>exact base.elim
    . have:=List.all_eq_true.mp h4 y hy
      simpa[e]using this
  | _=>exact fE hc
theorem cmx_enc{cap:%[|32]}{Γ:Gam}{elt:XEx Ω}{tg:Tg}{W:WD}{WE:WX}{S1:Store}{α:Type}{xs:List α}{enc:α->D}(f:α->D)(g:α->Bool)(n:Str)(hz:xs.length≤1000000)
 (h:∀(i:Nat)(x:α),xs[i]? =some x->∀(Q:WD)(QE:WX),(g x=true->Q (f x) S1)->(g x=false->QE n S1)->tg.wp (enc x) (capt cap Γ) λ Γ2=>elt.wp Γ2 S1 Q QE)
 (w:xs.all g=true->W (.lst (xs.map f)) S1)(we:xs.all g=false->WE n S1):CompX cap Γ elt tg W WE (xs.map enc) S1:=by
 unfold CompX
 refine⟨by rw[x6];exact hz,λ i acc S'=>acc=(xs.take i).map f/\S'=S1/\(xs.take i).all g=true,⟨rfl,rfl,rfl⟩,?_,?_⟩
 . rintro i d acc S' hd ⟨rfl,rfl,ha⟩
   obtain⟨x,hx,rfl⟩:=jN hd
   refine h i x hx _ _ (λ hg=>⟨?_,rfl,?_⟩) λ hg=>we ?_
   . rw[bO hx,List.map_append];rfl
   . rw[bO hx,List.all_append,ha]
     show(true&&(g x&&true))=true
     rw[hg];rfl
   . cases e:xs.all g with
     | false=>rfl
     | true=>rw[List.all_eq_true.mp e x (y9 hx)]at hg;cases hg
 . rintro acc S' ⟨rfl,rfl,ha⟩
   rw[x6,List.take_length]at ha ⊢
   exact w ha
def BX.rret(a:RX Ω):BX Ω where
 lev:=a.lev
 chk top N nm sts:=match sts with | .Return (some e) _::_=>a.chk top N nm e | _=>false
 wp Γ S W WE:=a.wp Γ S W.rt WE
 sound:=by
  sleep 8
  split at hc
  . exact Ti (a.sound A hl hc hw)
  . exact fE hc
def BX.rset(i:Nat)(a:RX Ω)(rest:BX Ω):BX Ω where
 lev:=max a.lev rest.lev
 chk top N nm sts:=match sts with | []=>false | st::sts=>setB st λ m e=>(N[i]? ==some m)&&(lcl top nm m&&(noC e&&(a.chk top N nm e&&rest.chk top N nm sts)))
 wp Γ S W WE:=a.wp Γ S (λ d S1=>rest.wp (Γ.set i (some d)) S1 W WE) WE
 sound:=by
  sleep 8
  obtain⟨q1,q2⟩:=lv2 hl
  cases sts with
  | nil=>exact fE hc
  | cons st sts=>
    obtain⟨m,mp,e,sp,rfl,hc_1⟩:=tV hc
    obtain⟨h1,hc⟩:=aa hc_1
    obtain⟨h2,hc⟩:=aa hc
    obtain⟨h3,hc⟩:=aa hc
    obtain⟨h4,h5⟩:=aa hc
    obtain⟨l1,l2⟩:=A.lcl h2
    exact Tj i ((a.sound A q1 h4 hw).mono λ d S1 q=>rest.sound A q2 h5 q) (by rw[show X.N=N from A.n];exact A.nd) (by rw[show X.N=N from A.n];exact %[|18]) l1 (kW h3 _ _ _) l2
def BX.rsetIx(o i:Ex Ω)(a:RX Ω)(rest:BX Ω):BX Ω where
 lev:=max (max a.lev rest.lev) (max o.lev i.lev)
 chk top N nm sts:=match sts with | .Assign [.Subscript x y _] e _::sts=>noC e&&(okE y&&(a.chk top N nm e&&(o.chk top N nm x&&(i.chk top N nm y&&rest.chk top N nm sts)))) | _=>false
 wp Γ S W WE:=a.wp Γ S (λ d S1=>o.wp Γ S1 λ x S2=>i.wp Γ S2 λ y S3=>∃k n ds j,x=.loc k/\y=.int n/\S3[k]? =some ds/\L2.ixN ds.length n=some j/\rest.wp Γ (S3.set k (ds.set j d)) W WE) WE
 sound:=by
  sleep 8
  sleep 3
  obtain⟨l1,l4⟩:=lv2 l1
  obtain⟨l2,l3⟩:=lv2 l2
  split at hc
  . rename_i x y p e spos sts
    obtain⟨h1,hc⟩:=aa hc
    obtain⟨h2,hc⟩:=aa hc
    obtain⟨h3,hc⟩:=aa hc
    obtain⟨h4,hc⟩:=aa hc
    obtain⟨h5,h6⟩:=aa hc
    refine J9 ((a.sound A l1 h3 hw).mono λ d S1 q=>(o.sound A l2 h4 q).mono λ x S2 q=>(i.sound A l3 h5 q).mono λ y S3 q=>?_) ?_ (mH h1 _ _ _) rfl rfl
    . obtain⟨k,n,ds,j,g1,g2,g3,g4,g5⟩:=q
      exact⟨k,n,ds,j,g1,g2,g3,g4,rest.sound A l4 h6 g5⟩
    . intro v
      cases y<;>first | rfl | exact(x5 h2).elim
  . exact fE hc
@[irreducible] noncomputable def Ed(Γ:Gam)(tg:Tg)(body rest:BX Ω)(W:DL.Fin)(WE:WX)(ds:List D)(S1:Store):Prop:=
  ∃Pv:Nat->Gam->%[|13],Pv 0 Γ S1/\(∀i d Γ' S',%[|33]->Pv i Γ' S'->tg.wp d Γ' λ Γ2=>body.wp Γ2 S' {W with nx:=Pv (i+1),ct:=Pv (i+1),bk:=λ Γ' S'=>rest.wp Γ' S' W WE} WE)/\(∀Γ' S',Pv ds.length Γ' S'->rest.wp Γ' S' W WE)
theorem forX_by{Γ:Gam}{tg:Tg}{body rest:BX Ω}{W:DL.Fin}{WE:WX}{ds:List D}{S1:Store}(h:∃Pv:Nat->Gam->%[|13],Pv 0 Γ S1/\(∀i d Γ' S',%[|33]->Pv i Γ' S'->tg.wp d Γ' λ Γ2=>body.wp Γ2 S' {W with nx:=Pv (i+1),ct:=Pv (i+1),bk:=λ Γ' S'=>rest.wp Γ' S' W WE} WE)/\(∀Γ' S',Pv ds.length Γ' S'->rest.wp Γ' S' W WE)):Ed Γ tg body rest W WE ds S1:=by unfold Ed;exact h
def BX.rfor(tg:Tg)(it:Itb Ω)(body rest:BX Ω):BX Ω where
 lev:=max it.lev (max body.lev rest.lev)
 chk top N nm sts:=match sts with | .For t i b [] _::sts=>okE i&&(tg.chk top N nm t&&(it.chk top N nm t i&&(body.chk top N nm b&&(rest.chk top N nm sts&&top)))) | _=>false
 wp Γ S W WE:=it.wp Γ S λ ds S1=>Ed Γ tg body rest W WE ds S1
 sound:=by
  sleep 8
  sleep 3
  obtain⟨l2,l3⟩:=lv2 l2
  split at hc
  . rename_i t i b p sts
    obtain⟨h1,hc⟩:=aa hc
    obtain⟨h2,hc⟩:=aa hc
    obtain⟨h3,hc⟩:=aa hc
    obtain⟨h4,hc⟩:=aa hc
    obtain⟨h5,ht⟩:=aa hc
    obtain⟨f1,f2,f3⟩:=A.fr ht
    refine T7 f1 f2 f3 (ItW.mono (it.sound A l1 h3 hw) λ ds S1 q=>?_) A.calm (gY h1 _)
    unfold Ed at q
    obtain⟨Pv,p0,pt,pe⟩:=q
    refine⟨Pv,p0,λ i d Γ' S' hd hp=>Tg.sound A h2 (Tg.mono (pt i d Γ' S' hd hp) λ Γ2 q=>?_),λ Γ' S' hp=>rest.sound A l3 h5 (pe Γ' S' hp)⟩
    sleep 7
    refine wpAny_mono (body.sound A l2 h4 q pins s σ H O I env ok) (λ f s1 q=>?_) λ _ _ z=>z
    cases f with
    | next=>exact q
    | ret v=>exact q
    | brk=>
      obtain⟨σ',H',I',O1,Γ1,S1,w,st1,ok1,env1⟩:=q
      exact⟨σ',H',I',O1,Γ1,S1,rest.sound A l3 h5 w,st1,ok1,env1⟩
    | cont=>exact q
  . exact fE hc
def BX.rse{x:Str}(ex:Exc Ω x):BX Ω where
 lev:=0
 chk top N nm sts:=match sts with
  | []=>false
  | st::_=>anB (rsV st) λ u=>u.2&&anB u.1 λ v=>fP v λ y es=>du es λ m=>GF m&&((y==x)&&(glb nm x&&okN x))
 wp Γ S W WE:=WE x S
 sound:=by
  sleep 8
  cases sts with
  | nil=>exact fE hc
  | cons st sts=>
    obtain⟨⟨v,vb⟩,g4,hc_4⟩:=bc hc
    obtain⟨g5,hc_5⟩:=aa hc_4
    obtain⟨v',g6,hc_6⟩:=bc hc_5
    obtain⟨y,np,es,cp,rfl,hc_7⟩:=bU hc_6
    obtain⟨m,rfl,hc_8⟩:=bw hc_7
    obtain⟨g7,hc_9⟩:=aa hc_8
    obtain⟨m',j,cp0,rfl⟩:=CV g7
    have g5:vb=true:=g5
    have g6:v=some (.Call (.Name y np) [.Constant (.str m') j cp0] [] cp):=g6
    subst g5 g6
    obtain⟨rp,rfl⟩:=Jz g4
    obtain⟨h1,hc⟩:=aa hc_9
    obtain⟨h2,h3⟩:=aa hc
    have e:y=x:=%[|18]
    subst e
    obtain⟨C,hm,hx,_⟩:=ex
    sleep 7
    exact wpAny_execs_cons (wpAny_mono (Ea (Q:=%[|25]) (C:=C) (by rw[show X.mg=Ω.mg from A.g];exact hm) (by rw[show X.K=Ω.K from A.k];exact hx) A.calm (cL (Aq (gW ⟨rfl,hw⟩)) rfl) (A.glb h2) (aY h3).1 rfl I env ok) %[|30] λ _ _ z=>z)
def K7(L:%[|0])(n:Nat)(WE:WX):WX:=λ nm S1=>WE nm S1∨(nm∈L/\∃J S',S1=S'++J/\n≤S'.length/\flat S'/\WE nm S')
theorem QX.drp{L T:%[|0]}{mg:%[|22]}{K:PySem.W.Frag}{O:Own}{H H':Hp}{WE:WX}{c:Value}{po:Option Addr}{n:Nat}(E:ExF mg K L T)(hn:O.A.length=n)(q:QX mg K O H (K7 L n WE) c po H'):QX mg K O H WE c po H':=by
 obtain⟨nm,O',S',h1,h2,h3,h4⟩:=q
 cases po with
 | none=>
   obtain⟨w,hx⟩:=h2
   rcases w with w | ⟨_,J,S0,rfl,hl,hS,w⟩
   . exact⟨nm,O',S',h1,⟨w,hx⟩,h3,h4⟩
   . obtain⟨st2,ok2,_,_⟩:=ou h3 h4 %[|1] hS
     exact⟨nm,_,S0,h1,⟨w,hx⟩,st2,ok2⟩
 | some dx=>
   obtain⟨hx,f,d,v,w,h5⟩:=h2
   rcases w with w | ⟨hm,_⟩
   . exact⟨nm,O',S',h1,⟨hx,f,d,v,w,h5⟩,h3,h4⟩
   . obtain⟨C,g1,g2,_⟩:=E.cls nm hm
     rw[h1]at g1
     rw[hx C (Option.some.inj g1)]at g2
     cases g2
theorem XR.drp{X:Cx}{L T:%[|0]}{O:Own}{H:Hp}{WE:WX}{e:Value}{s2:Shared}{n:Nat}(E:ExF X.mg X.K L T)(hn:O.A.length=n)(h:XR X O H (K7 L n WE) e s2):XR X O H WE e s2:=by
 rcases h with⟨pins,σ,H2,s1,a,C,vs,h1,h2,h3,h4,h5,h6⟩ | ⟨pins,σ,H2,s1,E',h1,h2,h3⟩ | ⟨pins,σ,H2,a,C,t,dx,h1,h2,h3,h4,h5⟩ | h
 . exact .inl ⟨pins,σ,H2,s1,a,C,vs,h1,h2,h3,h4,h5,h6.drp E hn⟩
 . exact .inr (.inl ⟨pins,σ,H2,s1,E',h1,h2,λ c po H' z=>(h3 c po H' z).drp E hn⟩)
 . exact .inr (.inr (.inl ⟨pins,σ,H2,a,C,t,dx,h1,h2,h3,h4,h5.drp E hn⟩))
 . refine .inr (.inr (.inr (wpAny_mono h (λ _ s3 z=>?_) λ _ _ z=>z)))
   obtain⟨E',h1,h2⟩:=z
   exact⟨E',h1,λ c po H' q=>(h2 c po H' q).drp E hn⟩
def BX.drp{L T:%[|0]}(E:ExF Ω.mg Ω.K L T)(b:BX Ω):BX Ω where
 lev:=b.lev
 chk:=b.chk
 wp Γ S W WE:=b.wp Γ S {W with rt:=Drp S.length W.rt} (K7 L S.length WE)
 sound:=by
  intro X r top N nm sts Γ S W WE A hl hc hw pins s σ H O I env ok
  have E':ExF X.mg X.K L T:=by rw[show X.mg=Ω.mg from A.g,show X.K=Ω.K from A.k];exact E
  refine wpAny_mono (b.sound A hl hc hw pins s σ H O I env ok) (λ f s' q=>?_) λ _ _ z=>z.drp E' ok.len
  cases f with
  | next=>exact q
  | brk=>exact q
  | cont=>exact q
  | ret u=>obtain⟨v,σ',H',I',r,q⟩:=q;exact⟨v,σ',H',I',r,QG.drp ok.len q⟩
end XE
namespace XE
open PySem PySem.Spec L2 DL RF
open PyProof.Rows
theorem qM{e:Value->Bool}{f:D->Bool}:∀{its:%[|11]}{ds:List D},its.length=ds.length->(∀(i:Nat)(y:Value)(d:D),its[i]? =some y->%[|33]->e y=f d)->its.countP e=ds.countP f
 | [],[],_,_=>rfl
 | [],_::_,h,_=>by cases h
 | _::_,[],h,_=>by cases h
 | y::its,d::ds,h,k=>by
   rw[List.countP_cons,List.countP_cons,k 0 y d rfl rfl,qM (its:=its) (ds:=ds) (Nat.succ.inj h) λ i y d h1 h2=>k (i+1) y d h1 h2]
section
variable {X : Cx}
def Tt(X:Cx):V->List V->Hp->VK->Prop:=λ x vs H Q=>∃(w:V) (d:D) (ds:List D),vs=[w]/\Sn X.K H x (.lst ds)/\Sn X.K H w d/\aM ds≤50/\Q (.int (ds.countP λ y=>eqD y d:Nat)) H
theorem JW(hu:X.A.units+60<cLine):MtM X "list.count" (Tt X):=by
 intro pins s σ H x vs v us Q I rx rv h
 obtain⟨w,d,ds,rfl,sx,sd,h3,q⟩:=h
 obtain⟨u,rfl,ru⟩:=rv.one
 obtain⟨l,its,e,rfl,pl,hlen,hz,he,hat⟩:=Ni hu I sd sx ru rx h3
 obtain⟨⟨cls,dd,data,sl⟩,n,ho,hc,hd,hs⟩:=pl
 simp only at hc hd hs
 subst hc hd hs
 have hcnt:its.countP e=ds.countP λ y=>eqD y d:=qM hlen hat
 refine call_meets PySem.F.slot_list_count ⟨_,ho,rfl⟩ PySem.F.entry_list_count (PySem.F.args_list_count_2 _ _) (SeqAt.list_countAt l its.toArray n _ sl u e) ⟨ho,he,⟨.int _,H,I.tok _,%[|24],?_⟩⟩
 rw[←hcnt]at q
 exact q
end
def pL:Stmt->Option (Str×Expr)
 | .Assign [.Name x _] e _=>some (x,e)
 | _=>none
theorem uX{st:Stmt}{x:Str}{e:Expr}(h:pL st=some (x,e)):∃p q,st=.Assign [.Name x p] e q:=by
 unfold pL at h
 split at h
 . cases h;exact⟨_,_,rfl⟩
 . cases h
def Kh:Expr->Option Expr
 | .Compare a [.NotEq] [.Constant (.int 1) _ _] _=>some a
 | _=>none
theorem PN{e a:Expr}(h:Kh e=some a):∃k p q,e=.Compare a [.NotEq] [.Constant (.int 1) k p] q:=by
 unfold Kh at h
 split at h
 . cases h;exact⟨_,_,_,rfl⟩
 . cases h
def yc:Expr->Option (Str×Str×Bool)
 | .Call (.Attribute (.Name x _) m p) [.Constant (.bool true) _ _] [] q=>some (x,m,p.endLine==q.line)
 | _=>none
theorem zX{e:Expr}{x m:Str}(h:yc e=some (x,m,true)):∃p1 p k p2 q,e=.Call (.Attribute (.Name x p1) m p) [.Constant (.bool true) k p2] [] q/\(p.endLine==q.line)=true:=by
 unfold yc at h
 split at h
 . rename_i a b c d f g i
   have h:=Option.some.inj h
   obtain⟨h1,h2⟩:=Prod.mk.inj h
   obtain⟨h2,h3⟩:=Prod.mk.inj h2
   subst h1 h2
   exact⟨_,_,_,_,_,rfl,h3⟩
 . cases h
structure Mk3 where
 m:Str
 y1:Str
 y2:Str
 y3:Str
 so:Oc
 o1:Oc
 o2:Oc
 o3:Oc
def Mk3.chk1(k:Mk3)(n:Str)(st:Stmt):Bool:=match pL st with
 | some (x,e)=>(x==k.m)&&(match Gw e with | some [a,b,c]=>isV n k.y1 a&&(isV n k.y2 b&&isV n k.y3 c) | _=>false)
 | none=>false
def Mk3.chk2(k:Mk3)(st:Stmt):Bool:=match ifV st with
 | some (e,[r])=>(match zL r with | some c=>k.so.chk c | none=>false)&&(match Kh e with | some a=>yc a==some (k.m,Str.ofString "count",true) | none=>false)
 | _=>false
def Mk3.chk3(k:Mk3)(st:Stmt):Bool:=match (zL st).bind subV with
 | some (a,b)=>(match Gw a with | some [c1,c2,c3]=>(k.o1.chk c1&&okE c1)&&((k.o2.chk c2&&okE c2)&&(k.o3.chk c3&&okE c3)) | _=>false)&&(yc b==some (k.m,Str.ofString "index",true))
 | none=>false
def Mk3.out(k:Mk3)(q:Str->Bool):Oc:=match q k.y1,q k.y2,q k.y3 with
 | true,false,false=>k.o1
 | false,true,false=>k.o2
 | false,false,true=>k.o3
 | _,_,_=>k.so
section
variable {Y : Cx} {n : Str} {i : Nat} {a C : Addr} {po : Option Addr} {q : Str -> Bool} {pins : Pins} {s : Shared} {σ : L2.St} {H : Hp}
theorem Bg{K:PySem.W.Frag}{H:Hp}{p:Addr}{b1 b2 b3:Bool}(h:H p=some (.lst [.bl b1,.bl b2,.bl b3])):Sn K H (.ref p) (.lst [.bl b1,.bl b2,.bl b3]):=.lst (SqL.of h) (.cons (.bl _) (.cons (.bl _) (.cons (.bl _) .nil)))
theorem Iw{k:Mk3}{st1 st2 st3:Stmt}{j:Nat}(hu:Y.A.units+60<cLine)(sx:Sx Y n i C q)(hs:σ[i]? =some (some (.ref a)))(hN:Y.N.Nodup)(hj:Y.N[j]? =some k.m)(hl:Y.env.scope.names.lookup k.m=some .local)(d1:(k.m==("__debug__":Str))=false)(d2:(k.m==("__classdict__":Str))=false)
 (c1:k.chk1 n st1=true)(c2:k.chk2 st2=true)(c3:k.chk3 st3=true)(h1:Ans Y C k.y1 (q k.y1))(h2:Ans Y C k.y2 (q k.y2))(h3:Ans Y C k.y3 (q k.y3))(ha:H a=some (.ext (bK a C po)))(I:Inv Y pins σ H s):
 wpAny (model Y.prog Y.w) Y.A (execs [st1,st2,st3] Y.env) (λ f s'=>∃σ' H',Inv Y pins σ' H' s'/\aQ H H'/\∃u,f=.ret u/\RelV (k.out q).v u) Y.xe s:=by
 unfold Mk3.chk1 at c1
 split at c1
 case h_2=>cases c1
 rename_i x e he
 obtain⟨cx,c1⟩:=aa c1
 split at c1
 case h_2=>cases c1
 rename_i e1 e2 e3 hl3
 obtain⟨v1,c1⟩:=aa c1
 obtain⟨v2,v3⟩:=aa c1
 obtain⟨p1,p2,rfl⟩:=uX he
 obtain⟨p3,rfl⟩:=DN hl3
 obtain rfl:=ZI cx
 obtain⟨a1,a2,a3,a4,rfl⟩:=jR v1
 obtain⟨b1,b2,b3,b4,rfl⟩:=jR v2
 obtain⟨f1,f2,f3,f4,rfl⟩:=jR v3
 have P1:=Hm (pos:=p3) (aP (yQ (a:=a) (po:=po) (p1:=a1) (p2:=a2) (p3:=a3) (pos:=a4) sx h1) (aP (yQ (a:=a) (po:=po) (p1:=b1) (p2:=b2) (p3:=b3) (pos:=b4) sx h2) (aP (yQ (a:=a) (po:=po) (p1:=f1) (p2:=f2) (p3:=f3) (pos:=f4) sx h3) cH)))
 have hjσ:j<σ.length:=by rw[I.len];exact(z0.mp hj).1
 have S1:=RK (pos:=p2) (pos':=p1) hN hj (.inl hl) P1 rfl (.inr hl) pins s σ H {nx:=λ σ' H'=>∃p,σ'=σ.set j (some (.ref p))/\aQ H H'/\H' p=some (.lst [.bl (q k.y1),.bl (q k.y2),.bl (q k.y3)]),rt:=%[|25]} I
  ⟨hs,ha,λ H1 m1=>⟨hs,m1 _ _ ha,λ H2 m2=>⟨hs,m2 _ _ (m1 _ _ ha),λ H3 m3=>⟨by show 3≤sizeLine;decide,λ p hp=>⟨p,rfl,bh (bh (bh m1 m2) m3) (aQ.fresh hp _),aB⟩⟩⟩⟩⟩
 refine wpAny_execs_cons (thn S1 λ f s1 z=>?_)
 cases f with
 | ret v=>obtain⟨_,_,_,_,_,z⟩:=z;exact z.elim
 | brk=>obtain⟨_,_,_,z⟩:=z;exact z.elim
 | cont=>obtain⟨_,_,_,z⟩:=z;exact z.elim
 | next=>
 obtain⟨_,H1,I1,p,rfl,sm,hp⟩:=z
 have hσ:(σ.set j (some (V.ref p)))[j]? =some (some (.ref p)):=List.getElem?_set_self hjσ
 have ty:tyV Y.K "list" (.ref p) H1:=.inl ⟨rfl,_,SqL.of hp⟩
 have sn:=Bg (K:=Y.K) hp
 have vj:Vis Y.env.scope k.m:=.inl hl
 unfold Mk3.out
 generalize q k.y1=x1 at*
 generalize q k.y2=x2 at*
 generalize q k.y3=x3 at*
 have last:∀(jj:Nat)(o:Oc),([D.bl x1,.bl x2,.bl x3])[jj]? =some (.bl true)->(∀(m:Nat)(z:D),m<jj->([D.bl x1,.bl x2,.bl x3])[m]? =some z->eqD z (.bl true)=false)->([k.o1,k.o2,k.o3])[jj]? =some o->∀s2,Inv Y pins (σ.set j (some (.ref p))) H1 s2->wpAny (model Y.prog Y.w) Y.A (execs [st3] Y.env) (λ f s'=>∃σ' H',Inv Y pins σ' H' s'/\aQ H H'/\∃u,f=.ret u/\RelV o.v u) Y.xe s2:=by
  intro jj o g1 g2 g3 s2 I2
  unfold Mk3.chk3 at c3
  split at c3
  case h_2=>cases c3
  rename_i a' b' hv
  obtain⟨e0,hr,hv⟩:=Option.bind_eq_some_iff.mp hv
  obtain⟨p7,rfl⟩:=vd hr
  obtain⟨p6,rfl⟩:=N5 hv
  obtain⟨c3,ci⟩:=aa c3
  obtain⟨q1,q2,q3,q4,q5,rfl,hline⟩:=zX (ZI ci)
  split at c3
  case h_2=>cases c3
  rename_i w1 w2 w3 hw
  obtain⟨lp,rfl⟩:=DN hw
  obtain⟨g4,c3⟩:=aa c3
  obtain⟨g5,g6⟩:=aa c3
  obtain⟨g4,k4⟩:=aa g4
  obtain⟨g5,k5⟩:=aa g5
  obtain⟨g6,k6⟩:=aa g6
  have P1:PE Y (.List [w1,w2,w3] lp) _:=Hm (aP (Oc.pe k.o1 w1 g4) (aP (Oc.pe k.o2 w2 g5) (aP (Oc.pe k.o3 w3 g6) cH (aH k6 [] _)) (aH k5 [w3] _)) (aH k4 [w2,w3] _))
  have P2:=rD (T:="list") (apos:=q2) (cpos:=q5) PySem.F.plainAttrs_list PySem.F.slot_list_index PySem.F.type_list_index (Lr hu) (mz (pos:=q1) hj vj d1 d2) (aP (yj (b:=true) (j:=q3) (pos:=q4)) cH) rfl rfl hline rfl rfl
  have P3:=VL (pos:=p6) (uD (X:=Y)) P1 P2 (pB rfl)
  refine wpAny_execs_cons (wpAny_Return_some (thn (P3 pins s2 _ H1 (λ v H'=>v=o.v/\aQ H1 H') I2 ?_) λ u s3 ⟨v,H2,I3,r,e1,e2⟩=>⟨_,H2,I3,bh sm e2,u,rfl,by rw[←e1];exact r⟩))
  refine⟨by show 3≤sizeLine;decide,λ pp hpp=>?_⟩
  have hp2:upd H1 pp (.lst [k.o1.v,k.o2.v,k.o3.v]) p=some (.lst [.bl x1,.bl x2,.bl x3]):=by rw[aj (aC hp hpp)];exact hp
  refine⟨_,hσ,.inl ⟨rfl,_,SqL.of hp2⟩,.bl true,.bl true,[.bl x1,.bl x2,.bl x3],jj,_,rfl,Bg hp2,.bl true,by simp[aM,deep],g1,rfl,g2,?_⟩
  refine⟨pp,[k.o1.v,k.o2.v,k.o3.v],jj,o.v,rfl,rfl,SqL.of aB,?_,rfl,aQ.fresh hpp _⟩
  match jj,g3 with
  | 0,g3=>cases g3;rfl
  | 1,g3=>cases g3;rfl
  | 2,g3=>cases g3;rfl
  | _+3,g3=>cases g3
 have mid:∀(cnt:Nat)(R:Flow->Shared->Prop),([D.bl x1,.bl x2,.bl x3].countP λ y=>eqD y (.bl true))=cnt->(cnt≠1->∀u s3,Inv Y pins (σ.set j (some (.ref p))) H1 s3->RelV k.so.v u->R (.ret u) s3)->(cnt=1->∀s3,Inv Y pins (σ.set j (some (.ref p))) H1 s3->wpAny (model Y.prog Y.w) Y.A (execs [st3] Y.env) R Y.xe s3)->wpAny (model Y.prog Y.w) Y.A (execs [st2,st3] Y.env) R Y.xe s1:=by
  intro cnt R hcnt bad good
  unfold Mk3.chk2 at c2
  split at c2
  case h_2=>cases c2
  rename_i e r hv
  obtain⟨p7,rfl⟩:=Jq hv
  obtain⟨cr,ce⟩:=aa c2
  split at cr
  case h_2=>cases cr
  rename_i c hr
  obtain⟨rp,rfl⟩:=vd hr
  split at ce
  case h_2=>cases ce
  rename_i a' hn
  obtain⟨k1,k2,k3,rfl⟩:=PN hn
  obtain⟨q1,q2,q3,q4,q5,rfl,hline⟩:=zX (ZI ce)
  have Pc:=rD (T:="list") (apos:=q2) (cpos:=q5) PySem.F.plainAttrs_list PySem.F.slot_list_count PySem.F.type_list_count (JW hu) (mz (pos:=q1) hj vj d1 d2) (aP (yj (b:=true) (j:=q3) (pos:=q4)) cH) rfl rfl hline rfl rfl
  refine wpAny_execs_cons (wpAny_If (thn (Q:=TP Y pins (σ.set j (some (.ref p))) λ b H'=>b=(!decide (cnt=1))/\H'=H1) (wpAny_isTrue_Compare1 (thn (Pc pins s1 _ H1 (λ v H'=>v=.int (cnt:Nat)/\H'=H1) I1 ⟨_,hσ,ty,.bl true,.bl true,[.bl x1,.bl x2,.bl x3],rfl,sn,.bl true,by simp[aM,deep],by rw[hcnt],rfl⟩) λ u s2 hq_=>?_) (cB rfl)) λ kk s3 hq_=>?_))
  . obtain⟨v,H2,I2,r,rfl,eH⟩:=hq_
    subst eH
    refine thn (Hk (X:=Y) (i:=1) (j:=k1) (pos:=k2) pins s2 _ H2 (λ v H'=>v=.int 1/\H'=H2) I2 ⟨rfl,rfl⟩) λ u' s3 hq_=>?_
    obtain⟨v,H3,I3,r',rfl,eH⟩:=hq_
    subst eH
    refine thn (GR pins s3 _ H3 (.int (cnt:Nat)) (.int 1) _ _ (λ v H'=>v=.bl (!decide (cnt=1))/\H'=H3) I3 r r' ⟨rfl,?_,rfl⟩) λ w s4 hq_=>?_
    . have:decide (V.int (cnt:Nat)=V.int 1)=decide (cnt=1):=by
       by_cases h:cnt=1
       . subst h;rfl
       . rw[ZH h]
         exact ZH λ z=>h (by have:=V.int.inj z;omega)
      rw[this]
    . obtain⟨v,H4,I4,r,rfl,eH⟩:=hq_
      subst eH
      cases r
      exact wpAny_truthy_bool ⟨_,I4,rfl,rfl⟩
  . obtain⟨H2,I2,e,eH⟩:=hq_
    subst eH
    cases kk with
    | true=>
      refine wpAny_execs_cons (wpAny_Return_some (thn (Oc.pe k.so c cr pins s3 _ H2 (λ v H'=>v=k.so.v/\H'=H2) I2 ⟨rfl,rfl⟩) λ u s4 hq_=>?_))
      obtain⟨v,H4,I4,r,rfl,eH⟩:=hq_
      subst eH
      exact bad (by rintro rfl;cases e) u s4 I4 r
    | false=>
      refine wpAny_execs_nil ?_
      exact good (by
       by_cases h:cnt=1
       . exact h
       . rw[ZH h]at e;cases e) s3 I2
 have fin:∀u s3,Inv Y pins (σ.set j (some (.ref p))) H1 s3->RelV k.so.v u->∃σ' H',Inv Y pins σ' H' s3/\aQ H H'/\∃u',Flow.ret u=.ret u'/\RelV k.so.v u':=λ u s3 I3 r=>⟨_,H1,I3,sm,u,rfl,r⟩
 cases x1<;>cases x2<;>cases x3
 . exact mid 0 _ rfl (λ _=>fin) λ z=>by cases z
 . exact mid 1 _ rfl (λ z=>absurd rfl z) λ _=>last 2 k.o3 rfl (λ m z hm hz=>by
    match m,hz with
    | 0,hz=>cases hz;rfl
    | 1,hz=>cases hz;rfl
    | _+2,_=>omega) rfl
 . exact mid 1 _ rfl (λ z=>absurd rfl z) λ _=>last 1 k.o2 rfl (λ m z hm hz=>by
    match m,hz with
    | 0,hz=>cases hz;rfl
    | _+1,_=>omega) rfl
 . exact mid 2 _ rfl (λ _=>fin) λ z=>by cases z
 . exact mid 1 _ rfl (λ z=>absurd rfl z) λ _=>last 0 k.o1 rfl (λ m z hm hz=>by omega) rfl
 . exact mid 2 _ rfl (λ _=>fin) λ z=>by cases z
 . exact mid 2 _ rfl (λ _=>fin) λ z=>by cases z
 . exact mid 3 _ rfl (λ _=>fin) λ z=>by cases z
end
section
variable {Ω : Wd}
def TB.ifr(c:Te Ω)(x:XEx Ω)(rest:TB Ω):TB Ω where
 lev:=max c.lev (max x.lev rest.lev)
 chk top N nm sts:=match sts with | .If ce [.Return (some e) _] [] _::sts=>c.chk top N nm ce&&(x.chk top N nm e&&rest.chk top N nm sts) | _=>false
 wp Γ S W WE:=c.wp Γ S λ k S1=>(k=true->x.wp Γ S1 W.rt WE)/\(k=false->rest.wp Γ S1 W WE)
 sound:=by
  sleep 8
  sleep 3
  obtain⟨l5,l6⟩:=lv2 l2
  split at hc
  . rename_i ce e rp p0 sts
    obtain⟨h1,hc⟩:=aa hc
    obtain⟨h2,h3⟩:=aa hc
    sleep 7
    refine wpAny_execs_cons (wpAny_If (wpAny_mono (c.sound A l1 h1 hw pins s σ H O (I.wish _) env ok) (λ d s1 hq=>?_) %[|30]))
    obtain⟨H1,I1,O1,S1,w,st1,ok1⟩:=hq
    have I1:=I1.unwish
    cases d with
    | true=>
      refine wpAny_execs_cons (wpAny_Return_some (wpAny_mono (x.sound A l5 h2 (w.1 rfl) pins s1 σ H1 O1 I1 %[|20] ok1) (λ v s2 hq=>?_) λ _ _ z=>z.pre st1))
      obtain⟨y,H2,I2,r2,q2⟩:=hq
      exact bQ (f:=.ret v) st1 ⟨y,σ,H2,I2,r2,q2⟩
    | false=>
      refine wpAny_execs_nil (wpAny_mono (rest.sound A l6 h3 (w.2 rfl) pins s1 σ H1 O1 I1 %[|20] ok1) (λ f s2 q=>bQ st1 q) λ _ _ z=>z.pre st1)
  . exact fE hc
end
section
variable {X : Cx} {Γ : Gam} {S : Store} {W : DL.Fin} {WE : WX} {e : Expr}
theorem QR{L T:%[|0]}{t:HT}{o:Oc}{k:Mk3}{i j:Nat}{n:Str}{np hp pos:Pos}{body:List Stmt}{st0 st1 st2 st3:Stmt}(E:ExF X.mg X.K L T)
 (h:TrS X Γ S body W λ x S1=>x∈L/\W.rt (if t.val (qOf x)then o else k.out (qOf x)).d S1)
 (hst:X.stack=X.env::X.outer)(hfr:%[|72])(hex:X.ex=[])(hN:X.N.Nodup)(hi:X.N[i]? =some n)(hn:X.env.scope.names.lookup n=some .local)(hok:okN n=true)(hj:X.N[j]? =some k.m)(hjl:X.env.scope.names.lookup k.m=some .local)(hok2:okN k.m=true)(mi:X.mg "isinstance"=none)
 (gi:Gl X "isinstance")(gT:Gl X "TurnError")(hu:X.A.units+60<cLine)(c0:sH n t o st0=true)(c1:k.chk1 n st1=true)(c2:k.chk2 st2=true)(c3:k.chk3 st3=true)(hT:∀y∈k.y1::k.y2::k.y3::t.nms,y∈T/\Gl X y/\(y==("__debug__":Str))=false):
 Rn X Γ S (.Try body [.ExceptHandler (some (.Name "TurnError" np)) (some n) [st0,st1,st2,st3] hp] [] [] pos) W:=by
 sleep 0
 refine wpAny_Try_except (wpAny_mono %[|45] (λ f s1 hq=>?_) λ ev s2 z=>?_)
 . cases f with
   | next=>exact wpAny_execs_nil hq
   | ret v=>exact hq
   | brk=>exact hq
   | cont=>exact hq
 . obtain⟨H1,s1,E',I1,cx,hE⟩:=z
   obtain⟨a,C,tt0,po,H',B,rfl,ho,hg,fl,fw,lkp,hq⟩:=cx
   obtain⟨x,O',S',hm,w,st',ok'⟩:=hE C po H' hq
   obtain⟨_,hL,_⟩:=w.ex
   obtain⟨C',k1,k2,atr,⟨tt,k3,k4⟩,k5⟩:=E.cls x hL
   rw[k1]at hm
   cases hm
   obtain⟨rfl,_,hw⟩:=w.no k2
   have inv:∀h',Heap.FlyingW B X.stack a (.ref C) (.ref tt0) h'->s2.heap.UpToSlots h'->Inv X pins σ H' {s2 with heap:=h'}:=λ h' f u=>by
    have fl':=fl.on u fw.2.2.1
    exact Inv.call' (s':={s2 with heap:=h'}) (ch:=[]) I1 ho (fl'.un f.1) (fl'.hok.kept f.1) hg (λ b z=>nomatch z)
   have hH:H' a=none:=HOk.none fl.hok fw.2.1
   have hiσ:i<σ.length:=by rw[I.len];exact(z0.mp hi).1
   refine caught I1.ok I1 hex (Jt fl fw) hst hfr fw inv fl.hok lkp gT k3 %[|2] k4 hN hi hn λ s6 J=>?_
   have sx:Sx (XE.sup X (.ref a)) n i C (qOf x):=⟨hi,.inl hn,(aY hok).1,(aY hok).2.1,atr,mi,gi⟩
   have ans:∀y∈k.y1::k.y2::k.y3::t.nms,Ans (XE.sup X (.ref a)) C y (qOf x y):=λ y hy=>by
    obtain⟨g1,g2,g3⟩:=hT y hy
    obtain⟨v,u,g4,g5,g6⟩:=k5 y g1
    exact⟨g2,g3,v,u,g4,g5,g6⟩
   have hsi:(σ.set i (some (V.ref a)))[i]? =some (some (.ref a)):=List.getElem?_set_self hiσ
   have run:wpAny (model (XE.sup X (.ref a)).prog (XE.sup X (.ref a)).w) (XE.sup X (.ref a)).A (execs [st0,st1,st2,st3] (XE.sup X (.ref a)).env) (λ f s'=>∃σ' H7,Inv (XE.sup X (.ref a)) pins σ' H7 s'/\aQ (upd H' a (.ext (bK a C none))) H7/\∃u,f=.ret u/\RelV (if t.val (qOf x)then o else k.out (qOf x)).v u) (XE.sup X (.ref a)).xe s6:=by
    refine wpAny_execs_cons (thn (Pg (Y:=XE.sup X (.ref a)) (po:=none) sx hsi c0 (λ y hy=>ans y (by simp[hy])) aB J) λ f s7 z=>?_)
    obtain⟨H7,I7,sm,ef⟩:=z
    cases et:t.val (qOf x)with
    | true=>
      rw[et]at ef
      obtain⟨u,rfl,r⟩:=ef
      exact⟨_,H7,I7,sm,u,rfl,r⟩
    | false=>
      rw[et]at ef
      have ef:f=.next:=ef
      subst ef
      refine thn (Iw (Y:=XE.sup X (.ref a)) (po:=none) (k:=k) (j:=j) hu sx hsi hN hj hjl (aY hok2).1 (aY hok2).2.1 c1 c2 c3 (ans _ (by simp)) (ans _ (by simp)) (ans _ (by simp)) (sm _ _ aB) I7) λ f s8 z=>?_
      obtain⟨σ8,H8,I8,sm8,u,e,r⟩:=z
      exact⟨σ8,H8,I8,bh sm sm8,u,e,r⟩
   refine wpAny_mono run (λ f s7 z=>?_) λ _ _ z=>z
   obtain⟨σ7,H7,I7,sm,u,rfl,r⟩:=z
   have I7:=Inv.unsup I1.ok I7
   refine HQ I7 hN hi hn λ s8 I8=>?_
   have stp:Step O O' H H7:=(st'.trans (Step.fresh hH _)).trans (Step.same sm)
   have sok:StOk X.K O' H7 S':=(ok'.fresh hH _).same sm
   generalize (if t.val (qOf x)then o else k.out (qOf x))=c at*
   exact⟨c.v,_,H7,I8,r,O',c.d,S',hw,stp,sok,by cases c<;>constructor⟩
end
section
variable {Ω : Wd}
def DY(T:%[|0])(x:TB Ω)(i:Nat)(n:Str)(t:HT)(o:Oc)(j:Nat)(k:Mk3)(N:%[|0])(nm:Nm)(st:Stmt):Bool:=match Mf st with
 | some (b,h)=>match Kq h with
   | some (y,m,suite)=>(nameV y==some ("TurnError":Str))&&((m==n)&&(x.chk true N nm b&&((match suite with | [s0,s1,s2,s3]=>sH n t o s0&&(k.chk1 n s1&&(k.chk2 s2&&k.chk3 s3)) | _=>false)&&((nm.lookup n==some .local)&&((N[i]? ==some n)&&(okN n&&((nm.lookup k.m==some .local)&&((N[j]? ==some k.m)&&(okN k.m&&(glb nm "isinstance"&&(glb nm "TurnError"&&((k.y1::k.y2::k.y3::t.nms).all λ y=>T.contains y&&(glb nm y&&okN y)))))))))))))
   | none=>false
 | none=>false
def BT.trym{L T:%[|0]}(E:ExF Ω.mg Ω.K L T)(mi:Ω.mg "isinstance"=none)(x:TB Ω)(i:Nat)(n:Str)(t:HT)(o:Oc)(j:Nat)(k:Mk3)(rest:BT Ω):BT Ω where
 lev:=max x.lev rest.lev
 chk N nm sts:=match sts with
  | st::sts=>DY T x i n t o j k N nm st&&rest.chk N nm sts
  | _=>false
 wp Γ S W:=x.wp Γ S {W with nx:=λ Γ1 S1=>rest.wp Γ1 S1 W} λ y S1=>y∈L/\W.rt (if t.val (qOf y)then o else k.out (qOf y)).d S1
 sound := by
  intro X r N nm sts Γ S W A h1 h2 h3 hl hc hw
  sleep 3
  cases sts with
  | nil=>exact fE hc
  | cons st sts=>
    obtain⟨hc,c12⟩:=aa hc
    unfold DY at hc
    split at hc
    case h_2=>exact fE hc
    rename_i body han e1
    split at hc
    case h_2=>exact fE hc
    rename_i y m suite e2
    obtain⟨c1,hc⟩:=aa hc
    obtain⟨c2,hc⟩:=aa hc
    obtain⟨c3,hc⟩:=aa hc
    obtain⟨c4,hc⟩:=aa hc
    obtain⟨c5,hc⟩:=aa hc
    obtain⟨c6,hc⟩:=aa hc
    obtain⟨c7,hc⟩:=aa hc
    obtain⟨c5',hc⟩:=aa hc
    obtain⟨c6',hc⟩:=aa hc
    obtain⟨c7',hc⟩:=aa hc
    obtain⟨c8,hc⟩:=aa hc
    obtain⟨c10,c11⟩:=aa hc
    split at c4
    case h_2=>exact(x5 c4).elim
    rename_i s0 s1 s2 s3
    obtain⟨q0,c4⟩:=aa c4
    obtain⟨q1,c4⟩:=aa c4
    obtain⟨q2,q3⟩:=aa c4
    obtain⟨p,rfl⟩:=Qe e1
    obtain⟨b,bs,hp,hb,rfl⟩:=Og e2
    obtain⟨rfl,rfl⟩:=List.cons.inj hb
    obtain⟨np,rfl⟩:=bx (ZI c1)
    obtain rfl:=ZI c2
    have A':At Ω X.nox r true N nm:=⟨A.p,A.w,A.k,A.g,A.b,A.room,rfl,A.calm,A.n,A.nd,A.kind,A.look,A.fn,A.cd,A.fr⟩
    have loc:∀{z:Str},nm.lookup z=some .local->X.env.scope.names.lookup z=some .local:=λ{z} g=>by
     rcases A.look z _ g with q | ⟨q,_⟩
     . exact q
     . exact nomatch q
    refine CN (QR (L:=L) (T:=T) (t:=t) (o:=o) (k:=k) (i:=i) (j:=j) (by rw[A.g,A.k];exact E) ?_ h1 h2 h3 (by rw[A.n];exact A.nd) (by rw[A.n];exact ZI c6) (loc (ZI c5)) c7 (by rw[A.n];exact ZI c6') (loc (ZI c5')) c7' (by rw[A.g];exact mi) (A.glb c8) (A.glb c10) ?_ q0 q1 q2 q3 λ y hy=>?_)
    . have:=x.sound (X:=X) A' l1 c3 hw
      refine λ pins s σ H O I env st=>wpAny_mono (this pins s σ H O I env st) (λ f s1 q=>?_) λ ev s2 z=>?_
      . cases f with
        | next=>
          obtain⟨σ',H',I',O1,Γ1,S1,w,st1,ok1,env1⟩:=q
          exact⟨σ',H',I',O1,Γ1,S1,rest.sound A h1 h2 h3 l2 c12 w,st1,ok1,env1⟩
        | ret v=>exact q
        | brk=>exact q
        | cont=>exact q
      . obtain⟨H1,s1,E',I1,cx,hE⟩:=z
        refine⟨H1,s1,E',I1,cx,λ c po H' z=>?_⟩
        obtain⟨x',O',S',g1,g,g4,g5⟩:=hE c po H' z
        exact⟨x',O',S',g1,g.imp λ S9 g9=>⟨g9.1,g9.2⟩,g4,g5⟩
    . exact A.hu
    . have:=List.all_eq_true.mp c11 y hy
      obtain⟨d1,this⟩:=aa this
      obtain⟨d2,d3⟩:=aa this
      exact⟨by simpa using d1,A.glb d2,(aY d3).1⟩
end
end XE
namespace RF
open PySem PySem.Spec L2 DL
open PyProof.Rows
section
variable {X : Cx} {Γ : Gam} {S : Store} {W : WD}
theorem Qd{x:Str}(hf:Builtin.Str.tooLong (Txt.upper x).length=false)(w:W (.str (Txt.upper x)) S):bA X (.builtin "str.upper") [.str x] S W:=by
 intro pins s σ H O vs us I st r ru
 cases r with
 | cons r1 r2=>
   cases r2
   cases r1
   cases ru with
   | cons u1 u2=>
     cases u2
     obtain⟨t1,rfl⟩:=u1
     exact SC.upper hf ⟨.str _,H,I.tok _,%[|24],QG.here w st (.str _)⟩
theorem Oq{o:Expr}{name:Str}{id:String}{apos cpos:Pos}(slot:Slot "str" name id)(hty:typeOf (.builtin id)=pure (.type "method_descriptor"))
 (h:Ev X Γ S o λ x S1=>∃sx,x=.str sx/\bA X (.builtin id) [.str sx] S1 W)
 (hbase:attributeBase o name X.env (eval o X.env)=eval o X.env)(hline:(apos.endLine==cpos.line)=true):Ev X Γ S (.Call (.Attribute o name apos) [] [] cpos) W:=by
 sleep 0
 have hm:MtR X id λ x vs H Q=>∃O sx S W',vs=[]/\x=.str sx/\%[|23]/\bA X (.builtin id) [.str sx] S W'/\∀v H',QG X.K O H W' v H'->Q v H':=by
  rintro pins s σ H x xs v us Q I r1 r2 ⟨O,sx,S,W',rfl,rfl,ok,c,k⟩
  cases r2
  refine thn (c pins s σ H O [.str sx] [v] I ok (.cons (.str sx) .nil) (.cons r1 .nil)) λ u s1 q=>?_
  obtain⟨v',H',I',r',q⟩:=q
  exact⟨v',H',I',r',k v' H' q⟩
 refine Qz (T:="str") PySem.F.plainAttrs_str slot hty hm (h.pe) hbase hline pins s σ H _ I ⟨O,env,st,λ v H' q=>?_⟩
 obtain⟨O1,x,S1,⟨sx,rfl,c⟩,st1,ok1,rep1⟩:=q
 cases rep1
 exact⟨rfl,O1,sx,S1,W,rfl,rfl,ok1,c,λ v' H3 q3=>q3.pre st1⟩
end
def U5:Expr->Bool
 | .Subscript .. =>true
 | _=>false
theorem Mu{x:Expr}{name:Str}{env:Env}(h:(nameE x||U5 x)=true):attributeBase x name env (eval x env)=eval x env:=by
 cases x<;>first | rfl | exact ff h
section
variable {Ω : Wd}
def Ex.upper(o:Ex Ω):Ex Ω where
 lev:=o.lev
 chk top N nm e:=match e with
  | .Call f es ks q=>ks.isEmpty&&(es.isEmpty&&anB (sS f) λ u=>(u.2.1==("upper":Str))&&((nameE u.1||U5 u.1)&&((u.2.2.endLine==q.line)&&o.chk top N nm u.1)))
  | _=>false
 wp Γ S W:=o.wp Γ S λ x S1=>∃sx,x=.str sx/\Builtin.Str.tooLong (Txt.upper sx).length=false/\W (.str (Txt.upper sx)) S1
 sound:=by
  sleep 2
  cases e with
  | Call f es ks q=>
    obtain⟨g1,h_1⟩:=aa hc
    obtain⟨g0,h_2⟩:=aa h_1
    obtain⟨⟨x,n,p⟩,g2,h_3⟩:=bc h_2
    obtain⟨g3,h_4⟩:=aa h_3
    obtain⟨g4,h_5⟩:=aa h_4
    obtain⟨g5,g6⟩:=aa h_5
    obtain rfl:=oG g2
    have g3:n="upper":=ZI g3
    subst g3
    cases ks with
    | cons=>cases g1
    | nil=>
      cases es with
      | cons=>cases g0
      | nil=>
        refine Oq PySem.F.slot_str_upper PySem.F.type_str_upper ((o.sound A hl g6 hw).mono λ x S1 q=>?_) (Mu g4) g5
        obtain⟨sx,rfl,h1,h2⟩:=q
        exact⟨sx,rfl,Qd h1 h2⟩
  | _=>exact fE hc
end
def upA(c:Nat):Nat:=if 97≤c/\c≤122 then c-32 else c
theorem Cm{c:Nat}(h:c<128):Unicode.upperOf c=[upA c]:=by
 have:∀d:_root_.Fin 128,Unicode.upperOf d.val=[upA d.val]:=%[|7]
 exact this ⟨c,h⟩
theorem lJ{x:Str}(h:∀c∈x.cps.toList,c<128):Txt.upper x=mkS (x.cps.toList.map upA):=by
 refine eX ?_
 rw[aF]
 show(placed x λ _ c=>Unicode.upperOf c).toList=_
 unfold placed
 have e:(x.cps.mapIdx λ _ c=>(Unicode.upperOf c).toArray)=x.cps.map λ c=>#[upA c]:=by
  refine Array.ext (by simp) λ i h1 h2=>?_
  simp only[Array.getElem_mapIdx,Array.getElem_map]
  rw[Cm (h _ (by
   have h3:i<x.cps.size:=by simpa using h1
   exact Array.mem_toList_iff.mpr (Array.getElem_mem h3)))]
 rw[e,Array.toList_flatten]
 simp only[Array.toList_map,List.map_map]
 induction x.cps.toList with
 | nil=>rfl
 | cons a l ih=>simp[ih]
theorem vL{x:Str}(h:∀c∈x.cps.toList,c<128):(Txt.upper x).length=x.length:=by
 rw[lJ h,gQ,x6,←aW]
section
variable {Ω : Wd}
def Ex.fdvB(a b:Ex Ω):Ex Ω where
 lev:=max a.lev b.lev
 chk top N nm e:=match e with | .BinOp l o r _=>(o==.FloorDiv)&&%[|71] | _=>false
 wp Γ S W:=a.wp Γ S λ x S1=>b.wp Γ S1 λ y S2=>match x,y with
  | .int i,.int j=>(0<j/\j≤1000000000000000000000000000000000000000000000000000000000000)/\W (.int (i/j)) S2
  | _,_=>False
 sound:=by
  sleep 2
  sleep 3
  cases e with
  | BinOp l o r' pos=>
    sleep 1
    sleep 5
    have e:o=.FloorDiv:=%[|18]
    subst e
    refine lO ((a.sound A l1 h2 hw).mono λ x S1 q=>(b.sound A l2 h3 q).mono λ y S2 q=>?_)
    split at q
    . rename_i i j
      refine gZ (C:=λ _ j=>0<j/\j≤1000000000000000000000000000000000000000000000000000000000000) (g:=λ i j=>i/j) (opI λ i j _ _ _ _ _ hc q=>?_) q.1 q.2
      have h1:(0:Int)<j:=hc.1
      have h2:j≤1000000000000000000000000000000000000000000000000000000000000:=hc.2
      refine floordiv_int %[|1] (by rw[Int.fdiv_eq_ediv_of_nonneg i %[|1]];exact q) (.inl (PyProof.noPylong_of_log2 ?_))
      have h3:j.natAbs<2 ^ 200:=%[|1]
      have:j.natAbs.log2<200:=(Nat.log2_lt %[|1]).mpr h3
      omega
    . exact q.elim
  | _=>exact fE hc
end
end RF
set_option maxHeartbeats 4000000
namespace K54
open PySem L2 DL RF XE
variable {Ω : Wd} {f : Addr} {fd : FuncData}
def top(i:Nat):Stmt:=PySem.Challenge.pw_nestturn_k54_texts_of_no_program.main.body.getD i (.Pass ⟨0,0,0,0⟩)
structure Bi(mg:%[|22])(K:PySem.W.Frag):Prop where
 ENOUGH_SIGNS_:∃t,mg "ENOUGH_SIGNS"=some (.int 99 t)
 FIGURES_:∃t,mg "FIGURES"=some (.str "0123456789" t)
 LETTERS_:GT mg K "LETTERS" ["a","b","c"]
 MOST_STEPS_:∃t,mg "MOST_STEPS"=some (.int 60 t)
 abs_:mg "abs"=none
 all_:mg "all"=none
 bool_:mg "bool"=none
 enumerate_:mg "enumerate"=none
 int_:mg "int"=none
 isinstance_:mg "isinstance"=none
 len_:mg "len"=none
 range_:mg "range"=none
 str_:mg "str"=none
 sum_:mg "sum"=none
 tuple_:mg "tuple"=none
 zip_:mg "zip"=none
abbrev XL:%[|0]:=["NoProgram","NoText","TooMany"]
abbrev XT:%[|0]:=["NoOrder","NoPlan","NoProgram","NoRow","NoText","NoTurn","Tied","TooMany","ValueError"]
section
variable {Ω : Wd}
abbrev iI:Stmt:=top 11
abbrev yC:%[|0]:=["thing"]
abbrev yH:%[|0]:=["thing"]
def zG(B:%[|5]):Bl Ω:=
 Bl.cons (Sm.ret (Ex.and (Bo.cons (Ex.isi B.isinstance_ %[|3] .int B.int_) (Bo.one (Ex.not (Ex.isi B.isinstance_ %[|3] .bool B.bool_)))))) Bl.nil
abbrev eF:Stmt:=top 12
abbrev rT:%[|0]:=["thing","least","most"]
abbrev qP:%[|0]:=["thing","least","most"]
def ql(B:%[|5]):Bl Ω:=
 Bl.cons (Sm.ret (Ex.and (Bo.cons (Ex.isi B.isinstance_ %[|3] .tuple B.tuple_) (Bo.one (Ex.ch2 %[|8] .LtE (Ex.blt bM B.len_ %[|51]) .LtE (Ex.var 2)))))) Bl.nil
abbrev jy:Stmt:=top 13
abbrev Ck:%[|0]:=["thing","d"]
abbrev Cg:%[|0]:=["thing","d"]
def Bp(B:%[|5]){Fq38:Ct}(Cq38:Cal Ω "is_whole" 1 1 Fq38){Fq37:Ct}(Cq37:%[|68]):Bl Ω:=
 Bl.cons (Sm.ret (Ex.and (Bo.cons (Ex.call Cq37 (Ar.cons %[|3] (Ar.cons (Ex.bin .Add %[|8] %[|10]) (Ar.cons (Ex.bin .Add %[|8] %[|10]) Ar.nil)))) (Bo.one (Ex.blt fY B.all_ (Ar.cons (Ex.comp ["number"] [none] (Ex.call Cq38 %[|51]) (Tg.nm 0) (Itb.seq %[|3]) Cd.no) Ar.nil)))))) Bl.nil
abbrev iQ:Stmt:=top 14
abbrev Ad:%[|0]:=["form","counts"]
abbrev zz:%[|0]:=["form","counts"]
def zB(B:%[|5]):Bl Ω:=
 Bl.cons (Sm.ret (Ex.bin .Add (Ex.ix %[|3] (Ex.int 0)) (Ex.blt GQ B.sum_ (Ar.cons (Ex.comp ["number","count"] [none,none] (Ex.bin .Mult %[|3] %[|8]) (Tg.tup [0,1]) (Itb.zip B.zip_ (Ex.sl %[|3] (Po.so %[|10]) Po.no) %[|8]) Cd.no) Ar.nil)))) Bl.nil
abbrev iz:Stmt:=top 15
abbrev zN:%[|0]:=["thing","d"]
abbrev Ag:%[|0]:=["thing","d"]
def tW(B:%[|5]){Fq26:Ct}(Cq26:Cal Ω "is_form" 2 2 Fq26):Bl Ω:=
 Bl.cons (Sm.ret (Ex.and (Bo.cons (Ex.ch2 (Ex.neg (Ex.int 9)) .LtE (Ex.ix %[|3] (Ex.int 0)) .LtE (Ex.int 9)) (Bo.one (Ex.blt fY B.all_ (Ar.cons (Ex.comp ["number"] [none] (Ex.ch2 (Ex.neg (Ex.int 2)) .LtE %[|3] .LtE (Ex.int 2)) (Tg.nm 0) (Itb.seq (Ex.sl %[|3] (Po.so %[|10]) Po.no)) Cd.no) Ar.nil)))))) Bl.nil
def yZ(B:%[|5]){Fq26:Ct}(Cq26:Cal Ω "is_form" 2 2 Fq26):Bl Ω:=
 Bl.cons (Sm.ite (Te.not (Te.val (Ex.call Cq26 (Ar.cons %[|3] %[|41])))) (Bl.cons (Sm.ret (Ex.bl false)) Bl.nil) Bl.nil) (tW B Cq26)
abbrev jq:Stmt:=top 16
abbrev Cj:%[|0]:=["thing","d"]
abbrev Cv:%[|0]:=["thing","d"]
def Bq{Fq37:Ct}(Cq37:%[|68]){Fq24:Ct}(Cq24:Cal Ω "is_bound" 3 2 Fq24):Bl Ω:=
 Bl.cons (Sm.ret (Ex.and (Bo.cons (Ex.call Cq37 (Ar.cons %[|3] (Ar.cons (Ex.int 2) (Ar.cons (Ex.int 2) Ar.nil)))) (Bo.cons (Ex.call Cq24 (Ar.cons (Ex.ix %[|3] (Ex.int 0)) %[|41])) (Bo.one (Ex.call Cq24 (Ar.cons (Ex.ix %[|3] %[|10]) %[|41]))))))) Bl.nil
abbrev ir:Stmt:=top 17
abbrev yx:%[|0]:=["thing"]
abbrev yN:%[|0]:=["thing"]
def zK(B:%[|5]){Fq37:Ct}(Cq37:%[|68]){Fq27:Ct}(Cq27:Cal Ω "is_loop" 4 2 Fq27):Bl Ω:=
 Bl.cons (Sm.ret (Ex.and (Bo.cons (Ex.call Cq37 (Ar.cons %[|3] (Ar.cons %[|10] %[|70]))) (Bo.one (Ex.blt fY B.all_ (Ar.cons (Ex.comp ["k","loop"] [none,none] (Ex.call Cq27 (Ar.cons %[|8] %[|51])) (Tg.tup [0,1]) (Itb.enm B.enumerate_ %[|3]) Cd.no) Ar.nil)))))) Bl.nil
abbrev cj:Stmt:=top 18
abbrev lu:%[|0]:=["ahead","low","high","longer","counts","count"]
abbrev lE:%[|0]:=["ahead","low","high"]
section
variable (B : %[|5]) {Fq19 : Ct} (Cq19 : Cal Ω "comes_to" 1 2 Fq19)
def jD(B:%[|5]){Fq19:Ct}(Cq19:Cal Ω "comes_to" 1 2 Fq19):Bl Ω:=
 Bl.cons (Sm.ret (Ex.var 3)) Bl.nil
def jE:Bl Ω:=
 Bl.cons (Sm.forL (Tg.nm 4) %[|3] (Bl.cons (Sm.for (Tg.nm 5) (Itb.rng2 B.range_ (Ex.call Cq19 (Ar.cons %[|8] (Ar.cons (Ex.var 4) Ar.nil))) (Ex.call Cq19 (Ar.cons (Ex.var 2) (Ar.cons (Ex.var 4) Ar.nil)))) (Bl.cons (Sm.expr (Ex.m_append (Ex.var 3) (Ex.bin .Add (Ex.var 4) (Ex.tup (Ar.cons (Ex.var 5) Ar.nil))))) Bl.nil)) Bl.nil)) (jD B Cq19)
def lF:Bl Ω:=
 Bl.cons (Sm.set 3 (Ex.own Ar.nil)) (jE B Cq19)
end
abbrev gw:Stmt:=top 19
abbrev xF:%[|0]:=["loops","told","low","high"]
abbrev wG:%[|0]:=["loops"]
section
variable {Fq49 : Ct} (Cq49 : Cal Ω "with_next_count" 2 3 Fq49)
def sV{Fq49:Ct}(Cq49:Cal Ω "with_next_count" 2 3 Fq49):Bl Ω:=
 Bl.cons (Sm.ret %[|8]) Bl.nil
def qQ:Bl Ω:=
 Bl.cons (Sm.forL (Tg.tup [2,3]) %[|3] (Bl.cons (Sm.set 1 (Ex.call Cq49 (Ar.cons %[|8] (Ar.cons (Ex.var 2) (Ar.cons (Ex.var 3) Ar.nil))))) Bl.nil)) (sV Cq49)
def v5:Bl Ω:=
 Bl.cons (Sm.set 1 (Ex.lst (Ar.cons (Ex.tup Ar.nil) Ar.nil))) (qQ Cq49)
end
abbrev cu:Stmt:=top 22
abbrev lC:%[|0]:=["number"]
abbrev lD:%[|0]:=["number"]
def lA(B:%[|5]):Bl Ω:=
 Bl.cons (Sm.ret (Ex.cmp .Lt (Ex.blt WM B.abs_ %[|51]) (Ex.bin .Pow (Ex.int 10) (Ex.int 30)))) Bl.nil
abbrev fZ:Stmt:=top 23
abbrev wU:%[|0]:=["thing"]
abbrev wC:%[|0]:=["thing"]
def xG(B:%[|5]){Fq38:Ct}(Cq38:Cal Ω "is_whole" 1 1 Fq38){Fq37:Ct}(Cq37:%[|68]):Bl Ω:=
 Bl.cons (Sm.ret (Ex.and (Bo.cons (Ex.call Cq37 (Ar.cons %[|3] (Ar.cons %[|10] %[|70]))) (Bo.one (Ex.blt fY B.all_ (Ar.cons (Ex.comp ["width"] [none] (Ex.and (Bo.cons (Ex.call Cq38 %[|51]) (Bo.one (Ex.ch2 %[|10] .LtE %[|3] .LtE (Ex.int 2))))) (Tg.nm 0) (Itb.seq %[|3]) Cd.no) Ar.nil)))))) Bl.nil
abbrev cV:Stmt:=top 24
abbrev nH:%[|0]:=["thing","d"]
abbrev nG:%[|0]:=["thing","d"]
def nM(B:%[|5]){Fq26:Ct}(Cq26:Cal Ω "is_form" 2 2 Fq26):Bl Ω:=
 Bl.cons (Sm.ret (Ex.and (Bo.cons (Ex.call Cq26 (Ar.cons %[|3] %[|41])) (Bo.one (Ex.blt fY B.all_ (Ar.cons (Ex.comp ["number"] [none] (Ex.ch2 (Ex.neg (Ex.int 99)) .LtE %[|3] .LtE (Ex.int 99)) (Tg.nm 0) (Itb.seq %[|3]) Cd.no) Ar.nil)))))) Bl.nil
abbrev iT:Stmt:=top 25
abbrev zE:%[|0]:=["thing","d"]
abbrev Af:%[|0]:=["thing","d"]
def zq(B:%[|5]){Fq26:Ct}(Cq26:Cal Ω "is_form" 2 2 Fq26){Fq23:Ct}(Cq23:Cal Ω "has_few_figures" 1 1 Fq23):Bl Ω:=
 Bl.cons (Sm.ret (Ex.and (Bo.cons (Ex.call Cq26 (Ar.cons %[|3] %[|41])) (Bo.one (Ex.blt fY B.all_ (Ar.cons (Ex.comp ["number"] [none] (Ex.call Cq23 %[|51]) (Tg.nm 0) (Itb.seq %[|3]) Cd.no) Ar.nil)))))) Bl.nil
abbrev bB:Stmt:=top 26
abbrev iZ:%[|0]:=["table","place","widths","d"]
abbrev iW:%[|0]:=["table","place","widths","d"]
def gM(B:%[|5]){Fq38:Ct}(Cq38:Cal Ω "is_whole" 1 1 Fq38){Fq37:Ct}(Cq37:%[|68]){Fq32:Ct}(Cq32:Cal Ω "is_place_form" 3 2 Fq32):Bl Ω:=
 Bl.cons (Sm.ret (Ex.and (Bo.cons (Ex.call Cq37 (Ar.cons %[|8] (Ar.cons (Ex.ix (Ex.var 2) %[|3]) (Ar.cons (Ex.ix (Ex.var 2) %[|3]) Ar.nil)))) (Bo.one (Ex.blt fY B.all_ (Ar.cons (Ex.comp ["form","d"] [none,some 3] (Ex.call Cq32 (Ar.cons %[|3] %[|41])) (Tg.nm 0) (Itb.seq %[|8]) Cd.no) Ar.nil)))))) Bl.nil
def jb(B:%[|5]){Fq38:Ct}(Cq38:Cal Ω "is_whole" 1 1 Fq38){Fq37:Ct}(Cq37:%[|68]){Fq32:Ct}(Cq32:Cal Ω "is_place_form" 3 2 Fq32):Bl Ω:=
 Bl.cons (Sm.ite (Te.or (Bt.cons (Te.not (Te.val (Ex.call Cq38 %[|51]))) (Bt.one (Te.not (Te.ch2 (Ex.int 0) .LtE %[|3] .Lt (Ex.blt bM B.len_ %[|63])))))) (Bl.cons (Sm.ret (Ex.bl false)) Bl.nil) Bl.nil) (gM B Cq38 Cq37 Cq32)
abbrev jm:Stmt:=top 27
abbrev Bs:%[|0]:=["thing","widths","d"]
abbrev Ci:%[|0]:=["thing","widths","d"]
section
variable {Fq38 : Ct} (Cq38 : Cal Ω "is_whole" 1 1 Fq38) {Fq37 : Ct} (Cq37 : %[|68]) {Fq23 : Ct} (Cq23 : Cal Ω "has_few_figures" 1 1 Fq23) {Fq36 : Ct} (Cq36 : Cal Ω "is_table_with_place" 4 4 Fq36)
def xW{Fq38:Ct}(Cq38:Cal Ω "is_whole" 1 1 Fq38){Fq37:Ct}(Cq37:%[|68]){Fq23:Ct}(Cq23:Cal Ω "has_few_figures" 1 1 Fq23){Fq36:Ct}(Cq36:Cal Ω "is_table_with_place" 4 4 Fq36):Bl Ω:=
 Bl.cons (Sm.ret (Ex.call Cq36 (Ar.cons (Ex.ix %[|3] %[|10]) (Ar.cons (Ex.ix %[|3] (Ex.int 2)) (Ar.cons %[|8] %[|63]))))) Bl.nil
def wX:Bl Ω:=
 Bl.cons (Sm.ite (Te.or (Bt.cons (Te.not (Te.val (Ex.call Cq38 (Ar.cons (Ex.ix %[|3] (Ex.int 0)) Ar.nil)))) (Bt.one (Te.not (Te.val (Ex.call Cq23 (Ar.cons (Ex.ix %[|3] (Ex.int 0)) Ar.nil))))))) (Bl.cons (Sm.ret (Ex.bl false)) Bl.nil) Bl.nil) (xW Cq38 Cq37 Cq23 Cq36)
def Bv:Bl Ω:=
 Bl.cons (Sm.ite (Te.not (Te.val (Ex.call Cq37 (Ar.cons %[|3] (Ar.cons (Ex.int 3) %[|70]))))) (Bl.cons (Sm.ret (Ex.bl false)) Bl.nil) Bl.nil) (wX Cq38 Cq37 Cq23 Cq36)
end
abbrev iB:Stmt:=top 28
abbrev zg:%[|0]:=["thing","widths","d"]
abbrev Bd:%[|0]:=["thing","widths","d"]
def zu(B:%[|5]){Fq37:Ct}(Cq37:%[|68]){Fq33:Ct}(Cq33:Cal Ω "is_read" 5 3 Fq33):Bl Ω:=
 Bl.cons (Sm.ret (Ex.and (Bo.cons (Ex.call Cq37 (Ar.cons %[|3] (Ar.cons (Ex.int 0) %[|70]))) (Bo.one (Ex.blt fY B.all_ (Ar.cons (Ex.comp ["read","widths","d"] [none,some 1,some 2] (Ex.call Cq33 (Ar.cons %[|3] (Ar.cons %[|8] %[|63]))) (Tg.nm 0) (Itb.seq %[|3]) Cd.no) Ar.nil)))))) Bl.nil
abbrev jl:Stmt:=top 29
abbrev BR:%[|0]:=["thing","widths","d"]
abbrev Br:%[|0]:=["thing","widths","d"]
section
variable {Fq37 : Ct} (Cq37 : %[|68]) {Fq35 : Ct} (Cq35 : Cal Ω "is_start" 3 2 Fq35) {Fq36 : Ct} (Cq36 : Cal Ω "is_table_with_place" 4 4 Fq36) {Fq34 : Ct} (Cq34 : Cal Ω "is_reads" 6 3 Fq34)
def xf{Fq37:Ct}(Cq37:%[|68]){Fq35:Ct}(Cq35:Cal Ω "is_start" 3 2 Fq35){Fq36:Ct}(Cq36:Cal Ω "is_table_with_place" 4 4 Fq36){Fq34:Ct}(Cq34:Cal Ω "is_reads" 6 3 Fq34):Bl Ω:=
 Bl.cons (Sm.ret (Ex.and (Bo.cons (Ex.call Cq35 (Ar.cons (Ex.ix %[|3] (Ex.int 2)) %[|63])) (Bo.one (Ex.call Cq34 (Ar.cons (Ex.ix %[|3] (Ex.int 3)) (Ar.cons %[|8] %[|63]))))))) Bl.nil
def wZ:Bl Ω:=
 Bl.cons (Sm.ite (Te.not (Te.val (Ex.call Cq36 (Ar.cons (Ex.ix %[|3] (Ex.int 0)) (Ar.cons (Ex.ix %[|3] %[|10]) (Ar.cons %[|8] %[|63])))))) (Bl.cons (Sm.ret (Ex.bl false)) Bl.nil) Bl.nil) (xf Cq37 Cq35 Cq36 Cq34)
def Bw:Bl Ω:=
 Bl.cons (Sm.ite (Te.not (Te.val (Ex.call Cq37 (Ar.cons %[|3] (Ar.cons (Ex.int 4) (Ar.cons (Ex.int 4) Ar.nil)))))) (Bl.cons (Sm.ret (Ex.bl false)) Bl.nil) Bl.nil) (wZ Cq37 Cq35 Cq36 Cq34)
end
abbrev jr:Stmt:=top 30
abbrev Bm:%[|0]:=["thing","widths","d"]
abbrev BJ:%[|0]:=["thing","widths"]
section
variable (B : %[|5]) {Fq37 : Ct} (Cq37 : %[|68]) {Fq28 : Ct} (Cq28 : Cal Ω "is_loops" 5 1 Fq28) {Fq25 : Ct} (Cq25 : Cal Ω "is_deed" 7 3 Fq25)
def xQ(B:%[|5]){Fq37:Ct}(Cq37:%[|68]){Fq28:Ct}(Cq28:Cal Ω "is_loops" 5 1 Fq28){Fq25:Ct}(Cq25:Cal Ω "is_deed" 7 3 Fq25):Bl Ω:=
 Bl.cons (Sm.ret (Ex.and (Bo.cons (Ex.call Cq37 (Ar.cons (Ex.ix %[|3] %[|10]) (Ar.cons %[|10] (Ar.cons (Ex.int 4) Ar.nil)))) (Bo.one (Ex.blt fY B.all_ (Ar.cons (Ex.comp ["deed","widths","d"] [none,some 1,some 2] (Ex.call Cq25 (Ar.cons %[|3] (Ar.cons %[|8] %[|63]))) (Tg.nm 0) (Itb.seq (Ex.ix %[|3] %[|10])) Cd.no) Ar.nil)))))) Bl.nil
def wJ:Bl Ω:=
 Bl.cons (Sm.set 2 (Ex.blt bM B.len_ (Ar.cons (Ex.ix %[|3] (Ex.int 0)) Ar.nil))) (xQ B Cq37 Cq28 Cq25)
def Ce:Bl Ω:=
 Bl.cons (Sm.ite (Te.or (Bt.cons (Te.not (Te.val (Ex.call Cq37 (Ar.cons %[|3] (Ar.cons (Ex.int 2) (Ar.cons (Ex.int 2) Ar.nil)))))) (Bt.one (Te.not (Te.val (Ex.call Cq28 (Ar.cons (Ex.ix %[|3] (Ex.int 0)) Ar.nil))))))) (Bl.cons (Sm.ret (Ex.bl false)) Bl.nil) Bl.nil) (wJ B Cq37 Cq28 Cq25)
end
abbrev iG:Stmt:=top 31
abbrev Aw:%[|0]:=["thing","widths"]
abbrev z7:%[|0]:=["thing","widths"]
def Bb(B:%[|5]){Fq37:Ct}(Cq37:%[|68]){Fq29:Ct}(Cq29:Cal Ω "is_nest" 8 2 Fq29):Bl Ω:=
 Bl.cons (Sm.ret (Ex.and (Bo.cons (Ex.call Cq37 (Ar.cons %[|3] (Ar.cons %[|10] %[|70]))) (Bo.one (Ex.blt fY B.all_ (Ar.cons (Ex.comp ["nest","widths"] [none,some 1] (Ex.call Cq29 (Ar.cons %[|3] %[|41])) (Tg.nm 0) (Itb.seq %[|3]) Cd.no) Ar.nil)))))) Bl.nil
abbrev cz:Stmt:=top 32
abbrev lw:%[|0]:=["nests"]
abbrev lr:%[|0]:=["nests"]
def lB(B:%[|5]){Fq20:Ct}(Cq20:Cal Ω "counts_of" 3 1 Fq20):Bl Ω:=
 Bl.cons (Sm.ret (Ex.blt GQ B.sum_ (Ar.cons (Ex.comp ["loops","deeds"] [none,none] (Ex.bin .Mult (Ex.blt bM B.len_ (Ar.cons (Ex.call Cq20 %[|51]) Ar.nil)) (Ex.blt bM B.len_ %[|41])) (Tg.tup [0,1]) (Itb.seq %[|3]) Cd.no) Ar.nil))) Bl.nil
abbrev fD:Stmt:=top 33
abbrev uH:%[|0]:=["widths","nests"]
abbrev um:%[|0]:=["widths","nests"]
section
variable (B : %[|5]) (E : %[|27]) {Fq39 : Ct} (Cq39 : Cal Ω "is_widths" 2 1 Fq39) {Fq30 : Ct} (Cq30 : Cal Ω "is_nests" 9 2 Fq30) {Fq42 : Ct} (Cq42 : Cal Ω "number_of_steps" 4 1 Fq42)
def oY(B:%[|5])(E:%[|27]){Fq39:Ct}(Cq39:Cal Ω "is_widths" 2 1 Fq39){Fq30:Ct}(Cq30:Cal Ω "is_nests" 9 2 Fq30){Fq42:Ct}(Cq42:Cal Ω "number_of_steps" 4 1 Fq42):BX Ω:=
 (BX.cons (Sm.ret (Ex.tup (Ar.cons %[|3] %[|41]))) (BX.of Bl.nil))
def pq:BX Ω:=
 (BX.ifr (E.exc (x:="TooMany") %[|2]) (Te.cmp .Gt (Ex.call Cq42 %[|41]) (Ex.gint B.MOST_STEPS_)) (oY B E Cq39 Cq30 Cq42))
def pN:BX Ω:=
 (BX.ifr (E.exc (x:="NoProgram") %[|2]) (Te.not (Te.val (Ex.call Cq30 (Ar.cons %[|8] %[|51])))) (pq B E Cq39 Cq30 Cq42))
def uP:BX Ω:=
 (BX.ifr (E.exc (x:="NoProgram") %[|2]) (Te.not (Te.val (Ex.call Cq39 %[|51]))) (pN B E Cq39 Cq30 Cq42))
end
abbrev dB:Stmt:=top 38
abbrev nY:%[|0]:=["word"]
abbrev pJ:%[|0]:=["word"]
def pF:Bl Ω:=
 Bl.cons (Sm.ret (Ex.ifE (Te.val (Ex.ms Ln %[|3] (Ex.str "-"))) (Ex.slS %[|3] (Po.so %[|10]) Po.no) %[|3])) Bl.nil
abbrev gA:Stmt:=top 39
abbrev xR:%[|0]:=["word","figures"]
abbrev vV:%[|0]:=["word"]
section
variable (B : %[|5]) {Fq51 : Ct} (Cq51 : Cal Ω "without_sign" 1 1 Fq51)
def qu(B:%[|5]){Fq51:Ct}(Cq51:Cal Ω "without_sign" 1 1 Fq51):Bl Ω:=
 Bl.cons (Sm.ret (Ex.or (Bo.cons (Ex.cmp .NotEq (Ex.ixS %[|8] (Ex.int 0)) (Ex.str "0")) (Bo.one (Ex.cmp .Eq %[|3] (Ex.str "0")))))) Bl.nil
def qd:Bl Ω:=
 Bl.cons (Sm.ite (Te.or (Bt.cons (Te.cmp .Eq %[|8] (Ex.str "")) (Bt.one (Te.not (Te.val (Ex.blt fY B.all_ (Ar.cons (Ex.comp ["sign"] [none] (Ex.inS %[|3] (Ex.gstr B.FIGURES_)) (Tg.nm 0) (Itb.str %[|8]) Cd.no) Ar.nil))))))) (Bl.cons (Sm.ret (Ex.bl false)) Bl.nil) Bl.nil) (qu B Cq51)
def wN:Bl Ω:=
 Bl.cons (Sm.set 1 (Ex.call Cq51 %[|51])) (qd B Cq51)
end
abbrev dU:Stmt:=top 40
abbrev pZ:%[|0]:=["word"]
abbrev qb:%[|0]:=["word"]
def nJ(B:%[|5])(E:%[|27]){Fq31:Ct}(Cq31:Cal Ω "is_number" 2 1 Fq31):BX Ω:=
 (BX.cons (Sm.ret (Ex.typ U7 B.int_ (Ar.cons (Ex.slS %[|3] Po.no (Po.so (Ex.gint B.ENOUGH_SIGNS_))) Ar.nil))) (BX.of Bl.nil))
def qj(B:%[|5])(E:%[|27]){Fq31:Ct}(Cq31:Cal Ω "is_number" 2 1 Fq31):BX Ω:=
 (BX.ifr (E.exc (x:="NoText") %[|2]) (Te.not (Te.val (Ex.call Cq31 %[|51]))) (nJ B E Cq31))
abbrev gB:Stmt:=top 41
abbrev wQ:%[|0]:=["word"]
abbrev wL:%[|0]:=["word"]
def wz(B:%[|5])(E:%[|27]){Fq43:XCt}(Cq43:az Ω "number_read" 3 1 Fq43):BX Ω:=
 (BX.rret (RX.typ cD B.tuple_ (RX.comp ["part"] [none] (XEx.call Cq43 %[|51]) (Tg.nm 0) (Itb.seq (Ex.ms nD %[|3] (Ex.str ","))))))
abbrev gb:Stmt:=top 42
abbrev v4:%[|0]:=["word","parts"]
abbrev xZ:%[|0]:=["word"]
section
variable (B : %[|5]) (E : %[|27]) {Fq22 : XCt} (Cq22 : az Ω "form_read" 4 1 Fq22)
def rJ(B:%[|5])(E:%[|27]){Fq22:XCt}(Cq22:az Ω "form_read" 4 1 Fq22):BX Ω:=
 (BX.rret (RX.tup (RA.cons (RX.of (Ex.indexG B.LETTERS_ (Ex.ix %[|8] (Ex.int 0)))) (RA.cons (RX.typ cD B.tuple_ (RX.comp ["part"] [none] (XEx.call Cq22 %[|51]) (Tg.nm 0) (Itb.seq (Ex.sl %[|8] (Po.so %[|10]) Po.no)))) RA.nil))))
def qX:BX Ω:=
 (BX.ifr (E.exc (x:="NoText") %[|2]) (Te.inG B.LETTERS_ true (Ex.ix %[|8] (Ex.int 0))) (rJ B E Cq22))
def v7:BX Ω:=
 (BX.cons (Sm.set 1 (Ex.ms nD %[|3] (Ex.str "@"))) (qX B E Cq22))
end
abbrev bL:Stmt:=top 43
abbrev jx:%[|0]:=["words","between"]
abbrev jk:%[|0]:=["words","between"]
def ju(B:%[|5])(E:%[|27]):BX Ω:=
 (BX.ifr (E.exc (x:="NoText") %[|2]) (Te.or (Bt.cons (Te.cmp .NotEq (Ex.blt bM B.len_ %[|51]) (Ex.int 4)) (Bt.one (Te.cmp .NotEq (Ex.ix %[|3] (Ex.int 2)) %[|8])))) (BX.of Bl.nil))
abbrev gJ:Stmt:=top 44
abbrev wF:%[|0]:=["words"]
abbrev wA:%[|0]:=["words"]
def qU(E:%[|27]){Fq22:XCt}(Cq22:az Ω "form_read" 4 1 Fq22){Fq46:XCt}(Cq46:az Ω "refuse_other_words" 1 2 Fq46):BX Ω:=
 (BX.rret (RX.tup (RA.cons (RX.x (XEx.call Cq22 (Ar.cons (Ex.ix %[|3] %[|10]) Ar.nil))) (RA.cons (RX.x (XEx.call Cq22 (Ar.cons (Ex.ix %[|3] (Ex.int 3)) Ar.nil))) RA.nil))))
def wK(E:%[|27]){Fq22:XCt}(Cq22:az Ω "form_read" 4 1 Fq22){Fq46:XCt}(Cq46:az Ω "refuse_other_words" 1 2 Fq46):BX Ω:=
 (BX.exs (XEx.call Cq46 (Ar.cons %[|3] (Ar.cons (Ex.str "to") Ar.nil))) (qU E Cq22 Cq46))
abbrev gH:Stmt:=top 45
abbrev vX:%[|0]:=["words"]
abbrev xU:%[|0]:=["words"]
def sY(E:%[|27]){Fq22:XCt}(Cq22:az Ω "form_read" 4 1 Fq22){Fq18:XCt}(Cq18:az Ω "cell_read" 5 1 Fq18){Fq46:XCt}(Cq46:az Ω "refuse_other_words" 1 2 Fq46):BX Ω:=
 (BX.rret (RX.bin .Add (RX.x (XEx.call Cq18 (Ar.cons (Ex.ix %[|3] %[|10]) Ar.nil))) (RX.tup (RA.cons (RX.x (XEx.call Cq22 (Ar.cons (Ex.ix %[|3] (Ex.int 3)) Ar.nil))) (RA.cons (RX.of (Ex.tup Ar.nil)) RA.nil)))))
def v6(E:%[|27]){Fq22:XCt}(Cq22:az Ω "form_read" 4 1 Fq22){Fq18:XCt}(Cq18:az Ω "cell_read" 5 1 Fq18){Fq46:XCt}(Cq46:az Ω "refuse_other_words" 1 2 Fq46):BX Ω:=
 (BX.exs (XEx.call Cq46 (Ar.cons %[|3] (Ar.cons (Ex.str "be") Ar.nil))) (sY E Cq22 Cq18 Cq46))
abbrev gm:Stmt:=top 46
abbrev xJ:%[|0]:=["deed","words","told"]
abbrev wg:%[|0]:=["deed","words"]
section
variable (E : %[|27]) {Fq43 : XCt} (Cq43 : az Ω "number_read" 3 1 Fq43) {Fq18 : XCt} (Cq18 : az Ω "cell_read" 5 1 Fq18) {Fq46 : XCt} (Cq46 : az Ω "refuse_other_words" 1 2 Fq46)
def rP(E:%[|27]){Fq43:XCt}(Cq43:az Ω "number_read" 3 1 Fq43){Fq18:XCt}(Cq18:az Ω "cell_read" 5 1 Fq18){Fq46:XCt}(Cq46:az Ω "refuse_other_words" 1 2 Fq46):BX Ω:=
 (BX.cons (Sm.ret (Ex.bin .Add (Ex.sl %[|3] Po.no (Po.so (Ex.int 3))) (Ex.tup (Ar.cons (Ex.bin .Add (Ex.ix %[|3] (Ex.int 3)) (Ex.tup %[|63])) Ar.nil)))) (BX.of Bl.nil))
def sr:BX Ω:=
 (BX.rset 2 (RX.bin .Add (RX.tup (RA.cons (RX.x (XEx.call Cq43 (Ar.cons (Ex.ix %[|8] %[|10]) Ar.nil))) RA.nil)) (RX.x (XEx.call Cq18 (Ar.cons (Ex.ix %[|8] (Ex.int 3)) Ar.nil)))) (rP E Cq43 Cq18 Cq46))
def wR:BX Ω:=
 (BX.exs (XEx.call Cq46 (Ar.cons %[|8] (Ar.cons (Ex.str "of") Ar.nil))) (sr E Cq43 Cq18 Cq46))
end
abbrev gD:Stmt:=top 47
abbrev wO:%[|0]:=["nest","words","loops","deeds"]
abbrev ww:%[|0]:=["nest","words"]
section
variable (E : %[|27]) {Fq40 : XCt} (Cq40 : az Ω "loop_read" 5 1 Fq40) {Fq21 : XCt} (Cq21 : az Ω "deed_read" 6 1 Fq21) {Fq50 : XCt} (Cq50 : az Ω "with_read" 6 2 Fq50)
def rE(E:%[|27]){Fq40:XCt}(Cq40:az Ω "loop_read" 5 1 Fq40){Fq21:XCt}(Cq21:az Ω "deed_read" 6 1 Fq21){Fq50:XCt}(Cq50:az Ω "with_read" 6 2 Fq50):BX Ω:=
 (BX.rse (E.exc (x:="NoText") %[|2]))
def rN:BX Ω:=
 (BX.ite (Te.and (Bt.cons (Te.cmp .Eq (Ex.ix %[|8] (Ex.int 0)) (Ex.str "and")) (Bt.one (Te.tval (Ex.var 3))))) (BX.rret (RX.tup (RA.cons (RX.of (Ex.var 2)) (RA.cons (RX.bin .Add (RX.of (Ex.sl (Ex.var 3) Po.no (Po.so (Ex.neg %[|10])))) (RX.tup (RA.cons (RX.x (XEx.call Cq50 (Ar.cons (Ex.ix (Ex.var 3) (Ex.neg %[|10])) %[|41]))) RA.nil))) RA.nil)))) BX.nil (rE E Cq40 Cq21 Cq50))
def qw:BX Ω:=
 (BX.ite (Te.cmp .Eq (Ex.ix %[|8] (Ex.int 0)) (Ex.str "set")) (BX.rret (RX.tup (RA.cons (RX.of (Ex.var 2)) (RA.cons (RX.bin .Add (RX.of (Ex.var 3)) (RX.tup (RA.cons (RX.x (XEx.call Cq21 %[|41])) RA.nil))) RA.nil)))) BX.nil (rN E Cq40 Cq21 Cq50))
def rn:BX Ω:=
 (BX.ite (Te.and (Bt.cons (Te.cmp .Eq (Ex.ix %[|8] (Ex.int 0)) (Ex.str "loop")) (Bt.one (Te.not (Te.tval (Ex.var 3)))))) (BX.rret (RX.tup (RA.cons (RX.bin .Add (RX.of (Ex.var 2)) (RX.tup (RA.cons (RX.x (XEx.call Cq40 %[|41])) RA.nil))) (RA.cons (RX.of (Ex.var 3)) RA.nil)))) BX.nil (qw E Cq40 Cq21 Cq50))
def qY:BX Ω:=
 (BX.cons (Sm.set 3 (Ex.ix %[|3] %[|10])) (rn E Cq40 Cq21 Cq50))
def wy:BX Ω:=
 (BX.cons (Sm.set 2 (Ex.ix %[|3] (Ex.int 0))) (qY E Cq40 Cq21 Cq50))
end
abbrev eV:Stmt:=top 48
abbrev uF:%[|0]:=["lines","nests","words"]
abbrev t8:%[|0]:=["lines"]
section
variable (B : %[|5]) (E : %[|27]) {Fq48 : XCt} (Cq48 : az Ω "with_line" 7 2 Fq48)
def oO(B:%[|5])(E:%[|27]){Fq48:XCt}(Cq48:az Ω "with_line" 7 2 Fq48):BX Ω:=
 (BX.cons (Sm.ret (Ex.typ cD B.tuple_ %[|41])) (BX.of Bl.nil))
def pR:BX Ω:=
 (BX.rfor (Tg.nm 2) (Itb.seq %[|3]) (BX.ite (Te.cmp .Eq (Ex.var 2) (Ex.lst (Ar.cons (Ex.str "nest") Ar.nil))) (BX.cons (Sm.expr (Ex.m_append %[|8] (Ex.tup (Ar.cons (Ex.tup Ar.nil) (Ar.cons (Ex.tup Ar.nil) Ar.nil))))) BX.nil) (BX.ite (Te.lval %[|8]) (BX.rsetIx %[|8] (Ex.neg %[|10]) (RX.x (XEx.call Cq48 (Ar.cons (Ex.ix %[|8] (Ex.neg %[|10])) %[|63]))) BX.nil) (BX.rse (E.exc (x:="NoText") %[|2])) BX.nil) BX.nil) (oO B E Cq48))
def uV:BX Ω:=
 (BX.cons (Sm.set 1 (Ex.own Ar.nil)) (pR B E Cq48))
end
abbrev dY:Stmt:=top 49
abbrev rB:%[|0]:=["words"]
abbrev sI:%[|0]:=["words"]
def nP(B:%[|5])(E:%[|27]){Fq43:XCt}(Cq43:az Ω "number_read" 3 1 Fq43):BX Ω:=
 (BX.rret (RX.typ cD B.tuple_ (RX.comp ["word"] [none] (XEx.call Cq43 %[|51]) (Tg.nm 0) (Itb.seq (Ex.sl %[|3] (Po.so %[|10]) Po.no)))))
def qx(B:%[|5])(E:%[|27]){Fq43:XCt}(Cq43:az Ω "number_read" 3 1 Fq43):BX Ω:=
 (BX.ifr (E.exc (x:="NoText") %[|2]) (Te.cmp .NotEq (Ex.ix %[|3] (Ex.int 0)) (Ex.str "tables")) (nP B E Cq43))
abbrev pg:Stmt:=top 50
abbrev Lg:%[|0]:=["text","lines","widths","nests"]
abbrev Mg:%[|0]:=["text"]
section
variable (B : %[|5]) (E : %[|27]) {Fq44 : XCt} (Cq44 : az Ω "program_of" 10 2 Fq44) {Fq41 : XCt} (Cq41 : az Ω "nests_read" 8 1 Fq41) {Fq47 : XCt} (Cq47 : az Ω "widths_read" 4 1 Fq47)
def Fg(B:%[|5])(E:%[|27]){Fq44:XCt}(Cq44:az Ω "program_of" 10 2 Fq44){Fq41:XCt}(Cq41:az Ω "nests_read" 8 1 Fq41){Fq47:XCt}(Cq47:az Ω "widths_read" 4 1 Fq47):BX Ω:=
 (BX.retx (XEx.call Cq44 (Ar.cons (Ex.var 2) (Ar.cons (Ex.var 3) Ar.nil))) (BX.of Bl.nil))
def Gy:BX Ω:=
 (BX.setx 3 (XEx.call Cq41 (Ar.cons (Ex.sl %[|8] (Po.so %[|10]) Po.no) Ar.nil)) (Fg B E Cq44 Cq41 Cq47))
def Gn:BX Ω:=
 (BX.setx 2 (XEx.call Cq47 (Ar.cons (Ex.ix %[|8] (Ex.int 0)) Ar.nil)) (Gy B E Cq44 Cq41 Cq47))
def GD:BX Ω:=
 (BX.cons (Sm.setC 1 ["line"] [none] (Ex.ms nD %[|3] (Ex.str " ")) (Tg.nm 0) (Itb.seq (Ex.ms nD %[|3] (Ex.str "\n"))) Cd.no) (Gn B E Cq44 Cq41 Cq47))
def K8:BX Ω:=
 (BX.ifr (E.exc (x:="NoText") %[|2]) (Te.not (Te.val (Ex.isiS B.isinstance_ %[|3] B.str_))) (GD B E Cq44 Cq41 Cq47))
end
abbrev jw:Stmt:=top 52
abbrev Bj:%[|0]:=["_law_script","_law_k"]
abbrev Cr:%[|0]:=["_law_script","_law_k"]
def wk(B:%[|5]):Bl Ω:=
 Bl.cons (Sm.ret (Ex.int 0)) Bl.nil
def Ca(B:%[|5]):Bl Ω:=
 Bl.cons (Sm.ite (Te.cmp .Lt %[|8] (Ex.blt bM B.len_ %[|51])) (Bl.cons (Sm.ret (Ex.ix %[|3] %[|8])) Bl.nil) Bl.nil) (wk B)
abbrev uW:Stmt:=top 53
abbrev Ol:%[|0]:=["_law_script","_law_seed"]
abbrev Om:%[|0]:=["_law_script"]
def HW(B:%[|5]){Fq2:Ct}(Cq2:Cal Ω "_law_cell_at" 1 2 Fq2):Bl Ω:=
 Bl.cons (Sm.ret (Ex.own (Ar.cons %[|3] (Ar.cons %[|10] (Ar.cons (Ex.call Cq2 (Ar.cons %[|3] (Ar.cons %[|10] Ar.nil))) (Ar.cons (Ex.int 0) (Ar.cons (Ex.bin .Mod (Ex.call Cq2 (Ar.cons %[|3] (Ar.cons (Ex.int 0) Ar.nil))) (Ex.int 2)) %[|41]))))))) Bl.nil
def P0(B:%[|5]){Fq2:Ct}(Cq2:Cal Ω "_law_cell_at" 1 2 Fq2):Bl Ω:=
 Bl.cons (Sm.set 1 (Ex.bin .Mod (Ex.blt GQ B.sum_ (Ar.cons (Ex.comp ["_law_k","_law_cell_here"] [none,none] (Ex.bin .Mult (Ex.bin .Add (Ex.bin .Mod %[|8] (Ex.int 2147483629)) %[|10]) (Ex.bin .Add (Ex.bin .Mult %[|3] %[|3]) (Ex.int 7))) (Tg.tup [0,1]) (Itb.enm B.enumerate_ (Ex.sl %[|3] Po.no (Po.so (Ex.int 63)))) Cd.no) Ar.nil)) (Ex.int 2147483647))) (HW B Cq2)
abbrev pO:Stmt:=top 54
abbrev Km:%[|0]:=["_law_pen_here","_law_most","_law_found"]
abbrev Kz:%[|0]:=["_law_pen_here","_law_most"]
section
variable {Fq2 : Ct} (Cq2 : Cal Ω "_law_cell_at" 1 2 Fq2)
def wV{Fq2:Ct}(Cq2:Cal Ω "_law_cell_at" 1 2 Fq2):Bl Ω:=
 Bl.cons (Sm.ret (Ex.bin .Mod (Ex.fdvB (Ex.bin .Mod (Ex.bin .Mult (Ex.ix %[|3] (Ex.int 5)) (Ex.int 1181783497276652981)) (Ex.int 2305843009213693951)) (Ex.int 64)) %[|8])) Bl.nil
def BK:Bl Ω:=
 Bl.cons (Sm.setIx %[|3] (Ex.int 5) (Ex.bin .Mod (Ex.bin .Add (Ex.bin .Mult (Ex.ix %[|3] (Ex.int 5)) (Ex.int 48271)) (Ex.int 12345)) (Ex.int 2147483647))) (wV Cq2)
def vZ{Fq2:Ct}(Cq2:Cal Ω "_law_cell_at" 1 2 Fq2):Bl Ω:=
 Bl.cons (Sm.setIx %[|3] (Ex.int 3) (Ex.int 0)) Bl.nil
def xP:Bl Ω:=
 Bl.cons (Sm.setIx %[|3] (Ex.int 2) (Ex.call Cq2 (Ar.cons (Ex.ix %[|3] (Ex.int 0)) (Ar.cons (Ex.ix %[|3] %[|10]) Ar.nil)))) (vZ Cq2)
def Bx:Bl Ω:=
 Bl.cons (Sm.setIx %[|3] %[|10] (Ex.bin .Add (Ex.ix %[|3] %[|10]) %[|10])) (xP Cq2)
def Gv{Fq2:Ct}(Cq2:Cal Ω "_law_cell_at" 1 2 Fq2):Bl Ω:=
 Bl.cons (Sm.ret (Ex.var 2)) Bl.nil
def GJ:Bl Ω:=
 Bl.cons (Sm.setIx %[|3] (Ex.int 2) (Ex.fdvB (Ex.ix %[|3] (Ex.int 2)) %[|8])) (Gv Cq2)
def Eg:Bl Ω:=
 Bl.cons (Sm.set 2 (Ex.bin .Mod (Ex.ix %[|3] (Ex.int 2)) %[|8])) (GJ Cq2)
def qC:Bl Ω:=
 Bl.cons (Sm.setIx %[|3] (Ex.int 3) (Ex.bin .Add (Ex.ix %[|3] (Ex.int 3)) %[|10])) (Eg Cq2)
def Fx:Bl Ω:=
 Bl.cons (Sm.ite (Te.cmp .Eq (Ex.ix %[|3] (Ex.int 3)) (Ex.int 50)) (Bx Cq2) Bl.nil) (qC Cq2)
def Kp:Bl Ω:=
 Bl.cons (Sm.ite (Te.cmp .Eq (Ex.ix %[|3] (Ex.int 4)) %[|10]) (BK Cq2) Bl.nil) (Fx Cq2)
end
abbrev pM:Stmt:=top 55
abbrev Kf:%[|0]:=["_law_pen_here","_law_d","_law_most"]
abbrev Ku:%[|0]:=["_law_pen_here","_law_d","_law_most"]
def J3(B:%[|5]){Fq16:Ct}(Cq16:%[|36]):Bl Ω:=
 Bl.cons (Sm.ret (Ex.typ cD B.tuple_ (Ar.cons (Ex.comp ["_law_k","_law_pen_here","_law_most"] [none,some 0,some 2] (Ex.bin .Sub (Ex.call Cq16 (Ar.cons %[|8] (Ar.cons (Ex.bin .Add (Ex.bin .Mult (Ex.int 2) (Ex.var 2)) %[|10]) Ar.nil))) (Ex.var 2)) (Tg.nm 0) (Itb.rng1 B.range_ (Ex.bin .Add %[|8] %[|10])) Cd.no) Ar.nil))) Bl.nil
abbrev pW:Stmt:=top 56
abbrev KZ:%[|0]:=["_law_pen_here","_law_widths","_law_d","_law_table"]
abbrev Kw:%[|0]:=["_law_pen_here","_law_widths","_law_d"]
def FT(B:%[|5]){Fq16:Ct}(Cq16:%[|36]){Fq7:Ct}(Cq7:Cal Ω "_law_form" 3 3 Fq7):Bl Ω:=
 Bl.cons (Sm.ret (Ex.tup (Ar.cons (Ex.var 3) (Ar.cons (Ex.typ cD B.tuple_ (Ar.cons (Ex.comp ["_law_k","_law_pen_here","_law_d"] [none,some 0,some 2] (Ex.call Cq7 (Ar.cons %[|8] (Ar.cons (Ex.var 2) %[|70]))) (Tg.nm 0) (Itb.rng1 B.range_ (Ex.ix %[|8] (Ex.var 3))) Cd.no) Ar.nil)) Ar.nil)))) Bl.nil
def Ke(B:%[|5]){Fq16:Ct}(Cq16:%[|36]){Fq7:Ct}(Cq7:Cal Ω "_law_form" 3 3 Fq7):Bl Ω:=
 Bl.cons (Sm.set 3 (Ex.call Cq16 (Ar.cons %[|3] (Ar.cons (Ex.blt bM B.len_ %[|41]) Ar.nil)))) (FT B Cq16 Cq7)
abbrev oX:Stmt:=top 57
abbrev J7:%[|0]:=["_law_pen_here","_law_widths","_law_d","_law_reads"]
abbrev J8:%[|0]:=["_law_pen_here","_law_widths","_law_d"]
def Ez(B:%[|5]){Fq16:Ct}(Cq16:%[|36]){Fq7:Ct}(Cq7:Cal Ω "_law_form" 3 3 Fq7){Fq1:Ct}(Cq1:Cal Ω "_law_cell" 4 3 Fq1):Bl Ω:=
 Bl.cons (Sm.ret (Ex.bin .Add (Ex.call Cq1 (Ar.cons %[|3] (Ar.cons %[|8] %[|63]))) (Ex.tup (Ar.cons (Ex.call Cq7 (Ar.cons %[|3] (Ar.cons (Ex.var 2) (Ar.cons (Ex.int 9) Ar.nil)))) (Ar.cons (Ex.typ cD B.tuple_ (Ar.cons (Ex.var 3) Ar.nil)) Ar.nil))))) Bl.nil
def K3(B:%[|5]){Fq16:Ct}(Cq16:%[|36]){Fq7:Ct}(Cq7:Cal Ω "_law_form" 3 3 Fq7){Fq1:Ct}(Cq1:Cal Ω "_law_cell" 4 3 Fq1):Bl Ω:=
 Bl.cons (Sm.setC 3 ["_law_k","_law_pen_here","_law_widths","_law_d"] [none,some 0,some 1,some 2] (Ex.bin .Add (Ex.tup (Ar.cons (Ex.bin .Sub (Ex.call Cq16 (Ar.cons %[|8] (Ar.cons (Ex.int 9) Ar.nil))) (Ex.int 4)) Ar.nil)) (Ex.call Cq1 (Ar.cons %[|8] (Ar.cons (Ex.var 2) (Ar.cons (Ex.var 3) Ar.nil))))) (Tg.nm 0) (Itb.rng1 B.range_ (Ex.call Cq16 (Ar.cons %[|3] (Ar.cons (Ex.int 4) Ar.nil)))) Cd.no) (Ez B Cq16 Cq7 Cq1)
abbrev jA:Stmt:=top 58
abbrev BZ:%[|0]:=["_law_pen_here","_law_widths","_law_nests","_law_n","_law_loops","_law_k","_law_low","_law_some"]
abbrev BV:%[|0]:=["_law_pen_here"]
section
variable (B : %[|5]) {Fq16 : Ct} (Cq16 : %[|36]) {Fq5 : Ct} (Cq5 : Cal Ω "_law_deed" 5 3 Fq5)
def oW(B:%[|5]){Fq16:Ct}(Cq16:%[|36]){Fq5:Ct}(Cq5:Cal Ω "_law_deed" 5 3 Fq5):Bl Ω:=
 Bl.cons (Sm.expr (Ex.m_append (Ex.var 4) (Ex.tup (Ar.cons (Ex.bin .Add (Ex.tup (Ar.cons (Ex.var 6) Ar.nil)) (Ex.bin .Mult (Ex.tup (Ar.cons (Ex.int 0) Ar.nil)) (Ex.var 5))) (Ar.cons (Ex.bin .Add (Ex.tup (Ar.cons (Ex.bin .Add (Ex.bin .Add (Ex.var 6) (Ex.call Cq16 (Ar.cons %[|3] (Ar.cons (Ex.int 2) Ar.nil)))) (Ex.typ JP B.int_ (Ar.cons (Ex.cmp .Eq (Ex.var 5) (Ex.int 0)) Ar.nil))) Ar.nil)) (Ex.bin .Mult (Ex.tup (Ar.cons (Ex.int 0) Ar.nil)) (Ex.var 5))) Ar.nil))))) Bl.nil
def ul:Bl Ω:=
 Bl.cons (Sm.set 6 (Ex.bin .Sub (Ex.call Cq16 (Ar.cons %[|3] (Ar.cons (Ex.int 5) Ar.nil))) (Ex.int 2))) (oW B Cq16 Cq5)
def oh(B:%[|5]){Fq16:Ct}(Cq16:%[|36]){Fq5:Ct}(Cq5:Cal Ω "_law_deed" 5 3 Fq5):Bl Ω:=
 Bl.cons (Sm.expr (Ex.m_append (Ex.var 2) (Ex.tup (Ar.cons (Ex.typ cD B.tuple_ (Ar.cons (Ex.var 4) Ar.nil)) (Ar.cons (Ex.var 7) Ar.nil))))) Bl.nil
def oF:Bl Ω:=
 Bl.cons (Sm.set 7 (Ex.typ cD B.tuple_ (Ar.cons (Ex.comp ["_law_s","_law_pen_here","_law_widths","_law_loops"] [none,some 0,some 1,some 4] (Ex.call Cq5 (Ar.cons %[|8] (Ar.cons (Ex.var 2) (Ar.cons (Ex.blt bM B.len_ (Ar.cons (Ex.var 3) Ar.nil)) Ar.nil)))) (Tg.nm 0) (Itb.rng1 B.range_ (Ex.bin .Add %[|10] (Ex.call Cq16 (Ar.cons %[|3] (Ar.cons (Ex.int 4) Ar.nil))))) Cd.no) Ar.nil))) (oh B Cq16 Cq5)
def oV:Bl Ω:=
 Bl.cons (Sm.for (Tg.nm 5) (Itb.rng1 B.range_ (Ex.bin .Add %[|10] (Ex.call Cq16 (Ar.cons %[|3] %[|70])))) (ul B Cq16 Cq5)) (oF B Cq16 Cq5)
def tX:Bl Ω:=
 Bl.cons (Sm.set 4 (Ex.own Ar.nil)) (oV B Cq16 Cq5)
def wW(B:%[|5]){Fq16:Ct}(Cq16:%[|36]){Fq5:Ct}(Cq5:Cal Ω "_law_deed" 5 3 Fq5):Bl Ω:=
 Bl.cons (Sm.ret (Ex.tup (Ar.cons %[|8] (Ar.cons (Ex.typ cD B.tuple_ %[|63]) Ar.nil)))) Bl.nil
def wD:Bl Ω:=
 Bl.cons (Sm.for (Tg.nm 3) (Itb.rng1 B.range_ (Ex.bin .Add %[|10] (Ex.call Cq16 (Ar.cons %[|3] %[|70])))) (tX B Cq16 Cq5)) (wW B Cq16 Cq5)
def wY:Bl Ω:=
 Bl.cons (Sm.set 2 (Ex.own Ar.nil)) (wD B Cq16 Cq5)
def Cu:Bl Ω:=
 Bl.cons (Sm.set 1 (Ex.typ cD B.tuple_ (Ar.cons (Ex.comp ["_law_k","_law_pen_here"] [none,some 0] (Ex.bin .Add %[|10] (Ex.call Cq16 (Ar.cons %[|8] (Ar.cons (Ex.int 2) Ar.nil)))) (Tg.nm 0) (Itb.rng1 B.range_ (Ex.bin .Add %[|10] (Ex.call Cq16 (Ar.cons %[|3] %[|70])))) Cd.no) Ar.nil))) (wY B Cq16 Cq5)
end
abbrev kj:Stmt:=top 59
abbrev Eb:%[|0]:=["_law_pen_here","_law_number_here","_law_far","_law_some"]
abbrev FP:%[|0]:=["_law_pen_here","_law_number_here"]
section
variable {Fq16 : Ct} (Cq16 : %[|36])
def Ae{Fq16:Ct}(Cq16:%[|36]):Bl Ω:=
 Bl.cons (Sm.ret (Ex.ix (Ex.var 3) (Ex.call Cq16 (Ar.cons %[|3] (Ar.cons (Ex.int 13) Ar.nil))))) Bl.nil
def yU:Bl Ω:=
 Bl.cons (Sm.set 3 (Ex.lst (Ar.cons (Ex.bin .Add %[|8] %[|10]) (Ar.cons (Ex.int 3) (Ar.cons (Ex.neg (Ex.int 3)) (Ar.cons (Ex.int 10) (Ar.cons (Ex.neg (Ex.int 10)) (Ar.cons (Ex.int 100) (Ar.cons (Ex.neg (Ex.int 100)) (Ar.cons (Ex.bin .Pow (Ex.int 10) (Ex.int 30)) (Ar.cons (Ex.bin .Sub (Ex.int 0) (Ex.bin .Pow (Ex.int 10) (Ex.int 30))) (Ar.cons (Ex.var 2) (Ar.cons (Ex.bin .Sub (Ex.int 0) (Ex.var 2)) (Ar.cons (Ex.bin .Sub (Ex.bin .Pow (Ex.int 10) (Ex.int 30)) %[|10]) (Ar.cons (Ex.int 0) Ar.nil))))))))))))))) (Ae Cq16)
def Fz:Bl Ω:=
 Bl.cons (Sm.set 2 (Ex.call Cq16 (Ar.cons %[|3] (Ar.cons (Ex.bin .Pow (Ex.int 10) (Ex.int 60)) Ar.nil)))) (yU Cq16)
end
abbrev uK:Stmt:=top 60
abbrev NK:%[|0]:=["_law_pen_here","_law_things","_law_at"]
abbrev Ny:%[|0]:=["_law_pen_here","_law_things"]
def Ji(B:%[|5]){Fq16:Ct}(Cq16:%[|36]):Bl Ω:=
 Bl.cons (Sm.ret (Ex.ix (Ex.lst (Ar.cons (Ex.bin .Add (Ex.sl %[|8] Po.no (Po.so (Ex.var 2))) (Ex.sl %[|8] (Po.so (Ex.bin .Add (Ex.var 2) %[|10])) Po.no)) (Ar.cons (Ex.bin .Add (Ex.bin .Add (Ex.sl %[|8] Po.no (Po.so (Ex.var 2))) (Ex.sl %[|8] Po.no (Po.so %[|10]))) (Ex.sl %[|8] (Po.so (Ex.var 2)) Po.no)) (Ar.cons (Ex.tup Ar.nil) Ar.nil)))) (Ex.fdiv (Ex.call Cq16 (Ar.cons %[|3] (Ar.cons (Ex.int 5) Ar.nil))) (Ex.int 2)))) Bl.nil
def Qx(B:%[|5]){Fq16:Ct}(Cq16:%[|36]):Bl Ω:=
 Bl.cons (Sm.set 2 (Ex.call Cq16 (Ar.cons %[|3] (Ar.cons (Ex.bin .Add (Ex.blt bM B.len_ %[|41]) %[|10]) Ar.nil)))) (Ji B Cq16)
abbrev gG:Stmt:=top 61
abbrev wM:%[|0]:=["_law_pen_here","_law_form_here","_law_at"]
abbrev xV:%[|0]:=["_law_pen_here","_law_form_here"]
section
variable (B : %[|5]) {Fq16 : Ct} (Cq16 : %[|36]) {Fq12 : Ct} (Cq12 : Cal Ω "_law_number" 3 2 Fq12)
def rG(B:%[|5]){Fq16:Ct}(Cq16:%[|36]){Fq12:Ct}(Cq12:Cal Ω "_law_number" 3 2 Fq12):Bl Ω:=
 Bl.cons (Sm.ret (Ex.bin .Add (Ex.bin .Add (Ex.sl %[|8] Po.no (Po.so (Ex.var 2))) (Ex.tup (Ar.cons (Ex.call Cq12 (Ar.cons %[|3] (Ar.cons (Ex.ix %[|8] (Ex.var 2)) Ar.nil))) Ar.nil))) (Ex.sl %[|8] (Po.so (Ex.bin .Add (Ex.var 2) %[|10])) Po.no))) Bl.nil
def su:Bl Ω:=
 Bl.cons (Sm.set 2 (Ex.call Cq16 (Ar.cons %[|3] (Ar.cons (Ex.blt bM B.len_ %[|41]) Ar.nil)))) (rG B Cq16 Cq12)
def xm:Bl Ω:=
 Bl.cons (Sm.ite (Te.cmp .Eq (Ex.call Cq16 (Ar.cons %[|3] %[|70])) (Ex.int 0)) (Bl.cons (Sm.ret (Ex.bin .Add (Ex.sl %[|8] Po.no (Po.so (Ex.neg %[|10]))) (Ex.bin .Mult (Ex.sl %[|8] Po.no (Po.so %[|10])) (Ex.bin .Add (Ex.bin .Mult (Ex.int 2) (Ex.typ JP B.int_ (Ar.cons (Ex.and (Bo.cons (Ex.cmp .Gt (Ex.blt bM B.len_ %[|41]) %[|10]) (Bo.one (Ex.cmp .Eq (Ex.call Cq16 (Ar.cons %[|3] (Ar.cons (Ex.int 2) Ar.nil))) (Ex.int 0))))) Ar.nil))) (Ex.bin .Mult (Ex.typ JP B.int_ (Ar.cons (Ex.cmp .Eq (Ex.blt bM B.len_ %[|41]) %[|10]) Ar.nil)) (Ex.int 2)))))) Bl.nil) Bl.nil) (su B Cq16 Cq12)
end
abbrev gf:Stmt:=top 62
abbrev xK:%[|0]:=["_law_pen_here","_law_cell_here","_law_at","_law_place"]
abbrev wB:%[|0]:=["_law_pen_here","_law_cell_here"]
section
variable (B : %[|5]) {Fq16 : Ct} (Cq16 : %[|36]) {Fq8 : Ct} (Cq8 : Cal Ω "_law_form_bent" 4 2 Fq8)
def rZ(B:%[|5]){Fq16:Ct}(Cq16:%[|36]){Fq8:Ct}(Cq8:Cal Ω "_law_form_bent" 4 2 Fq8):Bl Ω:=
 Bl.cons (Sm.ret (Ex.tup (Ar.cons (Ex.ix %[|8] (Ex.int 0)) (Ar.cons (Ex.var 3) Ar.nil)))) Bl.nil
def qI:Bl Ω:=
 Bl.cons (Sm.ite (Te.cmp .Eq (Ex.call Cq16 (Ar.cons %[|3] %[|70])) (Ex.int 0)) (Bl.cons (Sm.set 3 (Ex.ix (Ex.lst (Ar.cons (Ex.bin .Add (Ex.ix %[|8] %[|10]) (Ex.sl (Ex.ix %[|8] %[|10]) Po.no (Po.so %[|10]))) (Ar.cons (Ex.sl (Ex.ix %[|8] %[|10]) Po.no (Po.so %[|10])) Ar.nil))) (Ex.call Cq16 (Ar.cons %[|3] (Ar.cons (Ex.int 2) Ar.nil))))) Bl.nil) Bl.nil) (rZ B Cq16 Cq8)
def sU:Bl Ω:=
 Bl.cons (Sm.set 3 (Ex.bin .Add (Ex.bin .Add (Ex.sl (Ex.ix %[|8] %[|10]) Po.no (Po.so (Ex.var 2))) (Ex.tup (Ar.cons (Ex.call Cq8 (Ar.cons %[|3] (Ar.cons (Ex.ix (Ex.ix %[|8] %[|10]) (Ex.var 2)) Ar.nil))) Ar.nil))) (Ex.sl (Ex.ix %[|8] %[|10]) (Po.so (Ex.bin .Add (Ex.var 2) %[|10])) Po.no))) (qI B Cq16 Cq8)
def qz:Bl Ω:=
 Bl.cons (Sm.set 2 (Ex.call Cq16 (Ar.cons %[|3] (Ar.cons (Ex.blt bM B.len_ (Ar.cons (Ex.ix %[|8] %[|10]) Ar.nil)) Ar.nil)))) (sU B Cq16 Cq8)
def wH:Bl Ω:=
 Bl.cons (Sm.ite (Te.cmp .Eq (Ex.call Cq16 (Ar.cons %[|3] %[|70])) (Ex.int 0)) (Bl.cons (Sm.ret (Ex.tup (Ar.cons (Ex.call Cq16 (Ar.cons %[|3] %[|70])) (Ar.cons (Ex.ix %[|8] %[|10]) Ar.nil)))) Bl.nil) Bl.nil) (qz B Cq16 Cq8)
end
abbrev gr:Stmt:=top 63
abbrev xg:%[|0]:=["_law_pen_here","_law_deed_here","_law_way","_law_at","_law_one","_law_bent_here"]
abbrev xn:%[|0]:=["_law_pen_here","_law_deed_here"]
section
variable (B : %[|5]) {Fq16 : Ct} (Cq16 : %[|36]) {Fq12 : Ct} (Cq12 : Cal Ω "_law_number" 3 2 Fq12) {Fq8 : Ct} (Cq8 : Cal Ω "_law_form_bent" 4 2 Fq8) {Fq3 : Ct} (Cq3 : Cal Ω "_law_cell_bent" 5 2 Fq3)
def qO(B:%[|5]){Fq16:Ct}(Cq16:%[|36]){Fq12:Ct}(Cq12:Cal Ω "_law_number" 3 2 Fq12){Fq8:Ct}(Cq8:Cal Ω "_law_form_bent" 4 2 Fq8){Fq3:Ct}(Cq3:Cal Ω "_law_cell_bent" 5 2 Fq3):Bl Ω:=
 Bl.cons (Sm.ret (Ex.bin .Add (Ex.sl %[|8] Po.no (Po.so (Ex.int 3))) (Ex.tup (Ar.cons (Ex.bin .Add (Ex.bin .Add (Ex.sl (Ex.ix %[|8] (Ex.int 3)) Po.no (Po.so (Ex.var 3))) (Ex.tup (Ar.cons (Ex.var 5) Ar.nil))) (Ex.sl (Ex.ix %[|8] (Ex.int 3)) (Po.so (Ex.bin .Add (Ex.var 3) %[|10])) Po.no)) Ar.nil)))) Bl.nil
def qH:Bl Ω:=
 Bl.cons (Sm.ite (Te.cmp .Eq (Ex.call Cq16 (Ar.cons %[|3] (Ar.cons (Ex.int 2) Ar.nil))) (Ex.int 0)) (Bl.cons (Sm.set 5 (Ex.bin .Add (Ex.tup (Ar.cons (Ex.call Cq12 (Ar.cons %[|3] (Ar.cons (Ex.ix (Ex.var 4) (Ex.int 0)) Ar.nil))) Ar.nil)) (Ex.sl (Ex.var 4) (Po.so %[|10]) Po.no))) Bl.nil) Bl.nil) (qO B Cq16 Cq12 Cq8 Cq3)
def sE:Bl Ω:=
 Bl.cons (Sm.set 5 (Ex.bin .Add (Ex.sl (Ex.var 4) Po.no (Po.so %[|10])) (Ex.call Cq3 (Ar.cons %[|3] (Ar.cons (Ex.sl (Ex.var 4) (Po.so %[|10]) Po.no) Ar.nil))))) (qH B Cq16 Cq12 Cq8 Cq3)
def rW:Bl Ω:=
 Bl.cons (Sm.set 4 (Ex.ix (Ex.ix %[|8] (Ex.int 3)) (Ex.var 3))) (sE B Cq16 Cq12 Cq8 Cq3)
def qR:Bl Ω:=
 Bl.cons (Sm.set 3 (Ex.call Cq16 (Ar.cons %[|3] (Ar.cons (Ex.blt bM B.len_ (Ar.cons (Ex.ix %[|8] (Ex.int 3)) Ar.nil)) Ar.nil)))) (rW B Cq16 Cq12 Cq8 Cq3)
def rQ:Bl Ω:=
 Bl.cons (Sm.ite (Te.or (Bt.cons (Te.cmp .Eq (Ex.var 2) (Ex.int 2)) (Bt.one (Te.cmp .Eq (Ex.ix %[|8] (Ex.int 3)) (Ex.tup Ar.nil))))) (Bl.cons (Sm.ret (Ex.bin .Add (Ex.sl %[|8] Po.no (Po.so (Ex.int 3))) (Ex.tup (Ar.cons (Ex.bin .Add (Ex.bin .Mult (Ex.ix %[|8] (Ex.int 3)) (Ex.int 2)) (Ex.bin .Mult (Ex.tup (Ar.cons (Ex.bin .Add (Ex.tup (Ar.cons %[|10] Ar.nil)) (Ex.sl %[|8] Po.no (Po.so (Ex.int 2)))) Ar.nil)) (Ex.int 2))) Ar.nil)))) Bl.nil) Bl.nil) (qR B Cq16 Cq12 Cq8 Cq3)
def qK:Bl Ω:=
 Bl.cons (Sm.ite (Te.cmp .Eq (Ex.var 2) %[|10]) (Bl.cons (Sm.ret (Ex.bin .Add (Ex.sl %[|8] Po.no (Po.so (Ex.int 2))) (Ex.tup (Ar.cons (Ex.call Cq8 (Ar.cons %[|3] (Ar.cons (Ex.ix %[|8] (Ex.int 2)) Ar.nil))) (Ar.cons (Ex.ix %[|8] (Ex.int 3)) Ar.nil))))) Bl.nil) Bl.nil) (rQ B Cq16 Cq12 Cq8 Cq3)
def qy:Bl Ω:=
 Bl.cons (Sm.ite (Te.cmp .Eq (Ex.var 2) (Ex.int 0)) (Bl.cons (Sm.ret (Ex.bin .Add (Ex.call Cq3 (Ar.cons %[|3] (Ar.cons (Ex.sl %[|8] Po.no (Po.so (Ex.int 2))) Ar.nil))) (Ex.sl %[|8] (Po.so (Ex.int 2)) Po.no))) Bl.nil) Bl.nil) (qK B Cq16 Cq12 Cq8 Cq3)
def xx:Bl Ω:=
 Bl.cons (Sm.set 2 (Ex.call Cq16 (Ar.cons %[|3] (Ar.cons (Ex.int 4) Ar.nil)))) (qy B Cq16 Cq12 Cq8 Cq3)
end
abbrev fG:Stmt:=top 64
abbrev uQ:%[|0]:=["_law_pen_here","_law_loops","_law_way","_law_at","_law_low","_law_high","_law_loop"]
abbrev uO:%[|0]:=["_law_pen_here","_law_loops"]
section
variable (B : %[|5]) {Fq16 : Ct} (Cq16 : %[|36]) {Fq15 : Ct} (Cq15 : Cal Ω "_law_row" 3 2 Fq15) {Fq8 : Ct} (Cq8 : Cal Ω "_law_form_bent" 4 2 Fq8)
def oR(B:%[|5]){Fq16:Ct}(Cq16:%[|36]){Fq15:Ct}(Cq15:Cal Ω "_law_row" 3 2 Fq15){Fq8:Ct}(Cq8:Cal Ω "_law_form_bent" 4 2 Fq8):Bl Ω:=
 Bl.cons (Sm.ret (Ex.bin .Add (Ex.bin .Add (Ex.sl %[|8] Po.no (Po.so (Ex.var 3))) (Ex.tup (Ar.cons (Ex.var 6) Ar.nil))) (Ex.sl %[|8] (Po.so (Ex.bin .Add (Ex.var 3) %[|10])) Po.no))) Bl.nil
def oH:Bl Ω:=
 Bl.cons (Sm.ite (Te.cmp .Eq (Ex.var 2) %[|10]) (Bl.cons (Sm.set 6 (Ex.tup (Ar.cons (Ex.bin .Add (Ex.tup (Ar.cons (Ex.neg (Ex.int 9)) Ar.nil)) (Ex.sl (Ex.var 4) (Po.so %[|10]) Po.no)) (Ar.cons (Ex.bin .Add (Ex.tup (Ar.cons (Ex.int 9) Ar.nil)) (Ex.sl (Ex.var 5) (Po.so %[|10]) Po.no)) Ar.nil)))) Bl.nil) Bl.nil) (oR B Cq16 Cq15 Cq8)
def pI:Bl Ω:=
 Bl.cons (Sm.set 6 (Ex.tup (Ar.cons (Ex.var 4) (Ar.cons (Ex.call Cq8 (Ar.cons %[|3] (Ar.cons (Ex.var 5) Ar.nil))) Ar.nil)))) (oH B Cq16 Cq15 Cq8)
def pQ:Bl Ω:=
 Bl.cons (Sm.unpack [4,5] (Ex.ix %[|8] (Ex.var 3))) (pI B Cq16 Cq15 Cq8)
def iV:Bl Ω:=
 Bl.cons (Sm.set 3 (Ex.call Cq16 (Ar.cons %[|3] (Ar.cons (Ex.blt bM B.len_ %[|41]) Ar.nil)))) (pQ B Cq16 Cq15 Cq8)
def pP:Bl Ω:=
 Bl.cons (Sm.ite (Te.cmp .Eq (Ex.var 2) (Ex.int 0)) (Bl.cons (Sm.ret (Ex.call Cq15 (Ar.cons %[|3] %[|41]))) Bl.nil) Bl.nil) (iV B Cq16 Cq15 Cq8)
def uR:Bl Ω:=
 Bl.cons (Sm.set 2 (Ex.call Cq16 (Ar.cons %[|3] %[|70]))) (pP B Cq16 Cq15 Cq8)
end
abbrev oZ:Stmt:=top 65
abbrev Ky:%[|0]:=["_law_pen_here","_law_program_here","_law_widths","_law_nests","_law_way","_law_at","_law_n","_law_loops","_law_deeds","_law_s"]
abbrev Mh:%[|0]:=["_law_pen_here","_law_program_here"]
section
variable (B : %[|5]) {Fq16 : Ct} (Cq16 : %[|36]) {Fq12 : Ct} (Cq12 : Cal Ω "_law_number" 3 2 Fq12) {Fq15 : Ct} (Cq15 : Cal Ω "_law_row" 3 2 Fq15) {Fq6 : Ct} (Cq6 : Cal Ω "_law_deed_bent" 6 2 Fq6) {Fq11 : Ct} (Cq11 : Cal Ω "_law_loops_bent" 5 2 Fq11)
def xq(B:%[|5]){Fq16:Ct}(Cq16:%[|36]){Fq12:Ct}(Cq12:Cal Ω "_law_number" 3 2 Fq12){Fq15:Ct}(Cq15:Cal Ω "_law_row" 3 2 Fq15){Fq6:Ct}(Cq6:Cal Ω "_law_deed_bent" 6 2 Fq6){Fq11:Ct}(Cq11:Cal Ω "_law_loops_bent" 5 2 Fq11):Bl Ω:=
 Bl.cons (Sm.ret (Ex.tup (Ar.cons (Ex.var 2) (Ar.cons (Ex.bin .Add (Ex.bin .Add (Ex.sl (Ex.var 3) Po.no (Po.so (Ex.var 5))) (Ex.tup (Ar.cons (Ex.tup (Ar.cons (Ex.tup Ar.nil) (Ar.cons (Ex.tup Ar.nil) Ar.nil))) Ar.nil))) (Ex.sl (Ex.var 3) (Po.so (Ex.var 5)) Po.no)) Ar.nil)))) Bl.nil
def Cw:Bl Ω:=
 Bl.cons (Sm.set 5 (Ex.call Cq16 (Ar.cons %[|3] (Ar.cons (Ex.bin .Add (Ex.blt bM B.len_ (Ar.cons (Ex.var 3) Ar.nil)) %[|10]) Ar.nil)))) (xq B Cq16 Cq12 Cq15 Cq6 Cq11)
def xX(B:%[|5]){Fq16:Ct}(Cq16:%[|36]){Fq12:Ct}(Cq12:Cal Ω "_law_number" 3 2 Fq12){Fq15:Ct}(Cq15:Cal Ω "_law_row" 3 2 Fq15){Fq6:Ct}(Cq6:Cal Ω "_law_deed_bent" 6 2 Fq6){Fq11:Ct}(Cq11:Cal Ω "_law_loops_bent" 5 2 Fq11):Bl Ω:=
 Bl.cons (Sm.ret (Ex.tup (Ar.cons (Ex.bin .Add (Ex.bin .Add (Ex.sl (Ex.var 2) Po.no (Po.so (Ex.var 5))) (Ex.tup (Ar.cons (Ex.call Cq12 (Ar.cons %[|3] (Ar.cons (Ex.ix (Ex.var 2) (Ex.var 5)) Ar.nil))) Ar.nil))) (Ex.sl (Ex.var 2) (Po.so (Ex.bin .Add (Ex.var 5) %[|10])) Po.no)) (Ar.cons (Ex.var 3) Ar.nil)))) Bl.nil
def By:Bl Ω:=
 Bl.cons (Sm.set 5 (Ex.call Cq16 (Ar.cons %[|3] (Ar.cons (Ex.blt bM B.len_ %[|63]) Ar.nil)))) (xX B Cq16 Cq12 Cq15 Cq6 Cq11)
def BL(B:%[|5]){Fq16:Ct}(Cq16:%[|36]){Fq12:Ct}(Cq12:Cal Ω "_law_number" 3 2 Fq12){Fq15:Ct}(Cq15:Cal Ω "_law_row" 3 2 Fq15){Fq6:Ct}(Cq6:Cal Ω "_law_deed_bent" 6 2 Fq6){Fq11:Ct}(Cq11:Cal Ω "_law_loops_bent" 5 2 Fq11):Bl Ω:=
 Bl.cons (Sm.ret (Ex.tup (Ar.cons (Ex.var 2) (Ar.cons (Ex.bin .Add (Ex.bin .Add (Ex.sl (Ex.var 3) Po.no (Po.so (Ex.var 6))) (Ex.tup (Ar.cons (Ex.tup (Ar.cons (Ex.var 7) (Ar.cons (Ex.var 8) Ar.nil))) Ar.nil))) (Ex.sl (Ex.var 3) (Po.so (Ex.bin .Add (Ex.var 6) %[|10])) Po.no)) Ar.nil)))) Bl.nil
def Gx:Bl Ω:=
 Bl.cons (Sm.ite (Te.cmp .Eq (Ex.var 4) (Ex.int 3)) (Bl.cons (Sm.set 8 (Ex.call Cq15 (Ar.cons %[|3] (Ar.cons (Ex.var 8) Ar.nil)))) Bl.nil) (Bl.cons (Sm.ite (Te.cmp .Eq (Ex.var 4) (Ex.int 4)) (Bl.cons (Sm.set 7 (Ex.call Cq11 (Ar.cons %[|3] (Ar.cons (Ex.var 7) Ar.nil)))) Bl.nil) (Bl.cons (Sm.set 8 (Ex.bin .Add (Ex.bin .Add (Ex.sl (Ex.var 8) Po.no (Po.so (Ex.var 9))) (Ex.tup (Ar.cons (Ex.call Cq6 (Ar.cons %[|3] (Ar.cons (Ex.ix (Ex.var 8) (Ex.var 9)) Ar.nil))) Ar.nil))) (Ex.sl (Ex.var 8) (Po.so (Ex.bin .Add (Ex.var 9) %[|10])) Po.no))) Bl.nil)) Bl.nil)) (BL B Cq16 Cq12 Cq15 Cq6 Cq11)
def Gf:Bl Ω:=
 Bl.cons (Sm.set 9 (Ex.call Cq16 (Ar.cons %[|3] (Ar.cons (Ex.blt bM B.len_ (Ar.cons (Ex.var 8) Ar.nil)) Ar.nil)))) (Gx B Cq16 Cq12 Cq15 Cq6 Cq11)
def Gj:Bl Ω:=
 Bl.cons (Sm.unpack [7,8] (Ex.ix (Ex.var 3) (Ex.var 6))) (Gf B Cq16 Cq12 Cq15 Cq6 Cq11)
def sX:Bl Ω:=
 Bl.cons (Sm.set 6 (Ex.call Cq16 (Ar.cons %[|3] (Ar.cons (Ex.blt bM B.len_ (Ar.cons (Ex.var 3) Ar.nil)) Ar.nil)))) (Gj B Cq16 Cq12 Cq15 Cq6 Cq11)
def Fw:Bl Ω:=
 Bl.cons (Sm.ite (Te.cmp .Eq (Ex.var 4) (Ex.int 2)) (Bl.cons (Sm.ret (Ex.tup (Ar.cons (Ex.var 2) (Ar.cons (Ex.call Cq15 (Ar.cons %[|3] (Ar.cons (Ex.var 3) Ar.nil))) Ar.nil)))) Bl.nil) Bl.nil) (sX B Cq16 Cq12 Cq15 Cq6 Cq11)
def Et:Bl Ω:=
 Bl.cons (Sm.ite (Te.cmp .Eq (Ex.var 4) %[|10]) (By B Cq16 Cq12 Cq15 Cq6 Cq11) Bl.nil) (Fw B Cq16 Cq12 Cq15 Cq6 Cq11)
def Ei:Bl Ω:=
 Bl.cons (Sm.ite (Te.cmp .Eq (Ex.var 4) (Ex.int 8)) (Cw B Cq16 Cq12 Cq15 Cq6 Cq11) Bl.nil) (Et B Cq16 Cq12 Cq15 Cq6 Cq11)
def Gs:Bl Ω:=
 Bl.cons (Sm.ite (Te.cmp .Eq (Ex.var 4) (Ex.int 0)) (Bl.cons (Sm.ret (Ex.tup (Ar.cons (Ex.call Cq15 (Ar.cons %[|3] %[|63])) (Ar.cons (Ex.var 3) Ar.nil)))) Bl.nil) Bl.nil) (Ei B Cq16 Cq12 Cq15 Cq6 Cq11)
def Gi:Bl Ω:=
 Bl.cons (Sm.set 4 (Ex.call Cq16 (Ar.cons %[|3] (Ar.cons (Ex.int 9) Ar.nil)))) (Gs B Cq16 Cq12 Cq15 Cq6 Cq11)
def JR:Bl Ω:=
 Bl.cons (Sm.unpack [2,3] %[|8]) (Gi B Cq16 Cq12 Cq15 Cq6 Cq11)
end
abbrev gk:Stmt:=top 66
abbrev vW:%[|0]:=["_law_form_here"]
abbrev xj:%[|0]:=["_law_form_here"]
def vU(B:%[|5]):Bl Ω:=
 Bl.cons (Sm.ret (Ex.ms dX (Ex.str ",") (Ex.comp ["_law_number_here"] [none] (Ex.typ KD B.str_ %[|51]) (Tg.nm 0) (Itb.seq %[|3]) Cd.no))) Bl.nil
abbrev gq:Stmt:=top 67
abbrev wu:%[|0]:=["_law_table","_law_place"]
abbrev wj:%[|0]:=["_law_table","_law_place"]
def xN{Fq9:Ct}(Cq9:Cal Ω "_law_form_text" 1 1 Fq9):Bl Ω:=
 Bl.cons (Sm.ret (Ex.catS (Ex.ixS (Ex.str "abc") %[|3]) (Ex.ms dX (Ex.str "") (Ex.comp ["_law_form_here"] [none] (Ex.catS (Ex.str "@") (Ex.call Cq9 %[|51])) (Tg.nm 0) (Itb.seq %[|8]) Cd.no)))) Bl.nil
abbrev lG:Stmt:=top 68
abbrev Hy:%[|0]:=["_law_program_here","_law_lines_here","_law_loops","_law_deeds","_law_low","_law_high","_law_table","_law_place","_law_start","_law_reads","_law_factor","_law_one","_law_where"]
abbrev JF:%[|0]:=["_law_program_here"]
section
variable (B : %[|5]) {Fq9 : Ct} (Cq9 : Cal Ω "_law_form_text" 1 1 Fq9) {Fq4 : Ct} (Cq4 : Cal Ω "_law_cell_text" 2 2 Fq4)
def jP(B:%[|5]){Fq9:Ct}(Cq9:Cal Ω "_law_form_text" 1 1 Fq9){Fq4:Ct}(Cq4:Cal Ω "_law_cell_text" 2 2 Fq4):Bl Ω:=
 Bl.cons (Sm.forL (Tg.tup [10,11,12]) (Ex.var 9) (Bl.cons (Sm.expr (Ex.m_append %[|8] (Ex.ms dX (Ex.str " ") (Ex.lst (Ar.cons (Ex.str "and") (Ar.cons (Ex.typ KD B.str_ (Ar.cons (Ex.var 10) Ar.nil)) (Ar.cons (Ex.str "of") (Ar.cons (Ex.call Cq4 (Ar.cons (Ex.var 11) (Ar.cons (Ex.var 12) Ar.nil))) Ar.nil)))))))) Bl.nil)) Bl.nil
def yX:Bl Ω:=
 Bl.cons (Sm.expr (Ex.m_append %[|8] (Ex.ms dX (Ex.str " ") (Ex.lst (Ar.cons (Ex.str "set") (Ar.cons (Ex.call Cq4 (Ar.cons (Ex.var 6) (Ar.cons (Ex.var 7) Ar.nil))) (Ar.cons (Ex.str "be") (Ar.cons (Ex.call Cq9 (Ar.cons (Ex.var 8) Ar.nil)) Ar.nil)))))))) (jP B Cq9 Cq4)
def jV(B:%[|5]){Fq9:Ct}(Cq9:Cal Ω "_law_form_text" 1 1 Fq9){Fq4:Ct}(Cq4:Cal Ω "_law_cell_text" 2 2 Fq4):Bl Ω:=
 Bl.cons (Sm.forL (Tg.tup [6,7,8,9]) (Ex.var 3) (yX B Cq9 Cq4)) Bl.nil
def uf:Bl Ω:=
 Bl.cons (Sm.forL (Tg.tup [4,5]) (Ex.var 2) (Bl.cons (Sm.expr (Ex.m_append %[|8] (Ex.ms dX (Ex.str " ") (Ex.lst (Ar.cons (Ex.str "loop") (Ar.cons (Ex.call Cq9 (Ar.cons (Ex.var 4) Ar.nil)) (Ar.cons (Ex.str "to") (Ar.cons (Ex.call Cq9 (Ar.cons (Ex.var 5) Ar.nil)) Ar.nil)))))))) Bl.nil)) (jV B Cq9 Cq4)
def mJ:Bl Ω:=
 Bl.cons (Sm.expr (Ex.m_append %[|8] (Ex.str "nest"))) (uf B Cq9 Cq4)
def BP(B:%[|5]){Fq9:Ct}(Cq9:Cal Ω "_law_form_text" 1 1 Fq9){Fq4:Ct}(Cq4:Cal Ω "_law_cell_text" 2 2 Fq4):Bl Ω:=
 Bl.cons (Sm.ret %[|8]) Bl.nil
def Cp:Bl Ω:=
 Bl.cons (Sm.forL (Tg.tup [2,3]) (Ex.ix %[|3] %[|10]) (mJ B Cq9 Cq4)) (BP B Cq9 Cq4)
def Jc:Bl Ω:=
 Bl.cons (Sm.set 1 (Ex.own (Ar.cons (Ex.ms dX (Ex.str " ") (Ex.binL false .Add (Ex.lst (Ar.cons (Ex.str "tables") Ar.nil)) (Ex.comp ["_law_width"] [none] (Ex.typ KD B.str_ %[|51]) (Tg.nm 0) (Itb.seq (Ex.ix %[|3] (Ex.int 0))) Cd.no))) Ar.nil))) (Cp B Cq9 Cq4)
end
abbrev pX:Stmt:=top 69
abbrev Mm:%[|0]:=["_law_way","_law_first","_law_second","e","_law_marks"]
abbrev JN:%[|0]:=["_law_way","_law_first","_law_second"]
def Kv(B:%[|5])(E:%[|27]){Fq44:XCt}(Cq44:az Ω "program_of" 10 2 Fq44){Fq45:XCt}(Cq45:az Ω "read" 11 1 Fq45):BT Ω:=
 (BT.trym E B.isinstance_ (TB.ifr (Te.cmp .Eq %[|3] (Ex.int 0)) (XEx.call Cq45 %[|41]) (TB.ret (XEx.call Cq44 (Ar.cons %[|8] %[|63])))) 3 "e" (HT.or (HT.any ["NoOrder","NoPlan","NoRow","NoTurn","Tied"]) (HT.no (HT.one "ValueError"))) (Oc.str "other") 4 ⟨"_law_marks","NoProgram","NoText","TooMany",(Oc.str "other"),(Oc.str "no program"),(Oc.str "no text"),(Oc.str "too many")⟩ (BT.of Bl.nil))
abbrev jY:Stmt:=top 70
abbrev Vq:%[|0]:=["_law_script","_law_pen_here","_law_program_here","_law_turn","_law_bent_here","_law_lines_here","_law_due","_law_at"]
abbrev Np:%[|0]:=["_law_script"]
section
variable (B : %[|5]) {Fq13 : Ct} (Cq13 : Cal Ω "_law_pen" 2 1 Fq13) {Fq16 : Ct} (Cq16 : %[|36]) {Fq14 : Ct} (Cq14 : Cal Ω "_law_program" 6 1 Fq14) {Fq0 : Ct} (Cq0 : Cal Ω "_law_bent" 7 2 Fq0) {Fq10 : Ct} (Cq10 : Cal Ω "_law_lines" 3 1 Fq10) {Fq17 : Ct} (Cq17 : Cal Ω "_law_told" 12 3 Fq17)
def FN(B:%[|5]){Fq13:Ct}(Cq13:Cal Ω "_law_pen" 2 1 Fq13){Fq16:Ct}(Cq16:%[|36]){Fq14:Ct}(Cq14:Cal Ω "_law_program" 6 1 Fq14){Fq0:Ct}(Cq0:Cal Ω "_law_bent" 7 2 Fq0){Fq10:Ct}(Cq10:Cal Ω "_law_lines" 3 1 Fq10){Fq17:Ct}(Cq17:Cal Ω "_law_told" 12 3 Fq17):Bl Ω:=
 Bl.cons (Sm.ite (Te.cmp .NotEq (Ex.call Cq17 (Ar.cons (Ex.int 0) (Ar.cons (Ex.ms dX (Ex.str "\n") (Ex.var 5)) (Ar.cons Ex.non Ar.nil)))) (Ex.str "no text")) (Bl.cons (Sm.ret (Ex.bl false)) Bl.nil) Bl.nil) Bl.nil
def Em:Bl Ω:=
 Bl.cons (Sm.setIx (Ex.var 5) (Ex.var 7) (Ex.ix (Ex.lst (Ar.cons (Ex.catS (Ex.ix (Ex.var 5) (Ex.var 7)) (Ex.str " ")) (Ar.cons (Ex.catS (Ex.str "x") (Ex.ix (Ex.var 5) (Ex.var 7))) (Ar.cons (Ex.upper (Ex.ix (Ex.var 5) (Ex.var 7))) (Ar.cons (Ex.catS (Ex.ix (Ex.var 5) (Ex.var 7)) (Ex.str ".")) (Ar.cons (Ex.str "") Ar.nil)))))) (Ex.call Cq16 (Ar.cons %[|8] (Ar.cons (Ex.int 5) Ar.nil))))) (FN B Cq13 Cq16 Cq14 Cq0 Cq10 Cq17)
def Ec:Bl Ω:=
 Bl.cons (Sm.set 7 (Ex.call Cq16 (Ar.cons %[|8] (Ar.cons (Ex.blt bM B.len_ (Ar.cons (Ex.var 5) Ar.nil)) Ar.nil)))) (Em B Cq13 Cq16 Cq14 Cq0 Cq10 Cq17)
def Er:Bl Ω:=
 Bl.cons (Sm.ite (Te.or (Bt.cons (Te.cmp .In (Ex.var 6) (Ex.lst (Ar.cons (Ex.str "other") (Ar.cons (Ex.str "no text") Ar.nil)))) (Bt.one (Te.cmp .NotEq (Ex.call Cq17 (Ar.cons (Ex.int 0) (Ar.cons (Ex.ms dX (Ex.str "\n") (Ex.var 5)) (Ar.cons Ex.non Ar.nil)))) (Ex.var 6))))) (Bl.cons (Sm.ret (Ex.bl false)) Bl.nil) Bl.nil) (Ec B Cq13 Cq16 Cq14 Cq0 Cq10 Cq17)
def Eu:Bl Ω:=
 Bl.cons (Sm.set 6 (Ex.call Cq17 (Ar.cons %[|10] (Ar.cons (Ex.ix (Ex.var 4) (Ex.int 0)) (Ar.cons (Ex.ix (Ex.var 4) %[|10]) Ar.nil))))) (Er B Cq13 Cq16 Cq14 Cq0 Cq10 Cq17)
def Ef:Bl Ω:=
 Bl.cons (Sm.set 5 (Ex.call Cq10 (Ar.cons (Ex.var 4) Ar.nil))) (Eu B Cq13 Cq16 Cq14 Cq0 Cq10 Cq17)
def J1:Bl Ω:=
 Bl.cons (Sm.set 4 (Ex.call Cq0 (Ar.cons %[|8] %[|63]))) (Ef B Cq13 Cq16 Cq14 Cq0 Cq10 Cq17)
def Pk(B:%[|5]){Fq13:Ct}(Cq13:Cal Ω "_law_pen" 2 1 Fq13){Fq16:Ct}(Cq16:%[|36]){Fq14:Ct}(Cq14:Cal Ω "_law_program" 6 1 Fq14){Fq0:Ct}(Cq0:Cal Ω "_law_bent" 7 2 Fq0){Fq10:Ct}(Cq10:Cal Ω "_law_lines" 3 1 Fq10){Fq17:Ct}(Cq17:Cal Ω "_law_told" 12 3 Fq17):Bl Ω:=
 Bl.cons (Sm.ret (Ex.cmp .Eq (Ex.call Cq17 (Ar.cons (Ex.int 0) (Ar.cons (Ex.ms dX (Ex.str "\n") (Ex.call Cq10 %[|63])) (Ar.cons Ex.non Ar.nil)))) (Ex.call Cq17 (Ar.cons %[|10] (Ar.cons (Ex.ix (Ex.var 2) (Ex.int 0)) (Ar.cons (Ex.ix (Ex.var 2) %[|10]) Ar.nil)))))) Bl.nil
def Qp:Bl Ω:=
 Bl.cons (Sm.for (Tg.nm 3) (Itb.rng1 B.range_ (Ex.int 10)) (J1 B Cq13 Cq16 Cq14 Cq0 Cq10 Cq17)) (Pk B Cq13 Cq16 Cq14 Cq0 Cq10 Cq17)
def Qc:Bl Ω:=
 Bl.cons (Sm.set 2 (Ex.call Cq14 %[|41])) (Qp B Cq13 Cq16 Cq14 Cq0 Cq10 Cq17)
def VH:Bl Ω:=
 Bl.cons (Sm.set 1 (Ex.call Cq13 %[|51])) (Qc B Cq13 Cq16 Cq14 Cq0 Cq10 Cq17)
end
end
end K54
local macro_rules | `(tactic| walk_at "n") => `(tactic| ((conv => whnf); repeat (with_reducible first | apply RF.cLt | apply RF.cLe | apply RF.cGt | apply RF.cGe | apply RF.cEqI | apply RF.cNeI | apply RF.cEqB | apply RF.cNeB | apply RF.cIsN | apply RF.cIsB | apply RF.cIsNotB | apply RF.cIsNot); (conv => whnf)))
local macro_rules | `(tactic| walk_at "at") => `(tactic| first | (with_reducible assumption) | exact DL.set_get (by first | (with_reducible assumption) | exact DL.set_get (by with_reducible assumption)))
local macro_rules | `(tactic| walk_at "o") => `(tactic| first | omega | decide | (simp; done) | (simp; omega))
local macro_rules | `(tactic| walk_at "a1") => `(tactic| first
 | refine RF.wM1 (by first | exact .inl ⟨by walk_at "o", by walk_at "o"⟩ | exact .inr ⟨by walk_at "o", by walk_at "o"⟩) ?_
 | refine RF.wM2 ⟨by decide, by decide, by decide⟩ ?_
 | refine RF.wM3 ⟨by omega, by omega⟩ ?_
 | refine RF.wM4 (by omega) ?_
 | ((fail_if_success (with_reducible show (_ /\ ∃ _ : Nat -> List DL.D -> DL.Store -> Prop, _))); refine RF.wM5 (by walk_at "o") ?_)
 | refine RF.wM6 (by walk_at "o") ?_
 | (refine' RF.wM7 ?h1 ?h2 ?h3; (case h1 => walk_at "at"); (case h2 => exact rfl); (try rw [List.set_set]))
 | (refine' RF.wM8 ?h1 ?h2 ?h3; (case h1 => walk_at "at"); (case h2 => exact rfl))
 | refine RF.wM9 rfl ?_)
local macro_rules | `(tactic| walk_at "a") => `(tactic| (walk_at "n"; repeat (walk_at "a1"; walk_at "n")))
local macro_rules | `(tactic| walk_at "b") => `(tactic| (walk_at "n"; repeat ((first | walk_at "a1" | apply RF.bT | apply RF.bF | apply RF.dT | apply RF.dF); walk_at "n")))
namespace K54
open PySem L2 DL RF XE
variable {cs ws : %[|6]} {i k c : Nat} {x : D} {S J : Store} {W : WD} {a n b : Int} {h s : Str}
variable {Ω : Wd} {f : Addr} {fd : FuncData}
def whole:D->Bool
 | .int _=>true
 | _=>false
def bJ(x:D)(a b:Int):Bool:=match x with
 | .tup ds=>decide (a≤(ds.length:Int))&&decide ((ds.length:Int)≤b)
 | _=>false
def d8(x:D)(d:Int):Bool:=match x with
 | .tup ds=>decide ((ds.length:Int)=d+1)&&ds.all whole
 | _=>false
def jG:Ct:=λ ds S W=>∃x,ds=[x]/\W (.bl (whole x)) S
def eN:Ct:=λ ds S W=>∃x a b,ds=[x,.int a,.int b]/\W (.bl (bJ x a b)) S
def qp:Ct:=λ ds S W=>∃x d,ds=[x,.int d]/\d≤1000/\W (.bl (d8 x d)) S
def comesTo(f:Int)(fs cs:%[|6]):Int:=f+(List.zipWith (λ a b=>a*b) fs cs).sum
def Dp:Ct:=λ ds S W=>∃f fs cs,ds=[.tup (.int f::fs.map .int),.tup (cs.map .int)]/\fs.length≤1000/\(∀c∈cs,-(2 ^ 64)<c/\c<2 ^ 64)/\W (.int (comesTo f fs cs)) S
theorem HR(ds:List D):(ds.map whole).all id=ds.all whole:=by rw[List.all_map];rfl
theorem Qj{fs:%[|6]}{d:D}(h:(List.zipWith (λ x y=>D.tup [x,y]) (fs.map D.int) (cs.map D.int))[i]? =some d):∃a b,fs[i]? =some a/\cs[i]? =some b/\d=.tup [.int a,.int b]:=by
 rw[List.getElem?_zipWith,x8,x8]at h
 cases e1:fs[i]? with
 | none=>rw[e1]at h;cases h
 | some a=>
   cases e2:cs[i]? with
   | none=>rw[e1,e2]at h;cases h
   | some b=>rw[e1,e2]at h;cases h;exact⟨a,b,rfl,rfl,rfl⟩
theorem xu(F:Fun Ω.K "is_whole" "is_whole" iI f fd)(N0:%[|14])(B:%[|5]):Ok Ω 1 f fd yH jG:=by
 refine aD N0 (N:=yC) F (zG B) %[|15] ?_
 rintro ds S W ⟨x,rfl,hw⟩ hl
 walk_at "n"
 refine⟨λ c=>?_,λ c=>?_⟩
 . walk_at "n"
   have e:(!isD .bool x)=whole x:=by cases x<;>first | rfl | exact ff c | exact tf c
   rw[e];exact hw
 . have e:whole x=false:=by cases x<;>first | rfl | exact ff c | exact tf c
   rw[e]at hw;exact hw
theorem pK(F:Fun Ω.K "is_tuple_of" "is_tuple_of" eF f fd)(N0:%[|14])(B:%[|5]):Ok Ω 1 f fd qP eN:=by
 refine aD N0 (N:=rT) F (ql B) %[|15] ?_
 rintro ds S W ⟨x,a,b,rfl,hw⟩ hl
 walk_at "n"
 cases x with
 | tup ds=>
   refine⟨λ _=>?_,λ c=>tf c⟩
   walk_at "n"
   refine⟨λ c1=>?_,λ c1=>?_⟩
   . have e:bJ (.tup ds) a b=false:=by show(decide _&&decide _)=false;rw[c1];rfl
     rw[e]at hw;exact hw
   . walk_at "n"
     have e:bJ (.tup ds) a b=decide ((ds.length:Int)≤b):=by show(decide _&&decide _)=_;rw[c1];rfl
     rw[e]at hw;exact hw
 | _=>exact⟨λ c=>ff c,λ _=>hw⟩
theorem yR(F:Fun Ω.K "is_form" "is_form" jy f fd)(N0:%[|14])(B:%[|5])(Cq38:Cal Ω "is_whole" 1 1 jG)(Cq37:Cal Ω "is_tuple_of" 1 3 eN):Ok Ω 2 f fd Cg qp:=by
 refine aD N0 (N:=Ck) F (Bp B Cq38 Cq37) %[|15] ?_
 rintro ds S W ⟨x,d,rfl,hd,hw⟩ hl
 walk_at "n"
 refine⟨rfl,_,_,_,rfl,?_⟩
 refine⟨λ c=>?_,λ c=>?_⟩
 . cases x with
   | tup ds=>
     have hlen:(ds.length:Int)=d+1:=by
      have c':(decide (d+1≤(ds.length:Int))&&decide ((ds.length:Int)≤d+1))=true:=c
      rw[Bool.and_eq_true,decide_eq_true_eq,decide_eq_true_eq]at c'
      omega
     walk_at "n"
     refine gR ⟨%[|1],λ i acc S'=>acc=(ds.take i).map (λ d=>.bl (whole d))/\S'=S,⟨rfl,rfl⟩,?_,?_⟩
     . rintro i e acc S' he ⟨rfl,rfl⟩
       walk_at "n"
       refine⟨λ _=>⟨rfl,_,rfl,?_,rfl⟩,λ z=>tf z⟩
       rw[bO he,List.map_append];rfl
     . rintro acc S' ⟨rfl,rfl⟩
       rw[List.take_length]
       refine⟨ds.map whole,by rw[List.map_map];rfl,?_⟩
       have e2:d8 (.tup ds) d=(ds.map whole).all id:=by
        show(decide _&&_)=_
        rw[ZG hlen,HR];rfl
       rw[e2]at hw;exact hw
   | _=>exact ff c
 . have e:d8 x d=false:=by
    cases x with
    | tup ds=>
      have c':(decide (d+1≤(ds.length:Int))&&decide ((ds.length:Int)≤d+1))=false:=c
      show(decide _&&_)=false
      rw[Bool.and_eq_false_iff,decide_eq_false_iff_not,decide_eq_false_iff_not]at c'
      rw[ZH %[|1]];rfl
    | _=>rfl
   rw[e]at hw;exact hw
theorem xH(F:Fun Ω.K "comes_to" "comes_to" iQ f fd)(N0:%[|14])(B:%[|5]):Ok Ω 1 f fd zz Dp:=by
 refine aD N0 (N:=Ad) F (zB B) %[|15] ?_
 rintro ds S W ⟨g,fs,cs,rfl,hfs,hcs,hw⟩ hl
 walk_at "n"
 refine⟨_,Bh _ _,?_⟩
 walk_at "n"
 rw[dq]
 refine gR ⟨by rw[List.length_zipWith,x6];omega,λ i acc S'=>acc=((List.zipWith (λ a b=>a*b) fs cs).take i).map D.int/\S'=S,⟨rfl,rfl⟩,?_,?_⟩
 . rintro i e acc S' he ⟨rfl,rfl⟩
   obtain⟨a,b,h1,h2,rfl⟩:=Qj he
   walk_at "n"
   refine⟨rfl,λ _=>⟨.inr (hcs b (y9 h2)),?_,rfl⟩,λ z=>tf z⟩
   have e3:(List.zipWith (λ a b=>a*b) fs cs)[i]? =some (a*b):=by rw[List.getElem?_zipWith,h1,h2]
   rw[bO e3,List.map_append];rfl
 . rintro acc S' ⟨rfl,rfl⟩
   have e:(List.zipWith (λ x y=>D.tup [x,y]) (fs.map D.int) (cs.map D.int)).length=(List.zipWith (λ a b=>a*b) fs cs).length:=by simp
   rw[e,List.take_length]
   exact⟨_,rfl,hw⟩
def small:D->Bool
 | .int n=>decide (-2≤n)&&decide (n≤2)
 | _=>false
def Vl:List D->Bool
 | .int a::fs=>decide (-9≤a)&&(decide (a≤9)&&fs.all small)
 | _=>false
def bG(x:D)(d:Int):Bool:=d8 x d&&Vl (match x with | .tup ds=>ds | _=>[])
def iw(x:D)(d:Int):Bool:=match x with
 | .tup [a,b]=>bG a d&&bG b d
 | _=>false
def fJ(x:D):Bool:=match x with
 | .tup ds=>(decide (1≤(ds.length:Int))&&decide ((ds.length:Int)≤3))&&(ds.mapIdx λ i d=>iw d i).all id
 | _=>false
def Dg:Ct:=λ ds S W=>∃x d,ds=[x,.int d]/\0≤d/\d≤1000/\W (.bl (bG x d)) S
def Ig:Ct:=λ ds S W=>∃x d,ds=[x,.int d]/\0≤d/\d≤1000/\W (.bl (iw x d)) S
def Dm:Ct:=λ ds S W=>∃x,ds=[x]/\W (.bl (fJ x)) S
theorem ints_of:∀{ds:List D},ds.all whole=true->∃ns:%[|6],ds=ns.map .int
 | [],_=>⟨[],rfl⟩
 | d::ds,h=>by
   rw[List.all_cons]at h
   obtain⟨h1,h2⟩:=aa h
   obtain⟨ns,rfl⟩:=ints_of h2
   cases d with
   | int i=>exact⟨i::ns,rfl⟩
   | _=>exact ff h1
theorem fM{d:Int}(h:d8 x d=true)(hd:0≤d):∃a fs,x=.tup (.int a::List.map .int fs)/\(fs.length:Int)=d:=by
 cases x with
 | tup ds=>
   obtain⟨h1,h2⟩:=aa h
   have h1:=ZF h1
   cases ds with
   | nil=>simp at h1;omega
   | cons e es=>
     rw[List.all_cons]at h2
     sleep 5
     have h4:=ints_of h3
     obtain⟨ns,rfl⟩:=h4
     cases e with
     | int a=>exact⟨a,ns,rfl,by simp at h1;omega⟩
     | _=>exact ff h2
 | _=>exact ff h
theorem yJ(p:D->Bool)(ds:List D):(ds.map p).all id=ds.all p:=by rw[List.all_map];rfl
theorem xM (F:Fun Ω.K "is_bound" "is_bound" iz f fd)(N0:%[|14])(B:%[|5])(Cq26:Cal Ω "is_form" 2 2 qp):Ok Ω 3 f fd Ag Dg:=by
 refine aD N0 (N:=zN) F (yZ B Cq26) %[|15] ?_
 rintro ds S W ⟨x,d,rfl,hd0,hd,hw⟩ hl
 walk_at "a"
 refine⟨rfl,_,_,rfl,hd,?_⟩
 walk_at "a"
 cases h:d8 x d with
 | false=>
   have e:bG x d=false:=by unfold bG;rw[h];rfl
   rw[e]at hw
   exact⟨λ _=>hw,λ z=>tf z⟩
 | true=>
   refine⟨λ z=>ff z,λ _=>?_⟩
   obtain⟨a,fs,rfl,hf⟩:=fM h hd0
   have e:bG (.tup (.int a::fs.map .int)) d=(decide (-9≤a)&&(decide (a≤9)&&(fs.map D.int).all small)):=by unfold bG;rw[h];rfl
   rw[e]at hw
   walk_at "a"
   refine⟨_,Bh _ _,?_⟩
   walk_at "a"
   refine⟨λ h1=>?_,λ h1=>?_⟩
   . have h1:decide (-9≤a)=false:=h1
     rw[h1]at hw
     exact⟨λ z=>ff z,λ _=>hw⟩
   have h1:decide (-9≤a)=true:=h1
   rw[h1,Bool.true_and]at hw
   walk_at "a"
   refine⟨λ h2=>?_,λ h2=>?_⟩
   . rw [h2,Bool.true_and]at hw
     walk_at "a"
     rw[dq]
     refine dZ (λ d=>.bl (small d)) (by simp;omega) ?_ ?_
     . intro i e he Q hq
       rw[x8]at he
       cases e1:fs[i]? with
       | none=>rw[e1]at he;cases he
       | some n=>
         rw[e1]at he
         cases he
         walk_at "a"
         refine⟨λ h3=>?_,λ h3=>?_⟩
         . have h3:decide (-2≤n)=false:=h3
           have e:small (.int n)=false:=by show(decide _&&_)=false;rw[h3];rfl
           rw[e]at hq
           exact hq
         . have h3:decide (-2≤n)=true:=h3
           walk_at "a"
           have e:small (.int n)=decide (n≤2):=by show(decide _&&_)=_;rw[h3];rfl
           rw[e]at hq
           exact hq
     . refine⟨(fs.map D.int).map small,by simp only[List.map_map];rfl,?_⟩
       rw[yJ];exact hw
   . rw[h2]at hw
     exact hw
theorem yW(F:Fun Ω.K "is_loop" "is_loop" jq f fd)(N0:%[|14])(Cq37:Cal Ω "is_tuple_of" 1 3 eN)(Cq24:Cal Ω "is_bound" 3 2 Dg):Ok Ω 4 f fd Cv Ig:=by
 refine aD N0 (N:=Cj) F (Bq Cq37 Cq24) %[|15] ?_
 rintro ds S W ⟨x,d,rfl,hd0,hd,hw⟩ hl
 walk_at "a"
 refine⟨rfl,_,_,_,rfl,?_⟩
 walk_at "a"
 cases x with
 | tup ds=>
   match ds,hw with
   | [a,b],hw=>
     refine⟨λ _=>?_,λ z=>tf z⟩
     walk_at "a"
     refine⟨rfl,_,_,rfl,hd0,hd,?_⟩
     have e:iw (.tup [a,b]) d=(bG a d&&bG b d):=rfl
     rw[e]at hw
     refine⟨λ h=>?_,λ h=>?_⟩
     . rw[h,Bool.true_and]at hw
       walk_at "a"
       exact⟨rfl,_,_,rfl,hd0,hd,hw⟩
     . rw[h]at hw;exact hw
   | [],hw=>exact⟨λ z=>ff z,λ _=>hw⟩
   | [_],hw=>exact⟨λ z=>ff z,λ _=>hw⟩
   | _::_::_::es,hw=>
     refine⟨λ z=>?_,λ _=>hw⟩
     obtain⟨_,z⟩:=aa z
     have z:=ZF z
     simp at z;omega
 | _=>exact⟨λ z=>ff z,λ _=>hw⟩
theorem v9(F:Fun Ω.K "is_loops" "is_loops" ir f fd)(N0:%[|14])(B:%[|5])(Cq37:Cal Ω "is_tuple_of" 1 3 eN)(Cq27:Cal Ω "is_loop" 4 2 Ig):Ok Ω 5 f fd yN Dm:=by
 refine aD N0 (N:=yx) F (zK B Cq37 Cq27) %[|15] ?_
 rintro ds S W ⟨x,rfl,hw⟩ hl
 walk_at "a"
 refine⟨rfl,_,_,_,rfl,?_⟩
 walk_at "a"
 cases x with
 | tup ds=>
   have e:fJ (.tup ds)=((decide (1≤(ds.length:Int))&&decide ((ds.length:Int)≤3))&&(ds.mapIdx λ i d=>iw d i).all id):=rfl
   rw[e]at hw
   refine⟨λ h=>?_,λ h=>?_⟩
   . have h:(decide (1≤(ds.length:Int))&&decide ((ds.length:Int)≤3))=true:=h
     rw[h,Bool.true_and]at hw
     have hlen:=ZF (aa h).2
     walk_at "a"
     refine dZ (λ p=>match p with | .tup [.int i,d]=>.bl (iw d i) | _=>.non) (by simp;omega) ?_ ?_
     . intro i e he Q hq
       rw[List.getElem?_mapIdx]at he
       cases e1:ds[i]? with
       | none=>rw[e1]at he;cases he
       | some d0=>
         rw[e1]at he
         cases he
         have hi:i<ds.length:=(z0.mp e1).1
         walk_at "a"
         refine⟨rfl,?_⟩
         walk_at "a"
         exact⟨rfl,_,_,rfl,%[|1],%[|1],hq⟩
     . refine⟨ds.mapIdx λ i d=>iw d i,?_,hw⟩
       apply List.ext_getElem?
       intro i
       simp only[x8,List.getElem?_mapIdx]
       cases ds[i]?<;>rfl
   . have h:(decide (1≤(ds.length:Int))&&decide ((ds.length:Int)≤3))=false:=h
     rw[h]at hw
     exact hw
 | _=>exact⟨λ z=>ff z,λ _=>hw⟩
def yz:Ct:=λ ds S W=>∃ns k,ds=[.lst (List.map .int ns),.int k]/\0≤k/\∀v,W (.int v) S
def M8:Ct:=λ ds S W=>∃ns,ds=[.lst (List.map .int ns)]/\ns.length≤63/\∀a c n m z,0≤a->W %[|77] (S++[iR ns a c n m z])
def bI:Ct:=λ ds S W=>∃k m,ds=[.loc k,.int m]/\Pen S k/\0<m/\m≤1000000000000000000000000000000000000000000000000000000000000/\∀v S',0≤v->v<m->Upd S k S'->Pen S' k->W (.int v) S'
theorem au{m:Int}(hp:Pen S k)(h0:0<m)(h1:m≤1000000000000000000000000000000000000000000000000000000000000)(w:∀v S',0≤v->v<m->Upd S k S'->Pen S' k->W (.int v) S'):([D.loc k,.int m].length=2/\bI [.loc k,.int m] S W):=⟨rfl,k,m,rfl,hp,h0,h1,w⟩
theorem Be(F:Fun Ω.K "_law_cell_at" "_law_cell_at" jw f fd)(N0:%[|14])(B:%[|5]):Ok Ω 1 f fd Cr yz:=by
 refine aD N0 (N:=Bj) F (Ca B) %[|15] ?_
 rintro ds S W ⟨ns,k,rfl,hk,hw⟩ hl
 walk_at "n"
 refine⟨λ c=>?_,λ c=>?_⟩
 . walk_at "n"
   have c':=ZF c
   obtain⟨x,h1,h2⟩:=yL hk c'
   rw[x8]at h2
   cases e:ns[k.toNat]? with
   | none=>rw[e]at h2;cases h2
   | some v=>
     rw[e]at h2
     cases h2
     exact⟨_,h1,hw v⟩
 . exact hw 0
theorem Lf(F:Fun Ω.K "_law_pen" "_law_pen" uW f fd)(N0:%[|14])(B:%[|5])(Cq2:Cal Ω "_law_cell_at" 1 2 yz):Ok Ω 2 f fd Om M8:=by
 refine aD N0 (N:=Ol) F (P0 B Cq2) %[|15] ?_
 rintro ds S W ⟨ns,rfl,hn,hw⟩ hl
 walk_at "n"
 have hc:(cutD (ns.map D.int) none (some 63)).length≤63:=Nat.le_trans (uJ _ _ _) (by rw[x6];exact hn)
 refine gR ⟨by rw[List.length_mapIdx];omega,λ i acc S'=>(∃ms:%[|6],acc=ms.map D.int)/\S'=S,⟨⟨[],rfl⟩,rfl⟩,?_,?_⟩
 . rintro i e acc S' he ⟨⟨ms,rfl⟩,rfl⟩
   rw[List.getElem?_mapIdx]at he
   cases e1:(cutD (ns.map D.int) none (some 63))[i]? with
   | none=>rw[e1]at he;cases he
   | some d0=>
     rw[e1]at he
     cases he
     have hi:i<63:=ZM (z0.mp e1).1 hc
     obtain⟨v,_,rfl⟩:=ZO.mp (gU (y9 e1))
     have hkk:(0:Int)≤(i:Int)*i/\(i:Int)*i≤63*63:=⟨Int.mul_nonneg %[|1] %[|1],Int.mul_le_mul %[|1] %[|1] %[|1] %[|1]⟩
     refine⟨rfl,λ _=>⟨%[|2],.inl %[|54],.inr %[|54],⟨ms++[_],by rw[List.map_append];rfl⟩,rfl⟩,λ z=>tf z⟩
 . rintro acc S' ⟨⟨ms,rfl⟩,rfl⟩
   refine⟨_,rfl,%[|2],?_⟩
   walk_at "n"
   refine⟨rfl,ns,1,rfl,%[|2],λ c=>?_⟩
   walk_at "n"
   refine⟨rfl,ns,0,rfl,%[|2],λ m=>?_⟩
   walk_at "n"
   refine⟨%[|2],by show 6≤1000000;decide,?_⟩
   exact hw 1 c 0 (m % 2) _ %[|2]
theorem G4(F:Fun Ω.K "_law_take" "_law_take" pO f fd)(N0:%[|14])(Cq2:Cal Ω "_law_cell_at" 1 2 yz):Ok Ω 2 f fd Kz bI:=by
 refine aD N0 (N:=Km) F (Kp Cq2) %[|15] ?_
 rintro ds S W ⟨k,m,rfl,⟨ns,a,c,n,y,z,hk,ha⟩,h0,h1,hw⟩ hl
 have k2:∀l:List D,(S.set k l)[k]? =some l:=λ l=>set_get hk
 have fin:∀a c n z v,0≤a->W (.int (v % m)) (S.set k (iR ns a c n y z)):=λ a c n z v ha=>
  hw _ _ (Int.emod_nonneg _ %[|1]) (Int.emod_lt_of_pos _ h0) ⟨ns,a,c,n,y,z,rfl,ha⟩ ⟨ns,a,c,n,y,z,k2 _,ha⟩
 have rest:∀a c n,0≤a->(qC Cq2).wp [some (.loc k),some (.int m),none] (S.set k (iR ns a c n y z)) {nx:=λ _ S1=>W .non S1,rt:=W}:=by
  intro a c n ha
  walk_at "n"
  refine⟨_,_,k2 _,rfl,?_⟩
  walk_at "n"
  refine⟨_,_,k2 _,rfl,?_⟩
  rw[List.set_set]
  walk_at "n"
  refine⟨_,_,k2 _,rfl,h0,?_⟩
  walk_at "n"
  refine⟨_,_,k2 _,rfl,⟨h0,%[|1]⟩,_,_,k2 _,rfl,?_⟩
  rw[List.set_set]
  walk_at "n"
  exact fin a _ _ z c ha
 have hself:S.set k (iR ns a c n y z)=S:=by
  obtain⟨hl',e⟩:=z0.mp hk
  rw[←e,List.set_getElem_self]
 walk_at "n"
 refine⟨_,_,hk,rfl,?_⟩
 walk_at "n"
 refine⟨λ q=>?_,λ q=>?_⟩
 . walk_at "n"
   refine⟨_,_,hk,rfl,.inr ⟨%[|2],%[|2]⟩,%[|2],_,_,hk,rfl,_,_,k2 _,rfl,.inr ⟨%[|2],%[|2]⟩,%[|2],⟨%[|2],%[|2]⟩,h0,?_⟩
   exact fin a c n _ _ ha
 . walk_at "n"
   refine⟨_,_,hk,rfl,?_⟩
   walk_at "n"
   refine⟨λ q=>?_,λ q=>?_⟩
   . walk_at "n"
     refine⟨_,_,hk,rfl,_,_,hk,rfl,?_⟩
     walk_at "n"
     refine⟨_,_,k2 _,rfl,_,_,k2 _,rfl,rfl,ns,a+1,rfl,%[|1],λ v=>?_⟩
     walk_at "n"
     refine⟨_,_,k2 _,rfl,?_⟩
     rw[List.set_set]
     walk_at "n"
     refine⟨_,_,k2 _,rfl,?_⟩
     rw[List.set_set]
     exact rest (a+1) v 0 %[|1]
   . have:=rest a c n ha
     rw[hself]at this
     exact this
abbrev Fm:=Int×%[|6]
abbrev Lp:=Fm×Fm
def dF(f:Fm):D:=.tup (.int f.1::f.2.map .int)
def dC(cs:%[|6]):D:=.tup (cs.map .int)
def dL(l:Lp):D:=.tup [dF l.1,dF l.2]
def atC(f:Fm)(cs:%[|6]):Int:=comesTo f.1 f.2 cs
def upI(a:Int)(n:Nat):%[|6]:=(List.range n).map λ(k:Nat)=>a+(k:Int)
def bY(lo hi:Fm)(cs:%[|6]):List %[|6]:=(upI (atC lo cs) (atC hi cs-atC lo cs).toNat).map λ c=>cs++[c]
def aV(lo hi:Fm)(ahead:List %[|6]):List %[|6]:=ahead.flatMap (bY lo hi)
def cnt(ls:List Lp):List %[|6]:=ls.foldl (λ acc l=>aV l.1 l.2 acc) [[]]
def Sm6(ns:%[|6]):Prop:=ns.length≤10/\∀n∈ns,-1000000≤n/\n≤1000000
def SmF(f:Fm):Prop:= -1000000≤f.1/\f.1≤1000000/\Sm6 f.2
theorem vq:∀(fs cs:%[|6]),(∀n∈fs,-1000000≤n/\n≤1000000)->(∀n∈cs,-1000000≤n/\n≤1000000)-> -(1000000000000*(cs.length:Int))≤(List.zipWith (λ a b=>a*b) fs cs).sum/\(List.zipWith (λ a b=>a*b) fs cs).sum≤1000000000000*(cs.length:Int)
 | [],cs,_,_=>by simp;omega
 | f::fs,[],_,_=>by simp
 | f::fs,c::cs,h1,h2=>by
   have ih:=vq fs cs (λ n hn=>h1 n (w9 _ hn)) (λ n hn=>h2 n (w9 _ hn))
   have hf:=h1 f List.mem_cons_self
   have hc:=h2 c List.mem_cons_self
   have hp:(f*c).natAbs≤1000000*1000000:=by rw[Int.natAbs_mul];exact Nat.mul_le_mul %[|1] %[|1]
   simp only[List.zipWith_cons_cons,List.sum_cons,List.length_cons]
   omega
theorem vJ{f:Fm}(hf:SmF f)(hc:Sm6 cs): -(2 ^ 62)≤atC f cs/\atC f cs<2 ^ 62:=by
 have:=vq f.2 cs hf.2.2.2 hc.2
 have h1:=hf.1
 have h2:=hf.2.1
 have h3:=hc.1
 unfold atC comesTo
 omega
theorem Qh(a:Int)(n:Nat):(upI a n).length=n:=by simp[upI]
theorem Ot{n:Nat}(h:i<n):(upI a n)[i]? =some (a+i):=by simp[upI,h]
theorem jd(lo hi:Fm)(cs:%[|6]):(bY lo hi cs).length=(atC hi cs-atC lo cs).toNat:=by simp[bY,Qh]
theorem lU{lo hi:Fm}{ahead:List %[|6]}(h:ahead[i]? =some cs):aV lo hi (ahead.take (i+1))=aV lo hi (ahead.take i)++bY lo hi cs:=by
 unfold aV
 rw[bO h,List.flatMap_append];simp
theorem LR{lo hi:Fm}{ahead:List %[|6]}(h:ahead[i]? =some cs):(aV lo hi (ahead.take i)).length+(bY lo hi cs).length≤(aV lo hi ahead).length:=by
 have e:aV lo hi ahead=aV lo hi (ahead.take (i+1))++aV lo hi (ahead.drop (i+1)):=by
  unfold aV
  rw[←List.flatMap_append,List.take_append_drop]
 rw[e,lU h,List.length_append,List.length_append];omega
theorem Jp(xs:List %[|6]):ao (xs.map dC)=true:=by
 induction xs with
 | nil=>rfl
 | cons x xs ih=>
   simp only[List.map_cons,ao,ih,Bool.and_true]
   show ao (x.map D.int)=true
   induction x with
   | nil=>rfl
   | cons y ys ih=>simp only[List.map_cons,ao,ih,Bool.and_true];rfl
def zm:Ct:=λ ds S W=>∃ahead lo hi,ds=[.lst (List.map dC ahead),dF lo,dF hi]/\SmF lo/\SmF hi/\(∀cs∈ahead,Sm6 cs)/\ahead.length≤1000000/\(aV lo hi ahead).length≤1000000/\flat S/\hand W ((aV lo hi ahead).map dC) S
theorem j8(F:Fun Ω.K "with_next_count" "with_next_count" cj f fd)(N0:%[|14])(B:%[|5])(Cq19:Cal Ω "comes_to" 1 2 Dp):Ok Ω 2 f fd lE zm:=by
 refine aD N0 (N:=lu) F (Bl.frz (lF B Cq19)) %[|15] ?_
 rintro ds S W ⟨ahead,lo,hi,rfl,hlo,hhi,hah,hz0,hz,hS,hw⟩ hl
 walk_at "b"
 refine cG ⟨λ i Γ' S'=>(∃o4 o5,Γ'=[some (.lst (ahead.map dC)),some (dF lo),some (dF hi),%[|65],o4,o5])/\S'=S++[(aV lo hi (ahead.take i)).map dC],⟨⟨_,_,rfl⟩,rfl⟩,?_,?_⟩
 . rintro i e Γ' S' he ⟨⟨o4,o5,rfl⟩,rfl⟩
   rw[x8]at he
   cases e1:ahead[i]? with
   | none=>rw[e1]at he;cases he
   | some cs=>
     rw[e1]at he
     cases he
     have hcs:=hah cs (y9 e1)
     have b1:=vJ hlo hcs
     have b2:=vJ hhi hcs
     have h64:∀c∈cs,-(2 ^ 64)<c/\c<2 ^ 64:=λ c hc=>by have:=hcs.2 c hc;omega
     walk_at "b"
     refine⟨rfl,lo.1,lo.2,cs,rfl,by have:=hlo.2.2.1;omega,h64,?_⟩
     walk_at "b"
     refine⟨rfl,hi.1,hi.2,cs,rfl,by have:=hhi.2.2.1;omega,h64,?_⟩
     walk_at "b"
     refine⟨⟨b1.1,b1.2,b2.1,b2.2⟩,cG ⟨λ j Γ' S'=>(∃o5,Γ'=[some (.lst (ahead.map dC)),some (dF lo),some (dF hi),%[|65],some (dC cs),o5])/\S'=S++[(aV lo hi (ahead.take i)++(bY lo hi cs).take j).map dC],⟨%[|24],by simp⟩,?_,?_⟩⟩
     . rintro j e Γ' S' he ⟨⟨o5,rfl⟩,rfl⟩
       obtain⟨hj,rfl⟩:=oN he
       have hj':j<(bY lo hi cs).length:=by rw[jd];exact hj
       have lf:=LR (lo:=lo) (hi:=hi) e1
       walk_at "b"
       refine⟨by simp;have:=hcs.1;omega,_,aU _ _,by simp;omega,?_⟩
       refine⟨%[|24],?_⟩
       rw[dw]
       have e3:(bY lo hi cs)[j]? =some (cs++[atC lo cs+(j:Int)]):=by
        unfold bY
        rw[x8,Ot (by rw[jd]at hj';exact hj')];rfl
       have e4:dC (cs++[atC lo cs+(j:Int)])=D.tup (cs.map D.int++[D.int (comesTo lo.1 lo.2 cs+(j:Int))]):=by
        unfold dC;rw[List.map_append];rfl
       rw[bO e3,←List.append_assoc,List.map_append (l₂:=[_]),List.map_singleton,e4]
     . rintro Γ' S' ⟨⟨o5,rfl⟩,rfl⟩
       refine⟨⟨_,_,rfl⟩,?_⟩
       have e5:(bY lo hi cs).take (DL.upTo (comesTo lo.1 lo.2 cs) (comesTo hi.1 hi.2 cs-comesTo lo.1 lo.2 cs).toNat).length=bY lo hi cs:=by
        rw[aJ];exact List.take_of_length_le (by rw[jd];exact x9 _)
       rw[e5,lU e1]
 . rintro Γ' S' ⟨⟨o4,o5,rfl⟩,rfl⟩
   rw[x6,List.take_length]
   exact LQ hw (Jp _) hS
def Fits(ls:List Lp):Prop:=(∀l∈ls,SmF l.1/\SmF l.2)/\∀i,i≤ls.length->(cnt (ls.take i)).length≤1000000/\∀cs∈cnt (ls.take i),Sm6 cs
def yw:Ct:=λ ds S W=>∃ls,ds=[.tup (List.map dL ls)]/\1≤ls.length/\Fits ls/\flat S/\hand W ((cnt ls).map dC) S
theorem pA{ls:List Lp}{l:Lp}(h:ls[i]? =some l):cnt (ls.take (i+1))=aV l.1 l.2 (cnt (ls.take i)):=by
 unfold cnt
 rw[bO h,List.foldl_append];rfl
theorem tL(F:Fun Ω.K "counts_of" "counts_of" gw f fd)(N0:%[|14])(Cq49:Cal Ω "with_next_count" 2 3 zm):Ok Ω 3 f fd wG yw:=by
 refine aD N0 (N:=xF) F (Bl.frz (v5 Cq49)) %[|15] ?_
 rintro ds S W ⟨ls,rfl,hn,hf,hS,hw⟩ hl
 walk_at "b"
 have turn:∀(i:Nat)(e:D),(ls.map dL)[i]? =some e->∃l,ls[i]? =some l/\e=dL l:=λ i e he=>by
  rw[x8]at he
  cases e1:ls[i]? with
  | none=>rw[e1]at he;cases he
  | some l=>rw[e1]at he;cases he;exact⟨l,rfl,rfl⟩
 have step:∀(i:Nat)(l:Lp)(W:WD),ls[i]? =some l->hand W ((cnt (ls.take (i+1))).map dC) S->zm [.lst ((cnt (ls.take i)).map dC),dF l.1,dF l.2] S W:=λ i l W h w=>by
  have hi:=(z0.mp h).1
  obtain⟨a,b⟩:=hf.1 l (y9 h)
  obtain⟨c,d⟩:=hf.2 i %[|1]
  obtain⟨c',d'⟩:=hf.2 (i+1) %[|1]
  rw[pA h]at c' w
  exact⟨_,_,_,rfl,a,b,d,c,c',hS,w⟩
 rcases hw with hw | hw
 . refine cG ⟨λ i Γ' S'=>(∃o2 o3,Γ'=[some (.tup (ls.map dL)),some (.lst ((cnt (ls.take i)).map dC)),o2,o3])/\S'=S,⟨⟨_,_,rfl⟩,rfl⟩,?_,?_⟩
   . rintro i e Γ' S' he ⟨⟨o2,o3,rfl⟩,rfl⟩
     obtain⟨l,hl',rfl⟩:=turn i e he
     walk_at "b"
     refine⟨rfl,?_⟩
     walk_at "n"
     exact⟨rfl,step i l _ hl' (.inl ⟨⟨_,_,rfl⟩,rfl⟩)⟩
   . rintro Γ' S' ⟨⟨o2,o3,rfl⟩,rfl⟩
     rw[x6,List.take_length]
     exact .inl hw
 . refine cG ⟨λ i Γ' S'=>(i<ls.length/\(∃o2 o3,Γ'=[some (.tup (ls.map dL)),some (.lst ((cnt (ls.take i)).map dC)),o2,o3])/\S'=S)∨(i=ls.length/\(∃o2 o3,Γ'=[some (.tup (ls.map dL)),%[|65],o2,o3])/\S'=S++[(cnt ls).map dC]),.inl ⟨%[|1],⟨_,_,rfl⟩,rfl⟩,?_,?_⟩
   . rintro i e Γ' S' he q
     obtain⟨l,hl',rfl⟩:=turn i e he
     have hi:=(z0.mp hl').1
     rcases q with⟨_,⟨o2,o3,rfl⟩,rfl⟩ | ⟨q,_⟩
     . walk_at "b"
       refine⟨rfl,?_⟩
       walk_at "n"
       by_cases hlast:i+1=ls.length
       . refine⟨rfl,step i l _ hl' (.inr (.inr ⟨hlast,⟨_,_,rfl⟩,?_⟩))⟩
         rw[hlast,List.take_length]
       . exact⟨rfl,step i l _ hl' (.inl (.inl ⟨%[|1],⟨_,_,rfl⟩,rfl⟩))⟩
     . omega
   . rintro Γ' S' q
     rw[x6]at q
     rcases q with⟨q,_⟩ | ⟨_,⟨o2,o3,rfl⟩,rfl⟩
     . omega
     . exact .inl hw
def BdF(f:Fm)(k:Nat):Prop:=f.2.length=k/\ -9≤f.1/\f.1≤9/\∀n∈f.2,-2≤n/\n≤2
theorem Fq{g m:Int}(hg: -2≤g/\g≤2)(ha: -m≤a/\a≤m): -(2*m)≤g*a/\g*a≤2*m:=by
 have:g= -2∨g= -1∨g=0∨g=1∨g=2:=%[|1]
 rcases this with rfl | rfl | rfl | rfl | rfl<;>omega
def bnd:Nat->Int
 | 0=>0
 | 1=>9
 | 2=>27
 | _=>117
def Cs(i:Nat)(cs:%[|6]):Prop:=cs.length=i/\∀c∈cs,-(bnd i)≤c/\c≤bnd i
theorem qT{f:Fm}(hi:i≤2)(hf:BdF f i)(hc:Cs i cs): -(bnd (i+1))≤atC f cs/\atC f cs≤bnd (i+1):=by
 obtain⟨a,fs⟩:=f
 obtain⟨h1,h2,h3,h4⟩:=hf
 obtain⟨c1,c2⟩:=hc
 dsimp only at h1 h2 h3 h4
 unfold atC comesTo
 have:i=0∨i=1∨i=2:=%[|1]
 rcases this with rfl | rfl | rfl
 . match fs,cs,h1,c1 with
   | [],[],_,_=>simp[bnd];omega
 . match fs,cs,h1,c1 with
   | [g],[x],_,_=>
     have:=Fq (h4 g (by simp)) (c2 x (by simp))
     simp[bnd]at this ⊢;omega
 . match fs,cs,h1,c1 with
   | [g,g'],[x,x'],_,_=>
     have t1:=Fq (h4 g (by simp)) (c2 x (by simp))
     have t2:=Fq (h4 g' (by simp)) (c2 x' (by simp))
     simp[bnd]at t1 t2 ⊢;omega
theorem QF:bnd i≤bnd (i+1):=by
 match i with
 | 0=>decide
 | 1=>decide
 | 2=>decide
 | i+3=>exact Int.le_refl _
theorem R8(i:Nat):bnd i≤117:=by
 match i with
 | 0=>decide
 | 1=>decide
 | 2=>decide
 | i+3=>exact Int.le_refl _
theorem Ow{lo hi:Fm}{ds:%[|6]}(hi2:i≤2)(hlo:BdF lo i)(hhi:BdF hi i)(hc:Cs i cs)(h:ds∈bY lo hi cs):Cs (i+1) ds:=by
 unfold bY at h
 obtain⟨c,hc',rfl⟩:=ZO.mp h
 unfold upI at hc'
 obtain⟨k,hk,rfl⟩:=ZO.mp hc'
 have hk:=List.mem_range.mp hk
 have b1:=qT hi2 hlo hc
 have b2:=qT hi2 hhi hc
 refine⟨by simp[hc.1],λ c h=>?_⟩
 rcases ZK.mp h with h | h
 . have:=hc.2 c h
   have:=QF (i:=i)
   omega
 . have:c=atC lo cs+(k:Int):=by simpa using h
   omega
def Lps(ls:List Lp):Prop:=1≤ls.length/\ls.length≤3/\∀(i:Nat)(l:Lp),ls[i]? =some l->BdF l.1 i/\BdF l.2 i
theorem zM{ls:List Lp}(h:Lps ls):∀i,i≤ls.length->∀cs∈cnt (ls.take i),Cs i cs
 | 0,_,cs,hc=>by
   have:cs=[]:=by simpa[cnt]using hc
   subst this
   exact⟨rfl,λ c hc=>by simp at hc⟩
 | i+1,hi,cs,hc=>by
   have hl:=y8 (l:=ls) (i:=i) %[|1]
   rw[pA hl]at hc
   obtain⟨ds,hd,hc⟩:=List.mem_flatMap.mp hc
   have:=h.2.2 i _ hl
   have h3:=h.2.1
   exact Ow %[|1] this.1 this.2 (zM h i %[|1] ds hd) hc
def Ew:Nat->Nat
 | 0=>1
 | 1=>18
 | 2=>972
 | _=>227448
theorem yP{lo hi:Fm}{m:Nat}:∀{ahead:List %[|6]},(∀cs∈ahead,(bY lo hi cs).length≤m)->(aV lo hi ahead).length≤ahead.length*m
 | [],_=>by simp[aV]
 | a::as,h=>by
   have ih:=yP (ahead:=as) λ cs hc=>h cs (w9 _ hc)
   have:=h a List.mem_cons_self
   unfold aV at ih ⊢
   rw[List.flatMap_cons,List.length_append,List.length_cons,Nat.succ_mul]
   omega
theorem Dt{ls:List Lp}(h:Lps ls):∀i,i≤ls.length->(cnt (ls.take i)).length≤Ew i
 | 0,_=>by simp[cnt,Ew]
 | i+1,hi=>by
   have hl:=y8 (l:=ls) (i:=i) %[|1]
   have ih:=Dt h i %[|1]
   have h3:=h.2.1
   have hb:=h.2.2 i _ hl
   rw[pA hl]
   have hm:∀cs∈cnt (ls.take i),(bY ls[i].1 ls[i].2 cs).length≤(2*bnd (i+1)).toNat:=λ cs hc=>by
    have c:=zM h i %[|1] cs hc
    have b1:=qT %[|1] hb.1 c
    have b2:=qT %[|1] hb.2 c
    rw[jd];omega
   have:=yP hm
   have:i=0∨i=1∨i=2:=%[|1]
   rcases this with rfl | rfl | rfl<;>simp[bnd,Ew]at* <;>omega
theorem Lps.fits{ls:List Lp}(h:Lps ls):Fits ls:=by
 refine⟨λ l hl=>?_,λ i hi=>⟨?_,λ cs hc=>?_⟩⟩
 . obtain⟨i,hi⟩:=ZR hl
   have hl':=(z0.mp hi).1
   have h3:=h.2.1
   obtain⟨⟨a1,a2,a3,a4⟩,b1,b2,b3,b4⟩:=h.2.2 i l hi
   exact⟨⟨%[|1],%[|1],%[|1],λ n hn=>by have:=a4 n hn;omega⟩,%[|1],%[|1],%[|1],λ n hn=>by have:=b4 n hn;omega⟩
 . have:=Dt h i hi
   have h3:=h.2.1
   have:i=0∨i=1∨i=2∨i=3:=%[|1]
   rcases this with rfl | rfl | rfl | rfl<;>simp only[Ew]at* <;>omega
 . have c:=zM h i hi cs hc
   have h3:=h.2.1
   exact⟨by have:=c.1;omega,λ n hn=>by have:=c.2 n hn;have:=R8 i;omega⟩
def tZ(a b:Int):D->Bool
 | .int n=>decide (a≤n)&&decide (n≤b)
 | _=>false
def GC(n:Int):Bool:=decide ((if n<0 then-n else n)<10 ^ Int.toNat 30)
def uY:D->Bool
 | .int n=>GC n
 | _=>false
def parts:D->List D
 | .tup ds=>ds
 | _=>[]
def cI(x:D):Bool:=bJ x 1 3&&(parts x).all (tZ 1 2)
def isPlace(d:Int)(x:D):Bool:=d8 x d&&(parts x).all (tZ (-99) 99)
def isStart(x:D)(d:Int):Bool:=d8 x d&&(parts x).all uY
def jB(t p:D)(ws:%[|6])(d:Int):Bool:=match t with
 | .int n=>(decide (0≤n)&&decide (n<(ws.length:Int)))&&(bJ p (ws.getD n.toNat 0) (ws.getD n.toNat 0)&&(parts p).all (isPlace d))
 | _=>false
def lH(ws:%[|6])(d:Int)(x:D):Bool:=match x with
 | .tup [f,t,p]=>uY f&&jB t p ws d
 | _=>false
def jL(x:D)(ws:%[|6])(d:Int):Bool:=bJ x 0 3&&(parts x).all (lH ws d)
def dR(ws:%[|6])(d:Int)(x:D):Bool:=match x with
 | .tup [t,p,s,r]=>jB t p ws d&&(isStart s d&&jL r ws d)
 | _=>false
def mO(ws:%[|6])(x:D):Bool:=match x with
 | .tup [l,ds]=>fJ l&&(bJ ds 1 4&&(parts ds).all (dR ws ((parts l).length:Int)))
 | _=>false
def fL(x:D)(ws:%[|6]):Bool:=bJ x 1 3&&(parts x).all (mO ws)
def FQ:Ct:=λ ds S W=>∃n,ds=[.int n]/\W (.bl (GC n)) S
def z8:Ct:=λ ds S W=>∃x,ds=[x]/\W (.bl (cI x)) S
def zr:Ct:=λ ds S W=>∃x d,ds=[x,.int d]/\0≤d/\d≤1000/\W (.bl (isPlace d x)) S
def Di:Ct:=λ ds S W=>∃x d,ds=[x,.int d]/\0≤d/\d≤1000/\W (.bl (isStart x d)) S
def Ws(ws:%[|6]):Prop:=ws.length≤3/\∀w∈ws,1≤w/\w≤2
def Lh:Ct:=λ ds S W=>∃t p ws d,ds=[t,p,.tup (List.map .int ws),.int d]/\Ws ws/\0≤d/\d≤1000/\W (.bl (jB t p ws d)) S
def HN:Ct:=λ ds S W=>∃x ws d,ds=[x,.tup (List.map .int ws),.int d]/\Ws ws/\0≤d/\d≤1000/\W (.bl (lH ws d x)) S
def Ds:Ct:=λ ds S W=>∃x ws d,ds=[x,.tup (List.map .int ws),.int d]/\Ws ws/\0≤d/\d≤1000/\W (.bl (jL x ws d)) S
def Hd:Ct:=λ ds S W=>∃x ws d,ds=[x,.tup (List.map .int ws),.int d]/\Ws ws/\0≤d/\d≤1000/\W (.bl (dR ws d x)) S
def HD:Ct:=λ ds S W=>∃x ws,ds=[x,.tup (List.map .int ws)]/\Ws ws/\W (.bl (mO ws x)) S
def Cz:Ct:=λ ds S W=>∃x ws,ds=[x,.tup (List.map .int ws)]/\Ws ws/\W (.bl (fL x ws)) S
theorem cJ{ds:List D}{p:D->Bool}(w:W (.bl (ds.all p)) S):fY.wp [.lst (ds.map λ d=>.bl (p d))] S W:=
 ⟨ds.map p,by rw[List.map_map];rfl,by rw[yJ];exact w⟩
theorem vI{ds:List D}(h:bJ (.tup ds) a b=true):a≤(ds.length:Int)/\(ds.length:Int)≤b:=by
 obtain⟨h1,h2⟩:=aa h
 exact⟨ZF h1,ZF h2⟩
theorem aX(h:bJ x a b=true):∃ds,x=.tup ds/\a≤(ds.length:Int)/\(ds.length:Int)≤b:=by
 cases x with
 | tup ds=>exact⟨ds,rfl,vI h⟩
 | _=>exact ff h
theorem nC{Q:WD}(hq:Q (.bl (tZ a b (.int n))) S):(decide (a≤n)=false->Q (.bl false) S)/\(decide (a≤n)=true->Q (.bl (decide (n≤b))) S):=by
 have e:tZ a b (.int n)=(decide (a≤n)&&decide (n≤b)):=rfl
 rw[e]at hq
 exact⟨λ h=>by rw[h]at hq;exact hq,λ h=>by rw[h]at hq;exact hq⟩
theorem kO(F:Fun Ω.K "has_few_figures" "has_few_figures" cu f fd)(N0:%[|14])(B:%[|5]):Ok Ω 1 f fd lD FQ:=by
 refine aD N0 (N:=lC) F (lA B) %[|15] ?_
 rintro ds S W ⟨n,rfl,hw⟩ hl
 walk_at "b"
 exact hw
theorem uB(F:Fun Ω.K "is_widths" "is_widths" fZ f fd)(N0:%[|14])(B:%[|5])(Cq38:Cal Ω "is_whole" 1 1 jG)(Cq37:Cal Ω "is_tuple_of" 1 3 eN):Ok Ω 2 f fd wC z8:=by
 refine aD N0 (N:=wU) F (xG B Cq38 Cq37) %[|15] ?_
 rintro ds S W ⟨x,rfl,hw⟩ hl
 walk_at "b"
 refine⟨rfl,_,_,_,rfl,?_⟩
 walk_at "b"
 unfold cI at hw
 refine⟨λ h=>?_,λ h=>by rw[h]at hw;exact hw⟩
 rw[h]at hw
 obtain⟨ds,rfl,l1,l2⟩:=aX h
 walk_at "b"
 refine dZ (λ d=>.bl (tZ 1 2 d)) %[|1] ?_ (cJ hw)
 intro i e he Q hq
 walk_at "b"
 refine⟨rfl,_,rfl,?_⟩
 cases e with
 | int n=>
   walk_at "b"
   refine⟨(nC hq).1,λ h=>?_⟩
   walk_at "b"
   exact(nC hq).2 h
 | _=>walk_at "b";exact hq
theorem mC(F:Fun Ω.K "is_place_form" "is_place_form" cV f fd)(N0:%[|14])(B:%[|5])(Cq26:Cal Ω "is_form" 2 2 qp):Ok Ω 3 f fd nG zr:=by
 refine aD N0 (N:=nH) F (nM B Cq26) %[|15] ?_
 rintro ds S W ⟨x,d,rfl,hd0,hd,hw⟩ hl
 walk_at "b"
 refine⟨rfl,_,_,rfl,hd,?_⟩
 walk_at "b"
 unfold isPlace at hw
 refine⟨λ h=>?_,λ h=>by rw[h]at hw;exact hw⟩
 rw[h]at hw
 obtain⟨a,fs,rfl,hf⟩:=fM h hd0
 walk_at "b"
 refine dZ (λ d=>.bl (tZ (-99) 99 d)) (by simp;omega) ?_ (cJ hw)
 intro i e he Q hq
 have:∃n,e=.int n:=by
  have:=y9 he
  rcases ZJ.mp this with rfl | h
  . exact%[|24]
  . obtain⟨n,_,rfl⟩:=ZO.mp h
    exact⟨n,rfl⟩
 obtain⟨n,rfl⟩:=this
 walk_at "b"
 refine⟨(nC hq).1,λ h=>?_⟩
 walk_at "b"
 exact(nC hq).2 h
theorem wI(F:Fun Ω.K "is_start" "is_start" iT f fd)(N0:%[|14])(B:%[|5])(Cq26:Cal Ω "is_form" 2 2 qp)(Cq23:Cal Ω "has_few_figures" 1 1 FQ):Ok Ω 3 f fd Af Di:=by
 refine aD N0 (N:=zE) F (zq B Cq26 Cq23) %[|15] ?_
 rintro ds S W ⟨x,d,rfl,hd0,hd,hw⟩ hl
 walk_at "b"
 refine⟨rfl,_,_,rfl,hd,?_⟩
 walk_at "b"
 unfold isStart at hw
 refine⟨λ h=>?_,λ h=>by rw[h]at hw;exact hw⟩
 rw[h]at hw
 obtain⟨a,fs,rfl,hf⟩:=fM h hd0
 walk_at "b"
 refine dZ (λ d=>.bl (uY d)) (by simp;omega) ?_ (cJ hw)
 intro i e he Q hq
 have:∃n,e=.int n:=by
  have:=y9 he
  rcases ZJ.mp this with rfl | h
  . exact%[|24]
  . obtain⟨n,_,rfl⟩:=ZO.mp h
    exact⟨n,rfl⟩
 obtain⟨n,rfl⟩:=this
 walk_at "b"
 exact⟨rfl,_,rfl,hq⟩
theorem iC(F:Fun Ω.K "is_table_with_place" "is_table_with_place" bB f fd)(N0:%[|14])(B:%[|5])(Cq38:Cal Ω "is_whole" 1 1 jG)(Cq37:Cal Ω "is_tuple_of" 1 3 eN)(Cq32:Cal Ω "is_place_form" 3 2 zr):Ok Ω 4 f fd iW Lh:=by
 refine aD N0 (N:=iZ) F (jb B Cq38 Cq37 Cq32) %[|15] ?_
 rintro ds S W ⟨t,p,ws,d,rfl,hws,hd0,hd,hw⟩ hl
 walk_at "b"
 refine⟨rfl,_,rfl,?_⟩
 cases t with
 | int n=>
   have e:jB (.int n) p ws d=((decide (0≤n)&&decide (n<(ws.length:Int)))&&(bJ p (ws.getD n.toNat 0) (ws.getD n.toNat 0)&&(parts p).all (isPlace d))):=rfl
   rw[e]at hw
   have hl3:((ws.map D.int).length:Int)=(ws.length:Int):=by rw[x6]
   walk_at "b"
   refine⟨λ h=>?_,λ h=>?_⟩
   . rw[h]at hw
     walk_at "b"
     exact hw
   rw[h,Bool.true_and]at hw
   walk_at "b"
   rw[hl3]
   refine⟨λ h2=>?_,λ h2=>?_⟩
   . have h2:decide (n<(ws.length:Int))=false:=nt h2
     rw[h2]at hw
     walk_at "b"
     exact hw
   have h2:decide (n<(ws.length:Int))=true:=by
    cases q:decide (n<(ws.length:Int))with
    | true=>rfl
    | false=>rw[q]at h2;exact tf h2
   rw[h2,Bool.true_and]at hw
   have h0:=ZF h
   have h1:=ZF h2
   have hk:n.toNat<ws.length:=%[|1]
   have ew:ws.getD n.toNat 0=ws[n.toNat]:=by simp[List.getD,hk]
   have at1:atI (ws.map D.int) n=some (.int (ws.getD n.toNat 0)):=by
    have:=aA (xs:=ws.map D.int) (j:=n.toNat) (v:=.int ws[n.toNat]) (by rw[x8,y8 hk];rfl)
    rw[Int.toNat_of_nonneg h0]at this
    rw[ew];exact this
   have hw12:=hws.2 _ (List.getElem_mem hk)
   rw[←ew]at hw12
   generalize ws.getD n.toNat 0=w at at1 hw hw12
   walk_at "b"
   refine⟨_,at1,?_⟩
   walk_at "b"
   refine⟨_,at1,?_⟩
   walk_at "b"
   refine⟨rfl,_,_,_,rfl,?_⟩
   walk_at "b"
   refine⟨λ h3=>?_,λ h3=>by rw[h3]at hw;exact hw⟩
   rw[h3]at hw
   obtain⟨ds,rfl,l1,l2⟩:=aX h3
   walk_at "b"
   refine dZ (λ x=>.bl (isPlace d x)) %[|1] ?_ (cJ hw)
   intro i e he Q hq
   walk_at "b"
   exact⟨rfl,_,_,rfl,hd0,hd,hq⟩
 | _=>walk_at "b";exact hw
theorem zJ(F:Fun Ω.K "is_read" "is_read" jm f fd)(N0:%[|14])(Cq38:Cal Ω "is_whole" 1 1 jG)(Cq37:Cal Ω "is_tuple_of" 1 3 eN)(Cq23:Cal Ω "has_few_figures" 1 1 FQ)(Cq36:Cal Ω "is_table_with_place" 4 4 Lh):Ok Ω 5 f fd Ci HN:=by
 refine aD N0 (N:=Bs) F (Bv Cq38 Cq37 Cq23 Cq36) %[|15] ?_
 rintro ds S W ⟨x,ws,d,rfl,hws,hd0,hd,hw⟩ hl
 walk_at "b"
 refine⟨rfl,_,_,_,rfl,?_⟩
 cases h:bJ x 3 3 with
 | false=>
   have e:lH ws d x=false:=by
    cases x with
    | tup ds=>
      match ds,h with
      | [a,b,c],h=>exact tf h
      | [],_=>rfl
      | [_],_=>rfl
      | [_,_],_=>rfl
      | _::_::_::_::_,_=>rfl
    | _=>rfl
   rw[e]at hw
   walk_at "b"
   exact hw
 | true=>
   obtain⟨ds,rfl,l1,l2⟩:=aX h
   match ds,l1,l2,hw with
   | [f, t,p],_,_,hw=>
     walk_at "b"
     refine⟨rfl,_,rfl,?_⟩
     have e:lH ws d (.tup [f,t,p])=(uY f&&jB t p ws d):=rfl
     rw[e]at hw
     cases f with
     | int n=>
       walk_at "b"
       refine⟨rfl,_,rfl,?_⟩
       have e:uY (.int n)=GC n:=rfl
       rw[e]at hw
       cases h2:GC n with
       | true=>
         rw[h2]at hw
         walk_at "b"
         exact⟨rfl,_,_,_,_,rfl,hws,hd0,hd,hw⟩
       | false=>
         rw[h2]at hw
         walk_at "b"
         exact hw
     | _=>walk_at "b";exact hw
   | [],l1,_,_=>simp at l1
   | [_],l1,_,_=>simp at l1
   | [_,_],l1,_,_=>simp at l1
   | _::_::_::_::es,_,l2,_=>simp at l2;omega
theorem vY(F:Fun Ω.K "is_reads" "is_reads" iB f fd)(N0:%[|14])(B:%[|5])(Cq37:Cal Ω "is_tuple_of" 1 3 eN)(Cq33:Cal Ω "is_read" 5 3 HN):Ok Ω 6 f fd Bd Ds:=by
 refine aD N0 (N:=zg) F (zu B Cq37 Cq33) %[|15] ?_
 rintro ds S W ⟨x,ws,d,rfl,hws,hd0,hd,hw⟩ hl
 walk_at "b"
 refine⟨rfl,_,_,_,rfl,?_⟩
 walk_at "b"
 unfold jL at hw
 refine⟨λ h=>?_,λ h=>by rw[h]at hw;exact hw⟩
 rw[h]at hw
 obtain⟨ds,rfl,l1,l2⟩:=aX h
 walk_at "b"
 refine dZ (λ x=>.bl (lH ws d x)) %[|1] ?_ (cJ hw)
 intro i e he Q hq
 walk_at "b"
 exact⟨rfl,_,_,_,rfl,hws,hd0,hd,hq⟩
theorem yE(F:Fun Ω.K "is_deed" "is_deed" jl f fd)(N0:%[|14])(Cq37:Cal Ω "is_tuple_of" 1 3 eN)(Cq35:Cal Ω "is_start" 3 2 Di)(Cq36:Cal Ω "is_table_with_place" 4 4 Lh)(Cq34:Cal Ω "is_reads" 6 3 Ds):Ok Ω 7 f fd Br Hd:=by
 refine aD N0 (N:=BR) F (Bw Cq37 Cq35 Cq36 Cq34) %[|15] ?_
 rintro ds S W ⟨x,ws,d,rfl,hws,hd0,hd,hw⟩ hl
 walk_at "b"
 refine⟨rfl,_,_,_,rfl,?_⟩
 cases h:bJ x 4 4 with
 | false=>
   have e:dR ws d x=false:=by
    cases x with
    | tup ds=>
      match ds,h with
      | [a,b,c,d],h=>exact tf h
      | [],_=>rfl
      | [_],_=>rfl
      | [_,_],_=>rfl
      | [_,_,_],_=>rfl
      | _::_::_::_::_::_,_=>rfl
    | _=>rfl
   rw[e]at hw
   walk_at "b"
   exact hw
 | true=>
   obtain⟨ds,rfl,l1,l2⟩:=aX h
   match ds,l1,l2,hw with
   | [t, p,s,r],_,_,hw=>
     have e:dR ws d (.tup [t,p,s,r])=(jB t p ws d&&(isStart s d&&jL r ws d)):=rfl
     rw[e]at hw
     walk_at "b"
     refine⟨rfl,_,_,_,_,rfl,hws,hd0,hd,?_⟩
     cases h2:jB t p ws d with
     | false=>
       rw[h2]at hw
       walk_at "b"
       exact hw
     | true=>
       rw[h2,Bool.true_and]at hw
       walk_at "b"
       refine⟨rfl,_,_,rfl,hd0,hd,?_⟩
       cases h3:isStart s d with
       | false=>
         rw[h3]at hw
         walk_at "b"
         exact hw
       | true=>
         rw[h3,Bool.true_and]at hw
         walk_at "b"
         exact⟨rfl,_,_,_,rfl,hws,hd0,hd,hw⟩
   | [],l1,_,_=>simp at l1
   | [_],l1,_,_=>simp at l1
   | [_,_],l1,_,_=>simp at l1
   | [_,_,_],l1,_,_=>simp at l1
   | _::_::_::_::_::es,_,l2,_=>simp at l2;omega
theorem zf(F:Fun Ω.K "is_nest" "is_nest" jr f fd)(N0:%[|14])(B:%[|5])(Cq37:Cal Ω "is_tuple_of" 1 3 eN)(Cq28:Cal Ω "is_loops" 5 1 Dm)(Cq25:Cal Ω "is_deed" 7 3 Hd):Ok Ω 8 f fd BJ HD:=by
 refine aD N0 (N:=Bm) F (Ce B Cq37 Cq28 Cq25) %[|15] ?_
 rintro ds S W ⟨x,ws,rfl,hws,hw⟩ hl
 walk_at "b"
 refine⟨rfl,_,_,_,rfl,?_⟩
 cases h:bJ x 2 2 with
 | false=>
   have e:mO ws x=false:=by
    cases x with
    | tup ds=>
      match ds,h with
      | [a,b],h=>exact tf h
      | [],_=>rfl
      | [_],_=>rfl
      | _::_::_::_,_=>rfl
    | _=>rfl
   rw[e]at hw
   walk_at "b"
   exact hw
 | true=>
   obtain⟨ds,rfl,l1,l2⟩:=aX h
   match ds,l1,l2,hw with
   | [l, dd],_,_,hw=>
     have e:mO ws (.tup [l,dd])=(fJ l&&(bJ dd 1 4&&(parts dd).all (dR ws ((parts l).length:Int)))):=rfl
     rw[e]at hw
     walk_at "b"
     refine⟨rfl,_,rfl,?_⟩
     cases h2:fJ l with
     | false=>
       rw[h2]at hw
       walk_at "b"
       exact hw
     | true=>
       rw[h2,Bool.true_and]at hw
       cases l with
       | tup ls=>
         have hlen:(ls.length:Int)≤3:=ZF (aa (aa h2).1).2
         have hw:W (.bl (bJ dd 1 4&&(parts dd).all (dR ws (ls.length:Int)))) S:=hw
         walk_at "b"
         refine⟨rfl,_,_,_,rfl,?_⟩
         walk_at "b"
         refine⟨λ h3=>?_,λ h3=>by rw[h3]at hw;exact hw⟩
         rw[h3]at hw
         obtain⟨es,rfl,l1,l2⟩:=aX h3
         walk_at "b"
         refine dZ (λ x=>.bl (dR ws (ls.length:Int) x)) %[|1] ?_ (cJ hw)
         intro i e he Q hq
         walk_at "b"
         exact⟨rfl,_,_,_,rfl,hws,%[|1],%[|1],hq⟩
       | _=>exact ff h2
   | [],l1,_,_=>simp at l1
   | [_],l1,_,_=>simp at l1
   | _::_::_::es,_,l2,_=>simp at l2;omega
theorem xT(F:Fun Ω.K "is_nests" "is_nests" iG f fd)(N0:%[|14])(B:%[|5])(Cq37:Cal Ω "is_tuple_of" 1 3 eN)(Cq29:Cal Ω "is_nest" 8 2 HD):Ok Ω 9 f fd z7 Cz:=by
 refine aD N0 (N:=Aw) F (Bb B Cq37 Cq29) %[|15] ?_
 rintro ds S W ⟨x,ws,rfl,hws,hw⟩ hl
 walk_at "b"
 refine⟨rfl,_,_,_,rfl,?_⟩
 walk_at "b"
 unfold fL at hw
 refine⟨λ h=>?_,λ h=>by rw[h]at hw;exact hw⟩
 rw[h]at hw
 obtain⟨ds,rfl,l1,l2⟩:=aX h
 walk_at "b"
 refine dZ (λ x=>.bl (mO ws x)) %[|1] ?_ (cJ hw)
 intro i e he Q hq
 walk_at "b"
 exact⟨rfl,_,_,rfl,hws,hq⟩
structure Rd where
 fac:Int
 tab:Nat
 pl:List Fm
structure Dd where
 tab:Nat
 pl:List Fm
 st:Fm
 rds:List Rd
structure Ns where
 lps:List Lp
 dds:List Dd
def dP(pl:List Fm):D:=.tup (pl.map dF)
def dRd(r:Rd):D:=.tup [.int r.fac,.int r.tab,dP r.pl]
def dDd(x:Dd):D:=.tup [.int x.tab,dP x.pl,dF x.st,.tup (x.rds.map dRd)]
def dNs(n:Ns):D:=.tup [.tup (n.lps.map dL),.tup (n.dds.map dDd)]
def dWs(ws:%[|6]):D:=.tup (ws.map .int)
def many(nss:List Ns):Int:=(nss.map λ n=>((cnt n.lps).length:Int)*(n.dds.length:Int)).sum
def QB(n:Ns):Prop:=1≤n.lps.length/\Fits n.lps/\n.dds.length≤1000
def Hg:Ct:=λ ds S W=>∃nss,ds=[.tup (List.map dNs nss)]/\nss.length≤1000/\(∀n∈nss,QB n)/\flat S/\W (.int (many nss)) S
theorem Ib(h:cI (dWs ws)=true):Ws ws:=by
 obtain⟨h1,h2⟩:=aa h
 have:=vI h1
 refine⟨by simp at this;omega,λ w hw=>?_⟩
 have h3:=List.all_eq_true.mp h2 (.int w) (ZO.mpr ⟨w,hw,rfl⟩)
 obtain⟨a,b⟩:=aa h3
 exact⟨ZF a,ZF b⟩
theorem kE(F:Fun Ω.K "number_of_steps" "number_of_steps" cz f fd)(N0:%[|14])(B:%[|5])(Cq20:Cal Ω "counts_of" 3 1 yw):Ok Ω 4 f fd lr Hg:=by
 refine aD N0 (N:=lw) F (lB B Cq20) %[|15] ?_
 rintro ds S W ⟨nss,rfl,hz,hok,hS,hw⟩ hl
 walk_at "b"
 refine jH (λ n=>.int (((cnt n.lps).length:Int)*(n.dds.length:Int))) %[|1] ?_ ?_
 . intro i n hn Q hq
   obtain⟨h1,h2,h3⟩:=hok n (y9 hn)
   have h4:=(h2.2 n.lps.length (x9 _)).1
   rw[List.take_length]at h4
   walk_at "b"
   refine⟨rfl,?_⟩
   walk_at "b"
   refine⟨rfl,_,rfl,h1,h2,hS,.inl ?_⟩
   have e1:(((cnt n.lps).map dC).length:Int)=((cnt n.lps).length:Int):=by rw[x6]
   have e2:((n.dds.map dDd).length:Int)=(n.dds.length:Int):=by rw[x6]
   walk_at "n"
   rw[e1,e2]
   exact⟨.inl %[|54],hq⟩
 . exact⟨nss.map λ(n:Ns)=>((cnt n.lps).length:Int)*(n.dds.length:Int),by rw[List.map_map];rfl,hw⟩
theorem _root_.DL.Pen.lt(p:Pen S k):k<S.length:=by
 obtain⟨ns,a,c,n,m,z,h,_⟩:=p
 exact(z0.mp h).1
theorem _root_.DL.Pen.app(J:Store)(p:Pen S k):Pen (S++J) k:=by
 have hl:=p.lt
 obtain⟨ns,a,c,n,m,z,h,ha⟩:=p
 exact⟨ns,a,c,n,m,z,by rw[List.getElem?_append_left hl];exact h,ha⟩
theorem _root_.DL.Upd.split{T:Store}(p:Pen S k)(u:Upd (S++J) k T):∃S',T=S'++J/\Upd S k S'/\Pen S' k:=by
 have hl:=p.lt
 obtain⟨ns,a,c,n,m,z,rfl,hn⟩:=u
 have u:Upd S k (S.set k (iR ns a c n m z)):=⟨ns,a,c,n,m,z,rfl,hn⟩
 exact⟨S.set k (iR ns a c n m z),by rw[List.set_append_left k _ hl],u,u.pen p⟩
theorem Gq{P:Int->Prop}:∀{ys:List D},(∀(i:Nat)(y:D),ys[i]? =some y->∃n:Int,y=D.int n/\P n)->∃fs:%[|6],ys=fs.map D.int/\∀n∈fs,P n
 | [],_=>⟨[],rfl,by simp⟩
 | y::ys,h=>by
   obtain⟨n,rfl,hn⟩:=h 0 y rfl
   obtain⟨fs,rfl,hf⟩:=Gq (ys:=ys) λ i y h'=>h (i+1) y (by simpa using h')
   exact⟨n::fs,rfl,by
    intro m hm
    rcases ZJ.mp hm with rfl | hm
    . exact hn
    . exact hf m hm⟩
theorem rR{α:Type}{f:α->D}{P:α->Prop}:∀{ys:List D},(∀(i:Nat)(y:D),ys[i]? =some y->∃a,y=f a/\P a)->∃as:List α,ys=as.map f/\∀a∈as,P a
 | [],_=>⟨[],rfl,by simp⟩
 | y::ys,h=>by
   obtain⟨a,rfl,ha⟩:=h 0 y rfl
   obtain⟨as,rfl,has⟩:=rR (ys:=ys) λ i y h'=>h (i+1) y (by simpa using h')
   exact⟨a::as,rfl,by
    intro b hb
    rcases ZJ.mp hb with rfl | hb
    . exact ha
    . exact has b hb⟩
theorem vA(ns:%[|6]):ao (ns.map D.int)=true:=by
 induction ns with
 | nil=>rfl
 | cons y ys ih=>simp only[List.map_cons,ao,ih,Bool.and_true];rfl
theorem aL{α:Type}{f:α->D}(h:∀a,aq (f a)=true):∀l:List α,ao (l.map f)=true
 | []=>rfl
 | a::l=>by simp only[List.map_cons,ao,h,aL h l,Bool.and_true]
theorem _root_.DL.Upd.flat{S':Store}(u:Upd S k S')(h:flat S):RF.flat S':=by
 obtain⟨ns,a,c,n,m,z,rfl,_⟩:=u
 intro l hl
 rcases List.mem_or_eq_of_mem_set hl with hl | rfl
 . exact h l hl
 . have:ao [D.lst (ns.map .int),.int a,.int c,.int n,.int m,.int z]=true:=by
    have e:aq (D.lst (ns.map .int))=true:=vA ns
    simp only[ao,e,Bool.and_true];rfl
   exact this
theorem yf{d:D}{Γ:Gam}{W:Gam->Prop}(h:W (Γ.set i (some d))):(Tg.nm i).wp d Γ W:=h
def WsA(ws:%[|6]):Prop:=1≤ws.length/\ws.length≤3/\∀w∈ws,1≤w/\w≤2
def gV:XCt:=λ ds S W WE=>∃x y,ds=[x,y]/\flat S/\(cI x=false->WE "NoProgram" S)/\(cI x=true->∃ws,x=dWs ws/\(fL y ws=false->WE "NoProgram" S)/\(fL y ws=true->∃nss,y=.tup (List.map dNs nss)/\nss.length≤1000/\(∀n∈nss,QB n)/\(60<many nss->WE "TooMany" S)/\(many nss≤60->W (.tup [x,y]) S)))
theorem tu(F:Fun Ω.K "program_of" "program_of" fD f fd)(N0:%[|14])(B:%[|5])(E:%[|27])(Cq39:Cal Ω "is_widths" 2 1 z8)(Cq30:Cal Ω "is_nests" 9 2 Cz)(Cq42:Cal Ω "number_of_steps" 4 1 Hg):OkX Ω 10 f fd um gV:=by
 refine dh N0 (N:=uH) F (uP B E Cq39 Cq30 Cq42) %[|15] ?_
 rintro ds S W WE ⟨x,y,rfl,hS,h1,h2⟩ hl
 walk_at "b"
 refine⟨rfl,_,rfl,?_⟩
 cases hx:cI x with
 | false=>
   walk_at "b"
   exact h1 hx
 | true=>
   obtain⟨ws,rfl,h3,h4⟩:=h2 hx
   have hws:=Ib hx
   walk_at "b"
   refine⟨rfl,_,_,rfl,hws,?_⟩
   cases hy:fL y ws with
   | false=>
     walk_at "b"
     exact h3 hy
   | true=>
     obtain⟨nss,rfl,hz,hok,h5,h6⟩:=h4 hy
     walk_at "b"
     refine⟨rfl,_,rfl,hz,hok,hS,?_⟩
     walk_at "b"
     by_cases h60:60<many nss
     . rw[ZG h60]
       walk_at "b"
       exact h5 h60
     . rw[ZH h60]
       walk_at "b"
       exact h6 %[|1]
theorem s44:Str.ofString ","=mkS [44]:=%[|7]
theorem s64:Str.ofString "@"=mkS [64]:=%[|7]
theorem s32:Str.ofString " "=mkS [32]:=%[|7]
theorem s10:Str.ofString "\n"=mkS [10]:=%[|7]
theorem s45:Str.ofString "-"=mkS [45]:=%[|7]
theorem s00:Str.ofString ""=mkS []:=%[|7]
def lt3:%[|0]:=["a","b","c"]
def ltS(t:Nat):Str:=mkS [97+t]
def liS(ws:%[|0]):Str:=Txt.join " " ws
theorem jJ{sep:Str}{xs:%[|0]}{B n:Nat}(hB:∀x∈xs,x.length≤B)(hn:xs.length≤n):(Txt.join sep xs).length≤n*(B+sep.length):=by
 show(Builtin.Str.glued sep xs).length≤_
 rw[StrLaws.glued_eq_join]
 have h1:=StrLaws.join_length_le sep xs
 have h2:=StrLaws.sumLen_le xs hB
 have h3:xs.length*(B+sep.length)≤n*(B+sep.length):=Nat.mul_le_mul_right _ hn
 rw[Nat.mul_add]at h3
 omega
theorem mY{sep:Str}{xs:%[|0]}{B n:Nat}(hB:∀x∈xs,x.length≤B)(hn:xs.length≤n)(h:n*(B+sep.length)≤16000000):JoinOk sep xs=true:=by
 have h3:xs.length*(B+sep.length)≤n*(B+sep.length):=Nat.mul_le_mul_right _ hn
 rw[Nat.mul_add]at h3
 unfold JoinOk
 have:=StrLaws.joinFits (sep:=sep) hB %[|1]
 rw[this];rfl
theorem le4{a b c d:Str}{B:Nat}(ha:a.length≤B)(hb:b.length≤B)(hc:c.length≤B)(hd:d.length≤B):∀x∈[a,b,c,d],x.length≤B:=λ x hx=>by
 simp only[List.mem_cons,List.not_mem_nil,or_false]at hx
 rcases hx with rfl | rfl | rfl | rfl<;>assumption
theorem jg{α β:Type}{f:α->List β}{B:Nat}:∀{l:List α},(∀a∈l,(f a).length≤B)->(l.flatMap f).length≤l.length*B
 | [],_=>by simp
 | a::l,h=>by
   have h1:=h a List.mem_cons_self
   have h2:=jg (f:=f) (l:=l) λ b hb=>h b (w9 _ hb)
   rw[List.flatMap_cons,List.length_append,List.length_cons,Nat.succ_mul];omega
theorem li4(a b c d:Str):(liS [a,b,c,d]).cps.toList=a.cps.toList++32::(b.cps.toList++32::(c.cps.toList++32::d.cps.toList)):=by
 unfold liS
 rw[s32,dD];rfl
theorem Qf(c:Nat):inT ⟨#[c]⟩ "0123456789"=dgB c:=by
 show(!(Builtin.Str.occurrences (Str.ofString "0123456789") ⟨#[c]⟩ 0 (Str.ofString "0123456789").length 1).isEmpty)=_
 rw[StrLaws.found_one]
 have e:(Str.ofString "0123456789").cps.toList=[48,49,50,51,52,53,54,55,56,57]:=%[|7]
 rw[e]
 unfold dgB
 by_cases h:48≤c/\c≤57
 . rw[ZG h.1,ZG h.2]
   exact ZG (by simp only[List.mem_cons,List.not_mem_nil,or_false];omega)
 . have e2:(decide (48≤c)&&decide (c≤57))=false:=by
    rw[Bool.and_eq_false_iff]
    by_cases h1:48≤c
    . exact .inr (ZH %[|1])
    . exact .inl (ZH h1)
   rw[e2]
   exact ZH (by simp only[List.mem_cons,List.not_mem_nil,or_false];omega)
theorem za(a b:List Nat):(mkS a==mkS b)=(a==b):=by
 by_cases h:a=b
 . subst h;simp
 . rw[beq_eq_false_iff_ne.mpr h,beq_eq_false_iff_ne.mpr λ e=>h (by rw[←aF a,e,aF])]
theorem s48:Str.ofString "0"=mkS [48]:=%[|7]
def RT:Ct:=λ ds S W=>∃x:Str,ds=[.str x]/\x.length≤400000/\W (.str (mkS (woS x.cps.toList))) S
theorem nO(F:Fun Ω.K "without_sign" "without_sign" dB f fd)(N0:%[|14]):Ok Ω 1 f fd pJ RT:=by
 refine aD N0 (N:=nY) F (pF) %[|15] ?_
 rintro ds S W ⟨x,rfl,hz,hw⟩ hl
 walk_at "b"
 refine⟨_,rfl,?_⟩
 rw[s45,O9]
 unfold woS at hw
 by_cases h:x.cps.toList.head? =some 45
 . rw[if_pos h]at hw
   rw[ZG h]
   walk_at "b"
   refine⟨_,rfl,%[|1],?_⟩
   rw[Eo x (by
    rw[aW]
    cases e:x.cps.toList with
    | nil=>rw[e]at h;cases h
    | cons a l=>simp)]
   exact hw
 . rw[if_neg h,ie]at hw
   rw[ZH h]
   walk_at "b"
   exact hw
def CW:Ct:=λ ds S W=>∃x:Str,ds=[.str x]/\x.length≤400000/\W (.bl (fO x.cps.toList)) S
theorem Ru(l:List Nat):(woS l).length≤l.length:=by
 unfold woS
 split
 . rw[List.length_drop];omega
 . exact x9 _
theorem uT(F:Fun Ω.K "is_number" "is_number" gA f fd)(N0:%[|14])(B:%[|5])(Cq51:Cal Ω "without_sign" 1 1 RT):Ok Ω 2 f fd vV CW:=by
 refine aD N0 (N:=xR) F (wN B Cq51) %[|15] ?_
 rintro ds S W ⟨x,rfl,hz,hw⟩ hl
 have hlen:=Ru x.cps.toList
 rw[←aW]at hlen
 unfold fO at hw
 walk_at "b"
 refine⟨rfl,x,rfl,hz,?_⟩
 generalize hg:woS x.cps.toList=g at*
 have hx1:(x==Str.ofString "0")=(x.cps.toList==[48]):=by rw[s48,←za,ie]
 walk_at "b"
 refine bV ?_
 rw[s00,za]
 cases g with
 | nil=>
   walk_at "b"
   exact hw
 | cons c r=>
   have e0:((c::r)==([]:List Nat))=false:=by simp
   rw[e0]
   walk_at "b"
   refine jH (xs:=(mkS (c::r)).cps.toList) (enc:=λ c=>D.str ⟨#[c]⟩) (λ c=>.bl (dgB c)) (by rw[aF];omega) ?_ ?_
   . intro i a ha Q hq
     walk_at "b"
     refine⟨_,_,rfl,rfl,?_⟩
     rw[Qf];exact hq
   rw[aF]
   refine⟨(c::r).map dgB,by rw[List.map_map];rfl,?_⟩
   have e1:((c::r).map dgB).all id=(c::r).all dgB:=by rw[List.all_map];rfl
   rw[e1]
   cases ha:(c::r).all dgB with
   | false=>
     rw[ha]at hw
     walk_at "b"
     exact hw
   | true=>
     rw[ha]at hw
     walk_at "b"
     refine⟨_,_,c,rfl,rfl,by rw[gQ];omega,by rw[aF];exact aA (j:=0) rfl,?_⟩
     refine Gr ?_
     have e2:((⟨#[c]⟩:Str)==Str.ofString "0")=(some c==some 48):=by
      rw[s48,show(⟨#[c]⟩:Str)=mkS [c]from rfl,za]
      by_cases h:c=48
      . subst h;rfl
      . rw[beq_eq_false_iff_ne.mpr (by simpa using h),beq_eq_false_iff_ne.mpr (by simpa using h)]
     rw[e2]
     rw[List.head?_cons]at hw
     cases hc:(some c==some 48)with
     | false=>
       rw[hc]at hw
       walk_at "b"
       exact hw
     | true=>
       rw[hc]at hw
       walk_at "b"
       refine bV ?_
       rw[hx1]
       exact hw
theorem IK{c s:Nat}:∀{xs:List (List Nat)},c∈jn s xs->c=s∨∃x∈xs,c∈x
 | [],h=>by cases h
 | [x],h=>.inr ⟨x,List.mem_cons_self,h⟩
 | x ::y::r,h=>by
   rcases ZK.mp h with h | h
   . exact .inr ⟨x,List.mem_cons_self,h⟩
   . rcases ZJ.mp h with h | h
     . exact .inl h
     . rcases IK h with h | ⟨z,hz,h⟩
       . exact .inl h
       . exact .inr ⟨z,w9 _ hz,h⟩
theorem mem_join{s:Nat}{xs:%[|0]}(h:c∈(Txt.join (mkS [s]) xs).cps.toList):c=s∨∃x∈xs,c∈x.cps.toList:=by
 rw[dD]at h
 rcases IK h with h | ⟨x,hx,h⟩
 . exact .inl h
 . obtain⟨y,hy,rfl⟩:=ZO.mp hx
   exact .inr ⟨y,hy,h⟩
def sgN(c:Nat):Prop:=c=45∨(48≤c/\c≤57)
theorem m7(h:c∈(nS n).cps.toList):sgN c:=by rw[dG]at h;exact Ph n c h
def Rs{α:Type}(o:Option α)(enc:α->D)(S:Store)(W:WD)(WE:WX):Prop:=match o with
 | some a=>W (enc a) S
 | none=>WE "NoText" S
def trs{α β:Type}(f:α->Option β):List α->Option (List β)
 | []=>some []
 | a ::l=>match f a with
   | none=>none
   | some b=>match trs f l with
     | none=>none
     | some r=>some (b::r)
def opD{β:Type}(enc:β->D):Option β->D
 | some b=>enc b
 | none=>.non
theorem Js{α β:Type}{f:α->Option β}(enc:β->D):∀{xs:List α},(xs.all λ x=>(f x).isSome)=true->∃r,trs f xs=some r/\(xs.map λ x=>opD enc (f x))=r.map enc
 | [],_=>⟨[],rfl,rfl⟩
 | x::xs,h=>by
   rw[List.all_cons,Bool.and_eq_true]at h
   obtain⟨r,h1,h2⟩:=Js enc h.2
   obtain⟨b,hb⟩:=Option.isSome_iff_exists.mp h.1
   refine⟨b::r,?_,?_⟩
   . unfold trs;rw[hb,h1]
   . rw[List.map_cons,List.map_cons,h2,hb];rfl
theorem zQ{α β:Type}{f:α->Option β}:∀{xs:List α},(xs.all λ x=>(f x).isSome)=false->trs f xs=none
 | [],h=>by cases h
 | x ::xs,h=>by
   rw[List.all_cons,Bool.and_eq_false_iff]at h
   unfold trs
   cases e:f x with
   | none=>rfl
   | some b=>
     rcases h with h | h
     . rw[e]at h;cases h
     . rw[zQ h]
theorem mR{α β:Type}{f:α->Option β}{g:β->α}:∀{xs:List β},(∀x∈xs,f (g x)=some x)->trs f (xs.map g)=some xs
 | [],_=>rfl
 | x::xs,h=>by
   rw[List.map_cons]
   unfold trs
   rw[h x List.mem_cons_self,mR λ y hy=>h y (w9 _ hy)]
theorem Aa{Ω:Wd}{cap:%[|32]}{Γ:Gam}{elt:XEx Ω}{tg:Tg}{WE:WX}{S1:Store}{α β:Type}{xs:List α}{e0:α->D}(f:α->Option β)(enc:β->D)(hz:xs.length≤1000000)
 (h:∀(x:α),x∈xs->∀(Q:WD)(QE:WX),Rs (f x) enc S1 Q QE->tg.wp (e0 x) (capt cap Γ) λ Γ2=>elt.wp Γ2 S1 Q QE)
 (w:Rs (trs f xs) (λ r=>.lst (r.map enc)) S1 W WE):XE.CompX cap Γ elt tg W WE (xs.map e0) S1:=by
 refine XE.cmx_enc (λ x=>opD enc (f x)) (λ x=>(f x).isSome) "NoText" hz ?_ ?_ ?_
 . intro i x hx Q QE q1 q2
   refine h x (y9 hx) Q QE ?_
   cases e:f x with
   | none=>rw[e]at q2;exact q2 rfl
   | some b=>rw[e]at q1;exact q1 rfl
 . intro ha
   obtain⟨r,h1,h2⟩:=Js (f:=f) enc ha
   rw[h1]at w
   rw[h2];exact w
 . intro ha
   rw[zQ ha]at w
   exact w
theorem rH{c:Nat}:∀{xs:List (List Nat)}{x:List Nat},x∈xs->x.length≤(jn c xs).length
 | [y],x,h=>by rw[ZL.mp h];exact x9 _
 | y::z::r,x,h=>by
   have e:jn c (y::z::r)=y++c::jn c (z::r):=rfl
   rw[e,List.length_append,List.length_cons]
   rcases ZJ.mp h with rfl | h
   . omega
   . have:=rH (c:=c) h;omega
theorem CP{c:Nat}:∀(xs:List (List Nat)),xs.length≤(jn c xs).length+1
 | []=>Nat.zero_le _
 | [y]=>by simp
 | y::z::r=>by
   have e:jn c (y::z::r)=y++c::jn c (z::r):=rfl
   have:=CP (c:=c) (z::r)
   simp only[e,List.length_append,List.length_cons]at this ⊢
   omega
theorem uc(x:Str)(c:Nat):jn c ((Txt.split x (mkS [c])).map λ y=>y.cps.toList)=x.cps.toList:=by
 rw[←dD]
 show(Builtin.Str.glued _ _).cps.toList=_
 rw[StrLaws.glued_eq_join,StrLaws.join_split]
theorem qZ{x y:Str}(h:y∈Txt.split x (mkS [c])):y.length≤x.length:=by
 have:=rH (c:=c) (List.mem_map_of_mem (f:=λ y:Str=>y.cps.toList) h)
 rw[uc]at this
 rw[aW,aW];exact this
theorem mV(x:Str)(c:Nat):(Txt.split x (mkS [c])).length≤x.length+1:=by
 have:=CP (c:=c) ((Txt.split x (mkS [c])).map λ y=>y.cps.toList)
 rw[uc,x6]at this
 rw[aW x];exact this
theorem nq(x:Str)(c:Nat):∃a l,Txt.split x (mkS [c])=a::l:=by
 cases e:Txt.split x (mkS [c])with
 | nil=>
   have:=PyProof.Rows.split_pos x (mkS [c])
   rw[e]at this
   simp at this
 | cons a l=>exact⟨a,l,rfl⟩
theorem Gu(x:Str)(k:Nat):Txt.slice x none (some (k:Int))=mkS (x.cps.toList.take k):=by
 by_cases h:x.length≤k
 . rw[Le x h,List.take_of_length_le (by rw[←aW];exact h),ie]
 . have h:k≤x.length:=%[|1]
   have hs:Builtin.Str.strSliceIndices none (some (k:Int)) 1 x.length=Builtin.Str.strSliceIndices (some ((0:Nat):Int)) (some ((k:Nat):Int)) 1 x.length:=by
    have h1:¬((k:Int)<0):=%[|1]
    have e4:max (0:Int) (min 0 (x.length:Int))=0:=%[|1]
    simp[Builtin.Str.strSliceIndices,sliceRange,h1,e4]
   unfold Txt.slice
   rw[hs,StrLaws.sliced_plain x (Nat.zero_le _) h,StrLaws.strSliceIndices_plain (Nat.zero_le _) h]
   by_cases hk:k=x.length
   . omega
   . have:((List.range (k-0)).map λ j=>0+j).length≠x.length:=by simp;omega
     rw[if_neg (by simpa using this)]
     show mkS _=mkS _
     congr 1
def nR(x:Str):%[|17]:=if fO x.cps.toList then intText? (mkS (x.cps.toList.take 99))else none
theorem Im{l:List Nat}(h:fO l=true):∃n,intText? (mkS (l.take 99))=some n:=by
 unfold fO at h
 rw[Bool.and_eq_true,Bool.and_eq_true]at h
 obtain⟨h1,h2,_⟩:=h
 have dig:∀c∈woS l,48≤c/\c≤57:=λ c hc=>by
  have:=List.all_eq_true.mp h2 c hc
  unfold dgB at this
  rw[Bool.and_eq_true]at this
  exact⟨ZF this.1,ZF this.2⟩
 have hl:(mkS (l.take 99)).length≤4300:=by rw[gQ,List.length_take];omega
 cases l with
 | nil=>cases h1
 | cons a r=>
   by_cases ha:a=45
   . subst ha
     have e:woS (45::r)=r:=rfl
     rw[e]at dig h1
     refine⟨_,intText_neg (cs:=r.take 98) (by rw[aF];rfl) (λ c hc=>dig c (List.mem_of_mem_take hc)) ?_ hl⟩
     cases r with
     | nil=>cases h1
     | cons b s=>simp
   . have e:woS (a::r)=a::r:=by
      unfold woS
      rw[if_neg]
      simpa using ha
     rw[e]at dig
     refine⟨_,intText_digits (by rw[aF];exact λ c hc=>dig c (List.mem_of_mem_take hc)) (by rw[aF];simp) hl⟩
def Fb:XCt:=λ ds S W WE=>∃x:Str,ds=[.str x]/\x.length≤400000/\Rs (nR x) D.int S W WE
theorem oM(F:Fun Ω.K "number_read" "number_read" dU f fd)(N0:%[|14])(B:%[|5])(E:%[|27])(Cq31:Cal Ω "is_number" 2 1 CW):OkX Ω 3 f fd qb Fb:=by
 refine dh N0 (N:=pZ) F (qj B E Cq31) %[|15] ?_
 rintro ds S W WE ⟨x,rfl,hz,hw⟩ hl
 unfold nR at hw
 walk_at "b"
 refine⟨rfl,_,rfl,hz,?_⟩
 cases h:fO x.cps.toList with
 | false=>
   rw[h]at hw
   walk_at "b"
   exact hw
 | true=>
   obtain⟨n,hn⟩:=Im h
   rw[h,if_pos rfl,hn]at hw
   walk_at "b"
   refine⟨_,rfl,%[|1],?_⟩
   rw[show(99:Int)=((99:Nat):Int)from rfl,Gu]
   exact⟨n,hn,by rw[gQ,List.length_take];omega,hw⟩
def dFq(f:%[|6]):D:=.tup (f.map D.int)
def dPq(pl:List %[|6]):D:=.tup (pl.map dFq)
def fR(x:Str):Option %[|6]:=trs nR (Txt.split x ",")
def FZ:XCt:=λ ds S W WE=>∃x:Str,ds=[.str x]/\x.length≤400000/\Rs (fR x) dFq S W WE
theorem uz(F:Fun Ω.K "form_read" "form_read" gB f fd)(N0:%[|14])(B:%[|5])(E:%[|27])(Cq43:az Ω "number_read" 3 1 Fb):OkX Ω 4 f fd wL FZ:=by
 refine dh N0 (N:=wQ) F (wz B E Cq43) %[|15] ?_
 rintro ds S W WE ⟨x,rfl,hz,hw⟩ hl
 unfold fR at hw
 rw[s44]at hw
 have h1:=mV x 44
 walk_at "b"
 refine⟨_,rfl,%[|7],%[|1],.inl ?_⟩
 rw[s44]
 refine Aa nR D.int %[|1] ?_ ?_
 . intro y hy Q QE hq
   have:=qZ hy
   walk_at "b"
   exact⟨rfl,y,rfl,%[|1],hq⟩
 . cases e:trs nR (Txt.split x (mkS [44]))with
   | none=>rw[e]at hw;exact hw
   | some r=>rw[e]at hw;exact hw
def ltQ(h:Str):Option Nat:=if h=="a" then some 0 else if h=="b" then some 1 else if h=="c" then some 2 else none
theorem RD(e:ltQ h=none):lt3.contains h=false:=by
 unfold ltQ at e
 split at e
 . cases e
 . rename_i h1
   split at e
   . cases e
   . rename_i h2
     split at e
     . cases e
     . rename_i h3
       show((h==_)||((h==_)||((h==_)||false)))=false
       rw[Bool.eq_false_iff.mpr h1,Bool.eq_false_iff.mpr h2,Bool.eq_false_iff.mpr h3];rfl
theorem R0{t:Nat}(e:ltQ h=some t):t<3/\h=ltS t:=by
 unfold ltQ at e
 split at e
 . rename_i h1
   cases e
   exact⟨%[|2],by rw[%[|18]];sleep 4⟩
 . split at e
   . rename_i h1
     cases e
     exact⟨%[|2],by rw[%[|18]];sleep 4⟩
   . split at e
     . rename_i h1
       cases e
       exact⟨%[|2],by rw[%[|18]];sleep 4⟩
     . cases e
theorem QJ:∀{t:Nat},t<3->lt3.contains (ltS t)=true
 | 0,_=>%[|7]
 | 1,_=>%[|7]
 | 2,_=>%[|7]
 | _+3,h=>absurd h %[|1]
theorem Jw:∀{t:Nat},t<3->lt3[t]? =some (ltS t)/\∀m,m<t->lt3[m]?≠some (ltS t)
 | 0,_=>⟨%[|7],λ m h=>absurd h %[|1]⟩
 | 1,_=>⟨%[|7],λ m h=>by
   have:m=0:=%[|1]
   subst this;sleep 4⟩
 | 2,_=>⟨%[|7],λ m h=>by
   have:m=0∨m=1:=%[|1]
   rcases this with rfl | rfl<;>decide+kernel⟩
 | _+3,h=>absurd h %[|1]
def cR(x:Str):Option (Nat×List %[|6]):=match Txt.split x "@" with
 | []=>none
 | h ::t=>match ltQ h with
   | none=>none
   | some i=>match trs fR t with
     | none=>none
     | some pl=>some (i,pl)
def dCq(c:Nat×List %[|6]):D:=.tup [.int c.1,dPq c.2]
def KC:XCt:=λ ds S W WE=>∃x:Str,ds=[.str x]/\x.length≤400000/\Rs (cR x) dCq S W WE
theorem uC(F:Fun Ω.K "cell_read" "cell_read" gb f fd)(N0:%[|14])(B:%[|5])(E:%[|27])(Cq22:az Ω "form_read" 4 1 FZ):OkX Ω 5 f fd xZ KC:=by
 refine dh N0 (N:=v4) F (v7 B E Cq22) %[|15] ?_
 rintro ds S W WE ⟨x,rfl,hz,hw⟩ hl
 have h1:=mV x 64
 have h2:=λ y (h:y∈Txt.split x (mkS [64]))=>qZ h
 obtain⟨h,t,e⟩:=nq x 64
 unfold cR at hw
 rw[s64,e]at hw
 dsimp only at hw
 rw[e]at h1 h2
 rw[List.length_cons]at h1
 walk_at "b"
 refine⟨_,rfl,%[|7],%[|1],.inl ?_⟩
 rw[s64,e,List.map_cons]
 walk_at "b"
 refine⟨_,aA (j:=0) rfl,_,rfl,?_⟩
 cases e2:ltQ h with
 | none=>
   rw[e2]at hw
   rw[show List.contains [Str.ofString "a",Str.ofString "b",Str.ofString "c"] h=false from RD e2]
   walk_at "b"
   exact hw
 | some i=>
   rw[e2]at hw
   obtain⟨ht,rfl⟩:=R0 e2
   rw[show List.contains [Str.ofString "a",Str.ofString "b",Str.ofString "c"] (ltS i)=true from QJ ht]
   walk_at "b"
   refine⟨_,aA (j:=0) rfl,_,i,rfl,(Jw ht).1,(Jw ht).2,?_⟩
   walk_at "b"
   rw[List.map_cons,dq]
   refine Aa fR dFq %[|1] ?_ ?_
   . intro y hy Q QE hq
     have:=h2 y (w9 _ hy)
     walk_at "b"
     exact⟨rfl,y,rfl,%[|1],hq⟩
   . cases e3:trs fR t with
     | none=>rw[e3]at hw;exact hw
     | some r=>
       rw[e3]at hw
       walk_at "b"
       exact hw
abbrev dW(ws:%[|0]):D:=.lst (ws.map D.str)
def WL(ws:%[|0]):Prop:=∀w∈ws,w.length≤400000
def four(c:Str):%[|0]->Option (Str×Str)
 | [_,b,c',d]=>if c'==c then some (b,d)else none
 | _=>none
def ym:XCt:=λ ds S W WE=>∃(ws:%[|0]) (c:Str),ds=[dW ws,.str c]/\ws.length≤1000000/\Rs (four c ws) (λ _=>.non) S W WE
theorem iY(F:Fun Ω.K "refuse_other_words" "refuse_other_words" bL f fd)(N0:%[|14])(B:%[|5])(E:%[|27]):OkX Ω 1 f fd jk ym:=by
 refine dh N0 (N:=jx) F (ju B E) %[|15] ?_
 rintro ds S W WE ⟨ws,c,rfl,hz,hw⟩ hl
 have no:ws.length≠4->WE "NoText" S:=λ h=>by
  match ws,h with
  | [],_=>exact hw
  | [_],_=>exact hw
  | [_,_],_=>exact hw
  | [_,_,_],_=>exact hw
  | [_,_,_,_],h=>exact absurd rfl h
  | _::_::_::_::_::_,_=>exact hw
 by_cases h4:ws.length=4
 . match ws,h4 with
   | [a,b,c',d],_=>
     walk_at "b"
     refine Gr ?_
     have hw:Rs (if(c'==c)=true then some (b,d)else none) (λ _=>.non) S W WE:=hw
     cases e:c'==c with
     | false=>
       rw[e]at hw
       walk_at "b"
       exact hw
     | true=>
       rw[e]at hw
       walk_at "b"
       exact hw
 . walk_at "b"
   rw[x6,show(!decide ((ws.length:Int)=4))=true by simp;omega]
   walk_at "b"
   exact no h4
abbrev Lq:=%[|6]×%[|6]
abbrev Cq:=Nat×List %[|6]
abbrev Rq:=Int×Cq
structure Dq where
 c:Cq
 st:%[|6]
 rds:List Rq
def dLq(l:Lq):D:=.tup [dFq l.1,dFq l.2]
def dRq(r:Rq):D:=.tup [.int r.1,.int r.2.1,dPq r.2.2]
def dDq(x:Dq):D:=.tup [.int x.c.1,dPq x.c.2,dFq x.st,.tup (x.rds.map dRq)]
def cO(ws:%[|0]):Option Lq:=match four "to" ws with
 | none=>none
 | some p=>match fR p.1 with
   | none=>none
   | some a=>match fR p.2 with
     | none=>none
     | some b=>some (a,b)
def b7(ws:%[|0]):Option Dq:=match four "be" ws with
 | none=>none
 | some p=>match cR p.1 with
   | none=>none
   | some a=>match fR p.2 with
     | none=>none
     | some b=>some ⟨a,b,[]⟩
def fK(ws:%[|0]):Option Rq:=match four "of" ws with
 | none=>none
 | some p=>match nR p.1 with
   | none=>none
   | some a=>match cR p.2 with
     | none=>none
     | some b=>some (a,b)
theorem tH{c b d:Str}{ws:%[|0]}(h:four c ws=some (b,d)):∃a,ws=[a,b,c,d]:=by
 match ws,h with
 | [a,b',c',d'],h=>
   have h:(if(c'==c)=true then some (b',d')else none)=some (b,d):=h
   split at h
   . rename_i e
     obtain⟨rfl,rfl⟩:=Prod.mk.inj (Option.some.inj h)
     exact⟨a,by rw[ZI e]⟩
   . cases h
 | [],h=>cases h
 | [_],h=>cases h
 | [_,_],h=>cases h
 | [_,_,_],h=>cases h
 | _::_::_::_::_::_,h=>cases h
def Sd:XCt:=λ ds S W WE=>∃ws,ds=[dW ws]/\WL ws/\ws.length≤1000000/\Rs (cO ws) dLq S W WE
def U0:XCt:=λ ds S W WE=>∃ws,ds=[dW ws]/\WL ws/\ws.length≤1000000/\Rs (b7 ws) dDq S W WE
def addQ(x:Dq)(r:Rq):Dq:=⟨x.c,x.st,x.rds++[r]⟩
def T6:XCt:=λ ds S W WE=>∃x ws,ds=[dDq x,dW ws]/\WL ws/\ws.length≤1000000/\x.rds.length≤900000/\Rs (fK ws) (λ r=>dDq (addQ x r)) S W WE
theorem tO(F:Fun Ω.K "loop_read" "loop_read" gJ f fd)(N0:%[|14])(E:%[|27])(Cq22:az Ω "form_read" 4 1 FZ)(Cq46:az Ω "refuse_other_words" 1 2 ym):OkX Ω 5 f fd wA Sd:=by
 refine dh N0 (N:=wF) F (wK E Cq22 Cq46) %[|15] ?_
 rintro ds S W WE ⟨ws,rfl,hb,hz,hw⟩ hl
 unfold cO at hw
 walk_at "b"
 refine⟨rfl,ws,_,rfl,hz,?_⟩
 cases e:four "to" ws with
 | none=>rw[e]at hw;exact hw
 | some p=>
   obtain⟨b,d⟩:=p
   rw[e]at hw
   obtain⟨a,rfl⟩:=tH e
   walk_at "b"
   refine⟨rfl,b,rfl,hb b (by simp),?_⟩
   dsimp only at hw
   cases e1:fR b with
   | none=>rw[e1]at hw;exact hw
   | some u=>
     rw[e1]at hw
     walk_at "b"
     refine⟨rfl,d,rfl,hb d (by simp),?_⟩
     dsimp only at hw
     cases e2:fR d with
     | none=>rw[e2]at hw;exact hw
     | some v=>
       rw[e2]at hw
       walk_at "b"
       exact hw
theorem tR(F:Fun Ω.K "deed_read" "deed_read" gH f fd)(N0:%[|14])(E:%[|27])(Cq22:az Ω "form_read" 4 1 FZ)(Cq18:az Ω "cell_read" 5 1 KC)(Cq46:az Ω "refuse_other_words" 1 2 ym):OkX Ω 6 f fd xU U0:=by
 refine dh N0 (N:=vX) F (v6 E Cq22 Cq18 Cq46) %[|15] ?_
 rintro ds S W WE ⟨ws,rfl,hb,hz,hw⟩ hl
 unfold b7 at hw
 walk_at "b"
 refine⟨rfl,ws,_,rfl,hz,?_⟩
 cases e:four "be" ws with
 | none=>rw[e]at hw;exact hw
 | some p=>
   obtain⟨b,d⟩:=p
   rw[e]at hw
   obtain⟨a,rfl⟩:=tH e
   walk_at "b"
   refine⟨rfl,b,rfl,hb b (by simp),?_⟩
   dsimp only at hw
   cases e1:cR b with
   | none=>rw[e1]at hw;exact hw
   | some u=>
     rw[e1]at hw
     walk_at "b"
     refine⟨rfl,d,rfl,hb d (by simp),?_⟩
     dsimp only at hw
     cases e2:fR d with
     | none=>rw[e2]at hw;exact hw
     | some v=>
       rw[e2]at hw
       walk_at "b"
       exact hw
theorem uG(F:Fun Ω.K "with_read" "with_read" gm f fd)(N0:%[|14])(E:%[|27])(Cq43:az Ω "number_read" 3 1 Fb)(Cq18:az Ω "cell_read" 5 1 KC)(Cq46:az Ω "refuse_other_words" 1 2 ym):OkX Ω 6 f fd wg T6:=by
 refine dh N0 (N:=xJ) F (wR E Cq43 Cq18 Cq46) %[|15] ?_
 rintro ds S W WE ⟨x,ws,rfl,hb,hz,hx,hw⟩ hl
 unfold fK at hw
 walk_at "b"
 refine⟨rfl,ws,_,rfl,hz,?_⟩
 cases e:four "of" ws with
 | none=>rw[e]at hw;exact hw
 | some p=>
   obtain⟨b,d⟩:=p
   rw[e]at hw
   obtain⟨a,rfl⟩:=tH e
   walk_at "b"
   refine⟨rfl,b,rfl,hb b (by simp),?_⟩
   dsimp only at hw
   cases e1:nR b with
   | none=>rw[e1]at hw;exact hw
   | some u=>
     rw[e1]at hw
     walk_at "b"
     refine⟨rfl,d,rfl,hb d (by simp),?_⟩
     dsimp only at hw
     cases e2:cR d with
     | none=>rw[e2]at hw;exact hw
     | some v=>
       rw[e2]at hw
       walk_at "b"
       rw[cZ %[|2]]
       have e:dDq (addQ x (u,v))=.tup [.int x.c.1,dPq x.c.2,dFq x.st,.tup (x.rds.map dRq++[dRq (u,v)])]:=by
        show D.tup [_,_,_,.tup ((x.rds++[(u,v)]).map dRq)]=_
        rw[List.map_append];rfl
       have hw:W (dDq (addQ x (u,v))) S:=hw
       rw[e]at hw
       exact hw
abbrev Nq:=List Lq×List Dq
def dNq(n:Nq):D:=.tup [.tup (n.1.map dLq),.tup (n.2.reverse.map dDq)]
def lnQ(n:Nq):%[|0]->Option Nq
 | []=>none
 | w ::r=>if(w=="loop"&&n.2.isEmpty)=true then(match cO (w::r)with
     | none=>none
     | some l=>some (n.1++[l],n.2))
  else if(w=="set")=true then(match b7 (w::r)with
   | none=>none
   | some d=>some (n.1,d::n.2))
  else if(w=="and")=true then(match n.2 with
   | []=>none
   | d::A=>match fK (w::r)with
     | none=>none
     | some q=>some (n.1,addQ d q::A))
  else none
def SzN(k:Nat)(n:Nq):Prop:=n.1.length≤k/\n.2.length≤k/\∀x∈n.2,x.rds.length≤k
def WsB(ws:%[|0]):Prop:=WL ws/\ws≠[]/\ws.length≤1000000
def MN:XCt:=λ ds S W WE=>∃n ws,ds=[dNq n,dW ws]/\WsB ws/\SzN 900000 n/\Rs (lnQ n ws) dNq S W WE
theorem Du{α:Type}(A:List α)(x:α):atI (A++[x]) (-1)=some x:=by
 unfold atI
 have:L2.ixN (A++[x]).length (-1)=some A.length:=by
  unfold L2.ixN;simp;omega
 rw[this];simp
theorem zP(A:List D)(x:D):cutD (A++[x]) none (some (-1))=A:=by
 unfold cutD
 rw[HT.sIx_none]
 have e:HT.sIx (A++[x]).length (A++[x]).length (some (-1))=A.length:=by
  unfold HT.sIx
  simp
  omega
 rw[e,List.drop_zero,Nat.sub_zero,List.take_left']
 rfl
theorem ur (F:Fun Ω.K "with_line" "with_line" gD f fd)(N0:%[|14])(E:%[|27])(Cq40:az Ω "loop_read" 5 1 Sd)(Cq21:az Ω "deed_read" 6 1 U0)(Cq50:az Ω "with_read" 6 2 T6):OkX Ω 7 f fd ww MN:=by
 refine dh N0 (N:=wO) F (wy E Cq40 Cq21 Cq50) %[|15] ?_
 rintro ds S W WE ⟨n,ws,rfl,⟨hb,h0,hz⟩,⟨z1,z2,z3⟩,hw⟩ hl
 obtain⟨L,E0⟩:=n
 dsimp only at z1 z2 z3
 cases ws with
 | nil=>exact absurd rfl h0
 | cons w r=>
 unfold lnQ at hw
 dsimp only at hw
 by_cases e1:w="loop"
 . subst e1
   cases E0 with
   | nil=>
     rw[beq_self_eq_true]at hw
     have hw:Rs (match cO ("loop"::r)with
      | none=>none
      | some l=>some (L++[l],([]:List Dq))) dNq S W WE:=hw
     walk_at "b"
     refine%[|61]
     refine bV ?_
     rw[beq_self_eq_true]
     walk_at "b"
     refine⟨_,rfl,by show 0≤1000000;decide,?_⟩
     walk_at "b"
     refine⟨rfl,_,rfl,hb,hz,?_⟩
     cases e:cO ("loop"::r)with
     | none=>rw[e]at hw;exact hw
     | some l=>
       rw[e]at hw
       walk_at "b"
       have hw:W (dNq (L++[l],[])) S:=hw
       rw[show L.map dLq++[dLq l]=(L++[l]).map dLq by rw[List.map_append];rfl]
       exact hw
   | cons d A=>
     rw[beq_self_eq_true,show(%[|43]==%[|47])=false by sleep 4,show(%[|43]==%[|48])=false by sleep 4]at hw
     have hw:WE "NoText" S:=hw
     have ed:(d::A).reverse.map dDq=A.reverse.map dDq++[dDq d]:=by rw[List.reverse_cons,List.map_append];rfl
     walk_at "b"
     refine%[|61]
     refine bV ?_
     rw[beq_self_eq_true]
     walk_at "b"
     refine⟨_,rfl,by rw[x6,List.length_reverse];exact Nat.le_trans z2 %[|2],?_⟩
     rw[ed,show(!(A.reverse.map dDq++[dDq d]).isEmpty)=true by simp]
     walk_at "b"
     refine%[|61]
     refine bV ?_
     rw[show(%[|43]==%[|47])=false by sleep 4]
     walk_at "b"
     refine%[|61]
     refine bV ?_
     rw[show(%[|43]==%[|48])=false by sleep 4]
     walk_at "b"
     exact hw
 . have b1 :(w==%[|43])=false:=beq_eq_false_iff_ne.mpr e1
   rw[b1]at hw
   by_cases e2:w="set"
   . subst e2
     rw[beq_self_eq_true]at hw
     have hw:Rs (match b7 ("set"::r)with
      | none=>none
      | some d=>some (L,d::E0)) dNq S W WE:=hw
     walk_at "b"
     refine%[|61]
     refine bV ?_
     rw[b1]
     walk_at "b"
     refine%[|61]
     refine bV ?_
     rw[beq_self_eq_true]
     walk_at "b"
     refine⟨rfl,_,rfl,hb,hz,?_⟩
     cases e:b7 ("set"::r)with
     | none=>rw[e]at hw;exact hw
     | some d=>
       rw[e]at hw
       walk_at "b"
       have hw:W (dNq (L,d::E0)) S:=hw
       rw[show E0.reverse.map dDq++[dDq d]=(d::E0).reverse.map dDq by rw[List.reverse_cons,List.map_append];rfl]
       exact hw
   . have b2:(w==%[|47])=false:=beq_eq_false_iff_ne.mpr e2
     rw[b2]at hw
     by_cases e3:w="and"
     . subst e3
       rw[beq_self_eq_true]at hw
       cases E0 with
       | nil=>
         have hw:WE "NoText" S:=hw
         walk_at "b"
         refine%[|61]
         refine bV ?_
         rw[b1]
         walk_at "b"
         refine%[|61]
         refine bV ?_
         rw[b2]
         walk_at "b"
         refine%[|61]
         refine bV ?_
         rw[beq_self_eq_true]
         walk_at "b"
         refine⟨_,rfl,by show 0≤1000000;decide,?_⟩
         walk_at "b"
         exact hw
       | cons d A=>
         have ed:(d::A).reverse.map dDq=A.reverse.map dDq++[dDq d]:=by rw[List.reverse_cons,List.map_append];rfl
         rw[List.length_cons]at z2
         have hw:Rs (match fK ("and"::r)with
          | none=>none
          | some q=>some (L,addQ d q::A)) dNq S W WE:=hw
         walk_at "b"
         refine%[|61]
         refine bV ?_
         rw[b1]
         walk_at "b"
         refine%[|61]
         refine bV ?_
         rw[b2]
         walk_at "b"
         refine%[|61]
         refine bV ?_
         rw[beq_self_eq_true]
         walk_at "b"
         refine⟨_,rfl,by rw[x6,List.length_reverse,List.length_cons];omega,?_⟩
         rw[ed,show(!(A.reverse.map dDq++[dDq d]).isEmpty)=true by simp]
         walk_at "b"
         rw[zP]
         refine⟨_,Du _ _,?_⟩
         refine⟨rfl,d,_,rfl,hb,hz,z3 d List.mem_cons_self,?_⟩
         cases e:fK ("and"::r)with
         | none=>rw[e]at hw;exact hw
         | some q=>
           rw[e]at hw
           walk_at "b"
           have hw:W (dNq (L,addQ d q::A)) S:=hw
           rw[show A.reverse.map dDq++[dDq (addQ d q)]=(addQ d q::A).reverse.map dDq by rw[List.reverse_cons,List.map_append];rfl]
           exact hw
     . have b3:(w==%[|48])=false:=beq_eq_false_iff_ne.mpr e3
       rw[b3]at hw
       have hw:WE "NoText" S:=hw
       walk_at "b"
       refine%[|61]
       refine bV ?_
       rw[b1]
       walk_at "b"
       refine%[|61]
       refine bV ?_
       rw[b2]
       walk_at "b"
       refine%[|61]
       refine bV ?_
       rw[b3]
       walk_at "b"
       exact hw
theorem vm:∀(ws vs:%[|0]),cU (ws.map D.str) (vs.map D.str)=(ws==vs)
 | [],[]=>rfl
 | [],_::_=>rfl
 | _::_,[]=>rfl
 | a::ws,b::vs=>by
   show(eqD (.str a) (.str b)&&cU (ws.map D.str) (vs.map D.str))=((a==b)&&(ws==vs))
   rw[vm ws vs];rfl
theorem lR:∀(ws:%[|0]),cA (ws.map D.str)=true
 | []=>rfl
 | _::ws=>by
   show(true&&cA (ws.map D.str))=true
   rw[lR ws];rfl
theorem qG:∀(ws:%[|0]),aM (ws.map D.str)=0
 | []=>rfl
 | _::ws=>by
   show max 0 (aM (ws.map D.str))=0
   rw[qG ws];rfl
theorem w_eq{ws vs:%[|0]}{W:%[|28]}(w:W (ws==vs) S):aK .Eq (dW ws) (dW vs) S W:=by
 unfold aK
 refine⟨⟨lR ws,lR vs,by show aM (ws.map D.str)+1≤50;rw[qG];decide⟩,?_⟩
 have e:eqD (vw S (dW ws)) (vw S (dW vs))=(ws==vs):=vm ws vs
 rw[e];exact w
def stQ(st:List Nq)(ws:%[|0]):Option (List Nq):=if(ws==[%[|57]])=true then some (([],[])::st)else match st with
 | []=>none
 | n::A=>match lnQ n ws with
   | none=>none
   | some m=>some (m::A)
def foldQ:List Nq->List %[|0]->Option (List Nq)
 | st,[]=>some st
 | st,ws::r=>match stQ st ws with
   | none=>none
   | some s=>foldQ s r
theorem De{ws:%[|0]}(e:(ws==[%[|57]])=false):stQ [] ws=none:=by unfold stQ;rw[e];rfl
theorem eZ{n:Nq}{A:List Nq}{ws:%[|0]}(e:(ws==[%[|57]])=false):stQ (n::A) ws=match lnQ n ws with
 | none=>none
 | some m=>some (m::A):=by unfold stQ;rw[e];rfl
def SzS(k:Nat)(st:List Nq):Prop:=st.length≤k/\∀n∈st,SzN k n
theorem SzN.up{n:Nq}(h:SzN k n):SzN (k+1) n:=⟨by have:=h.1;omega,by have:=h.2.1;omega,λ x hx=>by have:=h.2.2 x hx;omega⟩
theorem SzN.le{m:Nat}{n:Nq}(h:SzN k n)(l:k≤m):SzN m n:=⟨Nat.le_trans h.1 l,Nat.le_trans h.2.1 l,λ x hx=>Nat.le_trans (h.2.2 x hx) l⟩
theorem V9{ws:%[|0]}{d:Dq}(h:b7 ws=some d):d.rds=[]:=by
 unfold b7 at h
 split at h
 . cases h
 . split at h
   . cases h
   . split at h
     . cases h
     . cases h;rfl
theorem Rv {n m:Nq}{ws:%[|0]}(hz:SzN k n)(h:lnQ n ws=some m):SzN (k+1) m:=by
 obtain⟨L,E0⟩:=n
 obtain⟨z1,z2,z3⟩:=hz
 dsimp only at z1 z2 z3
 cases ws with
 | nil=>cases h
 | cons w r=>
   unfold lnQ at h
   dsimp only at h
   split at h
   . split at h
     . cases h
     . cases h
       exact⟨by simp;omega,by show E0.length≤_;omega,λ x hx=>by have:=z3 x hx;omega⟩
   . split at h
     . split at h
       . cases h
       . rename_i d hd
         cases h
         refine⟨by show L.length≤_;omega,by show(d::E0).length≤_;rw[List.length_cons];omega,λ x hx=>?_⟩
         rcases ZJ.mp hx with rfl | hx
         . rw[V9 hd];simp
         . have:=z3 x hx;omega
     . split at h
       . cases E0 with
         | nil=>cases h
         | cons d A=>
           dsimp only at h
           split at h
           . cases h
           . cases h
             refine⟨by show L.length≤_;omega,by show(addQ d _::A).length≤_;rw[List.length_cons]at z2 ⊢;omega,λ x hx=>?_⟩
             rcases ZJ.mp hx with rfl | hx
             . have:=z3 d List.mem_cons_self
               show(d.rds++[_]).length≤_
               simp;omega
             . have:=z3 x (w9 _ hx);omega
       . cases h
theorem T9{st s:List Nq}{ws:%[|0]}(hz:SzS k st)(h:stQ st ws=some s):SzS (k+1) s:=by
 obtain⟨z1,z2⟩:=hz
 unfold stQ at h
 split at h
 . cases h
   refine⟨by rw[List.length_cons];omega,λ n hn=>?_⟩
   rcases ZJ.mp hn with rfl | hn
   . exact⟨by simp,by simp,λ x hx=>by cases hx⟩
   . exact(z2 n hn).up
 . split at h
   . cases h
   . rename_i n A
     split at h
     . cases h
     . rename_i m hm
       cases h
       refine⟨by rw[List.length_cons]at z1 ⊢;omega,λ y hy=>?_⟩
       rcases ZJ.mp hy with rfl | hy
       . exact Rv (z2 n List.mem_cons_self) hm
       . exact(z2 y (w9 _ hy)).up
theorem CG(l:%[|6]):ao (l.map D.int)=true:=aL (λ _=>rfl) l
theorem Gd(f:%[|6]):aq (dFq f)=true:=CG f
theorem Ri(pl:List %[|6]):aq (dPq pl)=true:=aL Gd pl
theorem Ao(l:Lq):aq (dLq l)=true:=by
 show(aq (dFq l.1)&&(aq (dFq l.2)&&true))=true
 rw[Gd,Gd];rfl
theorem WQ(r:Rq):aq (dRq r)=true:=by
 show(true&&(true&&(aq (dPq r.2.2)&&true)))=true
 rw[Ri];rfl
theorem Uc(x:Dq):aq (dDq x)=true:=by
 show(true&&(aq (dPq x.c.2)&&(aq (dFq x.st)&&(ao (x.rds.map dRq)&&true))))=true
 rw[Ri,Gd,aL WQ];rfl
theorem W4(n:Nq):aq (dNq n)=true:=by
 show(ao (n.1.map dLq)&&(ao (n.2.reverse.map dDq)&&true))=true
 rw[aL Ao,aL Uc];rfl
def dSq(st:List Nq):D:=.tup (st.reverse.map dNq)
def MF:XCt:=λ ds S W WE=>∃lines,ds=[.lst (lines.map dW)]/\(∀ws∈lines,WsB ws)/\lines.length≤500000/\flat S/\Rs (foldQ [] lines) dSq S W WE
theorem qW(F:Fun Ω.K "nests_read" "nests_read" eV f fd)(N0:%[|14])(B:%[|5])(E:%[|27])(Cq48:az Ω "with_line" 7 2 MN):OkX Ω 8 f fd t8 MF:=by
 refine dh N0 (N:=uF) F (BX.drp E (uV B E Cq48)) %[|15] ?_
 rintro ds S W WE ⟨lines,rfl,hb,hz,hS,hw⟩ hl
 walk_at "b"
 refine XE.forX_by ⟨λ i Γ' S'=>∃st o2,Γ'=[some (.lst (lines.map dW)),%[|65],o2]/\S'=S++[st.reverse.map dNq]/\foldQ [] lines=foldQ st (lines.drop i)/\SzS i st,⟨[],_,rfl,rfl,by simp,by simp,λ n hn=>by cases hn⟩,?_,?_⟩
 . rintro i e Γ' S' he ⟨st,o2,rfl,rfl,hr,hst⟩
   obtain⟨ws,hx,rfl⟩:=jN he
   have hi:=(z0.mp hx).1
   have hwb:=hb ws (y9 hx)
   have ed:lines.drop i=ws::lines.drop (i+1):=by
    rw[List.drop_eq_getElem_cons hi]
    rw[y8 hi]at hx
    rw[Option.some.inj hx]
   rw[ed]at hr
   have bad:stQ st ws=none->WE "NoText" S:=λ h=>by
    have h2:foldQ [] lines=none:=by rw[hr];unfold foldQ;rw[h]
    rw[h2]at hw;exact hw
   have good:∀s,stQ st ws=some s->foldQ [] lines=foldQ s (lines.drop (i+1))/\SzS (i+1) s:=λ s h=>by
    refine⟨?_,T9 hst h⟩
    rw[hr]
    show(match stQ st ws with | none=>none | some s=>foldQ s (lines.drop (i+1)))=_
    rw[h]
   have z1:=hst.1
   refine yf ?_
   simp only[List.set_cons_succ,List.set_cons_zero]
   walk_at "b"
   refine w_eq (ws:=ws) (vs:=["nest"]) ?_
   cases e1:(ws==[%[|57]])with
   | true=>
     obtain⟨g1,g2⟩:=good (([],[])::st) (by unfold stQ;rw[if_pos e1])
     walk_at "b"
     refine⟨_,aU _ _,by rw[x6,List.length_reverse];omega,?_⟩
     refine⟨_,_,rfl,?_,g1,g2⟩
     rw[dw,List.reverse_cons,List.map_append];rfl
   | false=>
     cases st with
     | nil=>
       walk_at "b"
       refine⟨_,by show(match (S++[[]])[S.length]? with | some ds=>D.lst ds | none=>%[|77])=_;rw[aU];rfl,.inr ⟨_,rfl,aU _ _⟩,by show 0≤1000000;decide,?_⟩
       walk_at "b"
       exact .inr ⟨%[|7],[_],S,rfl,x9 _,hS,bad (De e1)⟩
     | cons n A=>
       have em:(n::A).reverse.map dNq=A.reverse.map dNq++[dNq n]:=by rw[List.reverse_cons,List.map_append];rfl
       walk_at "b"
       rw[em]
       refine⟨_,by show(match (S++[A.reverse.map dNq++[dNq n]])[S.length]? with | some ds=>D.lst ds | none=>%[|77])=_;rw[aU],.inr ⟨_,rfl,aU _ _⟩,?_,?_⟩
       . rw[List.length_cons]at z1
         simp only[List.length_append,x6,List.length_reverse,List.length_cons,List.length_nil];omega
       rw[show(!(A.reverse.map dNq++[dNq n]).isEmpty)=true by simp]
       walk_at "b"
       refine⟨_,_,aU _ _,Du _ _,?_⟩
       refine⟨rfl,n,ws,rfl,hwb,(hst.2 n List.mem_cons_self).le %[|1],?_⟩
       cases e2:lnQ n ws with
       | none=>
         exact .inr ⟨%[|7],[_],S,rfl,x9 _,hS,bad (by rw[eZ e1,e2])⟩
       | some m=>
         obtain⟨g1,g2⟩:=good (m::A) (by rw[eZ e1,e2])
         walk_at "b"
         refine⟨_,_,_,A.length,rfl,rfl,aU _ _,?_,?_⟩
         . unfold L2.ixN;simp;omega
         refine⟨_,_,rfl,?_,g1,g2⟩
         rw[dw,List.reverse_cons,List.map_append]
         congr 2
         have e:A.length=(A.reverse.map dNq).length:=by rw[x6,List.length_reverse]
         rw[e];simp
 . rintro Γ' S' ⟨st,o2,rfl,rfl,hr,hst⟩
   rw[x6,List.drop_length]at hr
   rw[hr]at hw
   have hw:W (dSq st) S:=hw
   walk_at "b"
   refine⟨_,aU _ _,?_⟩
   exact .inr ⟨[_],S,rfl,x9 _,aL W4 _,hS,hw⟩
def wsQ:%[|0]->Option %[|6]
 | []=>none
 | w::r=>if(w=="tables")=true then trs nR r else none
def Nk:XCt:=λ ds S W WE=>∃ws,ds=[dW ws]/\WsB ws/\Rs (wsQ ws) dFq S W WE
theorem oJ(F:Fun Ω.K "widths_read" "widths_read" dY f fd)(N0:%[|14])(B:%[|5])(E:%[|27])(Cq43:az Ω "number_read" 3 1 Fb):OkX Ω 4 f fd sI Nk:=by
 refine dh N0 (N:=rB) F (qx B E Cq43) %[|15] ?_
 rintro ds S W WE ⟨ws,rfl,⟨hb,h0,hz⟩,hw⟩ hl
 cases ws with
 | nil=>exact absurd rfl h0
 | cons w r=>
 unfold wsQ at hw
 dsimp only at hw
 rw[List.length_cons]at hz
 walk_at "b"
 refine%[|61]
 refine Gr ?_
 cases e:(w==Str.ofString "tables")with
 | false=>
   rw[e]at hw
   walk_at "b"
   exact hw
 | true=>
   rw[e]at hw
   have hw:Rs (trs nR r) dFq S W WE:=hw
   walk_at "b"
   rw[show List.map D.str (w::r)=D.str w::r.map D.str from rfl,dq]
   refine Aa nR D.int %[|1] ?_ ?_
   . intro y hy Q QE hq
     walk_at "b"
     exact⟨rfl,y,rfl,hb y (w9 _ hy),hq⟩
   . cases e3:trs nR r with
     | none=>rw[e3]at hw;exact hw
     | some l=>
       rw[e3]at hw
       walk_at "b"
       exact hw
def gO(x:Str):Option (%[|6]×List Nq):=match Txt.split x "\n" with
 | []=>none
 | h ::t=>match wsQ (Txt.split h " ")with
   | none=>none
   | some ws=>match foldQ [] (t.map λ s=>Txt.split s " ")with
     | none=>none
     | some st=>some (ws,st)
def MP:XCt:=λ ds S W WE=>∃d,ds=[d]/\flat S/\((isStr d=false/\WE "NoText" S)∨∃x,d=.str x/\x.length≤400000/\(gO x=none->WE "NoText" S)/\∀ws st,gO x=some (ws,st)->gV [dFq ws,dSq st] S W WE)
theorem M4{x:Str}(h:x.length≤400000):WsB (Txt.split x " "):=by
 rw[s32]
 have h1:=mV x 32
 refine⟨λ y hy=>Nat.le_trans (qZ hy) h,λ z=>?_,%[|1]⟩
 obtain⟨a,l,e⟩:=nq x 32
 rw[z]at e
 cases e
theorem HS(F:Fun Ω.K "read" "read" pg f fd)(N0:%[|14])(B:%[|5])(E:%[|27])(Cq44:az Ω "program_of" 10 2 gV)(Cq41:az Ω "nests_read" 8 1 MF)(Cq47:az Ω "widths_read" 4 1 Nk):OkX Ω 11 f fd Mg MP:=by
 refine dh N0 (N:=Lg) F (K8 B E Cq44 Cq41 Cq47) %[|15] ?_
 rintro ds S W WE ⟨d,rfl,hS,hw⟩ hl
 rcases hw with⟨hd,hw⟩ | ⟨x,rfl,hx,hn,hs⟩
 . walk_at "b"
   rw[hd]
   walk_at "b"
   exact hw
 . have h1:=mV x 10
   have h2:=λ y (h:y∈Txt.split x (mkS [10]))=>Nat.le_trans (qZ h) hx
   obtain⟨h,t,e⟩:=nq x 10
   unfold gO at hn hs
   rw[s10,e]at hn hs
   dsimp only at hn hs
   rw[e]at h1 h2
   rw[List.length_cons]at h1
   walk_at "b"
   refine⟨_,rfl,%[|7],%[|1],.inl ?_⟩
   rw[s10,e]
   refine jH (xs:=h::t) (enc:=D.str) (λ s=>dW (Txt.split s " ")) (by rw[List.length_cons];omega) ?_ ?_
   . intro i s hs Q hq
     have:=h2 s (y9 hs)
     walk_at "b"
     exact⟨_,rfl,%[|7],%[|1],.inl hq⟩
   walk_at "b"
   refine%[|61]
   refine⟨rfl,_,rfl,M4 (h2 h List.mem_cons_self),?_⟩
   cases e1:wsQ (Txt.split h " ")with
   | none=>rw[e1]at hn;exact hn rfl
   | some ws=>
     rw[e1]at hn hs
     dsimp only at hn hs
     walk_at "b"
     rw[List.map_cons,dq]
     refine⟨rfl,t.map λ s=>Txt.split s " ",by rw[List.map_map];rfl,λ w hw=>?_,by rw[x6];omega,hS,?_⟩
     . obtain⟨s,hs,rfl⟩:=ZO.mp hw
       exact M4 (h2 s (w9 _ hs))
     cases e2:foldQ [] (t.map λ s=>Txt.split s " ")with
     | none=>rw[e2]at hn;exact hn rfl
     | some st=>
       rw[e2]at hs
       walk_at "b"
       exact⟨rfl,hs ws st rfl⟩
theorem TJ{ys:List D}(h1:1≤ys.length)(h3:ys.length≤3)(h:∀(i:Nat)(y:D),ys[i]? =some y->∃l:Lp,y=dL l/\BdF l.1 i/\BdF l.2 i):∃ls:List Lp,ys=ls.map dL/\Lps ls:=by
 have :∀(ys:List D)(k:Nat),(∀(i:Nat)(y:D),ys[i]? =some y->∃l:Lp,y=dL l/\BdF l.1 (i+k)/\BdF l.2 (i+k))->∃ls:List Lp,ys=ls.map dL/\∀(i:Nat)(l:Lp),ls[i]? =some l->BdF l.1 (i+k)/\BdF l.2 (i+k):=by
  intro ys
  induction ys with
  | nil=>exact λ k _=>⟨[],rfl,λ i l h=>by simp at h⟩
  | cons y ys ih=>
    intro k h
    obtain⟨l,rfl,hl⟩:=h 0 y rfl
    obtain⟨ls,rfl,hls⟩:=ih (k+1) λ i y hy=>by
     have:=h (i+1) y (by simpa using hy)
     rw[show i+1+k=i+(k+1) by omega]at this
     exact this
    refine⟨l::ls,rfl,λ i l' h'=>?_⟩
    cases i with
    | zero=>simp at h';subst h';exact hl
    | succ i=>
      have:=hls i l' (by simpa using h')
      rw[show i+1+k=i+(k+1) by omega];exact this
 obtain⟨ls,rfl,hls⟩:=this ys 0 h
 rw[x6]at h1 h3
 exact⟨ls,rfl,h1,h3,hls⟩
theorem encM{α:Type}{f:α->D}{P:α->Prop}:∀{ys:List D},(∀y∈ys,∃a,y=f a/\P a)->∃as:List α,ys=as.map f/\∀a∈as,P a
 | [],_=>⟨[],rfl,λ a h=>nomatch h⟩
 | y::ys,h=>by
   obtain⟨a,rfl,pa⟩:=h y List.mem_cons_self
   obtain⟨as,rfl,ps⟩:=encM λ z hz=>h z (w9 _ hz)
   refine⟨a::as,rfl,λ b hb=>?_⟩
   rcases ZJ.mp hb with rfl | hb
   . exact pa
   . exact ps b hb
theorem uI{d:Int}(h:d8 x d=true)(hd:0≤d):∃f:Fm,x=dF f/\(f.2.length:Int)=d:=by
 obtain⟨a,fs,e,hl⟩:=fM h hd
 exact⟨(a,fs),e,hl⟩
theorem yO(h:bG x (i:Int)=true):∃f:Fm,x=dF f/\BdF f i:=by
 obtain⟨h1,h2⟩:=aa h
 obtain⟨f,rfl,hl⟩:=uI h1 %[|1]
 have h2:(decide (-9≤f.1)&&(decide (f.1≤9)&&(f.2.map D.int).all small))=true:=h2
 obtain⟨a,h2⟩:=aa h2
 obtain⟨b,c⟩:=aa h2
 refine⟨f,rfl,%[|1],ZF a,ZF b,λ n hn=>?_⟩
 have:=List.all_eq_true.mp c (.int n) (ZO.mpr ⟨n,hn,rfl⟩)
 obtain⟨p,q⟩:=aa (show(decide (-2≤n)&&decide (n≤2))=true from this)
 exact⟨ZF p,ZF q⟩
theorem OD(h:iw x (i:Int)=true):∃l:Lp,x=dL l/\BdF l.1 i/\BdF l.2 i:=by
 cases x with
 | tup ds=>
   match ds,h with
   | [a,b],h=>
     obtain⟨h1,h2⟩:=aa (show(bG a i&&bG b i)=true from h)
     obtain⟨f,rfl,hf⟩:=yO h1
     obtain⟨g,rfl,hg⟩:=yO h2
     exact⟨(f,g),rfl,hf,hg⟩
   | [],h=>exact ff h
   | [_],h=>exact ff h
   | _::_::_::_,h=>exact ff h
 | _=>exact ff h
theorem Kr(h:fJ x=true):∃ls:List Lp,x=.tup (ls.map dL)/\Lps ls:=by
 cases x with
 | tup ds=>
   obtain⟨h1,h2⟩:=aa h
   obtain⟨a,b⟩:=aa h1
   have a:=ZF a
   have b:=ZF b
   obtain⟨ls,rfl,hL⟩:=TJ (ys:=ds) %[|1] %[|1] λ i y hy=>OD (List.all_eq_true.mp h2 _ (y9 (i:=i) (by rw[List.getElem?_mapIdx,hy];rfl)))
   exact⟨ls,rfl,hL⟩
 | _=>exact ff h
theorem My{t p:D}{d:Nat}(h:jB t p ws (d:Int)=true):∃(n:Nat) (pl:List Fm),t=.int n/\p=dP pl:=by
 cases t with
 | int n=>
   obtain⟨h1,h2⟩:=aa h
   sleep 5
   obtain⟨a,_⟩:=aa h1
   obtain⟨n,rfl⟩:=Int.eq_ofNat_of_zero_le (ZF a)
   obtain⟨ps,rfl,_⟩:=aX h2
   obtain⟨pl,rfl,_⟩:=encM (f:=dF) (P:=λ _=>True) (ys:=ps) λ y hy=>by
    obtain⟨f,rfl,_⟩:=uI (aa (List.all_eq_true.mp h3 y hy)).1 %[|1]
    exact⟨f,rfl,trivial⟩
   exact⟨n,pl,rfl,rfl⟩
 | _=>exact ff h
theorem N7{d:Nat}(h:dR ws (d:Int) x=true):∃y:Dd,x=dDd y:=by
 cases x with
 | tup ds =>
   match ds,h with
   | [t,p,s,r],h=>
     obtain⟨h1,h2⟩:=aa (show(jB t p ws d&&(isStart s d&&jL r ws d))=true from h)
     sleep 5
     obtain⟨n,pl,rfl,rfl⟩:=My h1
     obtain⟨f,rfl,_⟩:=uI (aa h2).1 %[|1]
     obtain⟨h3,h4⟩:=aa h3
     obtain⟨rs,rfl,_⟩:=aX h3
     obtain⟨rds,rfl,_⟩:=encM (f:=dRd) (P:=λ _=>True) (ys:=rs) λ y hy=>by
      have hr:=List.all_eq_true.mp h4 y hy
      cases y with
      | tup es=>
        match es,hr with
        | [a,b,c],hr=>
          obtain⟨r1,r2⟩:=aa (show(uY a&&jB b c ws d)=true from hr)
          obtain⟨m,pl',rfl,rfl⟩:=My r2
          cases a with
          | int q=>exact⟨⟨q,m,pl'⟩,rfl,trivial⟩
          | _=>exact ff r1
        | [],hr=>exact ff hr
        | [_],hr=>exact ff hr
        | [_,_],hr=>exact ff hr
        | _::_::_::_::_,hr=>exact ff hr
      | _=>exact ff hr
     exact⟨⟨n,pl,f,rds⟩,rfl⟩
   | [],h=>exact ff h
   | [_],h=>exact ff h
   | [_,_],h=>exact ff h
   | [_,_,_],h=>exact ff h
   | _::_::_::_::_::_,h=>exact ff h
 | _=>exact ff h
theorem KH{y:D}(h:fL y ws=true):∃nss:List Ns,y=.tup (nss.map dNs)/\(1≤nss.length/\nss.length≤3)/\∀n∈nss,Lps n.lps/\1≤n.dds.length/\n.dds.length≤4:=by
 obtain⟨h1,h2⟩:=aa h
 obtain⟨ds,rfl,l1,l2⟩:=aX h1
 obtain⟨nss,rfl,hn⟩:=encM (f:=dNs) (P:=λ n=>Lps n.lps/\1≤n.dds.length/\n.dds.length≤4) (ys:=ds) λ y hy=>by
  have hr:=List.all_eq_true.mp h2 y hy
  cases y with
  | tup es=>
    match es,hr with
    | [l,e],hr=>
      obtain⟨r1,r2⟩:=aa (show(fJ l&&(bJ e 1 4&&(parts e).all (dR ws ((parts l).length:Int))))=true from hr)
      obtain⟨r4,r3⟩:=aa r2
      obtain⟨ls,rfl,hL⟩:=Kr r1
      obtain⟨xs,rfl,m1,m2⟩:=aX r4
      obtain⟨dds,rfl,_⟩:=encM (f:=dDd) (P:=λ _=>True) (ys:=xs) λ y hy=>by
       obtain⟨z,rfl⟩:=N7 (List.all_eq_true.mp r3 y hy)
       exact⟨z,rfl,trivial⟩
      rw[x6]at m1 m2
      exact⟨⟨ls,dds⟩,rfl,hL,by show 1≤dds.length;omega,by show dds.length≤4;omega⟩
    | [],hr=>exact ff hr
    | [_],hr=>exact ff hr
    | _::_::_::_,hr=>exact ff hr
  | _=>exact ff hr
 rw[x6]at l1 l2
 exact⟨nss,rfl,%[|54],hn⟩
def Rw(x:D):%[|6]:=(parts x).map λ d=>match d with | .int i=>i | _=>0
theorem J0(ws:%[|6]):Rw (dWs ws)=ws:=by
 show(ws.map D.int).map _=_
 rw[List.map_map]
 exact List.map_id' ws
theorem FW(h:cI x=true):∃ws,x=dWs ws/\WsA ws:=by
 obtain⟨h1,h2⟩:=aa h
 obtain⟨ds,rfl,a,b⟩:=aX h1
 obtain⟨ws,rfl,hw⟩:=encM (f:=D.int) (P:=λ w=>1≤w/\w≤2) (ys:=ds) λ y hy=>by
  have:=List.all_eq_true.mp h2 y hy
  cases y with
  | int n=>
    obtain⟨p,q⟩:=aa (show(decide (1≤n)&&decide (n≤2))=true from this)
    exact⟨n,rfl,ZF p,ZF q⟩
  | _=>exact ff this
 rw[x6]at a b
 exact⟨ws,rfl,%[|1],%[|1],hw⟩
open Classical in
def Fj(y:D):Int:=if h:∃nss:List Ns,y=.tup (nss.map dNs)/\(1≤nss.length/\nss.length≤3)/\∀n∈nss,Lps n.lps/\1≤n.dds.length/\n.dds.length≤4 then many h.choose else 0
def uL(x y:D):Option Str:=if cI x=true then(if fL y (Rw x)=true then(if 60<Fj y then some "TooMany" else none)else some "NoProgram")else some "NoProgram"
theorem Mi{y:D}{WE:WX}(hS:flat S)(h1:∀e,uL x y=some e->WE e S)(h2:uL x y=none->W (.tup [x,y]) S):gV [x,y] S W WE:=by
 unfold uL at h1 h2
 refine⟨x,y,rfl,hS,λ h=>?_,λ h=>?_⟩
 . rw[h]at h1;exact h1 _ rfl
 . rw [h,if_pos rfl]at h1 h2
   obtain⟨ws,rfl,hws⟩:=FW h
   rw[J0]at h1 h2
   refine⟨ws,rfl,λ g=>?_,λ g=>?_⟩
   . rw[g]at h1;exact h1 _ rfl
   . rw[g,if_pos rfl]at h1 h2
     have ex:=KH g
     have em:Fj y=many ex.choose:=by unfold Fj;rw[dif_pos ex]
     obtain⟨e1,e2,e3⟩:=ex.choose_spec
     rw[em]at h1 h2
     generalize ex.choose=nss at*
     refine⟨nss,e1,%[|1],λ n hn=>?_,λ z=>?_,λ z=>?_⟩
     . obtain⟨a,b,c⟩:=e3 n hn
       exact⟨a.1,a.fits,%[|1]⟩
     . rw[if_pos z]at h1;exact h1 _ rfl
     . rw[if_neg %[|1]]at h2;exact h2 rfl
def nu(x y:D):D:=match uL x y with
 | none=>.tup [x,y]
 | some e=>if e="TooMany" then .str "too many" else .str "no program"
theorem KQ{y:D}{e:Str}(h:uL x y=some e):e="TooMany"∨e="NoProgram":=by
 unfold uL at h
 split at h
 . split at h
   . split at h
     . cases h;exact .inl rfl
     . cases h
   . cases h;exact .inr rfl
 . cases h;exact .inr rfl
def n8:Ct:=λ ds S W=>∃(way:Int) (x y:D),ds=[.int way,x,y]/\flat S/\((way≠0/\W (nu x y) S)∨(way=0/\∃t,x=.str t/\t.length≤400000/\((gO t=none/\W (.str "no text") S)∨∃ws st,gO t=some (ws,st)/\W (nu (dFq ws) (dSq st)) S)))
theorem Iz(F:Fun Ω.K "_law_told" "_law_told" pX f fd)(N0:%[|14])(B:%[|5])(E:%[|27])(Cq44:az Ω "program_of" 10 2 gV)(Cq45:az Ω "read" 11 1 MP):Ok Ω 12 f fd JN n8:=by
 refine V1 N0 (N:=Mm) F (Kv B E Cq44 Cq45) %[|15] ?_
 rintro ds S W ⟨way,x,y,rfl,hS,hw⟩ hl
 have tl:∀x y,W (nu x y) S->gV [x,y] S W λ e S1=>e∈XL/\W (if(HT.or (HT.any ["NoOrder","NoPlan","NoRow","NoTurn","Tied"]) (HT.no (HT.one "ValueError"))).val (qOf e)=true then Oc.str "other" else Mk3.out ⟨"_law_marks","NoProgram","NoText","TooMany",Oc.str "other",Oc.str "no program",Oc.str "no text",Oc.str "too many"⟩ (qOf e)).d S1:=by
  intro x y hw
  unfold nu at hw
  refine Mi hS (λ e h=>?_) λ h=>?_
  . rw[h]at hw
    rcases KQ h with rfl | rfl
    . exact⟨%[|7],hw⟩
    . exact⟨%[|7],hw⟩
  . rw[h]at hw;exact hw
 rcases hw with⟨h0,hw⟩ | ⟨rfl,t,rfl,ht,hw⟩
 . walk_at "n"
   refine⟨λ z=>absurd (ZF z) h0,λ _=>?_⟩
   walk_at "b"
   exact⟨rfl,tl x y hw⟩
 . walk_at "b"
   refine⟨rfl,_,rfl,hS,.inr ⟨t,rfl,ht,λ h=>?_,λ ws st h=>?_⟩⟩
   . rcases hw with⟨_,hw⟩ | ⟨ws,st,h2,_⟩
     . exact⟨%[|7],hw⟩
     . rw[h]at h2;cases h2
   . rcases hw with⟨h2,hw⟩ | ⟨ws',st',h2,hw⟩
     . rw[h]at h2;cases h2
     . rw[h]at h2
       cases h2
       exact tl _ _ hw
def eO(n:Int):Prop:=n.natAbs<10 ^ 61
theorem iu(h:eO n):(nS n).length≤62:=by
 rw[aW,dG];exact Rg (k:=60) h
theorem n6(h:eO n):n.natAbs.log2<1920:=by
 by_cases hz:n.natAbs=0
 . rw[hz];decide
 . exact(Nat.log2_lt hz).mpr (ZM (Nat.lt_trans h (%[|2]:(10:Nat) ^ 61<2 ^ 203)) (Nat.pow_le_pow_right %[|2] %[|2]))
theorem nF(h:eO n):nR (nS n)=some n:=by
 have h1:=iu h
 have h2:=aW (nS n)
 unfold nR
 rw[dG,Ko,if_pos rfl,←dG,List.take_of_length_le %[|1],ie]
 exact JM (by rw[←dG,←aW];omega)
def FB(f:%[|6]):Prop:=(1≤f.length/\f.length≤5)/\∀n∈f,eO n
def CB(c:Cq):Prop:=c.1<3/\c.2.length≤3/\∀f∈c.2,FB f
def RB(r:Rq):Prop:=eO r.1/\CB r.2
def DB(x:Dq):Prop:=CB x.c/\FB x.st/\x.rds.length≤8/\∀r∈x.rds,RB r
def LB(l:Lq):Prop:=FB l.1/\FB l.2
abbrev Nv:=List Lq×List Dq
def NB(n:Nv):Prop:=(n.1.length≤4/\∀l∈n.1,LB l)/\n.2.length≤5/\∀x∈n.2,DB x
def dNv(n:Nv):D:=.tup [.tup (n.1.map dLq),.tup (n.2.map dDq)]
def fT(f:%[|6]):Str:=Txt.join "," (f.map nS)
def cT(c:Cq):Str:=Txt.join "@" (ltS c.1::c.2.map fT)
inductive Lt where
 | nest | loop(l:Lq) | deed(x:Dq) | rd(r:Rq)
def Lt.w:Lt->%[|0]
 | .nest=>["nest"]
 | .loop l=>["loop",fT l.1,"to",fT l.2]
 | .deed x=>["set",cT x.c,"be",fT x.st]
 | .rd r=>["and",nS r.1,"of",cT r.2]
def LtB:Lt->Prop
 | .nest=>True
 | .loop l=>LB l
 | .deed x=>DB x
 | .rd r=>RB r
def fc(x:Dq):List Lt:=.deed x::x.rds.map .rd
def iD(n:Nv):List Lt:=.nest::(n.1.map .loop++n.2.flatMap fc)
def gF(nss:List Nv):List Lt:=nss.flatMap iD
theorem TY{x:Dq}(h:DB x):∀l∈fc x,LtB l:=λ l hl=>by
 rcases ZJ.mp hl with rfl | hl
 . exact h
 . obtain⟨r,hr,rfl⟩:=ZO.mp hl
   exact h.2.2.2 r hr
theorem SN{n:Nv}(h:NB n):∀l∈iD n,LtB l:=λ l hl=>by
 rcases ZJ.mp hl with rfl | hl
 . trivial
 . rcases ZK.mp hl with hl | hl
   . obtain⟨r,hr,rfl⟩:=ZO.mp hl
     exact h.1.2 r hr
   . obtain⟨x,hx,hl⟩:=List.mem_flatMap.mp hl
     exact TY (h.2.2 x hx) l hl
theorem sJ{nss:List Nv}(h:∀n∈nss,NB n):∀l∈gF nss,LtB l:=λ l hl=>by
 obtain⟨x,hx,hl⟩:=List.mem_flatMap.mp hl
 exact SN (h x hx) l hl
theorem yd{f:%[|6]}(h:c∈(fT f).cps.toList):c=44∨sgN c:=by
 unfold fT at h
 rw[s44]at h
 rcases mem_join h with h | ⟨x,hx,h⟩
 . exact .inl h
 . obtain⟨n,_,rfl⟩:=ZO.mp hx
   exact .inr (m7 h)
theorem Vj{k:Cq}(h:c∈(cT k).cps.toList):c=64∨c=97+k.1∨c=44∨sgN c:=by
 unfold cT at h
 rw[s64]at h
 rcases mem_join h with h | ⟨x,hx,h⟩
 . exact .inl h
 . rcases ZJ.mp hx with rfl | hx
   . unfold ltS at h
     rw[aF]at h
     exact .inr (.inl (by simpa using h))
   . obtain⟨n,_,rfl⟩:=ZO.mp hx
     exact .inr (.inr (yd h))
theorem Mq{f:%[|6]}(h:f≠[]):Txt.split (fT f) ","=f.map nS:=by
 unfold fT
 rw[s44]
 refine b8 (by simpa using h) λ x hx h=>?_
 obtain⟨n,_,rfl⟩:=ZO.mp hx
 have:=m7 h
 unfold sgN at this;omega
theorem Lw{k:Cq}(ht:k.1<3):Txt.split (cT k) "@"=ltS k.1::k.2.map fT:=by
 unfold cT
 rw[s64]
 refine b8 (by simp) λ x hx h=>?_
 rcases ZJ.mp hx with rfl | hx
 . unfold ltS at h
   rw[aF]at h
   have:64=97+k.1:=by simpa using h
   omega
 . obtain⟨n,_,rfl⟩:=ZO.mp hx
   have:=yd h
   unfold sgN at this;omega
theorem FB.ne{f:%[|6]}(h:FB f):f≠[]:=by
 rintro rfl
 exact absurd h.1.1 %[|2]
theorem qJ{f:%[|6]}(h:FB f):fR (fT f)=some f:=by
 unfold fR
 rw[Mq h.ne]
 exact mR λ n hn=>nF (h.2 n hn)
theorem Us:∀{t:Nat},t<3->ltQ (ltS t)=some t
 | 0,_=>%[|7]
 | 1,_=>%[|7]
 | 2,_=>%[|7]
 | _+3,h=>absurd h %[|1]
theorem Fi{k:Cq}(h:CB k):cR (cT k)=some k:=by
 unfold cR
 rw[Lw h.1]
 dsimp only
 rw[Us h.1]
 dsimp only
 rw[mR λ f hf=>qJ (h.2.2 f hf)]
theorem jU{a b c d:Str}:four c [a,b,c,d]=some (b,d):=by
 show(if(c==c)=true then some (b,d)else none)=_
 rw[beq_self_eq_true];rfl
theorem Qo{l:Lq}(h:LB l):cO (Lt.loop l).w=some l:=by
 unfold cO Lt.w
 rw[jU]
 dsimp only
 rw[qJ h.1]
 dsimp only
 rw[qJ h.2]
theorem Qm{x:Dq}(h:DB x):b7 (Lt.deed x).w=some ⟨x.c,x.st,[]⟩:=by
 unfold b7 Lt.w
 rw[jU]
 dsimp only
 rw[Fi h.1]
 dsimp only
 rw[qJ h.2.1]
theorem QV{r:Rq}(h:RB r):fK (Lt.rd r).w=some r:=by
 unfold fK Lt.w
 rw[jU]
 dsimp only
 rw[nF h.1]
 dsimp only
 rw[Fi h.2]
theorem Fd(a b c d n:Str):([a,b,c,d]==[n])=false:=by
 show(_&&false)=false
 exact Bool.and_false _
def bH(st:List Nq)(ls:List Lt)(s:List Nq):Prop:=∀r,foldQ st (ls.map Lt.w++r)=foldQ s r
theorem mZ(st:List Nq):bH st [] st:=λ _=>rfl
theorem bH.app{a b c:List Nq}{xs ys:List Lt}(h:bH a xs b)(t:bH b ys c):bH a (xs++ys) c:=λ r=>by
 rw[List.map_append,List.append_assoc,h,t]
theorem mQ{st s:List Nq}{l:Lt}(h:stQ st l.w=some s):bH st [l] s:=λ r=>by
 show foldQ st (l.w::r)=_
 show(match stQ st l.w with | none=>none | some s=>foldQ s r)=_
 rw[h]
theorem PJ{L:List Lq}{A:List Nq}{l:Lq}(h:LB l):stQ ((L,[])::A) (Lt.loop l).w=some ((L++[l],[])::A):=by
 rw[eZ (ws:=(Lt.loop l).w) (Fd _ _ _ _ _)]
 have e:lnQ (L,[]) (Lt.loop l).w=some (L++[l],[]):=by
  have h1:=Qo h
  unfold Lt.w at h1 ⊢
  unfold lnQ
  dsimp only
  rw[beq_self_eq_true]
  show(match cO _ with | none=>none | some l=>some (L++[l],[]))=_
  rw[h1]
 rw[e]
theorem Qk{L:List Lq}{E:List Dq}{A:List Nq}{x:Dq}(h:DB x):stQ ((L,E)::A) (Lt.deed x).w=some ((L,⟨x.c,x.st,[]⟩::E)::A):=by
 rw[eZ (ws:=(Lt.deed x).w) (Fd _ _ _ _ _)]
 have e:lnQ (L,E) (Lt.deed x).w=some (L,⟨x.c,x.st,[]⟩::E):=by
  have h1:=Qm h
  unfold Lt.w at h1 ⊢
  unfold lnQ
  dsimp only
  rw[show(%[|47]==%[|43])=false by sleep 4,beq_self_eq_true]
  show(match b7 _ with | none=>none | some d=>some (L,d::E))=_
  rw[h1]
 rw[e]
theorem Vb{L:List Lq}{E:List Dq}{d:Dq}{A:List Nq}{r:Rq}(h:RB r):stQ ((L,d::E)::A) (Lt.rd r).w=some ((L,addQ d r::E)::A):=by
 rw[eZ (ws:=(Lt.rd r).w) (Fd _ _ _ _ _)]
 have e:lnQ (L,d::E) (Lt.rd r).w=some (L,addQ d r::E):=by
  have h1:=QV h
  unfold Lt.w at h1 ⊢
  unfold lnQ
  dsimp only
  rw[show(%[|48]==%[|43])=false by sleep 4,show(%[|48]==%[|47])=false by sleep 4,beq_self_eq_true]
  show(match fK _ with | none=>none | some q=>some (L,addQ d q::E))=_
  rw[h1]
 rw[e]
theorem vg(A:List Nq):∀(ls:List Lq)(L:List Lq),(∀l∈ls,LB l)->bH ((L,[])::A) (ls.map .loop) ((L++ls,[])::A)
 | [],L,_=>by rw[List.append_nil];exact mZ _
 | l::ls,L,h=>by
   have:=vg A ls (L++[l]) λ l hl=>h l (w9 _ hl)
   rw[List.append_assoc]at this
   exact bH.app (xs:=[.loop l]) (mQ (PJ (h l List.mem_cons_self))) this
theorem vR(A:List Nq)(L:List Lq)(E:List Dq)(c:Cq)(st:%[|6]):∀(rs:List Rq)(R:List Rq),(∀r∈rs,RB r)->bH ((L,⟨c,st,R⟩::E)::A) (rs.map .rd) ((L,⟨c,st,R++rs⟩::E)::A)
 | [],R,_=>by rw[List.append_nil];exact mZ _
 | r::rs,R,h=>by
   have:=vR A L E c st rs (R++[r]) λ l hl=>h l (w9 _ hl)
   rw[List.append_assoc]at this
   exact bH.app (xs:=[.rd r]) (mQ (Vb (h r List.mem_cons_self))) this
theorem vH(A:List Nq)(L:List Lq):∀(xs:List Dq)(E:List Dq),(∀x∈xs,DB x)->bH ((L,E)::A) (xs.flatMap fc) ((L,xs.reverse++E)::A)
 | [],E,_=>mZ _
 | x::xs,E,h=>by
   have hx:=h x List.mem_cons_self
   have h1:=vR A L E x.c x.st x.rds [] hx.2.2.2
   rw[List.nil_append]at h1
   have h2:=vH A L xs (x::E) λ l hl=>h l (w9 _ hl)
   rw[List.flatMap_cons,List.reverse_cons,List.append_assoc]
   exact bH.app (xs:=fc x) (bH.app (xs:=[.deed x]) (mQ (Qk hx)) h1) h2
def rvN(n:Nv):Nq:=(n.1,n.2.reverse)
theorem Ma(A:List Nq){n:Nv}(h:NB n):bH A (iD n) (rvN n::A):=by
 have h1:=(vg A n.1 [] h.1.2).app (vH A _ n.2 [] h.2.2)
 rw[List.nil_append,List.append_nil]at h1
 refine bH.app (xs:=[.nest]) (mQ ?_) h1
 unfold stQ
 rw[if_pos %[|7]]
theorem vo:∀(nss:List Nv)(A:List Nq),(∀n∈nss,NB n)->bH A (gF nss) ((nss.map rvN).reverse++A)
 | [],A,_=>mZ _
 | n::nss,A,h=>by
   have h2:=vo nss (rvN n::A) λ l hl=>h l (w9 _ hl)
   rw[List.map_cons,List.reverse_cons,List.append_assoc]
   exact bH.app (xs:=iD n) (Ma A (h n List.mem_cons_self)) h2
theorem Wz(nss:List Nv):dSq (nss.map rvN).reverse=.tup (nss.map dNv):=by
 show D.tup ((nss.map rvN).reverse.reverse.map dNq)=_
 rw[List.reverse_reverse,List.map_map]
 congr 1
 refine List.map_congr_left λ n _=>?_
 show D.tup [.tup (n.1.map dLq),.tup (n.2.reverse.reverse.map dDq)]=_
 rw[List.reverse_reverse];rfl
theorem oA{l:Lt}(hl:LtB l){x:Str}(hx:x∈l.w){c:Nat}(h:c∈x.cps.toList):33≤c/\c<128:=by
 have lit:∀{s:String},((Str.ofString s).cps.toList.all λ c=>decide (33≤c/\c<128))=true->x=Str.ofString s->33≤c/\c<128:=λ{s} e ex=>by
  subst ex
  exact ZF (List.all_eq_true.mp e c h)
 have fo:∀{f:%[|6]},x=fT f->33≤c/\c<128:=λ{f} ex=>by
  subst ex
  have:=yd h
  unfold sgN at this;omega
 have ce:∀{k:Cq},CB k->x=cT k->33≤c/\c<128:=λ{k} hk ex=>by
  subst ex
  have:=Vj h
  have:=hk.1
  unfold sgN at*;omega
 cases l with
 | nest=>exact lit (s:="nest") %[|7] (ZL.mp hx)
 | loop l=>
   simp only[Lt.w,List.mem_cons,List.not_mem_nil,or_false]at hx
   rcases hx with e | e | e | e
   . exact lit %[|7] e
   . exact fo e
   . exact lit %[|7] e
   . exact fo e
 | deed y=>
   simp only[Lt.w,List.mem_cons,List.not_mem_nil,or_false]at hx
   rcases hx with e | e | e | e
   . exact lit %[|7] e
   . exact ce hl.1 e
   . exact lit %[|7] e
   . exact fo e
 | rd r=>
   simp only[Lt.w,List.mem_cons,List.not_mem_nil,or_false]at hx
   rcases hx with e | e | e | e
   . exact lit %[|7] e
   . subst e
     have:=m7 h
     unfold sgN at this;omega
   . exact lit %[|7] e
   . exact ce hl.2 e
def NN(s:Str):Prop:=10∉s.cps.toList
def rY(h:Str)(t:%[|0]):Option (%[|6]×List Nq):=match wsQ (Txt.split h " ")with
 | none=>none
 | some ws=>match foldQ [] (t.map λ s=>Txt.split s " ")with
   | none=>none
   | some st=>some (ws,st)
theorem j4{t:%[|0]}(hn:∀s∈h::t,NN s):gO (Txt.join "\n" (h::t))=rY h t:=by
 unfold gO
 rw[s10,b8 (by simp) hn]
 rfl
theorem Lx{t:%[|0]}(h0:foldQ [] (t.map λ s=>Txt.split s " ")=none):rY h t=none:=by
 unfold rY
 rw[h0]
 split<;>rfl
theorem vG:∀(A B:List %[|0])(st:List Nq),foldQ st (A++B)=(match foldQ st A with
 | none=>none
 | some s=>foldQ s B)
 | [],B,st=>rfl
 | a::A,B,st=>by
   show(match stQ st a with | none=>none | some s=>foldQ s (A++B))=_
   show _=match (match stQ st a with | none=>none | some s=>foldQ s A)with | none=>none | some s=>foldQ s B
   cases stQ st a with
   | none=>rfl
   | some s=>exact vG A B s
theorem K4{A C:List %[|0]}{b:%[|0]}{st:List Nq}(h:∀s,foldQ st A=some s->stQ s b=none):foldQ st (A++b::C)=none:=by
 rw[vG]
 cases e:foldQ st A with
 | none=>rfl
 | some s=>
   show(match stQ s b with | none=>none | some s=>foldQ s C)=_
   rw[h s e]
def lX(c:Str):%[|0]->Bool
 | []=>false
 | w::_=>w==c
def dz(ws:%[|0]):Bool:=!(ws==[%[|57]])&&((!lX "loop" ws||(cO ws).isNone)&&((!lX "set" ws||(b7 ws).isNone)&&(!lX "and" ws||(fK ws).isNone)))
theorem Qq{ws:%[|0]}(h:dz ws=true)(n:Nq):lnQ n ws=none:=by
 unfold dz at h
 obtain⟨_,h⟩:=aa h
 obtain⟨h1,h⟩:=aa h
 obtain⟨h2,h3⟩:=aa h
 cases ws with
 | nil=>rfl
 | cons w r=>
   unfold lX at h1 h2 h3
   dsimp only at h1 h2 h3
   unfold lnQ
   dsimp only
   split
   . rename_i hc
     obtain⟨c1,_⟩:=aa hc
     rw[c1]at h1
     have h1:(cO (w::r)).isNone=true:=h1
     rw[Option.isNone_iff_eq_none.mp h1]
   . split
     . rename_i hc
       rw[hc]at h2
       have h2:(b7 (w::r)).isNone=true:=h2
       rw[Option.isNone_iff_eq_none.mp h2]
     . split
       . rename_i hc
         rw[hc]at h3
         have h3:(fK (w::r)).isNone=true:=h3
         rw[Option.isNone_iff_eq_none.mp h3]
         split<;>rfl
       . rfl
theorem Qu{ws:%[|0]}(h:dz ws=true)(st:List Nq):stQ st ws=none:=by
 have h0:(ws==[%[|57]])=false:=by
  unfold dz at h
  obtain⟨h,_⟩:=aa h
  simpa using h
 cases st with
 | nil=>exact De h0
 | cons n A=>rw[eZ h0,Qq h]
def spW(s:Str):%[|0]:=Txt.split s " "
def hdT(ws:%[|6]):%[|0]:="tables"::ws.map nS
def asc(s:Str):Prop:=∀c∈s.cps.toList,32≤c/\c<128
theorem cM(a:Str)(ws:%[|0]):(liS (a::ws)).cps.toList=a.cps.toList++(ws.map λ w=>32::w.cps.toList).flatten:=by
 unfold liS
 rw[s32,dD,List.map_cons]
 induction ws generalizing a with
 | nil=>simp[jn]
 | cons b ws ih=>
   show a.cps.toList++32::jn 32 ((b::ws).map λ x=>x.cps.toList)=_
   rw[List.map_cons,ih b]
   simp
theorem Jr{ws:%[|0]}(h:∀w∈ws,∀c∈w.cps.toList,33≤c/\c<128):asc (liS ws):=λ c hc=>by
 unfold liS at hc
 rw[s32]at hc
 rcases mem_join hc with hc | ⟨y,hy,hc⟩
 . omega
 . have:=h y hy c hc;omega
theorem M9{l:Lt}(h:LtB l):asc (liS l.w):=Jr λ w hw c hc=>oA h hw hc
theorem zR:∀w∈hdT ws,∀c∈w.cps.toList,33≤c/\c<128:=λ x hx c h=>by
 rcases ZJ.mp hx with rfl | hx
 . exact ZF (List.all_eq_true.mp (%[|7]:((Str.ofString "tables").cps.toList.all λ c=>decide (33≤c/\c<128))=true) c h)
 . obtain⟨n,_,rfl⟩:=ZO.mp hx
   have:=m7 h
   unfold sgN at this;omega
theorem Ja(ws:%[|6]):asc (liS (hdT ws)):=Jr zR
theorem EY{r:List Nat}(h:s.cps.toList=c::r)(hc:c≠32):∃w l q,spW s=w::l/\w.cps.toList=c::q:=by
 obtain⟨w,l,e⟩:=nq s 32
 have hb:=uc s 32
 unfold spW
 rw[s32,e]
 rw[e,List.map_cons,h]at hb
 refine⟨w,l,?_⟩
 cases hw:w.cps.toList with
 | nil=>
   rw[hw]at hb
   cases l with
   | nil=>cases hb
   | cons b l=>
     have:32::jn 32 ((b::l).map λ y=>y.cps.toList)=c::r:=hb
     exact absurd (List.cons.inj this).1.symm hc
 | cons d q=>
   rw[hw]at hb
   cases l with
   | nil=>
     have:d::q=c::r:=hb
     rw[(List.cons.inj this).1]
     exact⟨q,rfl,rfl⟩
   | cons b l=>
     have:d::(q++32::jn 32 ((b::l).map λ y=>y.cps.toList))=c::r:=hb
     rw[(List.cons.inj this).1]
     exact⟨q,rfl,rfl⟩
theorem lY{w:Str}{d:Nat}{q p:List Nat}{k:Str}(h:w.cps.toList=c::q)(hk:k.cps.toList=d::p)(hc:c≠d):(w==k)=false:=beq_eq_false_iff_ne.mpr λ e=>by
 rw[e,hk]at h
 exact hc (List.cons.inj h).1.symm
theorem Jl:%[|43].cps.toList=[108,111,111,112]:=%[|7]
theorem Nh:%[|47].cps.toList=[115,101,116]:=%[|7]
theorem w_and:%[|48].cps.toList=[97,110,100]:=%[|7]
theorem Hl:%[|57].cps.toList=[110,101,115,116]:=%[|7]
theorem w_tab:(Str.ofString "tables").cps.toList=[116,97,98,108,101,115]:=%[|7]
theorem dj{r:List Nat}(h:s.cps.toList=c::r)(hc:c≠32/\c≠108/\c≠115/\c≠97/\c≠110/\c≠116):dz (spW s)=true/\wsQ (spW s)=none:=by
 obtain⟨w,l,q,e,hw⟩:=EY h hc.1
 rw[e]
 constructor
 . unfold dz lX
   dsimp only
   rw[lY hw Jl hc.2.1,lY hw Nh hc.2.2.1,lY hw w_and hc.2.2.2.1,show((w::l)==[%[|57]])=false by
    show((w==_)&&_)=false
    rw[lY hw Hl hc.2.2.2.2.1];rfl]
   rfl
 . unfold wsQ
   dsimp only
   rw[lY hw w_tab hc.2.2.2.2.2];rfl
theorem Ry(a:Str)(ws:%[|0])(b:Str):liS (a::(ws++[b]))=(liS (a::ws)++Str.ofString " ")++b:=by
 refine eX ?_
 rw[aO,aO,cM,cM,s32,aF]
 simp
theorem Pq(s:Str):(s++Str.ofString " ")++Str.ofString ""=s++Str.ofString " ":=by
 refine eX ?_
 rw[aO (s++Str.ofString " "),s00,aF,List.append_nil]
theorem dm{a:Str}{ws:%[|0]}(h:∀w∈a::ws,32∉w.cps.toList):spW (liS (a::ws))=a::ws:=by
 unfold spW liS
 rw[s32]
 exact b8 (by simp) h
theorem j9{a:Str}{ws:%[|0]}(h:∀w∈a::ws,32∉w.cps.toList):spW (liS (a::ws)++Str.ofString " ")=a::(ws++[Str.ofString ""]):=by
 rw[←Pq,←Ry]
 refine dm λ w hw=>?_
 rcases ZJ.mp hw with rfl | hw
 . exact h w List.mem_cons_self
 . rcases ZK.mp hw with hw | hw
   . exact h w (w9 _ hw)
   . rw[ZL.mp hw];sleep 4
theorem UL(a:Str)(ws:%[|0])(b:Str):liS (a::(ws++[b]))++%[|38]=liS (a::(ws++[b++%[|38]])):=by
 refine eX ?_
 rw[aO,cM,cM]
 simp[aO]
theorem Vw{w:Str}(h:32∉w.cps.toList):32∉(w++%[|38]).cps.toList:=by
 rw[aO,show %[|38]=mkS [46] by sleep 4,aF]
 intro z
 rcases ZK.mp z with z | z
 . exact h z
 . simp at z
theorem rm{a:Str}{ws:%[|0]}{b:Str}(h:∀w∈a::(ws++[b]),32∉w.cps.toList):spW (liS (a::(ws++[b]))++%[|38])=a::(ws++[b++%[|38]]):=by
 rw[UL]
 refine dm λ w hw=>?_
 rcases ZJ.mp hw with rfl | hw
 . exact h w List.mem_cons_self
 . rcases ZK.mp hw with hw | hw
   . exact h w (w9 _ (List.mem_append_left _ hw))
   . rw[ZL.mp hw]
     exact Vw (h b (by simp))
theorem Gb{ws:%[|0]}(h:∀w∈ws,∀c∈w.cps.toList,33≤c/\c<128):∀w∈ws,32∉w.cps.toList:=λ w hw hc=>by have:=h w hw 32 hc;omega
theorem Hz{x:Str}:nR (x++%[|38])=none:=by
 have e:fO (x++%[|38]).cps.toList=false:=by
  rw[aO,show %[|38]=mkS [46] by sleep 4,aF]
  generalize x.cps.toList=l
  have hm:46∈woS (l++[46]):=by
   unfold woS
   split
   . rename_i h
     cases l with
     | nil=>cases h
     | cons a l=>simp
   . simp
  have ha:(woS (l++[46])).all dgB=false:=by
   cases e:(woS (l++[46])).all dgB with
   | false=>rfl
   | true=>have:=List.all_eq_true.mp e 46 hm;cases this
  unfold fO
  rw[ha];simp
 unfold nR
 rw[e];rfl
theorem j0{α β:Type}{f:α->Option β}{xs:List α}{x:α}(h:f x=none):trs f (xs++[x])=none:=zQ (by
 rw[List.all_append,List.all_cons,h];simp)
theorem Dh(c:Nat)(d:List Nat):∀(xs:List (List Nat))(x:List Nat),jn c (xs++[x])++d=jn c (xs++[x++d])
 | [],x=>rfl
 | [y],x=>by show(y++c::x)++d=y++c::(x++d);simp
 | y::z::xs,x=>by
   have h:=Dh c d (z::xs) x
   show(y++c::jn c ((z::xs)++[x]))++d=y++c::jn c ((z::xs)++[x++d])
   rw[←h];simp
theorem oU(xs:%[|0])(x:Str):Txt.join (mkS [c]) (xs++[x])++%[|38]=Txt.join (mkS [c]) (xs++[x++%[|38]]):=by
 refine eX ?_
 rw[aO,dD,dD,List.map_append,List.map_append]
 show jn c (_++[_])++_=jn c (_++[_])
 rw[Dh]
 dsimp only
 rw[aO]
theorem yS{f:%[|6]}(h:f≠[]):fR (fT f++%[|38])=none:=by
 obtain⟨A,n,rfl⟩:∃A n,f=A++[n]:=⟨f.dropLast,f.getLast h,(List.dropLast_concat_getLast h).symm⟩
 unfold fR fT
 rw[List.map_append,List.map_cons,List.map_nil,s44,oU,b8 (by simp) λ x hx hc=>?_]
 . exact j0 Hz
 . rcases ZK.mp hx with hx | hx
   . obtain⟨n,_,rfl⟩:=ZO.mp hx
     have:=m7 hc
     unfold sgN at this;omega
   . rw[ZL.mp hx,aO,show %[|38]=mkS [46] by sleep 4,aF]at hc
     rcases ZK.mp hc with hc | hc
     . have:=m7 hc
       unfold sgN at this;omega
     . simp at hc
theorem RV:∀{t:Nat},t<3->ltQ (ltS t++%[|38])=none
 | 0,_=>%[|7]
 | 1,_=>%[|7]
 | 2,_=>%[|7]
 | _+3,h=>absurd h %[|1]
theorem Ra{k:Cq}(h:CB k):cR (cT k++%[|38])=none:=by
 obtain⟨t,pl⟩:=k
 obtain⟨ht,_,hf⟩:=h
 dsimp only at ht hf
 have dot64:∀{w:Str},64∉w.cps.toList->64∉(w++%[|38]).cps.toList:=λ{w} h=>by
  rw[aO,show %[|38]=mkS [46] by sleep 4,aF]
  intro z
  rcases ZK.mp z with z | z
  . exact h z
  . simp at z
 have l64:64∉(ltS t).cps.toList:=λ hc=>by
  unfold ltS at hc
  rw[aF]at hc
  have:64=97+t:=by simpa using hc
  omega
 have f64:∀f:%[|6],64∉(fT f).cps.toList:=λ f hc=>by
  have:=yd hc
  unfold sgN at this;omega
 unfold cR cT
 dsimp only
 rw[s64]
 by_cases hp:pl=[]
 . subst hp
   rw[show ltS t::List.map fT []=[]++[ltS t]from rfl,oU,b8 (by simp) λ x hx hc=>?_]
   . rw[List.nil_append]
     dsimp only
     rw[RV ht]
   . rw[List.nil_append,List.mem_singleton]at hx
     rw[hx]at hc
     exact dot64 l64 hc
 . obtain⟨A,f,rfl⟩:∃A n,pl=A++[n]:=⟨pl.dropLast,pl.getLast hp,(List.dropLast_concat_getLast hp).symm⟩
   rw[List.map_append,List.map_cons,List.map_nil,show ltS t::(A.map fT++[fT f])=(ltS t::A.map fT)++[fT f]from rfl,oU,b8 (by simp) λ x hx hc=>?_]
   . show(match ltQ (ltS t)with | none=>none | some i=>match trs fR (A.map fT++[fT f++_])with | none=>none | some pl=>some (i,pl))=_
     rw[j0 (yS (hf f (by simp)).ne)]
     split<;>rfl
   . rcases ZK.mp hx with hx | hx
     . rcases ZJ.mp hx with rfl | hx
       . exact l64 hc
       . obtain⟨g,_,rfl⟩:=ZO.mp hx
         exact f64 g hc
     . rw[ZL.mp hx]at hc
       exact dot64 (f64 f) hc
def sp5(s:Str):%[|0]:=[s++Str.ofString " ",Str.ofString "x"++s,Txt.upper s,s++%[|38],Str.ofString ""]
theorem JX(a b c d e:Str):dz [a,b,c,d,e]=true:=by
 have h1:([a,b,c,d,e]==[%[|57]])=false:=by
  show((a==_)&&false)=false
  exact Bool.and_false _
 have h2:cO [a,b,c,d,e]=none:=rfl
 have h3:b7 [a,b,c,d,e]=none:=rfl
 have h4:fK [a,b,c,d,e]=none:=rfl
 unfold dz
 rw[h1,h2,h3,h4]
 simp
theorem Wx{r:%[|0]}(h:cO (%[|43]::r)=none):dz (%[|43]::r)=true:=by
 have h1:(%[|43]::r==[%[|57]])=false:=by
  show((%[|43]==%[|57])&&(r==[]))=false
  rw[show(%[|43]==%[|57])=false by sleep 4];rfl
 unfold dz lX
 dsimp only
 rw[h1,h,show(%[|43]==%[|47])=false by sleep 4,show(%[|43]==%[|48])=false by sleep 4]
 simp
theorem W8{r:%[|0]}(h:b7 (%[|47]::r)=none):dz (%[|47]::r)=true:=by
 have h1:(%[|47]::r==[%[|57]])=false:=by
  show((%[|47]==%[|57])&&(r==[]))=false
  rw[show(%[|47]==%[|57])=false by sleep 4];rfl
 unfold dz lX
 dsimp only
 rw[h1,h,show(%[|47]==%[|43])=false by sleep 4,show(%[|47]==%[|48])=false by sleep 4]
 simp
theorem Wv{r:%[|0]}(h:fK (%[|48]::r)=none):dz (%[|48]::r)=true:=by
 have h1:(%[|48]::r==[%[|57]])=false:=by
  show((%[|48]==%[|57])&&(r==[]))=false
  rw[show(%[|48]==%[|57])=false by sleep 4];rfl
 unfold dz lX
 dsimp only
 rw[h1,h,show(%[|48]==%[|43])=false by sleep 4,show(%[|48]==%[|47])=false by sleep 4]
 simp
theorem Jg(s:Str):(Str.ofString "x"++s).cps.toList=120::s.cps.toList:=by
 rw[aO,show Str.ofString "x"=mkS [120] by sleep 4,aF];rfl
theorem jQ{r:List Nat}(h:asc s)(hs:s.cps.toList=c::r):(Txt.upper s).cps.toList=upA c::r.map upA:=by
 rw[lJ λ c hc=>(h c hc).2,aF,hs];rfl
theorem Je{l:Lt}(h:LtB l):∀b∈sp5 (liS l.w),dz (spW b)=true:=λ b hb=>by
 have ha:=M9 h
 have hw:=Gb λ w hw c hc=>oA h hw hc
 simp only[sp5,List.mem_cons,List.not_mem_nil,or_false]at hb
 rcases hb with rfl | rfl | rfl | rfl | rfl
 . cases l with
   | nest=>sleep 4
   | loop l=>
     rw[show(Lt.loop l).w=%[|43]::[fT l.1,Str.ofString "to",fT l.2]from rfl,j9 hw]
     exact JX _ _ _ _ _
   | deed x=>
     rw[show(Lt.deed x).w=%[|47]::[cT x.c,Str.ofString "be",fT x.st]from rfl,j9 hw]
     exact JX _ _ _ _ _
   | rd r=>
     rw[show(Lt.rd r).w=%[|48]::[nS r.1,Str.ofString "of",cT r.2]from rfl,j9 hw]
     exact JX _ _ _ _ _
 . exact(dj (Jg _) %[|2]).1
 . cases l with
   | nest=>exact(dj (jQ ha (by rw[show(Lt.nest).w=%[|57]::[]from rfl,cM,Hl];rfl)) %[|2]).1
   | loop l=>exact(dj (jQ ha (by rw[show(Lt.loop l).w=%[|43]::[fT l.1,Str.ofString "to",fT l.2]from rfl,cM,Jl];rfl)) %[|2]).1
   | deed x=>exact(dj (jQ ha (by rw[show(Lt.deed x).w=%[|47]::[cT x.c,Str.ofString "be",fT x.st]from rfl,cM,Nh];rfl)) %[|2]).1
   | rd r=>exact(dj (jQ ha (by rw[show(Lt.rd r).w=%[|48]::[nS r.1,Str.ofString "of",cT r.2]from rfl,cM,w_and];rfl)) %[|2]).1
 . cases l with
   | nest=>sleep 4
   | loop l=>
     rw[show(Lt.loop l).w=%[|43]::([fT l.1,Str.ofString "to"]++[fT l.2])from rfl,rm (a:=%[|43]) (ws:=[fT l.1,Str.ofString "to"]) (b:=fT l.2) hw]
     refine Wx ?_
     unfold cO
     rw[show %[|43]::([fT l.1,Str.ofString "to"]++[fT l.2++%[|38]])=[%[|43],fT l.1,Str.ofString "to",fT l.2++%[|38]]from rfl,jU]
     dsimp only
     rw[qJ h.1]
     dsimp only
     rw[yS h.2.ne]
   | deed x=>
     rw[show(Lt.deed x).w=%[|47]::([cT x.c,Str.ofString "be"]++[fT x.st])from rfl,rm (a:=%[|47]) (ws:=[cT x.c,Str.ofString "be"]) (b:=fT x.st) hw]
     refine W8 ?_
     unfold b7
     rw[show %[|47]::([cT x.c,Str.ofString "be"]++[fT x.st++%[|38]])=[%[|47],cT x.c,Str.ofString "be",fT x.st++%[|38]]from rfl,jU]
     dsimp only
     rw[Fi h.1]
     dsimp only
     rw[yS h.2.1.ne]
   | rd r=>
     rw[show(Lt.rd r).w=%[|48]::([nS r.1,Str.ofString "of"]++[cT r.2])from rfl,rm (a:=%[|48]) (ws:=[nS r.1,Str.ofString "of"]) (b:=cT r.2) hw]
     refine Wv ?_
     unfold fK
     rw[show %[|48]::([nS r.1,Str.ofString "of"]++[cT r.2++%[|38]])=[%[|48],nS r.1,Str.ofString "of",cT r.2++%[|38]]from rfl,jU]
     dsimp only
     rw[nF h.1]
     dsimp only
     rw[Ra h.2]
 . sleep 4
theorem QQ:nR (Str.ofString "")=none:=by
 have:(nR (Str.ofString "")).isNone=true:=%[|7]
 exact Option.isNone_iff_eq_none.mp this
theorem none_of{α:Type}{o:Option α}(h:o.isNone=true):o=none:=Option.isNone_iff_eq_none.mp h
theorem Bk(ws:%[|6]):∀b∈sp5 (liS (hdT ws)),wsQ (spW b)=none:=λ b hb=>by
 have ha:=Ja ws
 have hw:=Gb (zR (ws:=ws))
 simp only[sp5,List.mem_cons,List.not_mem_nil,or_false]at hb
 rcases hb with rfl | rfl | rfl | rfl | rfl
 . unfold hdT at hw ⊢
   rw[j9 hw]
   unfold wsQ
   dsimp only
   rw[beq_self_eq_true,if_pos rfl]
   exact j0 QQ
 . exact(dj (Jg _) %[|2]).2
 . exact(dj (jQ ha (by unfold hdT;rw[cM,w_tab];rfl)) %[|2]).2
 . by_cases hz:ws=[]
   . subst hz
     exact none_of %[|7]
   . obtain⟨A,n,rfl⟩:∃A n,ws=A++[n]:=⟨ws.dropLast,ws.getLast hz,(List.dropLast_concat_getLast hz).symm⟩
     have e:hdT (A++[n])=Str.ofString "tables"::(A.map nS++[nS n]):=by unfold hdT;rw[List.map_append];rfl
     rw[e]at hw ⊢
     rw[rm hw]
     unfold wsQ
     dsimp only
     rw[beq_self_eq_true,if_pos rfl]
     exact j0 Hz
 . exact none_of %[|7]
def PT(ws:%[|6])(nss:List Nv):%[|0]:=liS (hdT ws)::(gF nss).map λ l=>liS l.w
theorem yK(h:asc s):NN s:=λ hc=>by have:=h 10 hc;omega
theorem N6(h:asc s):∀b∈sp5 s,asc b:=λ b hb=>by
 have lit:∀{k:Str}{n:Nat},k=mkS [n]->32≤n->n<128->asc k:=λ{k n} e h1 h2 c hc=>by
  rw[e,aF]at hc
  have:c=n:=by simpa using hc
  omega
 have app:∀{u v:Str},asc u->asc v->asc (u++v):=λ{u v} hu hv c hc=>by
  rw[aO]at hc
  exact(ZK.mp hc).elim (hu c) (hv c)
 simp only[sp5,List.mem_cons,List.not_mem_nil,or_false]at hb
 rcases hb with rfl | rfl | rfl | rfl | rfl
 . exact app h (lit s32 %[|2] %[|2])
 . exact app (lit (show Str.ofString "x"=mkS [120] by sleep 4) %[|2] %[|2]) h
 . intro c hc
   rw[lJ λ c hc=>(h c hc).2,aF]at hc
   obtain⟨d,hd,rfl⟩:=ZO.mp hc
   have:=h d hd
   unfold upA
   split<;>omega
 . exact app h (lit (show %[|38]=mkS [46] by sleep 4) %[|2] %[|2])
 . intro c hc
   rw[s00,aF]at hc
   cases hc
theorem qN{nss:List Nv}(h:∀n∈nss,NB n):∀s∈PT ws nss,asc s:=λ s hs=>by
 rcases ZJ.mp hs with rfl | hs
 . exact Ja ws
 . obtain⟨l,hl,rfl⟩:=ZO.mp hs
   exact M9 (sJ h l hl)
theorem Rr{nss:List Nv}(hw:∀w∈ws,eO w)(h:∀n∈nss,NB n):gO (Txt.join "\n" (PT ws nss))=some (ws,(nss.map rvN).reverse):=by
 unfold PT
 rw[j4 λ s hs=>yK (qN h s hs)]
 unfold rY
 have e1:wsQ (Txt.split (liS (hdT ws)) " ")=some ws:=by
  show wsQ (spW (liS (hdT ws)))=_
  unfold hdT
  rw[dm (Gb (zR (ws:=ws)))]
  unfold wsQ
  dsimp only
  rw[beq_self_eq_true,if_pos rfl]
  exact mR λ n hn=>nF (hw n hn)
 have e2:((gF nss).map λ l=>liS l.w).map (λ s=>Txt.split s " ")=(gF nss).map Lt.w:=by
  rw[List.map_map]
  refine List.map_congr_left λ l hl=>?_
  have hb:=sJ h l hl
  show spW (liS l.w)=l.w
  have hw:=Gb λ w hw c hc=>oA hb hw hc
  cases l with
  | nest=>exact dm hw
  | loop l=>exact dm hw
  | deed x=>exact dm hw
  | rd r=>exact dm hw
 have g:=vo nss [] h []
 rw[List.append_nil,List.append_nil]at g
 rw[e1]
 dsimp only
 rw[e2,g]
 rfl
theorem Od{nss:List Nv}(h:∀n∈nss,NB n){i:Nat}{s b:Str}(hi:(PT ws nss)[i]? =some s)(hb:b∈sp5 s):gO (Txt.join "\n" ((PT ws nss).set i b))=none:=by
 have hs:=qN h s (y9 hi)
 have hN:∀t∈(PT ws nss).set i b,NN t:=λ t ht=>by
  rcases List.mem_or_eq_of_mem_set ht with ht | rfl
  . exact yK (qN h t ht)
  . exact yK (N6 hs t hb)
 cases i with
 | zero=>
   have e:s=liS (hdT ws):=(Option.some.inj hi).symm
   subst e
   rw[show(PT ws nss).set 0 b=b::((gF nss).map λ l=>liS l.w)from rfl]at hN ⊢
   rw[j4 hN]
   unfold rY
   rw[show wsQ (Txt.split b " ")=none from Bk ws b hb]
 | succ i=>
   have hi:((gF nss).map λ l=>liS l.w)[i]? =some s:=hi
   obtain⟨l,hl,rfl⟩:=jN hi
   have hlt:=(z0.mp hi).1
   rw[show(PT ws nss).set (i+1) b=liS (hdT ws)::(((gF nss).map λ l=>liS l.w).set i b)from rfl]at hN ⊢
   rw[j4 hN]
   refine Lx ?_
   rw[List.set_eq_take_append_cons_drop,if_pos hlt,List.map_append,List.map_cons]
   exact K4 λ s _=>Qu (Je (sJ h l (y9 hl)) b hb) s
def Sm3(n:Int):Prop:= -1000≤n/\n≤1000
def F4(f:%[|6]):Prop:=(1≤f.length/\f.length≤4)/\∀n∈f,Sm3 n
def C2(c:Cq):Prop:=c.1<3/\(1≤c.2.length/\c.2.length≤2)/\∀f∈c.2,F4 f
def R2(r:Rq):Prop:=Sm3 r.1/\C2 r.2
def D3(x:Dq):Prop:=C2 x.c/\F4 x.st/\x.rds.length≤3/\∀r∈x.rds,R2 r
def L3(l:Lq):Prop:=F4 l.1/\F4 l.2
def N4(n:Nv):Prop:=((1≤n.1.length/\n.1.length≤3)/\∀l∈n.1,L3 l)/\(1≤n.2.length/\n.2.length≤4)/\∀x∈n.2,D3 x
def W3(ws:%[|6]):Prop:=(1≤ws.length/\ws.length≤3)/\∀w∈ws,1≤w/\w≤2
def P3(ws:%[|6])(nss:List Nv):Prop:=W3 ws/\(1≤nss.length/\nss.length≤3)/\∀n∈nss,N4 n
theorem gP(h1: -b≤n)(h2:n≤b)(hb:b<10000000000000000000000000000000000000000000000000000000000000):eO n:=by
 have e:(10:Nat) ^ 61=10000000000000000000000000000000000000000000000000000000000000:=%[|2]
 unfold eO
 rw[e];omega
theorem Sm3.up(h:Sm3 n):eO n:=gP (b:=1000) h.1 h.2 %[|2]
theorem F4.up{f:%[|6]}(h:F4 f):FB f:=⟨⟨h.1.1,by have:=h.1.2;omega⟩,λ n hn=>(h.2 n hn).up⟩
theorem C2.up{c:Cq}(h:C2 c):CB c:=⟨h.1,by have:=h.2.1.2;omega,λ f hf=>(h.2.2 f hf).up⟩
theorem R2.up{r:Rq}(h:R2 r):RB r:=⟨h.1.up,h.2.up⟩
theorem D3.up{x:Dq}(h:D3 x):DB x:=⟨h.1.up,h.2.1.up,by have:=h.2.2.1;omega,λ r hr=>(h.2.2.2 r hr).up⟩
theorem L3.up{l:Lq}(h:L3 l):LB l:=⟨h.1.up,h.2.up⟩
theorem N4.up{n:Nv}(h:N4 n):NB n:=⟨⟨by have:=h.1.1.2;omega,λ l hl=>(h.1.2 l hl).up⟩,by have:=h.2.1.2;omega,λ x hx=>(h.2.2 x hx).up⟩
def ph:Ct:=λ ds S W=>∃(k d:Nat) (m:Int),ds=[.loc k,.int d,.int m]/\Pen S k/\d≤3/\1≤m/\m≤9/\∀f S',F4 f->Upd S k S'->Pen S' k->W (dFq f) S'
theorem HY(F:Fun Ω.K "_law_form" "_law_form" pM f fd)(N0:%[|14])(B:%[|5])(Cq16:Cal Ω "_law_take" 2 2 bI):Ok Ω 3 f fd Ku ph:=by
 refine aD N0 (N:=Kf) F (J3 B Cq16) %[|15] ?_
 rintro ds S W ⟨k,d,m,rfl,hp,hd,m1,m9,hw⟩ hl
 walk_at "b"
 refine⟨%[|54],mF (λ _ y=>∃n:Int,y=.int n/\Sm3 n) (λ S'=>Upd S k S'/\Pen S' k) (by rw[aJ];omega) ⟨.refl hp,hp⟩ ?_ ?_⟩
 . rintro i e S' he ⟨u,p⟩ R hR
   walk_at "b"
   refine au p %[|1] %[|1] λ w S2 w0 w1 u2 p2=>?_
   walk_at "b"
   exact hR _ _ ⟨_,rfl,%[|1],%[|1]⟩ ⟨u.trans u2,p2⟩
 rintro ys S' hlen hys ⟨u,p⟩
 obtain⟨fs,rfl,hf⟩:=Gq hys
 rw[aJ,x6]at hlen
 walk_at "b"
 exact hw fs _ ⟨%[|54],hf⟩ u p
def yt:Ct:=λ ds S W=>∃(k d:Nat) (ws:%[|6]),ds=[.loc k,dFq ws,.int d]/\Pen S k/\d≤3/\W3 ws/\∀c S',C2 c->Upd S k S'->Pen S' k->W (dCq c) S'
theorem Hr(F:Fun Ω.K "_law_cell" "_law_cell" pW f fd)(N0:%[|14])(B:%[|5])(Cq16:Cal Ω "_law_take" 2 2 bI)(Cq7:Cal Ω "_law_form" 3 3 ph):Ok Ω 4 f fd Kw yt:=by
 refine aD N0 (N:=KZ) F (Ke B Cq16 Cq7) %[|15] ?_
 rintro ds S W ⟨k,d,ws,rfl,hp,hd,hws,hw⟩ hl
 have el:(ws.map D.int).length=ws.length:=x6 _
 have w1:=hws.1.1
 have w2:=hws.1.2
 walk_at "b"
 refine au hp (by rw[el];omega) (by rw[el];omega) λ v S1 v0 v1 u1 p1=>?_
 rw[el]at v1
 obtain⟨t,rfl⟩:=Int.eq_ofNat_of_zero_le v0
 have ht:t<ws.length:=%[|1]
 have hwt:=hws.2 _ (List.getElem_mem ht)
 walk_at "b"
 refine⟨_,aA (j:=t) (by rw[x8,y8 ht];rfl),?_⟩
 walk_at "b"
 refine⟨%[|54],mF (λ _ y=>∃f:%[|6],y=dFq f/\F4 f) (λ S'=>Upd S k S'/\Pen S' k) (by rw[aJ];omega) ⟨u1,p1⟩ ?_ ?_⟩
 . rintro i e S' he ⟨u,p⟩ R hR
   walk_at "b"
   exact⟨rfl,k,d,3,rfl,p,hd,%[|2],%[|2],λ f S2 hf u2 p2=>hR _ _ ⟨f,rfl,hf⟩ ⟨u.trans u2,p2⟩⟩
 rintro ys S' hlen hys ⟨u,p⟩
 obtain⟨fs,rfl,hf⟩:=rR (f:=dFq) hys
 rw[aJ,x6]at hlen
 walk_at "b"
 exact hw (t,fs) _ ⟨by show t<3;omega,by show 1≤fs.length/\fs.length≤2;omega,hf⟩ u p
def zO:Ct:=λ ds S W=>∃(k d:Nat) (ws:%[|6]),ds=[.loc k,dFq ws,.int d]/\Pen S k/\flat S/\d≤3/\W3 ws/\∀x S',D3 x->Upd S k S'->Pen S' k->flat S'->W (dDq x) S'
theorem G9(F:Fun Ω.K "_law_deed" "_law_deed" oX f fd)(N0:%[|14])(B:%[|5])(Cq16:Cal Ω "_law_take" 2 2 bI)(Cq7:Cal Ω "_law_form" 3 3 ph)(Cq1:Cal Ω "_law_cell" 4 3 yt):Ok Ω 5 f fd J8 zO:=by
 refine aD N0 (N:=J7) F (K3 B Cq16 Cq7 Cq1) %[|15] ?_
 rintro ds S W ⟨k,d,ws,rfl,hp,hS,hd,hws,hw⟩ hl
 walk_at "b"
 refine au hp %[|2] %[|2] λ m S1 m0 m1 u1 p1=>?_
 walk_at "b"
 refine⟨%[|54],mF (λ _ y=>∃r:Rq,y=dRq r/\R2 r) (λ S'=>Upd S k S'/\Pen S' k) (by rw[aJ];omega) ⟨u1,p1⟩ ?_ ?_⟩
 . rintro i e S' he ⟨u,p⟩ R hR
   walk_at "b"
   refine au p %[|2] %[|2] λ w S2 w0 w1 u2 p2=>?_
   walk_at "b"
   refine⟨rfl,k,d,ws,rfl,p2,hd,hws,λ c S3 hc u3 p3=>?_⟩
   walk_at "b"
   exact hR _ _ ⟨(w-4,c),rfl,⟨by show-1000≤w-4;omega,by show w-4≤1000;omega⟩,hc⟩ ⟨(u.trans u2).trans u3,p3⟩
 rintro ys S' hlen hys ⟨u,p⟩
 obtain⟨rs,rfl,hr⟩:=rR (f:=dRq) hys
 rw[aJ,x6]at hlen
 walk_at "b"
 refine⟨rfl,k,d,ws,rfl,p,hd,hws,λ c S3 hc u3 p3=>?_⟩
 walk_at "b"
 refine⟨rfl,k,d,9,rfl,p3,hd,%[|2],%[|2],λ f S4 hf u4 p4=>?_⟩
 walk_at "b"
 have u5:=(u.trans u3).trans u4
 exact hw ⟨c,f,rs⟩ _ ⟨hc,hf,by show rs.length≤3;omega,hr⟩ u5 p4 (u5.flat hS)
def nj:Ct:=λ ds S W=>∃(k:Nat) (n:Int),ds=[.loc k,.int n]/\Pen S k/\Sm3 n/\∀v S',eO v->Upd S k S'->Pen S' k->W (.int v) S'
theorem BW(F:Fun Ω.K "_law_number" "_law_number" kj f fd)(N0:%[|14])(Cq16:Cal Ω "_law_take" 2 2 bI):Ok Ω 3 f fd FP nj:=by
 refine aD N0 (N:=Eb) F (Fz Cq16) %[|15] ?_
 rintro ds S W ⟨k,n,rfl,hp,hn,hw⟩ hl
 have e60:(10:Int) ^ Int.toNat 60=1000000000000000000000000000000000000000000000000000000000000:=%[|2]
 have e30:(10:Int) ^ Int.toNat 30=1000000000000000000000000000000:=%[|2]
 walk_at "b"
 rw[e60]
 refine au hp %[|2] %[|2] λ far S1 f0 f1 u1 p1=>?_
 obtain⟨n1,n2⟩:=hn
 walk_at "b"
 refine au p1 %[|2] %[|2] λ v S2 v0 v1 u2 p2=>?_
 walk_at "n"
 obtain⟨y,g1,g2⟩:=yL (ds:=[n+1,3,-3,10,-10,100,-100,10 ^ Int.toNat 30,0-10 ^ Int.toNat 30,far,0-far,10 ^ Int.toNat 30-1,0].map D.int) v0 v1
 obtain⟨i,hi,rfl⟩:=ZO.mp (y9 g2)
 refine⟨_,g1,hw i S2 ?_ (u1.trans u2) p2⟩
 rw[e30]at hi
 refine gP (b:=1000000000000000000000000000000000000000000000000000000000000) ?_ ?_ %[|2]
 . simp only[List.mem_cons,List.not_mem_nil,or_false]at hi
   omega
 . simp only[List.mem_cons,List.not_mem_nil,or_false]at hi
   omega
def tG:Ct:=λ ds S W=>∃(k:Nat) (ts:List D),ds=[.loc k,.tup ts]/\Pen S k/\ts.length≤10/\∀es S',(∀e∈es,e∈ts)->es.length≤ts.length+1->Upd S k S'->Pen S' k->W (.tup es) S'
theorem Lb(F:Fun Ω.K "_law_row" "_law_row" uK f fd)(N0:%[|14])(B:%[|5])(Cq16:Cal Ω "_law_take" 2 2 bI):Ok Ω 3 f fd Ny tG:=by
 refine aD N0 (N:=NK) F (Qx B Cq16) %[|15] ?_
 rintro ds S W ⟨k,ts,rfl,hp,hz,hw⟩ hl
 walk_at "b"
 refine au hp %[|1] %[|1] λ v S1 v0 v1 u1 p1=>?_
 have cl:∀lo hi,(cutD ts lo hi).length≤10:=λ lo hi=>Nat.le_trans (uJ _ _ _) hz
 have c1:=cl none (some v)
 have c2:=cl (some (v+1)) none
 have c3:=cl none (some 1)
 have c4:=cl (some v) none
 have l1:(cutD ts none (some v)).length+(cutD ts (some (v+1)) none).length≤ts.length:=by
  rw[cZ v0,ik %[|1],List.length_take,List.length_drop];omega
 have l2:(cutD ts none (some v)).length+(cutD ts none (some 1)).length+(cutD ts (some v) none).length≤ts.length+1:=by
  rw[cZ v0,cZ %[|2],ik v0,List.length_take,List.length_take,List.length_drop]
  have:Int.toNat 1=1:=rfl
  omega
 walk_at "b"
 refine au p1 %[|2] %[|2] λ w S2 w0 w1 u2 p2=>?_
 have hv:w=0∨w=1∨w=2∨w=3∨w=4:=%[|1]
 have m1:∀e∈cutD ts none (some v)++cutD ts (some (v+1)) none,e∈ts:=λ e he=>(ZK.mp he).elim gU gU
 have m2:∀e∈cutD ts none (some v)++cutD ts none (some 1)++cutD ts (some v) none,e∈ts:=λ e he=>(ZK.mp he).elim (λ h=>(ZK.mp h).elim gU gU) gU
 have u3:=u1.trans u2
 rcases hv with rfl | rfl | rfl | rfl | rfl
 . walk_at "b"
   exact hw _ _ m1 (by rw[List.length_append];omega) u3 p2
 . walk_at "b"
   exact hw _ _ m1 (by rw[List.length_append];omega) u3 p2
 . walk_at "b"
   exact hw _ _ m2 (by rw[List.length_append,List.length_append];omega) u3 p2
 . walk_at "b"
   exact hw _ _ m2 (by rw[List.length_append,List.length_append];omega) u3 p2
 . walk_at "b"
   exact hw [] _ (λ e he=>nomatch he) (Nat.zero_le _) u3 p2
theorem cY{α:Type}{enc:α->D}(l:List α)(y:α){a c:Int}(ha:0≤a)(hc:0≤c):cutD (l.map enc) none (some a)++[enc y]++cutD (l.map enc) (some c) none=(l.take a.toNat++[y]++l.drop c.toNat).map enc:=by
 rw[cZ ha,ik hc,←List.map_take,←List.map_drop,List.map_append,List.map_append];rfl
theorem dJ{α:Type}{P:α->Prop}{l:List α}{y:α}{a:Nat}(h:∀x∈l,P x)(hy:P y):∀x∈l.take a++[y]++l.drop c,P x:=λ x hx=>by
 rcases ZK.mp hx with hx | hx
 . rcases ZK.mp hx with hx | hx
   . exact h x (List.mem_of_mem_take hx)
   . rw[ZL.mp hx];exact hy
 . exact h x (List.mem_of_mem_drop hx)
theorem eU{α:Type}{l:List α}{y:α}{a:Nat}(h:a<l.length):(l.take a++[y]++l.drop (a+1)).length=l.length:=by
 simp only[List.length_append,List.length_take,List.length_drop,List.length_cons,List.length_nil];omega
theorem bZ{l:List D}{n:Nat}(h:l.length≤n)(lo hi:%[|17]):(cutD l lo hi).length≤n:=Nat.le_trans (uJ _ _ _) h
def rK:Ct:=λ ds S W=>∃(k:Nat) (f:%[|6]),ds=[.loc k,dFq f]/\Pen S k/\F4 f/\∀g S',FB g->Upd S k S'->Pen S' k->W (dFq g) S'
theorem uh(F:Fun Ω.K "_law_form_bent" "_law_form_bent" gG f fd)(N0:%[|14])(B:%[|5])(Cq16:Cal Ω "_law_take" 2 2 bI)(Cq12:Cal Ω "_law_number" 3 2 nj):Ok Ω 4 f fd xV rK:=by
 refine aD N0 (N:=wM) F (xm B Cq16 Cq12) %[|15] ?_
 rintro ds S W ⟨k,f,rfl,hp,hf,hw⟩ hl
 obtain⟨⟨f1,f4⟩,fn⟩:=id hf
 have el:(f.map D.int).length=f.length:=x6 _
 walk_at "n"
 refine au hp %[|2] %[|2] λ v S1 v0 v1 u1 p1=>?_
 walk_at "n"
 refine⟨λ z=>?_,λ z=>?_⟩
 . have c1:=bZ (l:=f.map D.int) (n:=4) (by rw[el];exact f4) none (some (-1))
   have c2:=bZ (l:=f.map D.int) (n:=4) (by rw[el];exact f4) none (some 1)
   have e1:cutD (f.map D.int) none (some 1)=(f.take 1).map D.int:=by rw[cZ %[|2],←List.map_take];rfl
   have e2:cutD (f.map D.int) none (some (-1))=f.dropLast.map D.int:=by
    obtain⟨A,n,rfl⟩:∃A n,f=A++[n]:=⟨f.dropLast,f.getLast (by rintro rfl;cases f1),(List.dropLast_concat_getLast _).symm⟩
    rw[List.map_append,List.dropLast_concat]
    exact zP _ _
   have fin:∀(z:Nat) S2,z≤2->(f.length=1->z=2)->Upd S k S2->Pen S2 k->W (.tup (f.dropLast.map D.int++(List.replicate z ((f.take 1).map D.int)).flatten)) S2:=by
    intro z S2 hz h1 u p
    have e:f.dropLast.map D.int++(List.replicate z ((f.take 1).map D.int)).flatten=(f.dropLast++(List.replicate z (f.take 1)).flatten).map D.int:=by
     rw[List.map_append,List.map_flatten,List.map_replicate]
    rw[e]
    have lz:(List.replicate z (f.take 1)).flatten.length=z:=by
     rw[List.length_flatten,List.map_replicate,List.sum_replicate_nat,List.length_take]
     have:min 1 f.length=1:=%[|1]
     rw[this,Nat.mul_one]
    refine hw _ S2 ⟨⟨?_,?_⟩,λ n hn=>?_⟩ u p
    . rw[List.length_append,lz,List.length_dropLast]
      by_cases hl:f.length=1
      . rw[h1 hl];omega
      . omega
    . rw[List.length_append,lz,List.length_dropLast];omega
    . rcases ZK.mp hn with hn | hn
      . exact(fn n (by rw[List.dropLast_eq_take]at hn;exact List.mem_of_mem_take hn)).up
      . obtain⟨l,hl,hn⟩:=List.mem_flatten.mp hn
        rw[List.eq_of_mem_replicate hl]at hn
        exact(fn n (List.mem_of_mem_take hn)).up
   walk_at "b"
   rw[el,e1,e2]
   by_cases hl:f.length=1
   . refine⟨λ z=>absurd (ZF z) %[|1],λ _=>?_⟩
     walk_at "b"
     have ez:((2*if false=true then(1:Int)else 0)+(if decide (((f.map D.int).length:Int)=1)=true then 1 else 0)*2)=((2:Nat):Int):=by
      rw[el,ZG %[|1]];rfl
     rw[ez]
     have t1:(List.map D.int (List.take 1 f)).length≤1:=by rw[x6,List.length_take];omega
     refine⟨⟨%[|2],%[|2]⟩,by show _*2≤1000000;omega,?_⟩
     have t2:(List.map D.int f.dropLast).length≤4:=by rw[x6,List.length_dropLast];omega
     have t3:(List.replicate 2 (List.map D.int (List.take 1 f))).flatten.length≤2:=by
      simp only[List.replicate_succ,List.replicate_zero,List.flatten_cons,List.flatten_nil,List.length_append,List.length_nil];omega
     refine⟨by show _+(List.replicate 2 _).flatten.length≤1000000;omega,?_⟩
     exact fin 2 S1 (x9 _) (λ _=>rfl) u1 p1
   . refine⟨λ _=>?_,λ z=>absurd (of_decide_eq_false z) %[|1]⟩
     walk_at "b"
     refine au p1 %[|2] %[|2] λ w S2 w0 w1 u2 p2=>?_
     walk_at "b"
     obtain⟨z,hz,ez⟩:∃z:Nat,z≤2/\((2*if decide (w=0)=true then(1:Int)else 0)+(if decide (((f.map D.int).length:Int)=1)=true then 1 else 0)*2)=(z:Int):=by
      rw[el,ZH (show ¬((f.length:Int)=1) by omega)]
      by_cases h0:w=0
      . rw[ZG h0];exact⟨2,x9 _,rfl⟩
      . rw[ZH h0];exact⟨0,%[|2],rfl⟩
     rw[ez]
     have t1:(List.map D.int (List.take 1 f)).length≤1:=by rw[x6,List.length_take];omega
     have t4:(List.map D.int (List.take 1 f)).length*z≤1*z:=Nat.mul_le_mul_right _ t1
     refine⟨%[|54],by show _*z≤1000000;omega,?_⟩
     have t2:(List.map D.int f.dropLast).length≤4:=by rw[x6,List.length_dropLast];omega
     have t3:(List.replicate z (List.map D.int (List.take 1 f))).flatten.length≤2:=by
      rw[List.length_flatten,List.map_replicate,List.sum_replicate_nat,Nat.mul_comm];omega
     refine⟨by show _+(List.replicate z _).flatten.length≤1000000;omega,?_⟩
     exact fin z S2 hz (λ h=>absurd h hl) (u1.trans u2) p2
 . walk_at "b"
   refine au p1 (by rw[el];omega) (by rw[el];omega) λ a S2 a0 a1 u2 p2=>?_
   rw[el]at a1
   obtain⟨a,rfl⟩:=Int.eq_ofNat_of_zero_le a0
   have ha:a<f.length:=%[|1]
   walk_at "b"
   refine⟨_,aA (j:=a) (by rw[x8,y8 ha];rfl),?_⟩
   refine⟨rfl,k,_,rfl,p2,fn _ (List.getElem_mem ha),λ n S3 hn u3 p3=>?_⟩
   have c1:=bZ (l:=f.map D.int) (n:=4) (by rw[el];exact f4) none (some (a:Int))
   have c2:=bZ (l:=f.map D.int) (n:=4) (by rw[el];exact f4) (some ((a:Int)+1)) none
   walk_at "b"
   rw[cY f n %[|1] %[|1],show((a:Int)).toNat=a from rfl,show((a:Int)+1).toNat=a+1 by omega]
   exact hw _ _ ⟨by rw[eU ha];exact⟨f1,%[|1]⟩,dJ (λ x hx=>(fn x hx).up) hn⟩ ((u1.trans u2).trans u3) p3
def Iv:Ct:=λ ds S W=>∃(k:Nat) (c:Cq),ds=[.loc k,dCq c]/\Pen S k/\C2 c/\∀e S',CB e->Upd S k S'->Pen S' k->W (dCq e) S'
theorem tM(F:Fun Ω.K "_law_cell_bent" "_law_cell_bent" gf f fd)(N0:%[|14])(B:%[|5])(Cq16:Cal Ω "_law_take" 2 2 bI)(Cq8:Cal Ω "_law_form_bent" 4 2 rK):Ok Ω 5 f fd wB Iv:=by
 refine aD N0 (N:=xK) F (wH B Cq16 Cq8) %[|15] ?_
 rintro ds S W ⟨k,c,rfl,hp,hc,hw⟩ hl
 obtain⟨t,pl⟩:=c
 obtain⟨ht,⟨p1,p2⟩,hf⟩:=id hc
 dsimp only at ht p1 p2 hf
 have el:(pl.map dFq).length=pl.length:=x6 _
 walk_at "n"
 refine au hp %[|2] %[|2] λ v S1 v0 v1 u1 q1=>?_
 walk_at "n"
 refine⟨λ z=>?_,λ z=>?_⟩
 . walk_at "b"
   refine au q1 %[|2] %[|2] λ w S2 w0 w1 u2 q2=>?_
   obtain⟨w,rfl⟩:=Int.eq_ofNat_of_zero_le w0
   walk_at "b"
   exact hw (w,pl) S2 ⟨by show w<3;omega,by show pl.length≤3;omega,λ f h=>(hf f h).up⟩ (u1.trans u2) q2
 . walk_at "b"
   refine au q1 (by rw[el];omega) (by rw[el];omega) λ a S2 a0 a1 u2 q2=>?_
   rw[el]at a1
   obtain⟨a,rfl⟩:=Int.eq_ofNat_of_zero_le a0
   have ha:a<pl.length:=%[|1]
   have c1:=bZ (l:=pl.map dFq) (n:=2) (by rw[el];exact p2) none (some (a:Int))
   have c2:=bZ (l:=pl.map dFq) (n:=2) (by rw[el];exact p2) (some ((a:Int)+1)) none
   have c3:=bZ (l:=pl.map dFq) (n:=2) (by rw[el];exact p2) none (some 1)
   walk_at "b"
   refine⟨_,aA (j:=a) (by rw[x8,y8 ha];rfl),?_⟩
   refine⟨rfl,k,_,rfl,q2,hf _ (List.getElem_mem ha),λ g S3 hg u3 q3=>?_⟩
   walk_at "b"
   rw[cY (enc:=dFq) pl g %[|1] %[|1],show((a:Int)).toNat=a from rfl,show((a:Int)+1).toNat=a+1 by omega]
   refine au q3 %[|2] %[|2] λ w S4 w0 w1 u4 q4=>?_
   have u5:=((u1.trans u2).trans u3).trans u4
   walk_at "n"
   refine⟨λ z=>?_,λ z=>?_⟩
   . walk_at "b"
     refine au q4 %[|2] %[|2] λ x S5 x0 x1 u6 q6=>?_
     have e1:cutD (pl.map dFq) none (some 1)=(pl.take 1).map dFq:=by rw[cZ %[|2],←List.map_take];rfl
     have hx:x=0∨x=1:=%[|1]
     rcases hx with rfl | rfl
     . walk_at "b"
       rw[e1,←List.map_append]
       refine hw (t,pl++pl.take 1) S5 ⟨ht,by show(pl++pl.take 1).length≤3;rw[List.length_append,List.length_take];omega,λ f h=>?_⟩ (u5.trans u6) q6
       exact(hf f ((ZK.mp h).elim id List.mem_of_mem_take)).up
     . walk_at "b"
       rw[e1]
       exact hw (t,pl.take 1) S5 ⟨ht,by show(pl.take 1).length≤3;rw[List.length_take];omega,λ f h=>(hf f (List.mem_of_mem_take h)).up⟩ (u5.trans u6) q6
   . walk_at "b"
     exact hw (t,pl.take a++[g]++pl.drop (a+1)) S4 ⟨ht,by show(pl.take a++[g]++pl.drop (a+1)).length≤3;rw[eU ha];omega,dJ (λ f h=>(hf f h).up) hg⟩ u5 q4
theorem okq{α:Type}{f:α->D}(h:∀a,okD (f a)=true):∀l:List α,cA (l.map f)=true
 | []=>rfl
 | a::l=>by
   show(okD (f a)&&cA (l.map f))=true
   rw[h a,okq h l];rfl
theorem qt(f:%[|6]):okD (dFq f)=true:=okq (f:=D.int) (λ _=>rfl) f
theorem MJ(pl:List %[|6]):okD (dPq pl)=true:=okq qt pl
theorem Mz(r:Rq):okD (dRq r)=true:=by
 show(true&&(true&&(okD (dPq r.2.2)&&true)))=true
 rw[MJ];rfl
theorem dpq{α:Type}{f:α->D}{n:Nat}(h:∀a,deep (f a)≤n):∀l:List α,aM (l.map f)≤n
 | []=>Nat.zero_le _
 | a::l=>by
   show max (deep (f a)) (aM (l.map f))≤n
   have:=h a
   have:=dpq h l
   omega
theorem qm(f:%[|6]):deep (dFq f)≤1:=Nat.succ_le_succ (dpq (f:=D.int) (n:=0) (λ _=>x9 _) f)
theorem Nr(pl:List %[|6]):deep (dPq pl)≤2:=Nat.succ_le_succ (dpq qm pl)
theorem Nb(r:Rq):deep (dRq r)≤3:=by
 have:=Nr r.2.2
 show max 0 (max 0 (max (deep (dPq r.2.2)) 0))+1≤3
 omega
theorem KJ{rds:List Rq}{W:%[|28]}(w:W rds.isEmpty S):aK .Eq (.tup (rds.map dRq)) (.tup []) S W:=by
 unfold aK
 refine⟨⟨okq Mz rds,rfl,?_⟩,?_⟩
 . have:=dpq Nb rds
   show aM (rds.map dRq)+1≤50
   omega
 . have e:eqD (vw S (.tup (rds.map dRq))) (vw S (.tup []))=rds.isEmpty:=by cases rds<;>rfl
   rw[e];exact w
def Jb:Ct:=λ ds S W=>∃(k:Nat) (x:Dq),ds=[.loc k,dDq x]/\Pen S k/\D3 x/\∀y S',DB y->Upd S k S'->Pen S' k->W (dDq y) S'
theorem uM(F:Fun Ω.K "_law_deed_bent" "_law_deed_bent" gr f fd)(N0:%[|14])(B:%[|5])(Cq16:Cal Ω "_law_take" 2 2 bI)(Cq12:Cal Ω "_law_number" 3 2 nj)(Cq8:Cal Ω "_law_form_bent" 4 2 rK)(Cq3:Cal Ω "_law_cell_bent" 5 2 Iv):Ok Ω 6 f fd xn Jb:=by
 refine aD N0 (N:=xg) F (xx B Cq16 Cq12 Cq8 Cq3) %[|15] ?_
 rintro ds S W ⟨k,x,rfl,hp,hx,hw⟩ hl
 obtain⟨⟨t,pl⟩,st,rds⟩:=x
 obtain⟨hc,hst,hr3,hr⟩:=id hx
 dsimp only at hc hst hr3 hr
 have el:(rds.map dRq).length=rds.length:=x6 _
 have e2:∀a b c d:D,cutD [a,b,c,d] none (some 2)=[a,b]:=λ a b c d=>by rw[cZ %[|2]];rfl
 have e2':∀a b c d:D,cutD [a,b,c,d] (some 2) none=[c,d]:=λ a b c d=>by rw[ik %[|2]];rfl
 have e3:∀a b c d:D,cutD [a,b,c,d] none (some 3)=[a,b,c]:=λ a b c d=>by rw[cZ %[|2]];rfl
 have o1:∀a b c:D,cutD [a,b,c] none (some 1)=[a]:=λ a b c=>by rw[cZ %[|2]];rfl
 have o2:∀a b c:D,cutD [a,b,c] (some 1) none=[b,c]:=λ a b c=>by rw[ik %[|2]];rfl
 walk_at "b"
 refine au hp %[|2] %[|2] λ v S1 v0 v1 u1 p1=>?_
 have hv:v=0∨v=1∨v=2∨v=3:=%[|1]
 have two:∀S2,Upd S k S2->Pen S2 k->W (dDq ⟨(t,pl),st,rds++rds++[(1,(t,pl)),(1,(t,pl))]⟩) S2:=λ S2 u p=>hw _ S2 ⟨hc.up,hst.up,by show(rds++rds++[_,_]).length≤8;simp only[List.length_append,List.length_cons,List.length_nil];omega,λ r h=>by
  rcases ZK.mp h with h | h
  . exact(hr r ((ZK.mp h).elim id id)).up
  . simp only[List.mem_cons,List.not_mem_nil,or_false,or_self]at h
    rw[h]
    exact⟨gP (b:=1) (by show(-1:Int)≤1;decide) (by show(1:Int)≤1;decide) %[|2],hc.up⟩⟩ u p
 rcases hv with rfl | rfl | rfl | rfl
 . walk_at "b"
   rw[e2]
   refine⟨rfl,k,(t,pl),rfl,p1,hc,λ e S2 he u2 p2=>?_⟩
   walk_at "b"
   rw[e2']
   walk_at "b"
   exact hw ⟨e,st,rds⟩ S2 ⟨he,hst.up,by show rds.length≤8;omega,λ r h=>(hr r h).up⟩ (u1.trans u2) p2
 . walk_at "b"
   rw[e2]
   refine⟨rfl,k,st,rfl,p1,hst,λ g S2 hg u2 p2=>?_⟩
   walk_at "b"
   exact hw ⟨(t,pl),g,rds⟩ S2 ⟨hc.up,hg,by show rds.length≤8;omega,λ r h=>(hr r h).up⟩ (u1.trans u2) p2
 . walk_at "b"
   refine⟨⟨%[|2],%[|2]⟩,by show(rds.map dRq).length*2≤1000000;rw[el];omega,?_⟩
   walk_at "b"
   rw[e2]
   walk_at "b"
   refine⟨⟨%[|2],%[|2]⟩,by show 1*2≤1000000;decide,?_⟩
   refine⟨by show(List.replicate 2 (rds.map dRq)).flatten.length+2≤1000000;rw[List.length_flatten,List.map_replicate,List.sum_replicate_nat,el];omega,?_⟩
   walk_at "b"
   rw[e3]
   walk_at "b"
   have h:=two S1 u1 p1
   have e:(rds++rds++[((1:Int),(t,pl)),(1,(t,pl))]).map dRq=(List.replicate 2 (rds.map dRq)).flatten++(List.replicate 2 [dRq (1,(t,pl))]).flatten:=by
    rw[List.map_append,List.map_append]
    simp[List.replicate_succ]
   unfold dDq at h
   rw[e]at h
   exact h
 . walk_at "b"
   refine KJ ?_
   cases hz:rds.isEmpty with
   | true=>
     walk_at "b"
     refine⟨⟨%[|2],%[|2]⟩,by show(rds.map dRq).length*2≤1000000;rw[el];omega,?_⟩
     walk_at "b"
     rw[e2]
     walk_at "b"
     refine⟨⟨%[|2],%[|2]⟩,by show 1*2≤1000000;decide,?_⟩
     refine⟨by show(List.replicate 2 (rds.map dRq)).flatten.length+2≤1000000;rw[List.length_flatten,List.map_replicate,List.sum_replicate_nat,el];omega,?_⟩
     walk_at "b"
     rw[e3]
     walk_at "b"
     have h:=two S1 u1 p1
     have e:(rds++rds++[((1:Int),(t,pl)),(1,(t,pl))]).map dRq=(List.replicate 2 (rds.map dRq)).flatten++(List.replicate 2 [dRq (1,(t,pl))]).flatten:=by
      rw[List.map_append,List.map_append]
      simp[List.replicate_succ]
     unfold dDq at h
     rw[e]at h
     exact h
   | false=>
     have hr1:1≤rds.length:=by
      cases rds with
      | nil=>cases hz
      | cons=>simp
     walk_at "b"
     refine au p1 (by rw[el];omega) (by rw[el];omega) λ a S2 a0 a1 u2 p2=>?_
     rw[el]at a1
     obtain⟨a,rfl⟩:=Int.eq_ofNat_of_zero_le a0
     have ha:a<rds.length:=%[|1]
     have hra:=hr _ (List.getElem_mem ha)
     have c1:=bZ (l:=rds.map dRq) (n:=3) (by rw[el];exact hr3) none (some (a:Int))
     have c2:=bZ (l:=rds.map dRq) (n:=3) (by rw[el];exact hr3) (some ((a:Int)+1)) none
     walk_at "b"
     refine⟨_,aA (j:=a) (by rw[x8,y8 ha];rfl),?_⟩
     generalize rds[a]=r at hra
     obtain⟨n,t',pl'⟩:=r
     walk_at "b"
     rw[o2]
     refine⟨rfl,k,(t',pl'),rfl,p2,hra.2,λ e S3 he u3 p3=>?_⟩
     walk_at "b"
     rw[o1]
     walk_at "b"
     refine au p3 %[|2] %[|2] λ w S4 w0 w1 u4 p4=>?_
     have u5:=((u1.trans u2).trans u3).trans u4
     have fin:∀(q:Rq) S5,RB q->Upd S k S5->Pen S5 k->W (dDq ⟨(t,pl),st,rds.take a++[q]++rds.drop (a+1)⟩) S5:=λ q S5 hq u p=>hw _ S5 ⟨hc.up,hst.up,by show(rds.take a++[q]++rds.drop (a+1)).length≤8;rw[eU ha];omega,dJ (λ r h=>(hr r h).up) hq⟩ u p
     walk_at "n"
     refine⟨λ z=>?_,λ z=>?_⟩
     . walk_at "b"
       refine⟨rfl,k,n,rfl,p4,hra.1,λ m S5 hm u6 p6=>?_⟩
       walk_at "b"
       rw[o2]
       walk_at "b"
       rw[e3]
       refine⟨by show 3+1≤1000000;decide,?_⟩
       have h:=fin (m,(t',pl')) S5 ⟨hm,hra.2.up⟩ (u5.trans u6) p6
       show W (D.tup [.int t,dPq pl,dFq st,.tup (cutD (rds.map dRq) none (some (a:Int))++[dRq (m,(t',pl'))]++cutD (rds.map dRq) (some ((a:Int)+1)) none)]) S5
       rw[cY (enc:=dRq) rds (m,(t',pl')) %[|1] %[|1]]
       exact h
     . walk_at "b"
       rw[e3]
       refine⟨by show 3+1≤1000000;decide,?_⟩
       have h:=fin (n,e) S4 ⟨hra.1.up,he⟩ u5 p4
       show W (D.tup [.int t,dPq pl,dFq st,.tup (cutD (rds.map dRq) none (some (a:Int))++[dRq (n,e)]++cutD (rds.map dRq) (some ((a:Int)+1)) none)]) S4
       rw[cY (enc:=dRq) rds (n,e) %[|1] %[|1]]
       exact h
theorem lW{α:Type}{enc:α->D}{l:List α}:∀{es:List D},(∀e∈es,e∈l.map enc)->∃l':List α,es=l'.map enc/\∀x∈l',x∈l
 | [],_=>⟨[],rfl,λ x h=>nomatch h⟩
 | e::es,h=>by
   obtain⟨x,hx,rfl⟩:=ZO.mp (h e List.mem_cons_self)
   obtain⟨l',rfl,hl⟩:=lW (es:=es) λ e he=>h e (w9 _ he)
   exact⟨x::l',rfl,λ y hy=>by
    rcases ZJ.mp hy with rfl | hy
    . exact hx
    . exact hl y hy⟩
def Hn:Ct:=λ ds S W=>∃(k:Nat) (ls:List Lq),ds=[.loc k,.tup (ls.map dLq)]/\Pen S k/\(1≤ls.length/\ls.length≤3)/\(∀l∈ls,L3 l)/\∀(ls':List Lq) S',ls'.length≤4->(∀l∈ls',LB l)->Upd S k S'->Pen S' k->W (.tup (ls'.map dLq)) S'
theorem qF(F:Fun Ω.K "_law_loops_bent" "_law_loops_bent" fG f fd)(N0:%[|14])(B:%[|5])(Cq16:Cal Ω "_law_take" 2 2 bI)(Cq15:Cal Ω "_law_row" 3 2 tG)(Cq8:Cal Ω "_law_form_bent" 4 2 rK):Ok Ω 5 f fd uO Hn:=by
 refine aD N0 (N:=uQ) F (uR B Cq16 Cq15 Cq8) %[|15] ?_
 rintro ds S W ⟨k,ls,rfl,hp,⟨l1,l3⟩,hL,hw⟩ hl
 have el:(ls.map dLq).length=ls.length:=x6 _
 walk_at "b"
 refine au hp %[|2] %[|2] λ v S1 v0 v1 u1 p1=>?_
 have go :∀v:Int,v=1∨v=2->(iV B Cq16 Cq15 Cq8).wp [some (.loc k),some (.tup (ls.map dLq)),some (.int v),none,none,none,none] S1 {nx:=λ _ S1=>W .non S1,rt:=W}:=by
  intro v hv
  walk_at "b"
  refine au p1 (by rw[el];omega) (by rw[el];omega) λ a S2 a0 a1 u2 p2=>?_
  rw[el]at a1
  obtain⟨a,rfl⟩:=Int.eq_ofNat_of_zero_le a0
  have ha:a<ls.length:=%[|1]
  have hla:=hL _ (List.getElem_mem ha)
  have c1:=bZ (l:=ls.map dLq) (n:=3) (by rw[el];exact l3) none (some (a:Int))
  have c2:=bZ (l:=ls.map dLq) (n:=3) (by rw[el];exact l3) (some ((a:Int)+1)) none
  walk_at "b"
  refine⟨_,aA (j:=a) (by rw[x8,y8 ha];rfl),?_⟩
  generalize ls[a]=l at hla
  obtain⟨lo,hi⟩:=l
  obtain⟨hlo,hhi⟩:=hla
  dsimp only at hlo hhi
  walk_at "b"
  refine⟨rfl,?_⟩
  walk_at "b"
  refine⟨rfl,k,hi,rfl,p2,hhi,λ g S3 hg u3 p3=>?_⟩
  have u4:=(u1.trans u2).trans u3
  have fin:∀q:Lq,LB q->W (.tup ((ls.take a++[q]++ls.drop (a+1)).map dLq)) S3:=λ q hq=>hw _ S3 (by rw[eU ha];omega) (dJ (λ r h=>(hL r h).up) hq) u4 p3
  rcases hv with rfl | rfl
  . match lo,hi,hlo,hhi with
    | [],_,hlo,_=>exact absurd hlo.1.1 %[|2]
    | _::_,[],_,hhi=>exact absurd hhi.1.1 %[|2]
    | x::lo,y::hi,hlo,hhi=>
      have t1:cutD ((x::lo).map D.int) (some 1) none=lo.map D.int:=dq _ _
      have t2:cutD ((y::hi).map D.int) (some 1) none=hi.map D.int:=dq _ _
      have lb:LB (-9::lo,9::hi):=by
       obtain⟨⟨_,h4⟩,h5⟩:=hlo.up
       obtain⟨⟨_,h6⟩,h7⟩:=hhi.up
       refine⟨⟨⟨by simp,by simpa using h4⟩,λ n hn=>?_⟩,⟨by simp,by simpa using h6⟩,λ n hn=>?_⟩
       . rcases ZJ.mp hn with rfl | hn
         . exact gP (b:=9) %[|2] %[|2] %[|2]
         . exact h5 n (w9 _ hn)
       . rcases ZJ.mp hn with rfl | hn
         . exact gP (b:=9) %[|2] %[|2] %[|2]
         . exact h7 n (w9 _ hn)
      have k1:lo.length≤3:=by have:=hlo.1.2;simp at this;omega
      have k2:hi.length≤3:=by have:=hhi.1.2;simp at this;omega
      walk_at "b"
      refine⟨by show 1+(cutD ((x::lo).map D.int) (some 1) none).length≤1000000;rw[t1,x6];omega,?_⟩
      walk_at "b"
      refine⟨by show 1+(cutD ((y::hi).map D.int) (some 1) none).length≤1000000;rw[t2,x6];omega,?_⟩
      walk_at "b"
      show W (.tup (cutD (ls.map dLq) none (some (a:Int))++[.tup [.tup ([.int (-9)]++cutD ((x::lo).map D.int) (some 1) none),.tup ([.int 9]++cutD ((y::hi).map D.int) (some 1) none)]]++cutD (ls.map dLq) (some ((a:Int)+1)) none)) S3
      rw[t1,t2]
      show W (.tup (cutD (ls.map dLq) none (some (a:Int))++[dLq (-9::lo,9::hi)]++cutD (ls.map dLq) (some ((a:Int)+1)) none)) S3
      rw[cY (enc:=dLq) ls (-9::lo,9::hi) %[|1] %[|1]]
      exact fin (-9::lo,9::hi) lb
  . walk_at "b"
    show W (.tup (cutD (ls.map dLq) none (some (a:Int))++[dLq (lo,g)]++cutD (ls.map dLq) (some ((a:Int)+1)) none)) S3
    rw[cY (enc:=dLq) ls (lo,g) %[|1] %[|1]]
    exact fin (lo,g) ⟨hlo.up,hg⟩
 have hv:v=0∨v=1∨v=2:=%[|1]
 rcases hv with rfl | rfl | rfl
 . walk_at "b"
   refine⟨rfl,k,_,rfl,p1,by rw[el];omega,λ es S2 he hz u2 p2=>?_⟩
   obtain⟨l',rfl,hl'⟩:=lW he
   rw[x6,el]at hz
   exact hw l' S2 %[|1] (λ l h=>(hL l (hl' l h)).up) (u1.trans u2) p2
 . walk_at "n"
   exact⟨λ z=>absurd z %[|2],λ _=>go 1 (.inl rfl)⟩
 . walk_at "n"
   exact⟨λ z=>absurd z %[|2],λ _=>go 2 (.inr rfl)⟩
def PBd(ws:%[|6])(nss:List Nv):Prop:=(ws.length≤4/\∀w∈ws,eO w)/\nss.length≤4/\∀n∈nss,NB n
def dPv(ws:%[|6])(nss:List Nv):D:=.tup [dFq ws,.tup (nss.map dNv)]
def Av:Ct:=λ ds S W=>∃(k:Nat) (ws:%[|6]) (nss:List Nv),ds=[.loc k,dPv ws nss]/\Pen S k/\P3 ws nss/\∀ws' nss' S',PBd ws' nss'->Upd S k S'->Pen S' k->W (dPv ws' nss') S'
theorem W3.up(h:W3 ws):∀w∈ws,eO w:=λ w hw=>by have:=h.2 w hw;exact gP (b:=2) %[|1] %[|1] %[|2]
theorem Ij(F:Fun Ω.K "_law_bent" "_law_bent" oZ f fd)(N0:%[|14])(B:%[|5])(Cq16:Cal Ω "_law_take" 2 2 bI)(Cq12:Cal Ω "_law_number" 3 2 nj)(Cq15:Cal Ω "_law_row" 3 2 tG)(Cq6:Cal Ω "_law_deed_bent" 6 2 Jb)(Cq11:Cal Ω "_law_loops_bent" 5 2 Hn):Ok Ω 7 f fd Mh Av:=by
 refine aD N0 (N:=Ky) F (JR B Cq16 Cq12 Cq15 Cq6 Cq11) %[|15] ?_
 rintro ds S W ⟨k,ws,nss,rfl,hp,⟨hws,⟨n1,n3⟩,hns⟩,hw⟩ hl
 have el:(ws.map D.int).length=ws.length:=x6 _
 have en:(nss.map dNv).length=nss.length:=x6 _
 have w1:=hws.1.1
 have w3:=hws.1.2
 have kw:ws.length≤4/\∀w∈ws,eO w:=⟨%[|1],hws.up⟩
 have kn:nss.length≤4/\∀n∈nss,NB n:=⟨%[|1],λ n h=>(hns n h).up⟩
 walk_at "b"
 refine⟨rfl,?_⟩
 walk_at "b"
 refine au hp %[|2] %[|2] λ v S1 v0 v1 u1 p1=>?_
 have hv:v=0∨v=8∨v=1∨v=2∨v=3∨v=4∨(v=5∨v=6∨v=7):=%[|1]
 rcases hv with rfl | rfl | rfl | rfl | hv
 . walk_at "b"
   refine⟨rfl,k,_,rfl,p1,by rw[el];omega,λ es S2 he hz u2 p2=>?_⟩
   obtain⟨l',rfl,hl'⟩:=lW (enc:=D.int) he
   rw[x6,el]at hz
   walk_at "b"
   exact hw l' nss S2 ⟨⟨%[|1],λ w h=>hws.up w (hl' w h)⟩,kn⟩ (u1.trans u2) p2
 . walk_at "b"
   refine au p1 (by rw[en];omega) (by rw[en];omega) λ a S2 a0 a1 u2 p2=>?_
   rw[en]at a1
   have c1:=bZ (l:=nss.map dNv) (n:=3) (by rw[en];exact n3) none (some a)
   have c2:=bZ (l:=nss.map dNv) (n:=3) (by rw[en];exact n3) (some a) none
   walk_at "b"
   show W (.tup [dFq ws,.tup (cutD (nss.map dNv) none (some a)++[dNv ([],[])]++cutD (nss.map dNv) (some a) none)]) S2
   rw[cY (enc:=dNv) nss ([],[]) a0 a0]
   refine hw ws _ S2 ⟨kw,by simp only[List.length_append,List.length_take,List.length_drop,List.length_cons,List.length_nil];omega,dJ kn.2 ⟨⟨by show 0≤4;decide,λ l h=>nomatch h⟩,by show 0≤5;decide,λ l h=>nomatch h⟩⟩ (u1.trans u2) p2
 . walk_at "b"
   refine au p1 (by rw[el];omega) (by rw[el];omega) λ a S2 a0 a1 u2 p2=>?_
   rw[el]at a1
   obtain⟨a,rfl⟩:=Int.eq_ofNat_of_zero_le a0
   have ha:a<ws.length:=%[|1]
   have c1:=bZ (l:=ws.map D.int) (n:=3) (by rw[el];exact w3) none (some (a:Int))
   have c2:=bZ (l:=ws.map D.int) (n:=3) (by rw[el];exact w3) (some ((a:Int)+1)) none
   have hwa:=hws.2 _ (List.getElem_mem ha)
   walk_at "b"
   refine⟨_,aA (j:=a) (by rw[x8,y8 ha];rfl),?_⟩
   refine⟨rfl,k,_,rfl,p2,%[|54],λ m S3 hm u3 p3=>?_⟩
   walk_at "b"
   rw[cY (enc:=D.int) ws m %[|1] %[|1]]
   exact hw (ws.take a++[m]++ws.drop (a+1)) nss S3 ⟨⟨by rw[eU ha];omega,dJ kw.2 hm⟩,kn⟩ ((u1.trans u2).trans u3) p3
 . walk_at "b"
   refine⟨rfl,k,_,rfl,p1,by rw[en];omega,λ es S2 he hz u2 p2=>?_⟩
   obtain⟨l',rfl,hl'⟩:=lW (enc:=dNv) he
   rw[x6,en]at hz
   walk_at "b"
   exact hw ws l' S2 ⟨kw,%[|1],λ n h=>kn.2 n (hl' n h)⟩ (u1.trans u2) p2
 . have rest:∀v:Int,v=3∨v=4∨(v=5∨v=6∨v=7)->(sX B Cq16 Cq12 Cq15 Cq6 Cq11).wp [some (.loc k),some (dPv ws nss),some (dFq ws),some (.tup (nss.map dNv)),some (.int v),none,none,none,none,none] S1 {nx:=λ _ S1=>W .non S1,rt:=W}:=by
    intro v hv
    walk_at "b"
    refine au p1 (by rw[en];omega) (by rw[en];omega) λ a S2 a0 a1 u2 p2=>?_
    rw[en]at a1
    obtain⟨a,rfl⟩:=Int.eq_ofNat_of_zero_le a0
    have ha:a<nss.length:=%[|1]
    have hna:=hns _ (List.getElem_mem ha)
    have c1:=bZ (l:=nss.map dNv) (n:=3) (by rw[en];exact n3) none (some (a:Int))
    have c2:=bZ (l:=nss.map dNv) (n:=3) (by rw[en];exact n3) (some ((a:Int)+1)) none
    walk_at "b"
    refine⟨_,aA (j:=a) (by rw[x8,y8 ha];rfl),?_⟩
    generalize nss[a]=nn at hna
    obtain⟨L,E⟩:=nn
    obtain⟨⟨hL1,hL⟩,⟨e1,e4⟩,hE⟩:=hna
    dsimp only at hL1 hL e1 e4 hE
    have eE:(E.map dDq).length=E.length:=x6 _
    walk_at "b"
    refine⟨rfl,?_⟩
    walk_at "b"
    refine au p2 (by rw[eE];omega) (by rw[eE];omega) λ b S3 b0 b1 u3 p3=>?_
    rw[eE]at b1
    obtain⟨b,rfl⟩:=Int.eq_ofNat_of_zero_le b0
    have hb:b<E.length:=%[|1]
    have u4:=(u1.trans u2).trans u3
    have fin:∀(q:Nv) S5,NB q->Upd S k S5->Pen S5 k->W (.tup [dFq ws,.tup (cutD (nss.map dNv) none (some (a:Int))++[dNv q]++cutD (nss.map dNv) (some ((a:Int)+1)) none)]) S5:=by
     intro q S5 hq u p
     rw[cY (enc:=dNv) nss q %[|1] %[|1]]
     exact hw ws (nss.take a++[q]++nss.drop (a+1)) S5 ⟨kw,by rw[eU ha];omega,dJ kn.2 hq⟩ u p
    rcases hv with rfl | rfl | hv
    . walk_at "b"
      refine⟨rfl,k,_,rfl,p3,by rw[eE];omega,λ es S4 he hz u5 p5=>?_⟩
      obtain⟨l',rfl,hl'⟩:=lW (enc:=dDq) he
      rw[x6,eE]at hz
      walk_at "b"
      exact fin (L,l') S4 ⟨⟨by show L.length≤4;omega,λ l h=>(hL l h).up⟩,by show l'.length≤5;omega,λ x h=>(hE x (hl' x h)).up⟩ (u4.trans u5) p5
    . walk_at "b"
      refine⟨rfl,k,L,rfl,p3,hL1,hL,λ L' S4 hz hL' u5 p5=>?_⟩
      walk_at "b"
      exact fin (L',E) S4 ⟨⟨hz,hL'⟩,by show E.length≤5;omega,λ x h=>(hE x h).up⟩ (u4.trans u5) p5
    . have d1:=bZ (l:=E.map dDq) (n:=4) (by rw[eE];exact e4) none (some (b:Int))
      have d2:=bZ (l:=E.map dDq) (n:=4) (by rw[eE];exact e4) (some ((b:Int)+1)) none
      walk_at "n"
      refine⟨λ z=>absurd (ZF z) %[|1],λ _=>?_⟩
      walk_at "n"
      refine⟨λ z=>absurd (ZF z) %[|1],λ _=>?_⟩
      walk_at "b"
      refine⟨_,aA (j:=b) (by rw[x8,y8 hb];rfl),?_⟩
      refine⟨rfl,k,_,rfl,p3,hE _ (List.getElem_mem hb),λ y S4 hy u5 p5=>?_⟩
      walk_at "b"
      rw[cY (enc:=dDq) E y %[|1] %[|1]]
      exact fin (L,E.take b++[y]++E.drop (b+1)) S4 ⟨⟨by show L.length≤4;omega,λ l h=>(hL l h).up⟩,by show(E.take b++[y]++E.drop (b+1)).length≤5;rw[eU hb];omega,dJ (λ x h=>(hE x h).up) hy⟩ (u4.trans u5) p5
   have z1:¬v=0:=%[|1]
   have z2:¬v=8:=%[|1]
   have z3:¬v=1:=%[|1]
   have z4:¬v=2:=%[|1]
   walk_at "n"
   refine⟨λ z=>absurd (ZF z) z1,λ _=>?_⟩
   walk_at "n"
   refine⟨λ z=>absurd (ZF z) z2,λ _=>?_⟩
   walk_at "n"
   refine⟨λ z=>absurd (ZF z) z3,λ _=>?_⟩
   walk_at "n"
   exact⟨λ z=>absurd (ZF z) z4,λ _=>rest v hv⟩
def Am:Ct:=λ ds S W=>∃f,ds=[dFq f]/\FB f/\W (.str (fT f)) S
theorem yu{f:%[|6]}(h:FB f):∀x∈f.map nS,x.length≤62:=λ x hx=>by
 obtain⟨n,hn,rfl⟩:=ZO.mp hx
 exact iu (h.2 n hn)
theorem Dz{f:%[|6]}(h:FB f):(f.map nS).length≤5:=by rw[x6];exact h.1.2
theorem dO{f:%[|6]}(h:FB f):(fT f).length≤315:=jJ (yu h) (Dz h)
theorem Ml{c:Cq}(h:CB c):∀x∈ltS c.1::c.2.map fT,x.length≤315:=λ x hx=>by
 rcases ZJ.mp hx with rfl | hx
 . unfold ltS;rw[gQ];show 1≤315;decide
 . obtain⟨f,hf,rfl⟩:=ZO.mp hx
   exact dO (h.2.2 f hf)
theorem PQ{c:Cq}(h:CB c):(ltS c.1::c.2.map fT).length≤4:=by
 rw[List.length_cons,x6];have:=h.2.1;omega
theorem sW{c:Cq}(h:CB c):(cT c).length≤1264:=jJ (Ml h) (PQ h)
theorem tU(F:Fun Ω.K "_law_form_text" "_law_form_text" gk f fd)(N0:%[|14])(B:%[|5]):Ok Ω 1 f fd xj Am:=by
 refine aD N0 (N:=vW) F (vU B) %[|15] ?_
 rintro ds S W ⟨f,rfl,hf,hw⟩ hl
 walk_at "b"
 refine jH (xs:=f) (enc:=D.int) (λ n=>.str (nS n)) (by have:=hf.1.2;omega) ?_ ?_
 . intro i n hn Q hq
   walk_at "b"
   exact⟨n6 (hf.2 n (y9 hn)),hq⟩
 . exact⟨_,f.map nS,rfl,by rw[List.map_map];rfl,mY (yu hf) (Dz hf) %[|7],hw⟩
def Iu:Ct:=λ ds S W=>∃c:Cq,ds=[.int c.1,dPq c.2]/\CB c/\W (.str (cT c)) S
theorem RN:∀{t:Nat},t<3->atI (Str.ofString "abc").cps.toList (t:Int)=some (97+t)
 | 0,_=>%[|7]
 | 1,_=>%[|7]
 | 2,_=>%[|7]
 | _+3,h=>absurd h %[|1]
theorem Dy(c:Nat)(x:List Nat):∀r:List (List Nat),jn c (x::r)=x++(r.map λ y=>c::y).flatten
 | []=>by simp[jn]
 | y::r=>by
   rw[Pu (by simp),Dy c y r];simp
theorem Fp(t:Nat)(pl:List %[|6]):(⟨#[97+t]⟩:Str)++Txt.join "" (pl.map λ f=>Str.ofString "@"++fT f)=cT (t,pl):=by
 refine eX ?_
 unfold cT
 dsimp only
 rw[s64,s00,dD,aO,HJ]
 show[97+t]++_=jn 64 ((mkS [97+t]).cps.toList::_)
 rw[aF,Dy,List.map_map,List.map_map,List.map_map]
 congr 3
 funext f
 show(mkS [64]++fT f).cps.toList=_
 rw[aO,aF];rfl
theorem uZ(F:Fun Ω.K "_law_cell_text" "_law_cell_text" gq f fd)(N0:%[|14])(Cq9:Cal Ω "_law_form_text" 1 1 Am):Ok Ω 2 f fd wj Iu:=by
 refine aD N0 (N:=wu) F (xN Cq9) %[|15] ?_
 rintro ds S W ⟨c,rfl,hc,hw⟩ hl
 obtain⟨t,pl⟩:=c
 obtain⟨ht,hz,hf⟩:=hc
 dsimp only at ht hz hf
 walk_at "b"
 refine⟨_,_,97+t,rfl,rfl,%[|7],RN ht,?_⟩
 walk_at "b"
 refine jH (xs:=pl) (enc:=dFq) (λ f=>.str (Str.ofString "@"++fT f)) %[|1] ?_ ?_
 . intro i f hi Q hq
   have hb:=hf f (y9 hi)
   walk_at "b"
   refine⟨rfl,f,rfl,hb,?_⟩
   exact ⟨_, _, rfl, rfl, by have:=dO hb;have:(Str.ofString "@").length=1:=%[|7]
                             omega,hq⟩
 . have hw2:∀x∈pl.map λ f=>Str.ofString "@"++fT f,x.length≤316:=λ x hx=>by
    obtain⟨f,hi,rfl⟩:=ZO.mp hx
    have:=dO (hf f hi)
    have:(Str.ofString "@").length=1:=%[|7]
    rw[len_app];omega
   have hm:(pl.map λ f=>Str.ofString "@"++fT f).length≤3:=by rw[x6];exact hz
   refine⟨_,pl.map λ f=>Str.ofString "@"++fT f,rfl,by rw[List.map_map];rfl,mY hw2 hm %[|7],?_⟩
   refine⟨_,_,rfl,rfl,?_,?_⟩
   . have:=jJ (sep:=Str.ofString "") hw2 hm
     have e:(Str.ofString "").length=0:=%[|7]
     have e2:(⟨#[97+t]⟩:Str).length=1:=rfl
     rw[e]at this
     rw[e2];omega
   . rw[Fp];exact hw
abbrev dLt(l:Lt):D:=.str (liS l.w)
theorem Ak{l:Lt}(h:LtB l):(∀x∈l.w,x.length≤1264)/\l.w.length≤4:=by
 cases l with
 | nest=>exact⟨λ x hx=>by rw[ZL.mp hx];sleep 4,%[|2]⟩
 | loop l=>exact⟨le4 %[|7] (Nat.le_trans (dO h.1) %[|2]) %[|7] (Nat.le_trans (dO h.2) %[|2]),x9 _⟩
 | deed x=>exact⟨le4 %[|7] (sW h.1) %[|7] (Nat.le_trans (dO h.2.1) %[|2]),x9 _⟩
 | rd r=>exact⟨le4 %[|7] (Nat.le_trans (iu h.1) %[|2]) %[|7] (sW h.2),x9 _⟩
theorem zH{l:Lt}(h:LtB l):JoinOk " " l.w=true:=mY (Ak h).1 (Ak h).2 %[|7]
theorem jh(h:ws.length≤4/\∀w∈ws,eO w):(∀x∈hdT ws,x.length≤62)/\(hdT ws).length≤5:=by
 refine⟨λ x hx=>?_,by unfold hdT;rw[List.length_cons,x6];omega⟩
 rcases ZJ.mp hx with rfl | hx
 . sleep 4
 . obtain⟨n,hn,rfl⟩:=ZO.mp hx
   exact iu (h.2 n hn)
theorem Ip{x:Dq}(h:DB x):(fc x).length≤9:=by unfold fc;rw[List.length_cons,x6];have:=h.2.2.1;omega
theorem Rc{n:Nv}(h:NB n):(iD n).length≤50:=by
 have h1:=jg (f:=fc) (l:=n.2) (B:=9) λ x hx=>Ip (h.2.2 x hx)
 have h2:=h.1.1
 have h3:=h.2.1
 unfold iD
 rw[List.length_cons,List.length_append,x6]
 omega
theorem Ih{nss:List Nv}(h:∀n∈nss,NB n):(gF nss).length≤nss.length*50:=jg λ x hx=>Rc (h x hx)
theorem vf(a b c d:Str):(liS [a,b,c,d]).length=a.length+b.length+c.length+d.length+3:=by
 rw[aW,li4,aW a,aW b,aW c,aW d]
 simp only[List.length_append,List.length_cons];omega
theorem Oz{l:Lt}(h:LtB l):(liS l.w).length≤1600:=by
 have w1:%[|43].length=4:=%[|7]
 have w2:(Str.ofString "to").length=2:=%[|7]
 have w3:%[|47].length=3:=%[|7]
 have w4:(Str.ofString "be").length=2:=%[|7]
 have w5:%[|48].length=3:=%[|7]
 have w6:(Str.ofString "of").length=2:=%[|7]
 cases l with
 | nest=>sleep 4
 | loop l=>
   have:=dO h.1
   have:=dO h.2
   show(liS [_,_,_,_]).length≤1600
   rw[vf];omega
 | deed x=>
   have:=sW h.1
   have:=dO h.2.1
   show(liS [_,_,_,_]).length≤1600
   rw[vf];omega
 | rd r=>
   have:=iu h.1
   have:=sW h.2
   show(liS [_,_,_,_]).length≤1600
   rw[vf];omega
theorem kZ{nss:List Nv}(h:PBd ws nss):(∀x∈PT ws nss,x.length≤1600)/\(PT ws nss).length≤201:=by
 refine⟨λ x hx=>?_,?_⟩
 . rcases ZJ.mp hx with rfl | hx
   . exact Nat.le_trans (jJ (jh h.1).1 (jh h.1).2) %[|7]
   . obtain⟨l,hl,rfl⟩:=ZO.mp hx
     have hb:=sJ h.2.2 l hl
     exact Oz hb
 . have:=Ih h.2.2
   have:=h.2.1
   unfold PT
   rw[List.length_cons,x6];omega
def Jy:Ct:=λ ds S W=>∃(ws:%[|6]) (nss:List Nv),ds=[dPv ws nss]/\PBd ws nss/\W %[|77] (S++[(PT ws nss).map D.str])
theorem j6{α:Type}{f:α->D}{l:List α}{d:D}(h:(l.map f)[i]? =some d):∃x,l[i]? =some x/\d=f x/\l.take (i+1)=l.take i++[x]:=by
 obtain⟨x,hx,rfl⟩:=jN h
 exact⟨x,hx,rfl,bO hx⟩
theorem Fv(F:Fun Ω.K "_law_lines" "_law_lines" lG f fd)(N0:%[|14])(B:%[|5])(Cq9:Cal Ω "_law_form_text" 1 1 Am)(Cq4:Cal Ω "_law_cell_text" 2 2 Iu):Ok Ω 3 f fd JF Jy:=by
 refine aD N0 (N:=Hy) F (Jc B Cq9 Cq4) %[|15] ?_
 rintro ds S W ⟨ws,nss,rfl,hP,hw⟩ hl
 have rdL:∀(rds:List Rq)(L:List D)(o2 o3 o4 o5 o6 o7 o8 o10 o11 o12:Option D)(Wf:DL.Fin),(∀r∈rds,RB r)->rds.length≤8->L.length≤5000->(∀o10 o11 o12,Wf.nx [some (dPv ws nss),%[|65],o2,o3,o4,o5,o6,o7,o8,some (.tup (rds.map dRq)),o10,o11,o12] (S++[L++(rds.map Lt.rd).map dLt]))->(jP B Cq9 Cq4).wp [some (dPv ws nss),%[|65],o2,o3,o4,o5,o6,o7,o8,some (.tup (rds.map dRq)),o10,o11,o12] (S++[L]) Wf:=by
  intro rds L o2 o3 o4 o5 o6 o7 o8 o10 o11 o12 Wf hr hz hL hn
  walk_at "b"
  refine cG ⟨λ i G T=>∃o10 o11 o12:Option D,G=[some (dPv ws nss),%[|65],o2,o3,o4,o5,o6,o7,o8,some (.tup (rds.map dRq)),o10,o11,o12]/\T=S++[L++((rds.take i).map Lt.rd).map dLt],⟨_,_,_,rfl,by simp⟩,?_,?_⟩
  . rintro i e G T he ⟨o10,o11,o12,rfl,rfl⟩
    obtain⟨r,hx,rfl,ht⟩:=j6 he
    have hrb:=hr r (y9 hx)
    have hi:=(z0.mp hx).1
    obtain⟨n,c⟩:=r
    refine⟨rfl,?_⟩
    walk_at "b"
    refine⟨n6 hrb.1,?_⟩
    walk_at "b"
    refine⟨rfl,c,rfl,hrb.2,?_⟩
    walk_at "b"
    refine⟨_,(Lt.rd (n,c)).w,rfl,rfl,zH (l:=Lt.rd (n,c)) hrb,?_⟩
    refine⟨_,aU _ _,by simp only[List.length_append,x6,List.length_take];omega,?_⟩
    refine⟨_,_,_,rfl,?_⟩
    rw[dw,ht,List.map_append,List.map_append,List.append_assoc];rfl
  . rintro G T ⟨o10,o11,o12,rfl,rfl⟩
    rw[x6,List.take_length]
    exact hn _ _ _
 have ddL:∀(E:List Dq)(L:List D)(o2 o4 o5 o6 o7 o8 o9 o10 o11 o12:Option D)(Wf:DL.Fin),(∀x∈E,DB x)->E.length≤5->L.length≤4000->(∀o6 o7 o8 o9 o10 o11 o12,Wf.nx [some (dPv ws nss),%[|65],o2,some (.tup (E.map dDq)),o4,o5,o6,o7,o8,o9,o10,o11,o12] (S++[L++(E.flatMap fc).map dLt]))->(jV B Cq9 Cq4).wp [some (dPv ws nss),%[|65],o2,some (.tup (E.map dDq)),o4,o5,o6,o7,o8,o9,o10,o11,o12] (S++[L]) Wf:=by
  intro E L o2 o4 o5 o6 o7 o8 o9 o10 o11 o12 Wf hE hz hL hn
  walk_at "b"
  refine cG ⟨λ i G T=>∃o6 o7 o8 o9 o10 o11 o12:Option D,G=[some (dPv ws nss),%[|65],o2,some (.tup (E.map dDq)),o4,o5,o6,o7,o8,o9,o10,o11,o12]/\T=S++[L++((E.take i).flatMap fc).map dLt],⟨_,_,_,_,_,_,_,rfl,by simp⟩,?_,?_⟩
  . rintro i e G T he ⟨o6,o7,o8,o9,o10,o11,o12,rfl,rfl⟩
    obtain⟨x,hx,rfl,ht⟩:=j6 he
    have hxb:=hE x (y9 hx)
    have hi:=(z0.mp hx).1
    have hm:=jg (f:=fc) (l:=E.take i) (B:=9) λ x hx=>Ip (hE x (List.mem_of_mem_take hx))
    rw[List.length_take]at hm
    obtain⟨c,st,rds⟩:=x
    refine⟨rfl,?_⟩
    walk_at "b"
    refine⟨rfl,c,rfl,hxb.1,?_⟩
    walk_at "b"
    refine⟨rfl,st,rfl,hxb.2.1,?_⟩
    walk_at "b"
    refine⟨_,(Lt.deed ⟨c,st,rds⟩).w,rfl,rfl,zH (l:=Lt.deed ⟨c,st,rds⟩) hxb,?_⟩
    refine⟨_,aU _ _,by simp only[List.length_append,x6];omega,?_⟩
    rw[dw]
    refine rdL rds _ _ _ _ _ _ _ _ _ _ _ _ hxb.2.2.2 hxb.2.2.1 (by simp only[List.length_append,x6,List.length_cons,List.length_nil];omega) λ o10 o11 o12=>?_
    refine⟨_,_,_,_,_,_,_,rfl,?_⟩
    rw[ht,List.flatMap_append,List.map_append,List.append_assoc,List.append_assoc]
    rw[show List.flatMap fc [(⟨c,st,rds⟩:Dq)]=fc ⟨c,st,rds⟩from List.append_nil _]
    rfl
  . rintro G T ⟨o6,o7,o8,o9,o10,o11,o12,rfl,rfl⟩
    rw[x6,List.take_length]
    exact hn _ _ _ _ _ _ _
 have nsL:∀(n:Nv)(L:List D)(o4 o5 o6 o7 o8 o9 o10 o11 o12:Option D)(Wf:DL.Fin),NB n->L.length≤1000->(∀o4 o5 o6 o7 o8 o9 o10 o11 o12,Wf.nx [some (dPv ws nss),%[|65],some (.tup (n.1.map dLq)),some (.tup (n.2.map dDq)),o4,o5,o6,o7,o8,o9,o10,o11,o12] (S++[L++(iD n).map dLt]))->(mJ B Cq9 Cq4).wp [some (dPv ws nss),%[|65],some (.tup (n.1.map dLq)),some (.tup (n.2.map dDq)),o4,o5,o6,o7,o8,o9,o10,o11,o12] (S++[L]) Wf:=by
  intro n L o4 o5 o6 o7 o8 o9 o10 o11 o12 Wf hb hL hn
  obtain⟨ls,E⟩:=n
  obtain⟨⟨l4,hl⟩,e5,hE⟩:=hb
  dsimp only at l4 hl e5 hE
  walk_at "b"
  refine⟨_,aU _ _,%[|1],?_⟩
  rw[dw]
  walk_at "b"
  refine cG ⟨λ i G T=>∃o4 o5:Option D,G=[some (dPv ws nss),%[|65],some (.tup (ls.map dLq)),some (.tup (E.map dDq)),o4,o5,o6,o7,o8,o9,o10,o11,o12]/\T=S++[L++(Lt.nest::(ls.take i).map Lt.loop).map dLt],⟨_,_,rfl,rfl⟩,?_,?_⟩
  . rintro i e G T he ⟨o4,o5,rfl,rfl⟩
    obtain⟨x,hx,rfl,ht⟩:=j6 he
    have hxb:=hl x (y9 hx)
    have hi:=(z0.mp hx).1
    obtain⟨lo,hi'⟩:=x
    refine⟨rfl,?_⟩
    walk_at "b"
    refine⟨rfl,lo,rfl,hxb.1,?_⟩
    walk_at "b"
    refine⟨rfl,hi',rfl,hxb.2,?_⟩
    walk_at "b"
    refine⟨_,(Lt.loop (lo,hi')).w,rfl,rfl,zH (l:=Lt.loop (lo,hi')) hxb,?_⟩
    refine⟨_,aU _ _,by simp only[List.length_append,x6,List.length_cons,List.length_take];omega,?_⟩
    refine⟨_,_,rfl,?_⟩
    rw[dw,ht,List.map_append,List.append_assoc]
    simp only[List.map_cons,List.map_append,List.map_nil,List.cons_append]
    rfl
  . rintro G T ⟨o4,o5,rfl,rfl⟩
    rw[x6,List.take_length]
    refine ddL E _ _ _ _ _ _ _ _ _ _ _ _ hE e5 (by simp only[List.length_append,x6,List.length_cons];omega) λ o6 o7 o8 o9 o10 o11 o12=>?_
    have e:L++(Lt.nest::ls.map Lt.loop).map dLt++(E.flatMap fc).map dLt=L++(iD (ls,E)).map dLt:=by
     unfold iD
     rw[List.append_assoc,←List.map_append];rfl
    rw[e]
    exact hn _ _ _ _ _ _ _ _ _
 have w4:=hP.1.1
 walk_at "b"
 refine jH (xs:=ws) (enc:=D.int) (λ n=>.str (nS n)) %[|1] ?_ ?_
 . intro i n hn Q hq
   walk_at "b"
   exact⟨n6 (hP.1.2 n (y9 hn)),hq⟩
 refine⟨_,_,rfl,rfl,by rw[x6];simp only[List.length_cons,List.length_nil];omega,?_⟩
 refine⟨_,hdT ws,rfl,by show some _=some _;unfold hdT;rw[List.map_cons,List.map_map];rfl,mY (jh hP.1).1 (jh hP.1).2 %[|7],?_⟩
 walk_at "b"
 refine cG ⟨λ i G T=>∃o2 o3 o4 o5 o6 o7 o8 o9 o10 o11 o12:Option D,G=[some (dPv ws nss),%[|65],o2,o3,o4,o5,o6,o7,o8,o9,o10,o11,o12]/\T=S++[D.str (liS (hdT ws))::(gF (nss.take i)).map dLt],⟨_,_,_,_,_,_,_,_,_,_,_,rfl,rfl⟩,?_,?_⟩
 . rintro i e G T he ⟨o2,o3,o4,o5,o6,o7,o8,o9,o10,o11,o12,rfl,rfl⟩
   obtain⟨n,hx,rfl,ht⟩:=j6 he
   have hnb:=hP.2.2 n (y9 hx)
   have hm:=Ih (nss:=nss.take i) λ n h=>hP.2.2 n (List.mem_of_mem_take h)
   rw[List.length_take]at hm
   have:=hP.2.1
   refine⟨rfl,?_⟩
   refine nsL n _ _ _ _ _ _ _ _ _ _ _ hnb (by rw[List.length_cons,x6];omega) λ o4 o5 o6 o7 o8 o9 o10 o11 o12=>?_
   refine⟨_,_,_,_,_,_,_,_,_,_,_,rfl,?_⟩
   rw[ht]
   unfold gF
   rw[List.flatMap_append,List.map_append,show List.flatMap iD [n]=iD n from List.append_nil _]
   rfl
 . rintro G T ⟨o2,o3,o4,o5,o6,o7,o8,o9,o10,o11,o12,rfl,rfl⟩
   rw[x6,List.take_length]
   walk_at "b"
   have e:D.str (liS (hdT ws))::(gF nss).map dLt=(PT ws nss).map D.str:=by
    unfold PT
    rw[List.map_cons,List.map_map];rfl
   rw[e]
   exact hw
def zp:Ct:=λ ds S W=>∃k:Nat,ds=[.loc k]/\Pen S k/\flat S/\∀ws nss S',P3 ws nss->Upd S k S'->Pen S' k->flat S'->W (dPv ws nss) S'
theorem Tu(n:Nv):aq (dNv n)=true:=by
 show(ao (n.1.map dLq)&&(ao (n.2.map dDq)&&true))=true
 rw[aL Ao,aL Uc];rfl
theorem M6(ws:%[|6])(nss:List Nv):aq (dPv ws nss)=true:=by
 show(ao (ws.map D.int)&&(ao (nss.map dNv)&&true))=true
 rw[CG,aL Tu];rfl
theorem zrs(j:Nat):(List.replicate j [D.int 0]).flatten=(List.replicate j (0:Int)).map D.int:=by
 induction j with
 | zero=>rfl
 | succ j ih=>rw[List.replicate_succ,List.flatten_cons,ih,List.replicate_succ];rfl
theorem dH{x:List D}{n:Nat}(h:n=S.length):(S++x::J)[n]? =some x:=by subst h;simp
theorem ud{x y:List D}{n:Nat}(h:n=S.length):(S++x::J).set n y=S++y::J:=by subst h;simp
theorem iK{x:List D}(h1:flat S)(hx:ao x=true)(h2:flat J):flat (S++x::J):=λ l hl=>by
 rcases ZK.mp hl with hl | hl
 . exact h1 l hl
 . rcases ZJ.mp hl with rfl | hl
   . exact hx
   . exact h2 l hl
theorem yD (F:Fun Ω.K "_law_program" "_law_program" jA f fd)(N0:%[|14])(B:%[|5])(Cq16:Cal Ω "_law_take" 2 2 bI)(Cq5:Cal Ω "_law_deed" 5 3 zO):Ok Ω 6 f fd BV zp:=by
 refine aD N0 (N:=BZ) F (Bl.drp (Cu B Cq16 Cq5)) %[|15] ?_
 rintro ds S W ⟨k,rfl,hp,hS,hw⟩ hl
 walk_at "b"
 refine au hp %[|2] %[|2] λ v S1 v0 v1 u1 p1=>?_
 walk_at "b"
 refine⟨%[|54],mF (λ _ y=>∃n:Int,y=.int n/\(1≤n/\n≤2)) (λ S'=>Upd S k S'/\Pen S' k) (by rw[aJ];omega) ⟨u1,p1⟩ ?_ ?_⟩
 . rintro i e S' he ⟨u,p⟩ R hR
   walk_at "b"
   refine au p %[|2] %[|2] λ w S2 w0 w1 u2 p2=>?_
   walk_at "b"
   exact hR _ _ ⟨_,rfl,%[|1],%[|1]⟩ ⟨u.trans u2,p2⟩
 rintro ys S2 hlen hys ⟨u2,p2⟩
 obtain⟨ws,rfl,hws⟩:=Gq hys
 rw[aJ,x6]at hlen
 have hW:W3 ws:=⟨%[|54],hws⟩
 walk_at "b"
 refine au (p2.app _) %[|2] %[|2] λ m T m0 m1 u3 p3=>?_
 obtain⟨S3,rfl,u3,p3⟩:=u3.split p2
 have u3:=u2.trans u3
 walk_at "b"
 have fA:∀{A0 A:Store},flat A0->Upd A0 k A->flat A:=λ h u=>u.flat h
 rw[show List.length S2=S.length from u2.len]
 refine⟨%[|54],cG ⟨λ i G T=>∃(nss:List Nv) (S4 J:Store) (o3 o4 o5 o6 o7:Option D),nss.length=i/\(∀n∈nss,N4 n)/\G=[some (.loc k),some (dFq ws),%[|65],o3,o4,o5,o6,o7]/\T=S4++(nss.map dNv)::J/\flat J/\Upd S k S4/\Pen S4 k,⟨[],S3,[],_,_,_,_,_,rfl,(λ r hr=>nomatch hr),rfl,rfl,(λ l h=>nomatch h),u3,p3⟩,?_,?_⟩⟩
 . rintro i e G T he ⟨nss,S4,J,o3,o4,o5,o6,o7,rfl,hg,rfl,rfl,hJ,u4,p4⟩
   have hi:=(z0.mp he).1
   rw[aJ]at hi
   have f0:flat (S4++(nss.map dNv)::J):=iK (u4.flat hS) (aL Tu _) hJ
   have p0:Pen (S4++(nss.map dNv)::J) k:=p4.app _
   have back:∀A,Upd (S4++(nss.map dNv)::J) k A->∃S5,A=S5++(nss.map dNv)::J/\Upd S k S5/\Pen S5 k:=λ A u=>by
    obtain⟨S5,rfl,u5,p5⟩:=u.split p4
    exact⟨S5,rfl,u4.trans u5,p5⟩
   generalize hA:S4++(nss.map dNv)::J=A0 at*
   refine yf ?_
   simp only[List.set_cons_succ,List.set_cons_zero]
   walk_at "b"
   refine au (p0.app _) %[|2] %[|2] λ w T w0 w1 u5 p5=>?_
   obtain⟨A1,rfl,u5,p5⟩:=u5.split p0
   walk_at "b"
   refine⟨%[|54],cG ⟨λ j G T=>∃(ls:List Lq) (A:Store) (o5 o6:Option D),ls.length=j/\(∀l∈ls,L3 l)/\G=[some (.loc k),some (dFq ws),%[|65],some e,some (.loc A0.length),o5,o6,o7]/\T=A++[ls.map dLq]/\Upd A0 k A/\Pen A k,⟨[],A1,_,_,rfl,(λ r hr=>nomatch hr),rfl,rfl,u5,p5⟩,?_,?_⟩⟩
   . rintro j e' G T he' ⟨ls,A,o5,o6,rfl,hL,rfl,rfl,u6,p6⟩
     obtain⟨hj,rfl⟩:=oN he'
     refine yf ?_
     simp only[List.set_cons_succ,List.set_cons_zero]
     walk_at "b"
     refine au (p6.app _) %[|2] %[|2] λ lo T l0 l1 u7 p7=>?_
     obtain⟨A2,rfl,u7,p7⟩:=u7.split p6
     have ez:(0+(ls.length:Int)).toNat=ls.length:=%[|1]
     have zl:(List.replicate (0+(ls.length:Int)).toNat [D.int 0]).flatten.length≤10:=by
      rw[ez,zrs,x6,List.length_replicate];omega
     walk_at "b"
     refine⟨%[|54],by rw[ez];simp only[List.length_cons,List.length_nil];omega,?_⟩
     refine⟨by simp only[List.length_cons,List.length_nil];omega,?_⟩
     walk_at "b"
     refine au (p7.app _) %[|2] %[|2] λ h T h0 h1 u8 p8=>?_
     obtain⟨A3,rfl,u8,p8⟩:=u8.split p7
     walk_at "b"
     refine⟨%[|54],by rw[ez];simp only[List.length_cons,List.length_nil];omega,?_⟩
     refine⟨by simp only[List.length_cons,List.length_nil];omega,?_⟩
     walk_at "b"
     have u9:=(u6.trans u7).trans u8
     rw[ez,zrs]
     refine⟨_,dH (J:=[]) u9.len.symm,by rw[x6];omega,?_⟩
     rw[ud (J:=[]) u9.len.symm]
     have hd:Sm3 (lo-2+h+if decide (0+(ls.length:Int)=0)=true then 1 else 0):=by
      unfold Sm3
      split<;>omega
     have h0s:∀n∈List.replicate ls.length (0:Int),Sm3 n:=λ n hn=>by rw[List.eq_of_mem_replicate hn];exact⟨%[|2],%[|2]⟩
     generalize (lo-2+h+if decide (0+(ls.length:Int)=0)=true then 1 else 0)=hh at*
     refine⟨ls++[((lo-2)::List.replicate ls.length 0,hh::List.replicate ls.length 0)],A3,_,_,by simp,λ l hl=>?_,rfl,?_,u9,p8⟩
     . rcases ZK.mp hl with hl | hl
       . exact hL l hl
       . rw[ZL.mp hl]
         refine⟨⟨⟨by simp,by simp;omega⟩,λ n hn=>?_⟩,⟨by simp,by simp;omega⟩,λ n hn=>?_⟩
         . rcases ZJ.mp hn with rfl | hn
           . exact%[|54]
           . exact h0s n hn
         . rcases ZJ.mp hn with rfl | hn
           . exact hd
           . exact h0s n hn
     . rw[List.map_append];rfl
   . rintro G T ⟨ls,A,o5,o6,hls,hL,rfl,rfl,u6,p6⟩
     rw[aJ]at hls
     have fl1:flat (A++[ls.map dLq]):=iK (J:=[]) (u6.flat f0) (aL Ao _) (λ l h=>nomatch h)
     have eL:(ls.map dLq).length=ls.length:=x6 _
     walk_at "b"
     refine au (p6.app _) %[|2] %[|2] λ y T y0 y1 u7 p7=>?_
     obtain⟨A2,rfl,u7,p7⟩:=u7.split p6
     have u8:=u6.trans u7
     walk_at "b"
     refine⟨%[|54],mF (λ _ y=>∃x:Dq,y=dDq x/\D3 x) (λ T=>∃A,T=A++[ls.map dLq]/\Upd A0 k A/\Pen A k) (by rw[aJ];omega) ⟨A2,rfl,u8,p7⟩ ?_ ?_⟩
     . rintro i2 e2 T he2 ⟨A,rfl,u,p⟩ R hR
       have fl2:flat (A++[ls.map dLq]):=iK (J:=[]) (u.flat f0) (aL Ao _) (λ l h=>nomatch h)
       walk_at "b"
       refine⟨_,dH (J:=[]) u.len.symm,?_⟩
       refine⟨rfl,k,ls.length,ws,by rw[eL],p.app _,fl2,%[|1],hW,λ x T2 hx u9 p9 f9=>?_⟩
       obtain⟨A4,rfl,u9,p9⟩:=u9.split p
       exact hR _ _ ⟨x,rfl,hx⟩ ⟨A4,rfl,u.trans u9,p9⟩
     . rintro ys T hlen3 hys ⟨A,rfl,u,p⟩
       obtain⟨E,rfl,hE⟩:=rR (f:=dDq) hys
       rw[aJ,x6]at hlen3
       obtain⟨S5,eA,u10,p10⟩:=back A u
       walk_at "b"
       refine⟨_,dH (J:=[]) u.len.symm,?_⟩
       walk_at "b"
       rw[eA,List.append_assoc]
       refine⟨_,dH u10.len.symm,by rw[x6];omega,?_⟩
       rw[show S5++(List.map dNv nss::J++[List.map dLq ls])=S5++(nss.map dNv)::(J++[List.map dLq ls])from rfl,ud u10.len.symm]
       refine⟨nss++[(ls,E)],S5,J++[ls.map dLq],_,_,_,_,_,by simp,λ n hn=>?_,rfl,?_,?_,u10,p10⟩
       . rcases ZK.mp hn with hn | hn
         . exact hg n hn
         . rw[ZL.mp hn]
           exact⟨⟨⟨by show 1≤ls.length;omega,by show ls.length≤3;omega⟩,hL⟩,⟨by show 1≤E.length;omega,by show E.length≤4;omega⟩,hE⟩
       . rw[List.map_append];rfl
       . intro l hl
         rcases ZK.mp hl with hl | hl
         . exact hJ l hl
         . rw[ZL.mp hl];exact aL Ao _
 . rintro G T ⟨nss,S4,J,o3,o4,o5,o6,o7,hlen2,hg,rfl,rfl,hJ,u4,p4⟩
   rw[aJ]at hlen2
   walk_at "b"
   refine⟨_,dH u4.len.symm,?_⟩
   walk_at "b"
   exact .inr ⟨(nss.map dNv)::J,S4,rfl,by rw[u4.len];exact x9 _,M6 ws nss,u4.flat hS,hw ws nss S4 ⟨hW,%[|54],hg⟩ u4 p4 (u4.flat hS)⟩
theorem Vr(l:Lq):deep (dLq l)≤2:=by
 have:=qm l.1
 have:=qm l.2
 show max (deep (dFq l.1)) (max (deep (dFq l.2)) 0)+1≤2
 omega
theorem Vk(x:Dq):deep (dDq x)≤5:=by
 have:=Nr x.c.2
 have:=qm x.st
 have:=dpq Nb x.rds
 show max 0 (max (deep (dPq x.c.2)) (max (deep (dFq x.st)) (max (aM (x.rds.map dRq)+1) 0)))+1≤5
 omega
theorem WR(n:Nv):deep (dNv n)≤7:=by
 have:=dpq Vr n.1
 have:=dpq Vk n.2
 show max (aM (n.1.map dLq)+1) (max (aM (n.2.map dDq)+1) 0)+1≤7
 omega
theorem VF(ws:%[|6])(nss:List Nv):deep (dPv ws nss)≤50:=by
 have:=qm ws
 have:=dpq WR nss
 show max (deep (dFq ws)) (max (aM (nss.map dNv)+1) 0)+1≤50
 omega
theorem V5(l:Lq):okD (dLq l)=true:=by
 show(okD (dFq l.1)&&(okD (dFq l.2)&&true))=true
 rw[qt,qt];rfl
theorem Wj(x:Dq):okD (dDq x)=true:=by
 show(true&&(okD (dPq x.c.2)&&(okD (dFq x.st)&&(cA (x.rds.map dRq)&&true))))=true
 rw[MJ,qt,okq Mz];rfl
theorem Wy(n:Nv):okD (dNv n)=true:=by
 show(cA (n.1.map dLq)&&(cA (n.2.map dDq)&&true))=true
 rw[okq V5,okq Wj];rfl
theorem Vo(ws:%[|6])(nss:List Nv):okD (dPv ws nss)=true:=by
 show(okD (dFq ws)&&(cA (nss.map dNv)&&true))=true
 rw[qt,okq Wy];rfl
def due(ws:%[|6])(nss:List Nv):D:=nu (dFq ws) (.tup (nss.map dNv))
theorem kY(ws:%[|6])(nss:List Nv):due ws nss=dPv ws nss∨due ws nss=.str "too many"∨due ws nss=.str "no program":=by
 unfold due nu
 split
 . exact .inl rfl
 . split
   . exact .inr (.inl rfl)
   . exact .inr (.inr rfl)
theorem qg(ws:%[|6])(nss:List Nv):aq (due ws nss)=true/\deep (due ws nss)≤50/\okD (due ws nss)=true:=by
 rcases kY ws nss with h | h | h<;>rw[h]
 . exact⟨M6 ws nss,VF ws nss,Vo ws nss⟩
 . exact⟨rfl,%[|2],rfl⟩
 . exact⟨rfl,%[|2],rfl⟩
theorem JK(ws:%[|6])(nss:List Nv)(S:Store):vw S (due ws nss)=due ws nss:=by
 rcases kY ws nss with h | h | h<;>rw[h]<;>rfl
theorem Q9{nss:List Nv}{W:%[|28]}(w:W false S):aK .In (due ws nss) (.lst [.str "other",.str "no text"]) S W:=by
 refine cIn (ds:=[.str "other",.str "no text"]) rfl (by rw[JK];exact(qg ws nss).2.2) rfl %[|2] ?_
 rw[JK]
 rcases kY ws nss with h | h | h<;>rw[h]
 . exact w
 . have:([D.str (Str.ofString "other"),D.str (Str.ofString "no text")].any λ d=>eqD d (.str (Str.ofString "too many")))=false:=%[|7]
   rw[this];exact w
 . have:([D.str (Str.ofString "other"),D.str (Str.ofString "no text")].any λ d=>eqD d (.str (Str.ofString "no program")))=false:=%[|7]
   rw[this];exact w
theorem R9{nss:List Nv}{W:%[|28]}(w:W true S):aK .Eq (due ws nss) (due ws nss) S W:=by
 have h:=qg ws nss
 rcases kY ws nss with e | e | e
 . rw[e]at h ⊢
   have q:=j7 (dPv ws nss) h.1
   unfold aK
   exact⟨⟨h.2.2,h.2.2,h.2.1⟩,by show W (eqD (dPv ws nss) (dPv ws nss)) S;rw[q];exact w⟩
 . rw[e];exact bV (by rw[beq_self_eq_true];exact w)
 . rw[e];exact bV (by rw[beq_self_eq_true];exact w)
theorem JS{ls:%[|0]}{v:Int}(h0:0≤v)(h1:v<(ls.length:Int)):∃s,s∈ls/\atI (ls.map D.str) v=some (.str s):=by
 obtain⟨y,g1,g2⟩:=yL (ds:=ls.map D.str) h0 (by rw[x6];exact h1)
 obtain⟨s,hs,rfl⟩:=ZO.mp (y9 g2)
 exact⟨s,hs,g1⟩
theorem DG(ls:%[|0]):ao (ls.map D.str)=true:=aL (λ _=>rfl) ls
theorem P3.up{nss:List Nv}(h:P3 ws nss):PBd ws nss:=⟨⟨by have:=h.1.1.2;omega,h.1.up⟩,by have:=h.2.1.2;omega,λ n hn=>(h.2.2 n hn).up⟩
theorem Hu{nss:List Nv}(h:PBd ws nss)(hS:flat S)(w:W (due ws nss) S):n8 [.int 0,.str (Txt.join "\n" (PT ws nss)),.non] S W:=by
 have hw:=kZ h
 refine⟨0,_,_,rfl,hS,.inr ⟨rfl,_,rfl,Nat.le_trans (jJ hw.1 hw.2) %[|7],.inr ⟨ws,_,Rr h.1.2 h.2.2,?_⟩⟩⟩
 rw[Wz];exact w
theorem Nt{nss:List Nv}(h:PBd ws nss):JoinOk "\n" (PT ws nss)=true:=mY (kZ h).1 (kZ h).2 %[|7]
theorem Oi(h:asc s)(hz:s.length≤1600):∀b∈sp5 s,b.length≤1601:=λ b hb=>by
 have k1:(Str.ofString " ").length=1:=%[|7]
 have k2:(Str.ofString "x").length=1:=%[|7]
 have k3:%[|38].length=1:=%[|7]
 have k4:(Str.ofString "").length=0:=%[|7]
 have k5:=vL λ c hc=>(h c hc).2
 simp only[sp5,List.mem_cons,List.not_mem_nil,or_false]at hb
 rcases hb with rfl | rfl | rfl | rfl | rfl
 . rw[len_app];omega
 . rw[len_app];omega
 . omega
 . rw[len_app];omega
 . omega
theorem Tr(F:Fun Ω.K "law" "law" jY f fd)(N0:%[|14])(B:%[|5])(Cq13:Cal Ω "_law_pen" 2 1 M8)(Cq16:Cal Ω "_law_take" 2 2 bI)(Cq14:Cal Ω "_law_program" 6 1 zp)(Cq0:Cal Ω "_law_bent" 7 2 Av)(Cq10:Cal Ω "_law_lines" 3 1 Jy)(Cq17:Cal Ω "_law_told" 12 3 n8):Ok Ω 13 f fd Np mX:=by
 refine aD N0 (N:=Vq) F (VH B Cq13 Cq16 Cq14 Cq0 Cq10 Cq17) %[|15] ?_
 rintro ds S W ⟨ns,rfl,hn,hw,rfl⟩ hl
 walk_at "b"
 refine⟨rfl,ns,rfl,hn,λ a c n m z ha=>?_⟩
 have hp0:Pen [iR ns a c n m z] 0:=⟨ns,a,c,n,m,z,rfl,ha⟩
 have hf0:flat [iR ns a c n m z]:=λ l h=>by
  rw[ZL.mp h]
  have e:aq (D.lst (ns.map .int))=true:=vA ns
  show ao [D.lst (ns.map .int),.int a,.int c,.int n,.int m,.int z]=true
  simp only[ao,e,Bool.and_true];rfl
 generalize iR ns a c n m z=pn at*
 walk_at "b"
 refine⟨rfl,0,rfl,hp0,hf0,λ ws nss S1 hP u1 p1 f1=>?_⟩
 walk_at "b"
 refine⟨⟨%[|2],%[|2]⟩,cG ⟨λ i G T=>∃o3 o4 o5 o6 o7:Option D,G=[some (.lst (ns.map D.int)),some (.loc 0),some (dPv ws nss),o3,o4,o5,o6,o7]/\Pen T 0/\flat T,⟨_,_,_,_,_,rfl,p1,f1⟩,?_,?_⟩⟩
 . rintro i e G T he ⟨o3,o4,o5,o6,o7,rfl,p2,f2⟩
   refine yf ?_
   simp only[List.set_cons_succ,List.set_cons_zero]
   walk_at "b"
   refine⟨rfl,0,ws,nss,rfl,p2,hP,λ vs mss T2 hB u3 p3=>?_⟩
   have f3:=u3.flat f2
   have hPT:=kZ hB
   have eP:((PT vs mss).map D.str).length=(PT vs mss).length:=x6 _
   have l1:1≤(PT vs mss).length:=by unfold PT;simp
   walk_at "b"
   refine⟨rfl,vs,mss,rfl,hB,?_⟩
   have fl:∀{A:Store}{ls:%[|0]},flat A->flat (A++[ls.map D.str]):=λ h=>iK (J:=[]) h (DG _) (λ l h=>nomatch h)
   walk_at "b"
   refine⟨rfl,1,_,_,rfl,fl f3,.inl ⟨%[|2],?_⟩⟩
   walk_at "b"
   refine Q9 ?_
   walk_at "b"
   refine⟨_,PT vs mss,rfl,aU _ _,Nt hB,?_⟩
   refine⟨rfl,Hu hB (fl f3) ?_⟩
   walk_at "b"
   refine NT (qg vs mss).1 (qg vs mss).2.1 ?_
   walk_at "b"
   refine⟨_,aU _ _,?_⟩
   refine au (p3.app _) (by rw[eP];omega) (by rw[eP];omega) λ b T3 b0 b1 u4 p4=>?_
   rw[eP]at b1
   obtain⟨T3,rfl,u4,p4⟩:=u4.split p3
   have f4:=u4.flat f3
   obtain⟨b,rfl⟩:=Int.eq_ofNat_of_zero_le b0
   have hb:b<(PT vs mss).length:=%[|1]
   obtain⟨s,hs⟩:∃s,(PT vs mss)[b]? =some s:=⟨_,y8 hb⟩
   have hsm:=y9 hs
   have has:=qN hB.2.2 s hsm
   have hsl:=hPT.1 s hsm
   have g1:(T3++[(PT vs mss).map D.str])[T2.length]? =some ((PT vs mss).map D.str):=dH (J:=[]) u4.len.symm
   have g2:atI ((PT vs mss).map D.str) (b:Int)=some (.str s):=aA (j:=b) (by rw[x8,hs];rfl)
   have k1:(Str.ofString " ").length=1:=%[|7]
   have k2:(Str.ofString "x").length=1:=%[|7]
   have k3:%[|38].length=1:=%[|7]
   walk_at "b"
   refine⟨_,_,g1,g2,?_⟩
   refine⟨_,_,rfl,rfl,%[|1],?_⟩
   walk_at "b"
   refine⟨_,_,g1,g2,?_⟩
   refine⟨_,_,rfl,rfl,%[|1],?_⟩
   walk_at "b"
   refine⟨_,_,g1,g2,?_⟩
   refine⟨s,rfl,?_,?_⟩
   . rw[vL λ c hc=>(has c hc).2]
     unfold Builtin.Str.tooLong
     have h24:(2:Nat) ^ 24≤sizeLine:=%[|2]
     exact ZH (by omega)
   walk_at "b"
   refine⟨_,_,g1,g2,?_⟩
   refine⟨_,_,rfl,rfl,%[|1],?_⟩
   walk_at "b"
   refine au (p4.app _) %[|2] %[|2] λ q T4 q0 q1 u5 p5=>?_
   obtain⟨T4,rfl,u5,p5⟩:=u5.split p4
   obtain⟨t,ht,g3⟩:=JS (ls:=sp5 s) q0 q1
   walk_at "n"
   refine⟨_,g3,?_⟩
   walk_at "b"
   have u6:=u4.trans u5
   have hset:∀x∈(PT vs mss).set b t,x.length≤1601:=λ x hx=>by
    rcases List.mem_or_eq_of_mem_set hx with hx | rfl
    . exact Nat.le_trans (hPT.1 x hx) %[|2]
    . exact Oi has hsl _ ht
   have hsn:((PT vs mss).set b t).length≤201:=by rw[List.length_set];exact hPT.2
   refine⟨_,b,dH (J:=[]) u6.len.symm,by rw[eP];unfold L2.ixN;simp;omega,?_⟩
   rw[ud (J:=[]) u6.len.symm,←List.map_set]
   walk_at "b"
   refine⟨_,(PT vs mss).set b t,rfl,dH (J:=[]) u6.len.symm,mY hset hsn %[|7],?_⟩
   walk_at "b"
   refine⟨rfl,0,_,_,rfl,fl (u6.flat f3),.inr ⟨rfl,_,rfl,Nat.le_trans (jJ hset hsn) %[|7],.inl ⟨Od hB.2.2 hs ht,?_⟩⟩⟩
   walk_at "b"
   refine Gr ?_
   rw[beq_self_eq_true]
   walk_at "b"
   exact⟨_,_,_,_,_,rfl,p5.app _,fl (u6.flat f3)⟩
 . rintro G T ⟨o3,o4,o5,o6,o7,rfl,p2,f2⟩
   have hB:=hP.up
   have fl:∀{A:Store}{ls:%[|0]},flat A->flat (A++[ls.map D.str]):=λ h=>iK (J:=[]) h (DG _) (λ l h=>nomatch h)
   walk_at "b"
   refine⟨rfl,ws,nss,rfl,hB,?_⟩
   refine⟨_,PT ws nss,rfl,aU _ _,Nt hB,?_⟩
   walk_at "b"
   refine⟨rfl,Hu hB (fl f2) ?_⟩
   walk_at "b"
   refine⟨rfl,1,_,_,rfl,fl f2,.inl ⟨%[|2],?_⟩⟩
   walk_at "b"
   refine R9 ?_
   exact hw _
end K54
namespace K54
open PySem PySem.Spec L2 DL RF XE
open PyProof.Rows
variable {Ω : Wd} {f : Addr} {fd : FuncData}
theorem by1{G:%[|11]->Prop}(h:∀a0:Value,G [a0])(us:%[|11])(e:us.length=1):G us:=by
 obtain⟨a0,us,rfl⟩:=List.exists_cons_of_length_eq_add_one e
 replace e:=Nat.succ.inj e
 obtain rfl:=List.eq_nil_of_length_eq_zero e
 exact h a0
theorem by2{G:%[|11]->Prop}(h:∀a0 a1:Value,G [a0,a1])(us:%[|11])(e:us.length=2):G us:=by
 obtain⟨a0,us,rfl⟩:=List.exists_cons_of_length_eq_add_one e
 replace e:=Nat.succ.inj e
 obtain⟨a1,us,rfl⟩:=List.exists_cons_of_length_eq_add_one e
 replace e:=Nat.succ.inj e
 obtain rfl:=List.eq_nil_of_length_eq_zero e
 exact h a0 a1
theorem by3{G:%[|11]->Prop}(h:∀a0 a1 a2:Value,G [a0,a1,a2])(us:%[|11])(e:us.length=3):G us:=by
 obtain⟨a0,us,rfl⟩:=List.exists_cons_of_length_eq_add_one e
 replace e:=Nat.succ.inj e
 obtain⟨a1,us,rfl⟩:=List.exists_cons_of_length_eq_add_one e
 replace e:=Nat.succ.inj e
 obtain⟨a2,us,rfl⟩:=List.exists_cons_of_length_eq_add_one e
 replace e:=Nat.succ.inj e
 obtain rfl:=List.eq_nil_of_length_eq_zero e
 exact h a0 a1 a2
theorem by4{G:%[|11]->Prop}(h:∀a0 a1 a2 a3:Value,G [a0,a1,a2,a3])(us:%[|11])(e:us.length=4):G us:=by
 obtain⟨a0,us,rfl⟩:=List.exists_cons_of_length_eq_add_one e
 replace e:=Nat.succ.inj e
 obtain⟨a1,us,rfl⟩:=List.exists_cons_of_length_eq_add_one e
 replace e:=Nat.succ.inj e
 obtain⟨a2,us,rfl⟩:=List.exists_cons_of_length_eq_add_one e
 replace e:=Nat.succ.inj e
 obtain⟨a3,us,rfl⟩:=List.exists_cons_of_length_eq_add_one e
 replace e:=Nat.succ.inj e
 obtain rfl:=List.eq_nil_of_length_eq_zero e
 exact h a0 a1 a2 a3
def FI(K:PySem.W.Frag)(x:Str)(t:Stmt):Prop:=∃(f:Addr) (oc:Value) (od:Option Addr) (kV dc pm:Value) (an:Option Addr) (cd ct:Value) (sl:Array (Option Value)),PySem.W.nsIn K mainGlobals x=some (some (.ref f))/\K.lookup f=some ⟨oc,od,.func (PySem.W.fnOf x x (fC t) (bu t) (ak t) .none kV dc pm an cd ct),sl⟩/\PySem.W.codeIn K cd x=true/\PySem.W.keepIn K (.ref f)=true
theorem FI.mk{K:PySem.W.Frag}{x:Str}{t:Stmt}{f:Addr}{oc:Value}{od:Option Addr}{kV dc pm:Value}{an:Option Addr}{cd ct:Value}{sl:Array (Option Value)}(a:PySem.W.nsIn K mainGlobals x=some (some (.ref f)))(l:K.lookup f=some ⟨oc,od,.func (PySem.W.fnOf x x (fC t) (bu t) (ak t) .none kV dc pm an cd ct),sl⟩)(c:PySem.W.codeIn K cd x=true)(k:PySem.W.keepIn K (.ref f)=true):FI K x t:=⟨f,oc,od,kV,dc,pm,an,cd,ct,sl,a,l,c,k⟩
abbrev FU(Ω:Wd)(x:Str)(t:Stmt):Prop:=∃f fd,Fun Ω.K x x t f fd/\Ω.mg x=some (.ref f)
theorem FI.use{Ω:Wd}{h:Heap}{x:Str}{t:Stmt}(X:Ω.K.In h)(G:h.Ns mainGlobals Ω.mg)(q:FI Ω.K x t):FU Ω x t:=by
 obtain⟨f,oc,od,kV,dc,pm,an,cd,ct,sl,a,l,c,k⟩:=q
 exact⟨f,_,Jd (st:=t) l c k,PySem.W.mg_of X G a⟩
theorem U3{Ω:Wd}(B:%[|5])(E:%[|27])
(u0:FU Ω "_law_cell_at" jw)
(u1:FU Ω "_law_pen" uW)
(u2:FU Ω "_law_take" pO)
(u3:FU Ω "_law_form" pM)
(u4:FU Ω "_law_cell" pW)
(u5:FU Ω "_law_deed" oX)
(u6:FU Ω "_law_program" jA)
(u7:FU Ω "_law_number" kj)
(u8:FU Ω "_law_row" uK)
(u9:FU Ω "_law_form_bent" gG)
(u10:FU Ω "_law_cell_bent" gf)
(u11:FU Ω "_law_deed_bent" gr)
(u12:FU Ω "_law_loops_bent" fG)
(u13:FU Ω "_law_bent" oZ)
(u14:FU Ω "_law_form_text" gk)
(u15:FU Ω "_law_cell_text" gq)
(u16:FU Ω "_law_lines" lG)
(u17:FU Ω "is_whole" iI)
(u18:FU Ω "is_tuple_of" eF)
(u19:FU Ω "is_widths" fZ)
(u20:FU Ω "is_form" jy)
(u21:FU Ω "is_bound" iz)
(u22:FU Ω "is_loop" jq)
(u23:FU Ω "is_loops" ir)
(u24:FU Ω "has_few_figures" cu)
(u25:FU Ω "is_start" iT)
(u26:FU Ω "is_place_form" cV)
(u27:FU Ω "is_table_with_place" bB)
(u28:FU Ω "is_read" jm)
(u29:FU Ω "is_reads" iB)
(u30:FU Ω "is_deed" jl)
(u31:FU Ω "is_nest" jr)
(u32:FU Ω "is_nests" iG)
(u33:FU Ω "comes_to" iQ)
(u34:FU Ω "with_next_count" cj)
(u35:FU Ω "counts_of" gw)
(u36:FU Ω "number_of_steps" cz)
(u37:FU Ω "program_of" fD)
(u38:FU Ω "without_sign" dB)
(u39:FU Ω "is_number" gA)
(u40:FU Ω "number_read" dU)
(u41:FU Ω "form_read" gB)
(u42:FU Ω "refuse_other_words" bL)
(u43:FU Ω "loop_read" gJ)
(u44:FU Ω "cell_read" gb)
(u45:FU Ω "deed_read" gH)
(u46:FU Ω "with_read" gm)
(u47:FU Ω "with_line" gD)
(u48:FU Ω "nests_read" eV)
(u49:FU Ω "widths_read" dY)
(u50:FU Ω "read" pg)
(u51:FU Ω "_law_told" pX)
{f:Addr}{fd:FuncData}(F:Fun Ω.K "law" "law" jY f fd)(N0:%[|14]):Ok Ω 13 f fd Np mX:=by
 obtain⟨_,_,F0,g0⟩:=u0
 have Cq2:=callee F0 (Be F0 N0 B) g0 %[|46]
 obtain⟨_,_,F0,g0⟩:=u1
 have Cq13:=callee F0 (Lf F0 N0 B Cq2) g0 %[|52]
 obtain⟨_,_,F0,g0⟩:=u2
 have Cq16:=callee F0 (G4 F0 N0 Cq2) g0 %[|46]
 obtain⟨_,_,F0,g0⟩:=u3
 have Cq7:=callee F0 (HY F0 N0 B Cq16) g0 (F0.binds λ _ _ _ _ _ _=>by3 λ _ _ _=>rfl)
 obtain⟨_,_,F0,g0⟩:=u4
 have Cq1:=callee F0 (Hr F0 N0 B Cq16 Cq7) g0 (F0.binds λ _ _ _ _ _ _=>by3 λ _ _ _=>rfl)
 obtain⟨_,_,F0,g0⟩:=u5
 have Cq5:=callee F0 (G9 F0 N0 B Cq16 Cq7 Cq1) g0 (F0.binds λ _ _ _ _ _ _=>by3 λ _ _ _=>rfl)
 obtain⟨_,_,F0,g0⟩:=u6
 have Cq14:=callee F0 (yD F0 N0 B Cq16 Cq5) g0 %[|52]
 obtain⟨_,_,F0,g0⟩:=u7
 have Cq12:=callee F0 (BW F0 N0 Cq16) g0 %[|46]
 obtain⟨_,_,F0,g0⟩:=u8
 have Cq15:=callee F0 (Lb F0 N0 B Cq16) g0 %[|46]
 obtain⟨_,_,F0,g0⟩:=u9
 have Cq8:=callee F0 (uh F0 N0 B Cq16 Cq12) g0 %[|46]
 obtain⟨_,_,F0,g0⟩:=u10
 have Cq3:=callee F0 (tM F0 N0 B Cq16 Cq8) g0 %[|46]
 obtain⟨_,_,F0,g0⟩:=u11
 have Cq6:=callee F0 (uM F0 N0 B Cq16 Cq12 Cq8 Cq3) g0 %[|46]
 obtain⟨_,_,F0,g0⟩:=u12
 have Cq11:=callee F0 (qF F0 N0 B Cq16 Cq15 Cq8) g0 %[|46]
 obtain⟨_,_,F0,g0⟩:=u13
 have Cq0:=callee F0 (Ij F0 N0 B Cq16 Cq12 Cq15 Cq6 Cq11) g0 %[|46]
 obtain⟨_,_,F0,g0⟩:=u14
 have Cq9:=callee F0 (tU F0 N0 B) g0 %[|52]
 obtain⟨_,_,F0,g0⟩:=u15
 have Cq4:=callee F0 (uZ F0 N0 Cq9) g0 %[|46]
 obtain⟨_,_,F0,g0⟩:=u16
 have Cq10:=callee F0 (Fv F0 N0 B Cq9 Cq4) g0 %[|52]
 obtain⟨_,_,F0,g0⟩:=u17
 have Cq38:=callee F0 (xu F0 N0 B) g0 %[|52]
 obtain⟨_,_,F0,g0⟩:=u18
 have Cq37:=callee F0 (pK F0 N0 B) g0 (F0.binds λ _ _ _ _ _ _=>by3 λ _ _ _=>rfl)
 obtain⟨_,_,F0,g0⟩:=u19
 have Cq39:=callee F0 (uB F0 N0 B Cq38 Cq37) g0 %[|52]
 obtain⟨_,_,F0,g0⟩:=u20
 have Cq26:=callee F0 (yR F0 N0 B Cq38 Cq37) g0 %[|46]
 obtain⟨_,_,F0,g0⟩:=u21
 have Cq24:=callee F0 (xM F0 N0 B Cq26) g0 %[|46]
 obtain⟨_,_,F0,g0⟩:=u22
 have Cq27:=callee F0 (yW F0 N0 Cq37 Cq24) g0 %[|46]
 obtain⟨_,_,F0,g0⟩:=u23
 have Cq28:=callee F0 (v9 F0 N0 B Cq37 Cq27) g0 %[|52]
 obtain⟨_,_,F0,g0⟩:=u24
 have Cq23:=callee F0 (kO F0 N0 B) g0 %[|52]
 obtain⟨_,_,F0,g0⟩:=u25
 have Cq35:=callee F0 (wI F0 N0 B Cq26 Cq23) g0 %[|46]
 obtain⟨_,_,F0,g0⟩:=u26
 have Cq32:=callee F0 (mC F0 N0 B Cq26) g0 %[|46]
 obtain⟨_,_,F0,g0⟩:=u27
 have Cq36:=callee F0 (iC F0 N0 B Cq38 Cq37 Cq32) g0 (F0.binds λ _ _ _ _ _ _=>by4 λ _ _ _ _=>rfl)
 obtain⟨_,_,F0,g0⟩:=u28
 have Cq33:=callee F0 (zJ F0 N0 Cq38 Cq37 Cq23 Cq36) g0 (F0.binds λ _ _ _ _ _ _=>by3 λ _ _ _=>rfl)
 obtain⟨_,_,F0,g0⟩:=u29
 have Cq34:=callee F0 (vY F0 N0 B Cq37 Cq33) g0 (F0.binds λ _ _ _ _ _ _=>by3 λ _ _ _=>rfl)
 obtain⟨_,_,F0,g0⟩:=u30
 have Cq25:=callee F0 (yE F0 N0 Cq37 Cq35 Cq36 Cq34) g0 (F0.binds λ _ _ _ _ _ _=>by3 λ _ _ _=>rfl)
 obtain⟨_,_,F0,g0⟩:=u31
 have Cq29:=callee F0 (zf F0 N0 B Cq37 Cq28 Cq25) g0 %[|46]
 obtain⟨_,_,F0,g0⟩:=u32
 have Cq30:=callee F0 (xT F0 N0 B Cq37 Cq29) g0 %[|46]
 obtain⟨_,_,F0,g0⟩:=u33
 have Cq19:=callee F0 (xH F0 N0 B) g0 %[|46]
 obtain⟨_,_,F0,g0⟩:=u34
 have Cq49:=callee F0 (j8 F0 N0 B Cq19) g0 (F0.binds λ _ _ _ _ _ _=>by3 λ _ _ _=>rfl)
 obtain⟨_,_,F0,g0⟩:=u35
 have Cq20:=callee F0 (tL F0 N0 Cq49) g0 %[|52]
 obtain⟨_,_,F0,g0⟩:=u36
 have Cq42:=callee F0 (kE F0 N0 B Cq20) g0 %[|52]
 obtain⟨_,_,F0,g0⟩:=u37
 have Cq44:=bD F0 (tu F0 N0 B E Cq39 Cq30 Cq42) g0 %[|46]
 obtain⟨_,_,F0,g0⟩:=u38
 have Cq51:=callee F0 (nO F0 N0) g0 %[|52]
 obtain⟨_,_,F0,g0⟩:=u39
 have Cq31:=callee F0 (uT F0 N0 B Cq51) g0 %[|52]
 obtain⟨_,_,F0,g0⟩:=u40
 have Cq43:=bD F0 (oM F0 N0 B E Cq31) g0 %[|52]
 obtain⟨_,_,F0,g0⟩:=u41
 have Cq22:=bD F0 (uz F0 N0 B E Cq43) g0 %[|52]
 obtain⟨_,_,F0,g0⟩:=u42
 have Cq46:=bD F0 (iY F0 N0 B E) g0 %[|46]
 obtain⟨_,_,F0,g0⟩:=u43
 have Cq40:=bD F0 (tO F0 N0 E Cq22 Cq46) g0 %[|52]
 obtain⟨_,_,F0,g0⟩:=u44
 have Cq18:=bD F0 (uC F0 N0 B E Cq22) g0 %[|52]
 obtain⟨_,_,F0,g0⟩:=u45
 have Cq21:=bD F0 (tR F0 N0 E Cq22 Cq18 Cq46) g0 %[|52]
 obtain⟨_,_,F0,g0⟩:=u46
 have Cq50:=bD F0 (uG F0 N0 E Cq43 Cq18 Cq46) g0 %[|46]
 obtain⟨_,_,F0,g0⟩:=u47
 have Cq48:=bD F0 (ur F0 N0 E Cq40 Cq21 Cq50) g0 %[|46]
 obtain⟨_,_,F0,g0⟩:=u48
 have Cq41:=bD F0 (qW F0 N0 B E Cq48) g0 %[|52]
 obtain⟨_,_,F0,g0⟩:=u49
 have Cq47:=bD F0 (oJ F0 N0 B E Cq43) g0 %[|52]
 obtain⟨_,_,F0,g0⟩:=u50
 have Cq45:=bD F0 (HS F0 N0 B E Cq44 Cq41 Cq47) g0 %[|52]
 obtain⟨_,_,F0,g0⟩:=u51
 have Cq17:=callee F0 (Iz F0 N0 B E Cq44 Cq45) g0 (F0.binds λ _ _ _ _ _ _=>by3 λ _ _ _=>rfl)
 exact Tr F N0 B Cq13 Cq16 Cq14 Cq0 Cq10 Cq17
theorem all_mk{l:PySem.W.OpenLaw}{w:World}{K:PySem.W.Frag}{h:Heap}{mg:%[|22]}{fa:Addr}(X:K.In h)(G:h.Ns mainGlobals mg)(hfa:mg "law"=some (.ref fa))(q:FI K "law" jY)
(q0:FI K "_law_cell_at" jw)
(q1:FI K "_law_pen" uW)
(q2:FI K "_law_take" pO)
(q3:FI K "_law_form" pM)
(q4:FI K "_law_cell" pW)
(q5:FI K "_law_deed" oX)
(q6:FI K "_law_program" jA)
(q7:FI K "_law_number" kj)
(q8:FI K "_law_row" uK)
(q9:FI K "_law_form_bent" gG)
(q10:FI K "_law_cell_bent" gf)
(q11:FI K "_law_deed_bent" gr)
(q12:FI K "_law_loops_bent" fG)
(q13:FI K "_law_bent" oZ)
(q14:FI K "_law_form_text" gk)
(q15:FI K "_law_cell_text" gq)
(q16:FI K "_law_lines" lG)
(q17:FI K "is_whole" iI)
(q18:FI K "is_tuple_of" eF)
(q19:FI K "is_widths" fZ)
(q20:FI K "is_form" jy)
(q21:FI K "is_bound" iz)
(q22:FI K "is_loop" jq)
(q23:FI K "is_loops" ir)
(q24:FI K "has_few_figures" cu)
(q25:FI K "is_start" iT)
(q26:FI K "is_place_form" cV)
(q27:FI K "is_table_with_place" bB)
(q28:FI K "is_read" jm)
(q29:FI K "is_reads" iB)
(q30:FI K "is_deed" jl)
(q31:FI K "is_nest" jr)
(q32:FI K "is_nests" iG)
(q33:FI K "comes_to" iQ)
(q34:FI K "with_next_count" cj)
(q35:FI K "counts_of" gw)
(q36:FI K "number_of_steps" cz)
(q37:FI K "program_of" fD)
(q38:FI K "without_sign" dB)
(q39:FI K "is_number" gA)
(q40:FI K "number_read" dU)
(q41:FI K "form_read" gB)
(q42:FI K "refuse_other_words" bL)
(q43:FI K "loop_read" gJ)
(q44:FI K "cell_read" gb)
(q45:FI K "deed_read" gH)
(q46:FI K "with_read" gm)
(q47:FI K "with_line" gD)
(q48:FI K "nests_read" eV)
(q49:FI K "widths_read" dY)
(q50:FI K "read" pg)
(q51:FI K "_law_told" pX)
 {t_ENOUGH_SIGNS:Tok}(z_ENOUGH_SIGNS:PySem.W.nsIn K mainGlobals "ENOUGH_SIGNS"=some (some (.int 99 t_ENOUGH_SIGNS)))
 {t_FIGURES:Tok}(z_FIGURES:PySem.W.nsIn K mainGlobals "FIGURES"=some (some (.str "0123456789" t_FIGURES)))
 (z_LETTERS:gtB K "LETTERS" ["a","b","c"]=true)
 {t_MOST_STEPS:Tok}(z_MOST_STEPS:PySem.W.nsIn K mainGlobals "MOST_STEPS"=some (some (.int 60 t_MOST_STEPS)))
 (z_abs:PySem.W.nsIn K mainGlobals "abs"=some none)
 (z_all:PySem.W.nsIn K mainGlobals "all"=some none)
 (z_bool:PySem.W.nsIn K mainGlobals "bool"=some none)
 (z_enumerate:PySem.W.nsIn K mainGlobals "enumerate"=some none)
 (z_int:PySem.W.nsIn K mainGlobals "int"=some none)
 (z_isinstance:PySem.W.nsIn K mainGlobals "isinstance"=some none)
 (z_len:PySem.W.nsIn K mainGlobals "len"=some none)
 (z_range:PySem.W.nsIn K mainGlobals "range"=some none)
 (z_str:PySem.W.nsIn K mainGlobals "str"=some none)
 (z_sum:PySem.W.nsIn K mainGlobals "sum"=some none)
 (z_tuple:PySem.W.nsIn K mainGlobals "tuple"=some none)
 (z_zip:PySem.W.nsIn K mainGlobals "zip"=some none)
 (z_ex:XL.all (KR K XT)=true)
 :∃fd:FuncData,(∀(s:Shared)(v:Value),BindsTo s fd ⟨[v],[]⟩ [("_law_script",v)])/\∀base:Heap,K.In base->base.Ns mainGlobals mg->FnOk l.prog w K mg base CX0 13 fa fd ["_law_script"] (spC K 1 mX):=by
 obtain⟨f,oc,od,kV,dc,pm,an,cd,ct,sl,a,l',c,k⟩:=q
 have e:=hfa.symm.trans (PySem.W.mg_of X G a)
 cases e
 refine⟨PySem.W.fnOf "law" "law" (fC jY) (bu jY) (ak jY) .none kV dc pm an cd ct,λ s v=>.of_eq rfl,λ base _ _=>?_⟩
 have B:Bi mg K:=⟨⟨_,PySem.W.mg_of X G z_ENOUGH_SIGNS⟩,⟨_,PySem.W.mg_of X G z_FIGURES⟩,U8 X G z_LETTERS,⟨_,PySem.W.mg_of X G z_MOST_STEPS⟩,PySem.W.mg_none_of X G z_abs,PySem.W.mg_none_of X G z_all,PySem.W.mg_none_of X G z_bool,PySem.W.mg_none_of X G z_enumerate,PySem.W.mg_none_of X G z_int,PySem.W.mg_none_of X G z_isinstance,PySem.W.mg_none_of X G z_len,PySem.W.mg_none_of X G z_range,PySem.W.mg_none_of X G z_str,PySem.W.mg_none_of X G z_sum,PySem.W.mg_none_of X G z_tuple,PySem.W.mg_none_of X G z_zip⟩
 have E:ExF mg K XL XT:=Tw X G z_ex
 exact U3 (Ω:=⟨_,w,K,mg,base,none⟩) B E (q0.use X G) (q1.use X G) (q2.use X G) (q3.use X G) (q4.use X G) (q5.use X G) (q6.use X G) (q7.use X G) (q8.use X G) (q9.use X G) (q10.use X G) (q11.use X G) (q12.use X G) (q13.use X G) (q14.use X G) (q15.use X G) (q16.use X G) (q17.use X G) (q18.use X G) (q19.use X G) (q20.use X G) (q21.use X G) (q22.use X G) (q23.use X G) (q24.use X G) (q25.use X G) (q26.use X G) (q27.use X G) (q28.use X G) (q29.use X G) (q30.use X G) (q31.use X G) (q32.use X G) (q33.use X G) (q34.use X G) (q35.use X G) (q36.use X G) (q37.use X G) (q38.use X G) (q39.use X G) (q40.use X G) (q41.use X G) (q42.use X G) (q43.use X G) (q44.use X G) (q45.use X G) (q46.use X G) (q47.use X G) (q48.use X G) (q49.use X G) (q50.use X G) (q51.use X G) (Jd (st:=jY) l' c k) rfl
end K54
local macro_rules|`(universe $[$x]*)=>do return Lean.mkNullNode (←x.mapM fun i=>do
 let n:=Lean.mkIdent (.mkSimple s!"tw{i.getId.toString.toList.tail.foldl (fun a c=>a*62+c.toNat-if c.isDigit then 48 else if c.isUpper then 55 else 61) 0}")
 `(def $n:ident:=()))
namespace PySem.W.Fast
universe u5HKZbIYsa8i u4ddTOMrVT0Q u7xC46OeV0GH uLlkYnvAexiO u5x1Ri2xrQhi u41R7mGPR35j uAlvoQKeEu6a u4togbqXPvEo uMxqveteGhk u5f8TvAWQ4AT uEeK4Wc4Bsx8 uHEIAU4dYIMT u3atOsoUb973 uGkJA3847Dz7 uDZ8EGeS0oZq u3DjvtXGyPKF uL6wwdmqCO9g uE7aBuoCBUu5 u5oRKJvCYmpt uETy434JIYKf u4LK75jOeSIF uJxjwXGAfOL0 u7nzd42exALI u4g2iPQHvs4O u218SIppTvfx u52z97t46ZV2 uAecBjh9rU3x uAgYZeNezKRP u4i1mY7LT3Zd u3GL0AJidHh4 u80nmK2Ad5s2 u6zCPLGsjjsE u5zPuMJLoF0P uH1ti7vz4Gfn uGcmerTLQVru uHwbVW6btDRR uHp2uHPJNOXX u1sLwPt3DaWi uH0ZtCgh8vlB uCyC9glHjAhc uGtDoPFaope9 u1gxq6tYPgHc uHFnQCE2XXrw u1KoryvBkW1y uAfsj7Yh9Upr uJdkNujznDl6 uDfsOeo7iSTM uDGuDf3alZDd uk10dXR4dP8 uH7VTHrRYBcS uJBrNADBIE9E u9Gd1eIer5Vp u3xZF6XWQWhL u3Hn3JvzJ1JA u3NBKyCEJfSs uPvD9m7GC03 u62mGQNPEOlj u9P8pzvucJZ6 u5WSQkewyFCP uAy0Hd0w2s2D u2RY6ZXFE2lL u6fzOkCN4oou uFcbFg5GwD0y u8EXM5txflg8 u9l11g825kxW uLoGkwmf68I4 uErI3TNjzcO8 uBzTntwAzFrY u7w0ZbwF2VSH uEvpVxap7TVC uGQdgdXpfIaX uRYUSQGOAPB uDYYotMmGJuH uDt0HOKAZSc8 uKjNV4Ih0qlR uFNHTzdifIeQ uKcUGehp2FVH uQtjZ3Do3Tn uCGiixmhRebI uFejlSd1u5hw uDFxEsZBbKOX uJh8nefxg910 uDiNox7v6Xok u1yCK7HTtXAw uJHI3g29tlEe u1Ivt0spfCt5 uKOqjSlXNJUJ uA4LFb706sa6 uAflSJE15MGg uKkPZCDia627 uLWr2hOptObs u96sPgqwZMfi u4Zu5oZnpVbO uLmpOeXqKzIQ uBdHEfD4jdAa u6aKvt2wW9Nb u5p22JLlXvkK uGEM9iZTdRcG uEtHb8Gc8Pup uEYiDvxsHba0 uJJFSYJzGwM8 u4dDXOX2PwyE u9lAQKyPC9zF uCmRBbdJmL8R u9mZjHHut1iP u1lmtrIlOmx7 u9HAloogUe9A u59VUCZzCpaY uKNTT8TPKQ6y uA1PYhTBeh6q uKtvJevcwLA4 uJOXLXAtp8HR u6EK8hSuBTpJ u2d5hM0NpAm u50jFhfzWU8N uKMt8uQZ8xOA u7DtkQ3KKvgO uCvcK7AvYxN3 uHWfP7fMG8Qm uHTKs0oiYgi9 uBn9t4VRo6z u2Mn4DKHciUA u5SYIb2NoB0T u4Hj0ezmfGTp uFGVfQUSbXS8 u9h0JqamE3Hj u5zLLI09GxS9 uBFS80cMP30L uEhsOvR2xmR8 uGRtR49HFwtE uLEKx9HgS2M5 uEypN0P6VwtT u36JEjpblJCc uDyn5S2RlMnM uFsVDlQMCCUe u6OTUAfi0roz uIcRuQWGINb6 uIBYrglSEQAA uJ7ZLQo774mR uAlyJvx9lMUk uA5tx4TQYEFA u6WHW0Rp6DDn u8WH9NUNmJ6V uchuOmq798Z u9FBCMGgixZ6 u7R6PMZZmpqK uKBmveJysj3K u2CTzCkuNxNH uHY0SKRRSKLZ uJREIZBKm6rt u2kHVv31YLzi uCfqg5dQwAM9 uJbNMh2aDiUh u81CozR7OFOA u49gJHZmb5JF uAWB1KdAqmRc uKng994YkYrO uEhXFp4qLWih uFCdjt02TuZr uEZG8pzW5IxP uAUQywokL96a uJ1HVTtEB4WA u8Mr8MC1g2ED uJbPLnTWRsFA u7kly1wLlYyN uAjoM1DwLKnZ uG60GDLqc9Oy u8xMOG2ffK81 uDMKWciMeHRI uIpAASKwCfuK uG96A7ijTXo5 u2nXORFC7s7u u6q3fSEB9xLN uLoqvrgBOcCs uJBBG2kPvP5T u1bGiHpSBc3S uF5iRE2vmZxD uA11iSIkWRZ9 u72aoCgWHNqb u9OWQrXoa1LT uGw8NIPKpley u9Jpiye4bA8q uKDurJH5q2PV uE2LnOyJrXLd uF0hyxRf2OAL u8NVuupO9nj5 uHHERoibNX30 uKLpIxDIZzhB u4bfvDSTcs3b u5h75zcuHreT uKtsb6gIjMg4 uEDK8xlnx1rb u8WBjAEAagQ2 uB3YV7MFKefp uFA1oNGWE2e7 uJS7h7DHXmji uBcHoY9Ar0XN u4x2XJDtup90 uE2vWap5qM1s uDPp5kDGzRze uGD16TcbKpgm uGkxGyrti4wC u8oFjTnVXKRs uJgEmS0bQkkL uCxwkbh77nss u5AX1HVxQ4k uHQbOcTblrX6 u8XGVeOaXsh7 u39xSsTNMjph uLf1MnvP4CS3 uCLwKHPzf12j uFPQ3sBrpHex uJyEymiV0pFb uCFZCK33mFL9 uK8pTAmgV1vI uGQNFX1o7oml uG4gwCyFMKro uAYIc8cIrrSK uBhUyCfAVJ4L uKCs6A5KB2Fe uGOmwrSWxR59 uER3TOqizDRy u4hsIdheoUVc uKr6cBIaJj9b ufrNA5ho4tX uFCuHLfMjUgr uIMN5C8l6fDM u4G1odQgNwam u9C2ItyKEua8 uDPmkEqdoWdP u7GXmoG8HqpJ uLxxHCiDJUkE uEHQfyCebwnF u61RGGxdpilS uEswteLXUCs1 uIOheJu8PiFj uJJFsIzbmNNQ u5BN8bIW92ab uBBistIEgFdt u7aFTOaUleJc uLLB3QkT91VZ u4Uqal1YnUsN u3WryvaDSdvV u12LNbxHsbxQ uEt0CKFZHrcG uH9ngYfEni9a uJAI986aiQna u1tuTKouDYi0 uHAkkLEh6KhG uD6qevTZl0LS uGgmycPXhdJR uIWEzYJHxrrb uDYgOYEl7Xhn u7AjHE3JdEkL uocze6MnrZx u9SPDTI5gTrU u2qObVvMf1ks uDu7xOjXy0el uE8fqJpBrCtd u7uvBL7yfg00 u6m1BumasP1d u526rmsfsLAf uu3GpWeSkYh u2ao8P99s1ue u3WjUyDnRA19 uHSOYjDuaeiV uJKrS5J22AB uEE6n7UPUsYS u7qIt5t2CqLs uSHr7GiA33W uFM3d9P5WgPk u1QslUFuzrw u3NCuLU6DkjK u9cDhMFOfSEz u9fTwzIQmSuE uBpY9KOsaTw1 uJQBOzccUt1b uHnGQ9Mb85I0 uGem1F8tlcwk uKRDzg5mcF9n uJwZ3IyYPZQf ueZx24VTyJT uH5KTcnw1wGk uECF7Z4kfUG4 uEghovnntSWT u6j5JEmQVVnN uKfzUKDw6pSC u8yEAd8GU8sN uIXty92AqsKz u350vQwIszwR u56vTVmQMLab uDOCUJpt7xya uCwb4tzjEE40 uirTiQcnA5V u7bQGoLNOFVb uL1VW9QQ60Pf uBtk8fFPeEPW u7kZq82FgemO uGN82U6AnAYA u82wLx4xTzIz u4rAelkc0mwP uGQPjIbicDbP uC3B58hCP0hH uvX0uNwOrCo uKRKyD1Nlas1 u2mGZi2uxqaK u1uxoK8KupkK uEJ0pUFDiip5 uLmSsBIruJ01 uJI4qzBKTIDF u9Ii8UU2ynIM u5lqpOW6gXla uLs18Ty6CJuj u4qWo6pgh75a uLh111WHWNbJ uI5x2Q3uVQ3l uIx1vo9x7JXe uCuavbpClqVq uAQ6dNgiI4yd u15cwtMJgWI2 uC5mv2KDaUsx u1DgCidOnkGE uC5qt65B379f uIh8tFDi88KW uCVyjW5wu9ya u3f5gpnsZ6xA uEA8hw70MPq2 uJt5ghRTjvFb uAOeJa9xgzWG uE6ghWRXbcsS u1OFDScVOltK uKVvyGAjUyx5 u1n1qbLyjdUz uBZblDiXXQ03 uIGwMfIETD66 uCQhXLdts8it uAYK3x2AuMmi u2PD5og7zrSV u2zYFsUBv53b u5mlpCks53fn u7GKnCDKNGrz uHmJiARMTfYU u6Tf8XyVJfww uFKb1zdA8PPd u3YVPmDSnKQm uL6GD2H4SDHS uI7m4nN4q1OD u1ah6XHHaArW u9Nt611RiLpi uB8RzX2uj5br u2SSQfPtKZSo u76HvfUx6KCZ uC8kdR1D5Tl3 u4RMfkxBMjLh u2sSbmX1ixD0 uF2hsPediRKL u1Hd2R1jhECT uKFNPvVLEdc2 u5lZtYKiSEW u802FvlhfKdK u1t9YtfuxoUg uDAPySjx190f uAFKnzHO5qSX uGXiPO6T8Lgf uGnTe0rTYuyW uDSHicExKqoy uHmAC4E3ETSj u7ZAC5e5lLY7 u8QdnfYgqHZI u64xr6ntRdTn u7HZ2Nhtc3EQ u42hBhZ0tcbU u5Ie04lc510k uAJk4aXUgl1A u9oxKAzELWn0 uGNGNXyvXxEG uLlY3NYtO5hA u5st4gxuDa4i uD75zzRQS0sr u6x0Pz11VMsG uJCRezZTBo9K uBtULJ4p4bDn u1kHf367WeB8 uskfKatSNg5 uJFJkFg6KMB7 u2wRwmR38XCv uCGNUOyGggyv u8rsbjdokkFI uDuVgZoMK7yc uITp2MjXZRN2 uKx9pojpDDJR u8pTrT3O61al uDNiQGUUttrO uL3qdkSFrosB uDmyQXEyWEF uFkyUE9wBvZc u5NWIYNHllCl uDLXQMIXeQd7 uu7PbvDcZbR uCoCpeGq5PNV u6qdl6lF8VsZ uL2WhK0hnNXe uDqrVsyAc34K u7NVxhaXldCO uUmgq7FpPaF uKkdGPplnaci uo7oN0WhBU0 u3EgEtw9UJY1 uJvgaRlj7zUd uF80o5yAucif uB3JjcmnSgA1 uxILyvVBqnv uAqJ1C8saoMu ucgtLJeUSCi u3Iu7jmhdhCr uDx94BB3NFub u8r92OLxqxDw uFds7xR1Fntx u7sXpuBOEFHW u4Cq9D7lpGB uFVCKDbXdTiI uAPliwLJlCun uHmepzldnoME uALnrFhc9q2 uIFlvEh700df u2mb65F0l66U uK4YTa42FgWY uKvK7UE0XgYD uFv2FKiAhnMT u2SEzT9VW3zy uDi9m0FhRWr2 uJWl2EVu7sgO uDFNbNDzHy9s
end PySem.W.Fast
open PySem PySem.W PyProof.Rows
set_option maxRecDepth 100000 in
set_option maxHeartbeats 0 in
theorem PySem.Challenge.cw_nestturn_k54_texts_of_no_program_holds : PySem.Challenge.rw_nestturn_k54_texts_of_no_program.Holds := by
 w_on; o_law; k_head; (case hw => w_witness2)
 k_fill
 refine RF.walk (l := PySem.Challenge.rw_nestturn_k54_texts_of_no_program) (lev := 13) (x := "_law_script") rfl rfl ⟨rfl, %[|2], %[|2]⟩ (λ w h Y => by first | exact PySem.W.kIn_of Y | exact PySem.W.km_in_of Y) ?F
 case F =>
  intro w mg fa h KX G hmg
  refine' K54.all_mk KX G hmg ?_ ?_ ?_ ?_ ?_ ?_ ?_ ?_ ?_ ?_ ?_ ?_ ?_ ?_ ?_ ?_ ?_ ?_ ?_ ?_ ?_ ?_ ?_ ?_ ?_ ?_ ?_ ?_ ?_ ?_ ?_ ?_ ?_ ?_ ?_ ?_ ?_ ?_ ?_ ?_ ?_ ?_ ?_ ?_ ?_ ?_ ?_ ?_ ?_ ?_ ?_ ?_ ?_ ?_ ?_ ?zt_LETTERS ?_ ?_ ?_ ?_ ?_ ?_ ?_ ?_ ?_ ?_ ?_ ?_ ?_ ?z
  (case z => kernel_rfl!)
  (case zt_LETTERS => kernel_rfl!)
  all_goals try first | (refine' K54.FI.mk ?a ?l ?c ?k; (case a => k_is); (case l => k_is); (case c => k_is); (case k => k_is)) | (show _ = _; k_is)
