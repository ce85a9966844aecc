import PyProof.Rows.All
import Wide.All
import OpenK.AllK
import Wide.FinOn
import Lean
import PyProof.EqAt
import PyProof.EqKinds
import PyProof.TupleCall
import KE.KEqDict
import PyProof.ZipIter
import PyProof.ListMulAny
import KE.KTryMore
import PyProof.NsDelKeeps
import KE.KUnpack
import KE.KRevIter
import PyProof.DictUpdate
import PyProof.ListRange
import PyProof.Rows.CallKwBuiltin
import PyProof.WalkInts
import KE.KSortTup
import KE.KLam
import KE.KNestM
import PyProof.CollectIter
import OpenK.KMake
import KE.KDictList
import PyProof.Rows.SortRuns
import PyProof.SetScanFacts
import PySem.Challenge.RW_nestturn_k11_traces_told
set_option bootstrap.genMatcherCode false
set_option compiler.extract_closed false
set_option genSizeOfSpec false
set_option genSizeOf false
def ZA:=@PySem.wpAny_bind
def ZB:=@PySem.wpAny_pure
def ZC:=@PySem.Heap.get?_push_of_some
def ZD:=@PySem.Heap.get?_push_size
def ZE:=@PySem.Heap.lt_size
def ZF:=@of_decide_eq_true
def ZG:=@decide_eq_true
def ZH:=@decide_eq_false
def ZI:=@eq_of_beq
def ZJ:=@List.mem_cons
def ZK:=@List.mem_append
def ZL:=@List.mem_singleton
def ZM:=@Nat.lt_of_lt_of_le
def ZN:=@Nat.ne_of_lt
def ZO:=@List.mem_map
def ZP:=@PySem.wpAny_call_entry
def ZQ:=@PySem.wpAny_holding
def ZR:=@List.getElem?_of_mem
theorem fE{a:Prop}(h:false=true):a:=(Bool.false_ne_true h).elim
noncomputable section
set_option Elab.async false
set_option linter.all false
set_option hygiene false
local macro_rules
| `(%[|0]) => `(by omega)
| `(%[|1]) => `(List Int)
| `(%[|2]) => `(List Str)
| `(%[|3]) => `(by decide)
| `(%[|4]) => `(Store->Prop)
| `(%[|5]) => `(Inv X pins σ H s)
| `(%[|6]) => `(model X.prog X.w)
| `(%[|7]) => `(Value->%[|8])
local macro_rules
| `(%[|8]) => `(Shared->Prop)
set_option hygiene true
def z0:=@List.getElem?_eq_some_iff
def y4:=@List.getElem?_eq_getElem
def y8:=@List.mem_of_getElem?
def y9:=@Bool.false_ne_true
def x4:=@List.length_map
def x5:=@List.getElem?_map
def x6:=@Nat.le_refl
def x8:=@List.mem_cons_of_mem
def x9:=@List.size_toArray
def w9:=@List.mem_cons_self
def v3:=@List.length_append
set_option bootstrap.genMatcherCode false
set_option maxRecDepth 100000
theorem hideG {G : Prop} (h : ∀ G2 : Prop, (G → G2) → G2) : G := h G id
local macro_rules | `(tactic| obtain ⟨$a:rcasesPatLo,$b:rcasesPatLo,$c:rcasesPatLo,$d:rcasesPatLo,$es:rcasesPatLo,*⟩ := $v) => `(tactic| (refine hideG fun G_ k_ => ?_; rcases $v:term with ⟨$a,$b,$c,$d,$es,*⟩ <;> (refine k_ ?_; clear k_ G_)))
local macro_rules | `(tactic| rintro $p:rintroPat $q:rintroPat $ps*) => `(tactic| (rintro $p; rintro $q $ps*))
local macro_rules | `(tactic| rintro ⟨$a:rcasesPatLo,$b:rcasesPatLo,$c:rcasesPatLo,$d:rcasesPatLo,$es:rcasesPatLo,*⟩) => `(tactic| (intro z_; obtain ⟨$a,$b,$c,$d,$es,*⟩ := z_))
local macro_rules | `(tactic| omega) => `(tactic| first | with_reducible assumption | with_reducible exact Int.natCast_nonneg _ | with_reducible exact Nat.le_trans (by assumption) (by decide) | with_reducible exact Int.le_trans (by decide) (Int.natCast_nonneg _) | with_reducible exact Int.lt_of_le_of_lt (Int.ofNat_le.mpr (by assumption)) (by decide) | lia -zetaDelta | lia)
local macro_rules|`(def $i:declId $s:optDeclSig $v:declVal)=>`(noncomputable def $i:declId $s:optDeclSig $v:declVal)
local macro_rules|`(abbrev $i:declId $s:optDeclSig $v:declVal)=>`(noncomputable abbrev $i:declId $s:optDeclSig $v:declVal)
namespace L2
open PySem PySem.Spec PyProof.Rows
abbrev Key:=Sum Int Str
def ou:Key->Value->Bool
 | .inl k,v=>Value.isInt k v
 | .inr x,v=>Value.isStrOf x v
def W3(w:World):Key->Int
 | .inl k=>hashInt k
 | .inr x=>hashStr w x
theorem bI:∀{k:Key}{v:Value},ou k v=true->(∃i t,k=Sum.inl i/\v=Value.int i t)∨(∃x t,k=Sum.inr x/\v=Value.str x t)
 | .inl i,v,h=>by obtain⟨t,e⟩:=Value.isInt_shape (k:=i) (v:=v) h;exact .inl ⟨i,t,rfl,e⟩
 | .inr x,v,h=>by obtain⟨t,e⟩:=Value.isStrOf_shape (x:=x) (v:=v) h;exact .inr ⟨x,t,rfl,e⟩
theorem JQ(i:Int)(t:Tok):ou (.inl i) (.int i t)=true:=by simp[ou,Value.isInt]
theorem Kq(x:Str)(t:Tok):ou (.inr x) (.str x t)=true:=by simp[ou,Value.isStrOf]
theorem RQ(a b:Int):decide ((Sum.inl a:Key)=Sum.inl b)=(a==b):=by by_cases e:a=b;{subst e;simp};{have h:¬(Sum.inl a:Key)=Sum.inl b:=λ q=>e (Sum.inl.inj q);rw[ZH h];exact(beq_eq_false_iff_ne.mpr e).symm}
theorem Ua(a b:Str):decide ((Sum.inr a:Key)=Sum.inr b)=decide (a=b):=by by_cases e:a=b;{subst e;simp};{have h:¬(Sum.inr a:Key)=Sum.inr b:=λ q=>e (Sum.inr.inj q);rw[ZH h,ZH e]}
theorem Th(a:Int)(b:Str):decide ((Sum.inl a:Key)=Sum.inr b)=false:=ZH (λ q=>nomatch q)
theorem SQ(a:Str)(b:Int):decide ((Sum.inr a:Key)=Sum.inl b)=false:=ZH (λ q=>nomatch q)
def bz(prog:Program)(w:World):PySem.KeyKind prog w Key where
 is:=ou
 hash:=W3 w
 inj:=λ v a b f d=>by rcases bI f with⟨i,t,rfl,rfl⟩ | ⟨x,t,rfl,rfl⟩;{rcases bI d with⟨j,u,rfl,e⟩ | ⟨y,u,rfl,e⟩;{injection e with e1 _;rw[e1]};{exact nomatch e}};{rcases bI d with⟨j,u,rfl,e⟩ | ⟨y,u,rfl,e⟩;{exact nomatch e};{injection e with e1 _;rw[e1]}}
 byValue:=λ k v h=>by rcases bI h with⟨i,t,rfl,rfl⟩ | ⟨x,t,rfl,rfl⟩<;>rfl
 pyHash:=λ c h=>by rcases bI c with⟨i,t,rfl,rfl⟩ | ⟨x,t,rfl,rfl⟩;{exact wpAny_pyHash_int h};{exact wpAny_pyHash_str h}
 eqBool:=λ g c h=>by rcases bI g with⟨i,t,rfl,rfl⟩ | ⟨x,t,rfl,rfl⟩;{rcases bI c with⟨j,u,rfl,rfl⟩ | ⟨y,u,rfl,rfl⟩;{rw[RQ]at h;exact wpAny_eqBool_int h};{rw[Th]at h;exact SeqAt.EqAt.int_str i t y u _ _ _ _ h}};{rcases bI c with⟨j,u,rfl,rfl⟩ | ⟨y,u,rfl,rfl⟩;{rw[SQ]at h;exact SeqAt.EqAt.str_int x t j u _ _ _ _ h};{rw[Ua]at h;exact wpAny_eqBool_str h}}
 «strs»:=λ k x t v h=>by rcases bI h with⟨i,u,rfl,e⟩ | ⟨y,u,rfl,e⟩;{exact nomatch e};{injection e with e1 _;subst e1;cases v<;>rfl}
theorem DW(prog:Program)(w:World)(i:Int)(t:Tok):(bz prog w).is (.inl i) (.int i t)=true:=JQ i t
theorem Cm(prog:Program)(w:World)(x:Str)(t:Tok):(bz prog w).is (.inr x) (.str x t)=true:=Kq x t
variable {b : Addr}
inductive V where
 | non | bl(b:Bool) | int(i:Int) | str(x:Str) | byt(b:Array UInt8) | flt(b:UInt64) | ref(a:Addr) | ty(n:String)
 deriving DecidableEq
def RelV:V->Value->Prop
 | .non,u=>u=Value.none
 | .bl b,u=>u=Value.bool b
 | .int i,u=>∃t,u=Value.int i t
 | .str x,u=>∃t,u=Value.str x t
 | .byt b,u=>∃t,u=Value.bytes b t
 | .flt b,u=>∃t,u=Value.float b t
 | .ref a,u=>u=Value.ref a
 | .ty n,u=>u=Value.type n
abbrev Vals:List V->List Value->Prop:=Paired RelV
theorem Vals.length{xs:List V}{a:List Value}(r:Vals xs a):xs.length=a.length:=Paired.length r
theorem Vals.get:∀{xs:List V}{a:List Value}{i:Nat}{x:V},Vals xs a->xs[i]? =some x->∃u,a[i]? =some u/\RelV x u
 | _,_,_,_,.nil,e=>by simp at e
 | _,_,0,_,.cons r _,e=>by simp at e;subst e;exact⟨_,rfl,r⟩
 | _,_,i+1,x,.cons _ t,e=>by obtain⟨u,b,c⟩:=Vals.get (i:=i) (x:=x) t (by simpa using e);exact⟨u,by simpa using b,c⟩
theorem Vals.set{x:V}{u:Value}(r:RelV x u):∀{xs:List V}{a:List Value}(i:Nat),Vals xs a->Vals (xs.set i x) (a.set i u)
 | _,_,_,.nil=>.nil
 | _,_,0,.cons _ t=>.cons r t
 | _,_,i+1,.cons q t=>.cons q (Vals.set r i t)
theorem Vals.append:∀{xs ys:List V}{a b:List Value},Vals xs a->Vals ys b->Vals (xs++ys) (a++b)
 | _,_,_,_,.nil,s=>s
 | _,_,_,_,.cons r t,s=>.cons r (Vals.append t s)
theorem Vals.take:∀{xs:List V}{a:List Value}(n:Nat),Vals xs a->Vals (xs.take n) (a.take n)
 | _,_,0,_=>.nil
 | _,_,_+1,.nil=>.nil
 | _,_,n+1,.cons r t=>.cons r (Vals.take n t)
theorem Vals.drop:∀{xs:List V}{a:List Value}(n:Nat),Vals xs a->Vals (xs.drop n) (a.drop n)
 | _,_,0,r=>r
 | _,_,_+1,.nil=>.nil
 | _,_,n+1,.cons _ t=>Vals.drop n t
def SN:Option V->Option Value->Prop
 | some v,some u=>RelV v u
 | none,none=>True
 | _,_=>False
def KV{κ:Type}:List (κ×V)->List (κ×Value)->Prop:=Paired λ(p:κ×V) (q:κ×Value)=>p.1=q.1/\RelV p.2 q.2
def kV:Key->V
 | .inl i=>.int i
 | .inr x=>.str x
inductive HO where
 /-- a list -/
 | lst(xs:List V)
 /-- a tuple (never changes) -/
 | tup(xs:List V)
 /-- a dict whose keys are ints and texts; one whose keys are tuples of ints and texts (the empty one is both) -/
 | dK(kvs:List (Key×V)) | dT(kvs:List (List Key×V))
 /-- a set of ints: its members, its size -/
 | set(S:Int->Bool)(n:Nat)
 /-- an instance of the class at C, its dict at dx, its attributes -/
 | ins(C dx:Addr)(fs:List (Str×V))
 /-- the dict of the instance at x -/
 | own(x:Addr)
 /-- the dict of an exception -/
 | xd(fs:List (Str×V))
 /-- a bound method, f of x -/
 | met(f x:Addr)
 /-- a range object lo, lo + 1, .. below hi -/
 | rng(lo hi:Int)
 /-- a thing that is known to the object (the script; a dict while a loop walks it): read, never written while it is so -/
 | frz(o:Obj)(u:HO)
 /-- a code object's table -/
 | tbl(ps:Array Value)
 /-- any other thing, by what is true of its one object (a def of one's own: SetO a S n := HO.ext λ h => ..) -/
 | ext(φ:Heap->Prop)
abbrev Hp:=Addr->Option HO
def upd(H:Hp)(a:Addr)(o:HO):Hp:=λ b=>if b=a then some o else H b
theorem aJ{H:Hp}{a:Addr}{o:HO}:upd H a o a=some o:=by unfold upd;rw[if_pos rfl]
theorem ao{H:Hp}{a:Addr}{o:HO}(h:b≠a):upd H a o b=H b:=by unfold upd;rw[if_neg h]
theorem aC{H:Hp}{a:Addr}{o:HO}(h:H a=some o)(h':H b=none):a≠b:=by intro e;subst e;rw[h]at h';cases h'
section
variable (P : Program) (w : World)
def az(H:Hp)(h:Heap)(a:Addr):HO->Prop
 | .lst c=>c.length≤sizeLine/\∃(b:List Value) (n:Nat),Vals c b/\h.get? a=some {cls:=.type "list",data:=.seq b.toArray n}
 | .tup c=>c.length≤sizeLine/\∃b:List Value,Vals c b/\IsTup h a b.toArray
 | .dK kvs=>kvs.length≤sizeLine/\(a==sysModules)=false/\∃j,KV kvs j/\h.DictOf (bz P w) a j
 | .dT kvs=>kvs.length≤sizeLine/\(a==sysModules)=false/\∃c:List (List Key×Addr×Value),
  Paired (λ(p:List Key×V) (q:List Key×Addr×Value)=>p.1=q.1/\H q.2.1=some (.tup (p.1.map kV))/\RelV p.2 q.2.2) kvs c/\
  ∃o e k,h.get? a=some o/\o.ExactDict/\o.data=.dict e k/\e.toList=c.map (entryOfKey (tupleKind (bz P w)))/\(c.map (·.1)).Nodup
 | .set S n=>h.SetOf (intKind P w) a S n
 | .ins C dx fs=>H dx=some (.own a)/\fs.length≤1000/\dx≠a/\h.get? a=some (PySem.W.instObj C dx)/\
  ∃d,h.Ns1 dx d/\(∀f,SN (fs.lookup f) (d f))/\PySem.Within d (fs.map (·.1))
 | .own _=>∃o,h.get? a=some o
 | .xd fs=>∃d,h.Ns1 a d/\∀f,SN (fs.lookup f) (d f)
 | .rng lo hi=>∃t u v,h.get? a=some {cls:=.type "range",data:=.fields #[.int lo t,.int hi u,.int 1 v]}
 | .frz o u=>h.get? a=some o/\az H h a u
 | .tbl ps=>h.get? a=some {cls:=.none,data:=.fields ps}
 | .met f x=>h.get? a=some (PySem.W.methodObj (.ref f) (.ref x))
 | .ext φ=>φ h/\(∃o,h.get? a=some o)/\∀g i:Heap,φ g->(∀o,g.get? a=some o->i.get? a=some o)->φ i
def HOk(H:Hp)(h:Heap):Prop:=∀a o,H a=some o->az P w H h a o
end
section
variable {P : Program} {w : World} {H H' : Hp} {h h' : Heap} {a : Addr} {o : HO}
theorem az.lt(x:az P w H h a o):a<h.objs.size:=by
 cases o with
 | lst d=>obtain⟨_,_,_,_,e⟩:=x;exact ZE e
 | tup d=>obtain⟨_,_,_,p⟩:=x;exact p.lt
 | dK b=>obtain⟨_,_,_,_,o,_,_,e,_⟩:=x;exact ZE e
 | dT b=>obtain⟨_,_,_,_,o,_,_,e,_⟩:=x;exact ZE e
 | set S n=>obtain⟨o,_,_,_,e,_⟩:=x;exact ZE e
 | ins C g c=>obtain⟨_,_,_,e,_⟩:=x;exact ZE e
 | own y=>obtain⟨_,e⟩:=x;exact ZE e
 | xd c=>obtain⟨_,⟨_,_,_,e,_⟩,_⟩:=x;exact ZE e
 | rng j i=>obtain⟨_,_,_,e⟩:=x;exact ZE e
 | frz k u=>obtain⟨e,_⟩:=x;exact ZE e
 | tbl l=>exact ZE (show h.get? a=some _ from x)
 | met f y=>exact ZE (show h.get? a=some _ from x)
 | ext m=>obtain⟨_,⟨_,e⟩,_⟩:=x;exact ZE e
theorem XN{d e:Type}{F G:d->e->Prop}:∀{c:List d}{l₂:List e},Paired F c l₂->(∀a b,F a b->G a b)->Paired G c l₂
 | _,_,.nil,_=>.nil
 | _,_,.cons r t,f=>.cons (f _ _ r) (XN t f)
theorem az.stay(x:az P w H h a o)(k:∀b u,(b=a∨H b=some (.own a))->h.get? b=some u->h'.get? b=some u)
 (G:∀b,H b=some (.own a)->H' b=some (.own a))(I:∀b xs,H b=some (.tup xs)->H' b=some (.tup xs)):az P w H' h' a o:=by
 induction o with
 | lst xs=>obtain⟨z,l,n,r,e⟩:=x;exact⟨z,l,n,r,k _ _ (.inl rfl) e⟩
 | tup xs=>obtain⟨z,l,r,g,e,c⟩:=x;exact⟨z,l,r,g,k _ _ (.inl rfl) e,c⟩
 | dK m=>obtain⟨z,y,L,r,g,j,i,e,c⟩:=x;exact⟨z,y,L,r,g,j,i,k _ _ (.inl rfl) e,c⟩
 | dT m=>obtain⟨z,y,xs,r,g,j,i,e,c⟩:=x;exact⟨z,y,xs,XN r λ p q z=>⟨z.1,I _ _ z.2.1,z.2.2⟩,g,j,i,k _ _ (.inl rfl) e,c⟩
 | set S n=>obtain⟨g,j,i,t,e,c⟩:=x;exact⟨g,j,i,t,k _ _ (.inl rfl) e,c⟩
 | ins C M F=>obtain⟨d,z,K,e,s,⟨A,j,i,E,c⟩,r⟩:=x;exact⟨G _ d,z,K,k _ _ (.inl rfl) e,s,⟨A,j,i,k _ _ (.inr d) E,c⟩,r⟩
 | own y=>obtain⟨g,e⟩:=x;exact⟨g,k _ _ (.inl rfl) e⟩
 | xd F=>obtain⟨s,⟨A,j,i,e,c⟩,r⟩:=x;exact⟨s,⟨A,j,i,k _ _ (.inl rfl) e,c⟩,r⟩
 | rng O N=>obtain⟨t,u,v,e⟩:=x;exact⟨t,u,v,k _ _ (.inl rfl) e⟩
 | frz g u J=>obtain⟨e,q⟩:=x;exact⟨k _ _ (.inl rfl) e,J q⟩
 | tbl B=>have e:h.get? a=some {cls:=.none,data:=.fields B}:=x;show h'.get? a=some {cls:=.none,data:=.fields B};exact k a _ (.inl rfl) e
 | met f y=>have e:h.get? a=some (PySem.W.methodObj (.ref f) (.ref y)):=x;show h'.get? a=some (PySem.W.methodObj (.ref f) (.ref y));exact k a _ (.inl rfl) e
 | ext Q=>obtain⟨p,⟨o,e⟩,D⟩:=x;exact⟨D _ _ p λ o q=>k _ _ (.inl rfl) q,⟨o,k _ _ (.inl rfl) e⟩,D⟩
theorem HOk.lt(x:HOk P w H h)(e:H a=some o):a<h.objs.size:=(x a o e).lt
theorem HOk.fresh(x:HOk P w H h)(e:h.objs.size≤a):H a=none:=by
 cases q:H a with
 | none=>rfl
 | some u=>exact absurd (ZM (x.lt q) e) (Nat.lt_irrefl _)
theorem HOk.kept(x:HOk P w H h)(k:∀b u,h.get? b=some u->h'.get? b=some u):HOk P w H h':=λ a o e=>
 (x a o e).stay (λ b u _ q=>k b u q) (λ _ q=>q) λ _ _ q=>q
theorem HOk.laid(x:HOk P w H h)(k:∀b u,h.get? b=some u->h'.get? b=some u)(i:h.objs.size≤a)(d:az P w (upd H a o) h' a o):HOk P w (upd H a o) h':=λ b u e=>by have g:=x.fresh i;by_cases f:b=a;{subst f;rw[aJ]at e;cases e;exact d};{rw[ao f]at e;exact(x b u e).stay (λ c v _ q=>k c v q) (λ c q=>by rw[ao (aC q g)];exact q) λ c j q=>by rw[ao (aC q g)];exact q}
end
def Rd(H:Hp)(a:Addr)(u:HO):Prop:=H a=some u∨∃o,H a=some (.frz o u)
theorem Rd.ok{P:Program}{w:World}{H:Hp}{h:Heap}{a:Addr}{u:HO}(r:Rd H a u)(x:HOk P w H h):az P w H h a u:=by rcases r with r | ⟨o,r⟩;{exact x a u r};{obtain⟨_,q⟩:=x a _ r;exact q}
def Mut:Option HO->Prop
 | some (.lst _)=>True
 | some (.dK _)=>True
 | some (.dT _)=>True
 | some (.set _ _)=>True
 | some (.ins _ _ _)=>True
 | some (.ext _)=>True
 | _=>False
section
variable {P : Program} {w : World} {H : Hp} {h h' : Heap} {x e : Addr} {o' : HO}
theorem HOk.write(ok:HOk P w H h)(j:Mut (H x))(o:e=x∨H e=some (.own x))(k:∀b u,b≠e->h.get? b=some u->h'.get? b=some u)(m:∃u,h'.get? e=some u)
 (n:az P w (upd H x o') h' x o'):HOk P w (upd H x o') h':=λ b u q=>by
 have d:∀c y,H c=some (.own y)->c≠x:=λ c y r z=>by subst z;rw[r]at j;exact j
 have f:∀c l,H c=some (.tup l)->c≠x:=λ c l r z=>by subst z;rw[r]at j;exact j
 by_cases g:b=x;{subst g;rw[aJ]at q;cases q;exact n}
 . rw [ao g]at q;by_cases a:b=e
   . have p:H b=some (.own x):=by rcases o with z | z;{exact absurd (a.trans z) g};{rw[a];exact z}
     rw[q]at p;cases p;obtain⟨v,s⟩:=m;exact⟨v,by rw[a];exact s⟩
   . refine(ok b u q).stay (λ c v i r=>k c v ?_ r) (λ c r=>by rw[ao (d c b r)];exact r) λ c l r=>by rw[ao (f c l r)];exact r
     rcases i with rfl | i;{exact a};{rintro rfl;rcases o with z | z;{exact d c b i z};{rw[i]at z;cases z;exact g rfl}}
end
structure Un(fs ex:List Addr)(H H':Hp)(h h':Heap):Prop where
 keep:∀b o,h.get? b=some o->H b=none->b∉fs->b∉ex->h'.get? b=some o
 slot:∀b o,h.get? b=some o->H b=none->b∈fs->b∉ex->∃sl,h'.get? b=some {o with slots:=sl}
 free:∀b o,h.get? b=some o->H b=none->b∉ex->H' b=none
 there:∀b o,h.get? b=some o->b∉ex->∃o',h'.get? b=some o'
 tups:∀b xs,H b=some (.tup xs)->H' b=some (.tup xs)
 frzs:∀b o u,H b=some (.frz o u)->H' b=some (.frz o u)
 tbls:∀b ps,H b=some (.tbl ps)->∃more,H' b=some (.tbl (ps++more))
section
variable {fs fs' ex ex' : List Addr} {H H1 H2 : Hp} {h h1 h2 h' : Heap} {a x e : Addr} {o : HO}
theorem Un.any(u:Un fs ex H H1 h h1){b:Addr}{a:Obj}(q:h.get? b=some a)(n:H b=none)(d:b∉ex):∃sl,h1.get? b=some {a with slots:=sl}:=by by_cases c:b∈fs;{exact u.slot b a q n c d};{exact⟨a.slots,u.keep b a q n c d⟩}
theorem Un.kept(k:∀b u,h.get? b=some u->h'.get? b=some u):Un fs ex H H h h':=
 ⟨λ b a q _ _ _=>k b a q,λ b a q _ _ _=>⟨a.slots,k b a q⟩,λ _ _ _ n _=>n,λ b a q _=>⟨a,k b a q⟩,λ _ _ q=>q,λ _ _ _ q=>q,λ _ c q=>⟨#[],by rw[q];simp⟩⟩
theorem Un.refl:Un fs ex H H h h:=Un.kept λ _ _ q=>q
theorem Un.laid(k:∀b u,h.get? b=some u->h'.get? b=some u)(d:h.objs.size≤a)(c:H a=none):Un fs ex H (upd H a o) h h' where
 keep:=λ b u q _ _ _=>k b u q
 slot:=λ b u q _ _ _=>⟨u.slots,k b u q⟩
 free:=λ b u q n _=>by rw[ao (ZN (ZM (ZE q) d))];exact n
 there:=λ b u q _=>⟨u,k b u q⟩
 tups:=λ b e q=>by rw[ao (aC q c)];exact q
 frzs:=λ b u e q=>by rw[ao (aC q c)];exact q
 tbls:=λ b f q=>⟨#[],by rw[ao (aC q c),q];simp⟩
theorem Un.write(c:Mut (H x))(j:e=x∨H e=some (.own x))(k:∀b u,b≠e->h.get? b=some u->h'.get? b=some u)(d:∃u,h'.get? e=some u):Un fs ex H (upd H x o) h h':=by
 have i:∀b,H b=none->b≠x:=λ b n z=>by subst z;rw[n]at c;exact c
 have g:∀b,H b=none->b≠e:=λ b n z=>by subst z;rcases j with r | r;{exact i b n r};{rw[n]at r;cases r}
 have f:∀b u,H b=some u->¬Mut (some u)->b≠x:=λ b u q l z=>by subst z;rw[q]at c;exact l c
 refine⟨λ b u q n _ _=>k b u (g b n) q,λ b u q n _ _=>⟨u.slots,k b u (g b n) q⟩,λ b u q n _=>by rw[ao (i b n)];exact n,λ b u q _=>?_,
  λ b m q=>by rw[ao (f b _ q λ z=>z)];exact q,λ b u m q=>by rw[ao (f b _ q λ z=>z)];exact q,λ b p q=>⟨#[],by rw[ao (f b _ q λ z=>z),q];simp⟩⟩;by_cases a:b=e;{subst a;exact d};{exact⟨u,k b u a q⟩}
end
def trk(h:Heap)(H:Hp):List Addr:=(List.range h.objs.size).filter λ a=>(H a).isSome
def jY(h:Heap)(H:Hp):Heap:=PySem.W.hideAll h (trk h H)
theorem Iu(h:Heap)(H:Hp):(jY h H).objs.size=h.objs.size:=PySem.W.hideAll_size _ _
theorem Lq{h:Heap}{H:Hp}{o:Obj}(e:h.get? b=some o)(n:H b=none):(jY h H).get? b=some o:=
 PySem.W.hideAll_get _ e λ a=>by have q:(H b).isSome=true:=(List.mem_filter.mp a).2;rw[n]at q;simp at q
theorem QV{h:Heap}{H:Hp}{o:Obj}(e:(jY h H).get? b=some o):h.get? b=some o/\H b=none:=by
 have a:h.get? b=some o:=PySem.W.of_hideAll (trk h H) e;refine⟨a,?_⟩
 cases q:H b with
 | none=>rfl
 | some x=>have c:b∈trk h H:=List.mem_filter.mpr ⟨List.mem_range.mpr (ZE a),by simp[q]⟩;have z:(jY h H).get? b=none:=PySem.W.hideAll_none (trk h H) c;rw[z]at e;cases e
end L2
namespace L2
open PySem PySem.Spec PyProof.Rows
variable {t' : Nat}
structure Mod(K:PySem.W.Frag)(mg:Str->Option Value)(base:Heap):Prop where
 kin:K.In base
 glob:base.Ns mainGlobals mg
 blt:∃mb,base.Ns builtinsNs mb/\∀x:Str,x≠"__name__"->mb x=bootBuiltins x
 nolimit:base.NoLimit
set_option genInjectivity false in
structure Cx where
 prog:Program
 w:World
 K:PySem.W.Frag
 mg:Str->Option Value
 base:Heap
 A:Around
 N:%[|2]
 s₀:Shared
 H₀:Hp
 env:Env
 outer:List Env
 stack:List Env
 ex:List Addr
 fn:Str->Bool
 calm:Bool
 pn:List (Addr×Obj)
 xe:%[|7]
def frs(l:List Env):List Addr:=l.filterMap (·.frame)
abbrev Cx.fs(X:Cx):List Addr:=frs X.outer
def Vis(sc:Scope)(x:Str):Prop:=sc.names.lookup x=some .local∨sc.names.lookup x=some .cell∨sc.names.lookup x=some .free
def Loc(sc:Scope)(x:Str):Prop:=sc.names.lookup x=some .local∨sc.names.lookup x=some .cell
def Look(env:Env)(h:Heap)(m:Str->Option Value)(x:Str)(u:Value):Prop:=
 (env.kindOf x=some .local/\m x=some u)∨((env.kindOf x=some .cell∨env.kindOf x=some .free)/\∃c,env.cells.lookup x=some c/\h.IsCell c (some u))
structure Cx.Ok(X:Cx):Prop where
 mod:Mod X.K X.mg X.base
 kind:X.env.scope.kind=.function
 glob:X.env.globals=mainGlobals
 blt:X.env.builtins=builtinsNs
 above:X.s₀.heap.objs.size≤X.env.locals
 inj:∀x y c,X.env.cells.lookup x=some c->X.env.cells.lookup y=some c->x=y
 has:∀x,(X.env.kindOf x=some .cell∨X.env.kindOf x=some .free)->∃c,X.env.cells.lookup x=some c
 cab:∀x c,X.fn x=true->X.env.cells.lookup x=some c->X.s₀.heap.objs.size≤c
 hd:X.calm=true->X.A.handled=none
 frames:X.A.frames=some X.stack
 stk:X.stack=X.outer∨(X.stack=X.env::X.outer/\X.env.frame=some X.env.locals)
 exf:∀b∈X.ex,b≠X.env.locals/\∀x c,X.env.cells.lookup x=some c->c≠b
 bs:∀b o,X.base.get? b=some o->X.s₀.heap.get? b=some o/\X.H₀ b=none
 bsz:X.base.objs.size≤X.s₀.heap.objs.size
 noex:∀b o,X.base.get? b=some o->b∉X.ex
 exfs:∀b∈X.ex,b∉X.fs
 funs:X.s₀.heap.FunFrames X.base X.outer
 frf:∀b∈X.fs,X.H₀ b=none
structure Inv(X:Cx)(pins:List (Addr×Obj))(σ:List (Option V))(H:Hp)(s:Shared):Prop where
 ok:X.Ok
 os:s.os=X.s₀.os
 bare:AllBare s.gens
 base:Un X.fs X.ex X.H₀ H X.s₀.heap s.heap
 loc:∃m,s.heap.Ns X.env.locals m/\∀(i:Nat)(x:Str)(v:V),X.N[i]? =some x->σ[i]? =some (some v)->Vis X.env.scope x->∃u,RelV v u/\Look X.env s.heap m x u
 cell:∀x c,X.env.cells.lookup x=some c->∃v,s.heap.IsCell c v
 free:H X.env.locals=none
 freeC:∀x c,X.env.cells.lookup x=some c->H c=none
 pin:∀p∈X.pn++pins,s.heap.get? p.1=some p.2/\H p.1=none/\p.1≠X.env.locals/\p.1∉X.fs/\∀v,p.2.data≠.cell v
 hok:HOk X.prog X.w H s.heap
 len:σ.length=X.N.length
section
variable {X : Cx} {pins : List (Addr × Obj)} {σ : List (Option V)} {H H' : Hp} {s : Shared} {h' : Heap}
theorem Cx.Ok.nofr(ok:X.Ok){b:Addr}{o:Obj}(e:X.base.get? b=some o):b∉X.fs:=λ a=>by have:=(ok.funs.mem a).1;rw[e]at this;cases this
theorem Inv.bs(I:%[|5]):∀b o,X.base.get? b=some o->s.heap.get? b=some o/\H b=none:=λ b o e=>
 ⟨I.base.keep b o (I.ok.bs b o e).1 (I.ok.bs b o e).2 (I.ok.nofr e) (I.ok.noex b o e),I.base.free b o (I.ok.bs b o e).1 (I.ok.bs b o e).2 (I.ok.noex b o e)⟩
theorem Inv.bk(I:%[|5]):∀b o,X.base.get? b=some o->s.heap.get? b=some o:=λ b o e=>(I.bs b o e).1
theorem Inv.mod(I:%[|5]):Mod X.K X.mg X.base:=I.ok.mod
theorem Inv.kIn(I:%[|5]):X.K.In s.heap:=I.ok.mod.kin.keeps I.bk
theorem Inv.lt(I:%[|5]):X.env.locals<s.heap.objs.size:=let ⟨_,hn,_⟩:=I.loc;hn.lt
theorem Inv.sz(I:%[|5]):X.s₀.heap.objs.size≤s.heap.objs.size:=Nat.le_trans I.ok.above (Nat.le_of_lt I.lt)
theorem Inv.nofs(I:%[|5]){a:Addr}(h:s.heap.objs.size≤a):a∉X.fs:=λ b=>by obtain⟨_,o,c,_⟩:=I.ok.funs.mem b;exact absurd (ZM (ZE c) (Nat.le_trans I.sz h)) (Nat.lt_irrefl _)
theorem Inv.cne(I:%[|5]):∀x c,X.env.cells.lookup x=some c->c≠X.env.locals:=λ x c e z=>by obtain⟨v,o,f,d⟩:=I.cell x c e;obtain⟨m,⟨i,h,g,b,a,_⟩,_⟩:=I.loc;rw[z,b]at f;cases f;rw[a]at d;cases d
theorem Inv.funs(I:%[|5]):s.heap.FunFrames X.base X.outer:=by
 have a:∀(l:List Env),(∀b∈frs l,b∈X.fs)->X.s₀.heap.FunFrames X.base l->s.heap.FunFrames X.base l:=by
  intro l
  induction l with
  | nil=>intro _ _;trivial
  | cons h r q=>intro g k;obtain⟨j,⟨L,o,f,m,n,i⟩,p⟩:=k;have c:L∈X.fs:=g L (by unfold frs;rw[List.filterMap_cons,f];exact w9);obtain⟨t,e⟩:=I.base.slot L o n (I.ok.frf L c) c λ z=>I.ok.exfs L z c;exact⟨j,⟨L,_,f,m,e,i⟩,q (λ b d=>g b (by unfold frs;rw[List.filterMap_cons,f];exact x8 _ d)) p⟩
 exact a X.outer (λ _ d=>d) I.ok.funs
theorem Inv.stack(I:%[|5]):s.heap.FunFrames X.base X.stack:=by rcases I.ok.stk with e | ⟨e,a⟩;{rw[e];exact I.funs};{rw[e];obtain⟨m,b,_⟩:=I.loc;refine .cons (by rw[I.ok.kind];decide) a b ?_ I.funs;exact Heap.get?_none_of_le (Nat.le_trans I.ok.bsz I.ok.above)}
theorem Inv.stkSub(I:%[|5]):∀b∈frs X.stack,b∈X.env.locals::X.fs:=λ b a=>by rcases I.ok.stk with e | ⟨e,c⟩;{rw[e]at a;exact x8 _ a};{rw[e]at a;unfold frs at a;rw[List.filterMap_cons,c]at a;exact a}
theorem Inv.stkFree(I:%[|5]):∀b∈frs X.stack,H b=none:=λ b a=>by rcases ZJ.mp (I.stkSub b a)with e | a;{rw[e];exact I.free};{obtain⟨_,o,c,_⟩:=I.ok.funs.mem a;exact I.base.free b o c (I.ok.frf b a) λ z=>I.ok.exfs b z a}
theorem Inv.step{g':Array GenState}{d':Drawn}{ch:List Addr}(I:%[|5])
 (g:∀b∈ch,(b∈X.ex∨X.s₀.heap.objs.size≤b)/\b≠X.env.locals/\(∀x c,X.env.cells.lookup x=some c->c≠b)/\∀p∈X.pn++pins,p.1≠b)
 (keep:∀b o,b≠X.env.locals->b∉X.fs->b∉ch->s.heap.get? b=some o->H b=none->h'.get? b=some o)
 (slot:∀b o,b≠X.env.locals->b∈X.fs->b∉ch->s.heap.get? b=some o->H b=none->∃sl,h'.get? b=some {o with slots:=sl})(free:∀b o,b∉ch->s.heap.get? b=some o->H b=none->H' b=none)
 (there:∀b o,b∉ch->s.heap.get? b=some o->∃o',h'.get? b=some o')
 (tups:∀b xs,H b=some (.tup xs)->H' b=some (.tup xs))(frzs:∀b o u,H b=some (.frz o u)->H' b=some (.frz o u))(tbls:∀b ps,H b=some (.tbl ps)->∃more,H' b=some (.tbl (ps++more)))
 (ns:∀m,s.heap.Ns X.env.locals m->h'.Ns X.env.locals m)(D:HOk X.prog X.w H' h')(M:AllBare g'):
 Inv X pins σ H' {s with heap:=h',gens:=g',drawn:=d',toks:=t'}:=by
 have B:∀b o,X.s₀.heap.get? b=some o->b≠X.env.locals:=λ b o e=>ZN (ZM (ZE e) I.ok.above);have t:∀b o,X.s₀.heap.get? b=some o->b∉X.ex->b∉ch:=λ b o e a w=>by rcases(g b w).1 with z | z;{exact a z};{exact absurd (ZM (ZE e) z) (Nat.lt_irrefl _)}
 have f:∀x c,X.env.cells.lookup x=some c->∀v,s.heap.IsCell c v->h'.IsCell c v:=λ x c e v ⟨o,y,C⟩=>by have h:c∉ch:=λ z=>(g c z).2.2.1 x c e rfl;by_cases F:c∈X.fs;{obtain⟨sl,q⟩:=slot c o (I.cne x c e) F h y (I.freeC x c e);exact⟨_,q,C⟩};{exact⟨o,keep c o (I.cne x c e) F h y (I.freeC x c e),C⟩}
 refine⟨I.ok,I.os,M,⟨λ b o e n w a=>?_,λ b o e n w a=>?_,λ b o e n a=>?_,λ b o e a=>?_,λ b xs e=>tups b xs (I.base.tups b xs e),λ b o xs e=>frzs b o xs (I.base.frzs b o xs e),λ b ps e=>?_⟩,?_,λ x c e=>?_,?_,λ x c e=>?_,λ p G=>?_,D,I.len⟩;{exact keep b o (B b o e) w (t b o e a) (I.base.keep b o e n w a) (I.base.free b o e n a)};{obtain⟨sl,j⟩:=I.base.slot b o e n w a;obtain⟨E,A⟩:=slot b _ (B b o e) w (t b o e a) j (I.base.free b o e n a);exact⟨E,A⟩};{obtain⟨o',j⟩:=I.base.there b o e a;exact free b o' (t b o e a) j (I.base.free b o e n a)};{obtain⟨o',j⟩:=I.base.there b o e a;exact there b o' (t b o e a) j};{obtain⟨P,j⟩:=I.base.tbls b ps e;obtain⟨Q,A⟩:=tbls b _ j;exact⟨P++Q,by rw[A,Array.append_assoc]⟩};{obtain⟨m,O,N⟩:=I.loc;refine⟨m,ns m O,λ i x v j A L=>?_⟩;obtain⟨u,r,l⟩:=N i x v j A L;refine⟨u,r,?_⟩;rcases l with l | ⟨k,c,e,z⟩;{exact .inl l};{exact .inr ⟨k,c,e,f x c e _ z⟩}};{obtain⟨v,z⟩:=I.cell x c e;exact⟨v,f x c e v z⟩};{obtain⟨m,⟨o,_,_,y,_⟩,_⟩:=I.loc;exact free _ o (λ z=>(g _ z).2.1 rfl) y I.free};{obtain⟨v,o,y,C⟩:=I.cell x c e;exact free c o (λ z=>(g c z).2.2.1 x c e rfl) y (I.freeC x c e)};{obtain⟨e,n,J,K,d⟩:=I.pin p G;have h:p.1∉ch:=λ z=>(g p.1 z).2.2.2 p G rfl;exact⟨keep p.1 p.2 J K h e n,free p.1 p.2 h e n,J,K,d⟩}
theorem Inv.un(I:%[|5])(u:Un X.fs [] H H' s.heap h')(g:HOk X.prog X.w H' h'):Inv X pins σ H' {s with heap:=h',toks:=t'}:=by obtain⟨m,⟨o,p,l,h,r⟩,_⟩:=id I.loc;obtain⟨v,i⟩:=u.any h I.free (by simp);exact I.step (g':=s.gens) (d':=s.drawn) (ch:=[]) (λ _ z=>nomatch z) (λ b o _ f _ e n=>u.keep b o e n f (by simp)) (λ b o _ f _ e n=>u.slot b o e n f (by simp)) (λ b o _ e n=>u.free b o e n (by simp)) (λ b o _ e=>u.there b o e (by simp)) u.tups u.frzs u.tbls (λ q j=>by obtain⟨t,d,c,a,k⟩:=j;rw[h]at a;cases a;exact⟨_,d,c,i,k⟩) g I.bare
theorem Inv.call{g':Array GenState}{d':Drawn}{ch:List Addr}(I:%[|5])(u:Un (frs X.stack) ch H H' s.heap h')(j:HOk X.prog X.w H' h')(q:AllBare g')
 (d:∀b∈ch,(b∈X.ex∨X.s₀.heap.objs.size≤b)/\b≠X.env.locals/\(∀x c,X.env.cells.lookup x=some c->c≠b)/\∀p∈X.pn++pins,p.1≠b):
 Inv X pins σ H' {s with heap:=h',gens:=g',drawn:=d',toks:=t'}:=by obtain⟨m,⟨o,y,w,k,r⟩,_⟩:=id I.loc;obtain⟨C,i⟩:=u.any k I.free λ z=>(d _ z).2.1 rfl;exact I.step (ch:=ch) d (λ b o i l a e n=>u.keep b o e n (λ z=>(ZJ.mp (I.stkSub b z)).elim i l) a) (λ b o _ _ a e n=>u.any e n a) (λ b o a e n=>u.free b o e n a) (λ b o a e=>u.there b o e a) u.tups u.frzs u.tbls (λ A t=>by obtain⟨B,h,g,f,v⟩:=t;rw[k]at f;cases f;exact⟨_,h,g,i,v⟩) j q
theorem Inv.turned{a:Addr}(I:%[|5])(k:∀b o,b≠a->s.heap.get? b=some o->h'.get? b=some o)(w:H a=none)(g:a≠X.env.locals)
 (h1:a∈X.ex∨X.s₀.heap.objs.size≤a)(h2:∀x c,X.env.cells.lookup x=some c->c≠a)(j:∀p∈X.pn++pins,p.1≠a):Inv X pins σ H {s with heap:=h',toks:=t'}:=by
 have f:∀b u,H b=some u->b≠a:=λ b u e z=>by rw[z,w]at e;cases e
 refine I.step (g':=s.gens) (d':=s.drawn) (ch:=[a]) (λ b l=>?_) (λ b o _ _ d e _=>k b o (λ z=>d (by simp[z])) e) (λ b o _ _ d e _=>⟨o.slots,k b o (λ z=>d (by simp[z])) e⟩) (λ _ _ _ _ n=>n)
  (λ b o d e=>⟨o,k b o (λ z=>d (by simp[z])) e⟩) (λ _ _ e=>e) (λ _ _ _ e=>e) (λ b A e=>⟨#[],by rw[e];simp⟩) (λ m t=>?_) (λ b u e=>?_) I.bare
 . have e:b=a:=by simpa using l
   subst e;exact⟨h1,g,h2,j⟩
 {obtain⟨o,i,h,y,r⟩:=t;exact⟨o,i,h,k _ o (Ne.symm g) y,r⟩};{refine(I.hok b u e).stay (λ c v d q=>k c v ?_ q) (λ _ q=>q) λ _ _ q=>q;rcases d with z | z;{rw[z];exact f b u e};{exact f c _ z}}
theorem Inv.tok(I:%[|5])(t:Nat):Inv X pins σ H {s with toks:=t}:=I.un (h':=s.heap) (t':=t) Un.refl I.hok
theorem Inv.kept(I:%[|5])(k:∀b u,s.heap.get? b=some u->h'.get? b=some u):Inv X pins σ H {s with heap:=h',toks:=t'}:=I.un (Un.kept k) (I.hok.kept k)
theorem Inv.laid{a:Addr}{o:HO}(I:%[|5])(k:∀b u,s.heap.get? b=some u->h'.get? b=some u)(c:s.heap.objs.size≤a)(d:az X.prog X.w (upd H a o) h' a o):
 Inv X pins σ (upd H a o) {s with heap:=h',toks:=t'}:=I.un (Un.laid k c (I.hok.fresh c)) (I.hok.laid k c d)
theorem Inv.write{x e:Addr}{o:HO}(I:%[|5])(f:Mut (H x))(d:e=x∨H e=some (.own x))(k:∀b u,b≠e->s.heap.get? b=some u->h'.get? b=some u)(a:∃u,h'.get? e=some u)
 (c:az X.prog X.w (upd H x o) h' x o):Inv X pins σ (upd H x o) {s with heap:=h',toks:=t'}:=I.un (Un.write f d k a) (I.hok.write f d k a c)
theorem Inv.pins_of{a:List (Addr×Obj)}(I:%[|5])(h:∀p∈a,s.heap.get? p.1=some p.2/\H p.1=none/\p.1≠X.env.locals/\p.1∉X.fs/\∀v,p.2.data≠.cell v):Inv X a σ H s:=
 ⟨I.ok,I.os,I.bare,I.base,I.loc,I.cell,I.free,I.freeC,λ p b=>(ZK.mp b).elim (λ z=>I.pin p (List.mem_append_left _ z)) (h p),I.hok,I.len⟩
theorem yu{N:%[|2]}(e:N.Nodup){i j:Nat}{x:Str}(a:N[i]? =some x)(b:N[j]? =some x):i=j:=by obtain⟨f,c⟩:=z0.mp a;obtain⟨g,d⟩:=z0.mp b;exact(List.getElem_inj e).mp (c.trans d.symm)
theorem vh{M:Model}{A:Around}{E:%[|7]}{i:Nat}{x:Str}{v:V}{u:Value}{Q:Unit->%[|8]}(I:%[|5])(hN:X.N.Nodup)(hi:X.N[i]? =some x)(t:Loc X.env.scope x)(r:RelV v u)
 (h:∀s',Inv X pins (σ.set i (some v)) H s'->(∃a,Heap.SameBut a s.heap s'.heap/\(a=X.env.locals∨X.env.cells.lookup x=some a))->Q () s')(hf:X.fn x=true∨X.env.scope.names.lookup x=some .local:=by first | exact .inl rfl | exact .inr rfl | assumption):wpAny M A (storeName X.env x u) Q E s:=by
 obtain⟨m,Z,hl⟩:=id I.loc;have P:(X.env.scope.kind==.class||(X.env.scope.kind==.module&&X.env.locals !=X.env.globals))=false:=by rw[I.ok.kind];rfl
 have C:i<σ.length:=by rw[I.len];exact(z0.mp hi).1
 have F:=I.cne;have g:∀{a:Addr}{L:Heap},(∃o,s.heap.get? a=some o/\H a=none)->Heap.SameBut a s.heap L->HOk X.prog X.w H L:=λ{a L} ha hs b ob e=>by obtain⟨_,_,w⟩:=ha;refine(I.hok b ob e).stay (λ c W l q=>(hs.2 c ?_).trans q) (λ _ q=>q) λ _ _ q=>q;rintro rfl;rcases l with rfl | l;{rw[w]at e;cases e};{rw[w]at l;cases l}
 rcases t with D | D;{refine wpAny_storeName_local D Z (λ L aa hs=>?_) P;obtain⟨oL,_,_,ab,_⟩:=id Z;refine h _ ⟨I.ok,I.os,I.bare,⟨λ b o e n G t=>?_,λ b o e n G t=>?_,I.base.free,λ b o e t=>?_,I.base.tups,I.base.frzs,I.base.tbls⟩,⟨_,aa,λ j y v' f B Y=>?_⟩,λ y c e=>?_,I.free,I.freeC,λ p hp=>?_,g ⟨oL,ab,I.free⟩ hs,by simpa using I.len⟩ ⟨_,hs,.inl rfl⟩;{exact(hs.2 b (ZN (ZM (ZE e) I.ok.above))).trans (I.base.keep b o e n G t)};{obtain⟨sl,f⟩:=I.base.slot b o e n G t;exact⟨sl,(hs.2 b (ZN (ZM (ZE e) I.ok.above))).trans f⟩};{obtain⟨o',f⟩:=I.base.there b o e t;exact⟨o',(hs.2 b (ZN (ZM (ZE e) I.ok.above))).trans f⟩};{by_cases K:j=i;{subst K;rw[hi]at f;cases f;rw[List.getElem?_set_self C]at B;cases B;exact⟨u,r,.inl ⟨D,by simp⟩⟩};{rw[List.getElem?_set_ne (Ne.symm K)]at B;obtain⟨u',r',q⟩:=hl j y v' f B Y;refine⟨u',r',?_⟩;rcases q with⟨k,e⟩ | ⟨k,c,e,z⟩;{refine .inl ⟨k,?_⟩;have:y≠x:=λ e=>K (yu hN f (e▸hi));simp[this,e]};{exact .inr ⟨k,c,e,z.sameBut hs (F y c e)⟩}}};{obtain⟨W,z⟩:=I.cell y c e;exact⟨W,z.sameBut hs (F y c e)⟩};{obtain⟨e,n,U,nf,d⟩:=I.pin p hp;exact⟨(hs.2 p.1 U).trans e,n,U,nf,d⟩}}
 . have J:X.fn x=true:=by rcases hf with z | z;{exact z};{rw[z]at D;cases D}
   obtain⟨c,l⟩:=I.ok.has x (.inl D);obtain⟨W,z⟩:=I.cell x c l;refine wpAny_storeName_cell I.ok.kind D l z (λ L N hs=>?_);obtain⟨oc,R,S⟩:=id z;refine h {s with heap:=L} ⟨I.ok,I.os,I.bare,⟨λ b o e n G t=>?_,λ b o e n G t=>?_,I.base.free,λ b o e t=>?_,I.base.tups,I.base.frzs,I.base.tbls⟩,⟨m,Z.sameBut hs (Ne.symm (F x c l)),λ j y v' f B Y=>?_⟩,λ y T e=>?_,I.free,I.freeC,λ p hp=>?_,g ⟨oc,R,I.freeC x c l⟩ hs,by simpa using I.len⟩ ⟨c,hs,.inr l⟩;{exact(hs.2 b (ZN (ZM (ZE e) (I.ok.cab x c J l)))).trans (I.base.keep b o e n G t)};{obtain⟨sl,f⟩:=I.base.slot b o e n G t;exact⟨sl,(hs.2 b (ZN (ZM (ZE e) (I.ok.cab x c J l)))).trans f⟩};{obtain⟨o',f⟩:=I.base.there b o e t;exact⟨o',(hs.2 b (ZN (ZM (ZE e) (I.ok.cab x c J l)))).trans f⟩};{by_cases K:j=i;{subst K;rw[hi]at f;cases f;rw[List.getElem?_set_self C]at B;cases B;exact⟨u,r,.inr ⟨.inl D,c,l,N⟩⟩};{rw[List.getElem?_set_ne (Ne.symm K)]at B;obtain⟨u',r',q⟩:=hl j y v' f B Y;refine⟨u',r',?_⟩;rcases q with q | ⟨k,T,e,z'⟩;{exact .inl q};{refine .inr ⟨k,T,e,z'.sameBut hs ?_⟩;rintro rfl;exact K (yu hN f (I.ok.inj _ _ _ e l▸hi))}}};{by_cases O:T=c;{subst O;exact⟨_,N⟩};{obtain⟨w2,z2⟩:=I.cell y T e;exact⟨w2,z2.sameBut hs O⟩}};{obtain⟨e,n,U,nf,d⟩:=I.pin p hp;refine⟨(hs.2 p.1 ?_).trans e,n,U,nf,d⟩;intro q;rw[q,R]at e;have q':oc=p.2:=Option.some.inj e;exact d W (by rw[←q'];exact S)}
theorem pY{M:Model}{A:Around}{E:%[|7]}{i:Nat}{x:Str}{v:V}{u:Value}{Q:Unit->%[|8]}(I:%[|5])(b:X.N.Nodup)(hi:X.N[i]? =some x)(d:Loc X.env.scope x)(r:RelV v u)
 (h:∀s',Inv X pins (σ.set i (some v)) H s'->Q () s')(c:X.fn x=true∨X.env.scope.names.lookup x=some .local:=by first | exact .inl rfl | exact .inr rfl | assumption):wpAny M A (storeName X.env x u) Q E s:=
 vh I b hi d r (λ s' a _=>h s' a) c
theorem Inv.call'{s':Shared}{ch:List Addr}(I:%[|5])(g:s'.os=s.os)(u:Un (frs X.stack) ch H H' s.heap s'.heap)(d:HOk X.prog X.w H' s'.heap)(f:AllBare s'.gens)
 (a:∀b∈ch,(b∈X.ex∨X.s₀.heap.objs.size≤b)/\b≠X.env.locals/\(∀x c,X.env.cells.lookup x=some c->c≠b)/\∀p∈X.pn++pins,p.1≠b):Inv X pins σ H' s':=by obtain⟨i,g',d',t',h⟩:=s';have e:h=s.os:=g;subst e;exact I.call (g':=g') (t':=t') (d':=d') u d f a
end
abbrev XK:=Value->Option Addr->Hp->Prop
abbrev St:=List (Option V)
abbrev VK:=V->Hp->Prop
abbrev TE:=St->Hp->VK->Prop
abbrev TT:=St->Hp->(Bool->Hp->Prop)->Prop
abbrev TA:=St->Hp->(List V->Hp->Prop)->Prop
structure Ends where
 nx:St->Hp->Prop
 rt:VK
 bk:St->Hp->Prop:=λ _ _=>False
 ct:St->Hp->Prop:=λ _ _=>False
abbrev TS:=Ends->St->Hp->Prop
def EP(X:Cx)(pins:List (Addr×Obj))(σ:St)(Q:VK)(u:Value)(s':Shared):Prop:=∃v a,Inv X pins σ a s'/\RelV v u/\Q v a
def TP(X:Cx)(pins:List (Addr×Obj))(σ:St)(Q:Bool->Hp->Prop)(b:Bool)(s':Shared):Prop:=∃a,Inv X pins σ a s'/\Q b a
def AP(X:Cx)(pins:List (Addr×Obj))(σ:St)(Q:List V->Hp->Prop)(us:List Value)(s':Shared):Prop:=∃b a,Inv X pins σ a s'/\Vals b us/\Q b a
def SP(X:Cx)(pins:List (Addr×Obj))(D:Ends)(f:Flow)(s':Shared):Prop:=
 match f with
 | .next=>∃a b,Inv X pins a b s'/\D.nx a b
 | .brk=>∃a b,Inv X pins a b s'/\D.bk a b
 | .cont=>∃a b,Inv X pins a b s'/\D.ct a b
 | .ret u=>∃v a b,Inv X pins a b s'/\RelV v u/\D.rt v b
def PE(X:Cx)(e:Expr)(t:TE):Prop:=
 ∀(a:List (Addr×Obj))(s:Shared)(b:St)(H:Hp)(Q:VK),Inv X a b H s->t b H Q->wpAny %[|6] X.A (eval e X.env) (EP X a b Q) X.xe s
def PA(X:Cx)(es:List Expr)(t:TA):Prop:=
 ∀(b:Pos)(a:List (Addr×Obj))(s:Shared)(c:St)(H:Hp)(Q:List V->Hp->Prop),Inv X a c H s->t c H Q->wpAny %[|6] X.A (spliced (backTo b (starEach es X.env))) (AP X a c Q) X.xe s
def PS(X:Cx)(st:Stmt)(t:TS):Prop:=
 ∀(a:List (Addr×Obj))(s:Shared)(b:St)(H:Hp)(D:Ends),Inv X a b H s->t D b H->wpAny %[|6] X.A (exec st X.env) (SP X a D) X.xe s
def PSs(X:Cx)(st:List Stmt)(t:TS):Prop:=
 ∀(a:List (Addr×Obj))(s:Shared)(b:St)(H:Hp)(D:Ends),Inv X a b H s->t D b H->wpAny %[|6] X.A (execs st X.env) (SP X a D) X.xe s
theorem thn{c:Type}{t:Sem c}{Q b:c->%[|8]}{M:Model}{A:Around}{E:%[|7]}{s:Shared}(h:wpAny M A t Q E s)(d:∀a s,Q a s->b a s):wpAny M A t b E s:=wpAny_mono h d λ _ _ x=>x
end L2
namespace L2
open PySem PySem.Spec PyProof.Rows
variable {x : Str} {u : Value}
section
variable {X : Cx}
def WN(i:Nat):TE:=λ a H Q=>∃v,a[i]? =some (some v)/\Q v H
def tC(v:V):TE:=λ _ H Q=>Q v H
theorem Um{i:Nat}{pos:Pos}(n:X.N[i]? =some x)(t:Vis X.env.scope x)(j:(x==("__debug__":Str))=false:=by decide)(g:(x==("__classdict__":Str))=false:=by decide):PE X (.Name x pos) (WN i):=by intro f s w H Q I h;obtain⟨v,e,h⟩:=h;obtain⟨m,q,o⟩:=I.loc;obtain⟨u,r,l⟩:=o i x v n e t;have b:EP X f w Q u s:=⟨v,H,I,r,h⟩;rcases l with⟨d,p⟩ | ⟨d,c,k,a⟩;{exact wpAny_Name (wpAny_loadName_local I.ok.kind d q p b) j};{rcases d with d | d;{exact wpAny_Name (wpAny_loadName_cell I.ok.kind d k a b) j};{exact wpAny_Name (wpAny_loadName_free I.ok.kind d k a b g) j}}
theorem Sv{i j pos}:PE X (.Constant (.int i) j pos) (tC (.int i)):=λ _ _ _ H _ I h=>wpAny_Constant_int ⟨.int i,H,I.tok _,⟨_,rfl⟩,h⟩
theorem Wk{b j pos}:PE X (.Constant (.bool b) j pos) (tC (.bl b)):=λ _ _ _ H _ I h=>Constant_bool ⟨.bl b,H,I,rfl,h⟩
theorem R8{j pos}:PE X (.Constant .none j pos) (tC .non):=λ _ _ _ H _ I h=>Constant_none ⟨.non,H,I,rfl,h⟩
def Gl(X:Cx)(x:Str):Prop:=X.env.kindOf x=some .globalImplicit
theorem Ej{E:%[|7]}{pins:List (Addr×Obj)}{s:Shared}{σ:St}{H:Hp}{pos:Pos}{Q:%[|7]}(I:%[|5])(b:Gl X x)(c:X.mg x=some u)(h:Q u s)
 (a:(x==("__debug__":Str))=false:=by decide):wpAny %[|6] X.A (eval (.Name x pos) X.env) Q E s:=
 Calls.Name_function_global I.ok.kind b (Calls.loadGlobal_global (by rw[I.ok.glob];exact I.mod.glob.keeps I.bk) c h) a
theorem cI{E:%[|7]}{pins:List (Addr×Obj)}{s:Shared}{σ:St}{H:Hp}{pos:Pos}{Q:%[|7]}(I:%[|5])(d:Gl X x)(e:X.mg x=none)(g:bootBuiltins x=some u)(h:Q u s)
 (f:x≠"__name__":=by decide)(c:(x==("__debug__":Str))=false:=by decide):wpAny %[|6] X.A (eval (.Name x pos) X.env) Q E s:=by obtain⟨i,a,b⟩:=I.mod.blt;exact Calls.Name_function_global I.ok.kind d (Calls.loadGlobal_builtin (by rw[I.ok.glob];exact I.mod.glob.keeps I.bk) e (by rw[I.ok.blt];exact a.keeps I.bk) ((b x f).trans g) h) c
theorem OJ{v:V}{pos:Pos}(b:Gl X x)(c:X.mg x=some u)(r:RelV v u)(a:(x==("__debug__":Str))=false:=by decide):PE X (.Name x pos) (tC v):=
 λ _ _ _ H _ I h=>Ej I b c ⟨v,H,I,r,h⟩ a
theorem Ed{v:V}{pos:Pos}(b:Gl X x)(c:X.mg x=none)(e:bootBuiltins x=some u)(r:RelV v u)(d:x≠"__name__":=by decide)(a:(x==("__debug__":Str))=false:=by decide):PE X (.Name x pos) (tC v):=
 λ _ _ _ H _ I h=>cI I b c e ⟨v,H,I,r,h⟩ d a
variable {a b : Expr} {ta tb : TE} {pos : Pos}
variable {tA tB' : TT} {rest : List Expr}
end
end L2
namespace L2
open PySem PySem.Spec PyProof.Rows
variable {K : PySem.W.Frag} {tg : Expr}
def SqL(K:PySem.W.Frag)(H:Hp)(a:Addr)(xs:List V):Prop:=
 Rd H a (.lst xs)∨
  ∃(o:Obj) (b:Array Value) (n:Nat),K.lookup a=some o/\o.cls=.type "list"/\o.dict=none/\o.data=.seq b n/\b.size≤sizeLine/\Vals xs b.toList
def SqT(K:PySem.W.Frag)(H:Hp)(a:Addr)(xs:List V):Prop:=
 Rd H a (.tup xs)∨
  ∃(o:Obj) (b:Array Value) (n:Nat),K.lookup a=some o/\o.cls=.type "tuple"/\o.data=.seq b n/\b.size≤sizeLine/\Vals xs b.toList
def WP:Value->Option V
 | .none=>some .non
 | .bool b=>some (.bl b)
 | .int i _=>some (.int i)
 | .str x _=>some (.str x)
 | .bytes b _=>some (.byt b)
 | .float b _=>some (.flt b)
 | .ref a=>some (.ref a)
 | .type n=>some (.ty n)
 | _=>none
theorem RelV.abs{x:V}{u:Value}(r:RelV x u):WP u=some x:=by
 cases x with
 | non=>cases r;rfl
 | bl _=>cases r;rfl
 | int _=>obtain⟨t,rfl⟩:=r;rfl
 | str _=>obtain⟨t,rfl⟩:=r;rfl
 | byt _=>obtain⟨t,rfl⟩:=r;rfl
 | flt _=>obtain⟨t,rfl⟩:=r;rfl
 | ref _=>cases r;rfl
 | ty _=>cases r;rfl
theorem RelV.inj{x y:V}{u:Value}(r:RelV x u)(q:RelV y u):x=y:=Option.some.inj (r.abs.symm.trans q.abs)
theorem Vals.inj:∀{xs ys:List V}{a:List Value},Vals xs a->Vals ys a->xs=ys
 | _,_,_,.nil,.nil=>rfl
 | _,_,_,.cons r t,.cons r' t'=>by rw[r.inj r',Vals.inj t t']
section
variable {X : Cx} {pins : List (Addr × Obj)} {σ : St} {H : Hp} {s : Shared} {a : Addr} {xs ys : List V}
theorem SqL.of(h:H a=some (.lst xs)):SqL K H a xs:=.inl (.inl h)
theorem Inv.list(I:%[|5])(h:SqL X.K H a xs):∃its:List Value,Vals xs its/\PlainL s.heap a its.toArray/\xs.length≤sizeLine:=by rcases h with h | ⟨o,its,n,d,b,c,f,g,r⟩;{obtain⟨z,its,n,r,e⟩:=h.ok I.hok;exact⟨its,r,⟨_,n,e,rfl,rfl,rfl⟩,z⟩};{refine⟨its.toList,r,⟨o,n,I.kIn a o d,b,c,by simpa using f⟩,?_⟩;have e:=r.length;simp only[Array.length_toList]at e;omega}
theorem Inv.tuple(I:%[|5])(h:SqT X.K H a xs):∃its:List Value,Vals xs its/\IsTup s.heap a its.toArray/\xs.length≤sizeLine:=by rcases h with h | ⟨o,its,n,c,b,d,f,r⟩;{obtain⟨z,its,r,p⟩:=h.ok I.hok;exact⟨its,r,p,z⟩};{refine⟨its.toList,r,⟨o,I.kIn a o c,b,n,by simpa using d⟩,?_⟩;have e:=r.length;simp only[Array.length_toList]at e;omega}
theorem Inv.list_inj(I:%[|5])(h:SqL X.K H a xs)(h':SqL X.K H a ys):xs=ys:=by
 obtain⟨c,r,⟨o,n,e,_,_,d⟩,_⟩:=I.list h;obtain⟨b,i,⟨k,j,g,_,_,f⟩,_⟩:=I.list h';rw[e]at g;cases g;rw[d]at f;injection f with d1 _;have:c=b:=by simpa using congrArg Array.toList d1
 subst this;exact r.inj i
theorem Inv.tuple_inj(I:%[|5])(h:SqT X.K H a xs)(h':SqT X.K H a ys):xs=ys:=by
 obtain⟨c,r,⟨o,e,_,n,d⟩,_⟩:=I.tuple h;obtain⟨b,i,⟨k,g,_,j,f⟩,_⟩:=I.tuple h';rw[e]at g;cases g;rw[d]at f;injection f with d1 _;have:c=b:=by simpa using congrArg Array.toList d1
 subst this;exact r.inj i
end
abbrev Cx.wish(X:Cx)(E:%[|7]):Cx:={X with xe:=E}
abbrev Cx.nox(X:Cx):Cx:=X.wish λ _ _=>False
theorem Cx.Ok.wish{X:Cx}(ok:X.Ok)(E:%[|7]):(X.wish E).Ok:=
 ⟨ok.mod,ok.kind,ok.glob,ok.blt,ok.above,ok.inj,ok.has,ok.cab,ok.hd,ok.frames,ok.stk,ok.exf,ok.bs,ok.bsz,ok.noex,ok.exfs,ok.funs,ok.frf⟩
theorem Cx.Ok.unwish{X:Cx}{E:%[|7]}(ok:(X.wish E).Ok):X.Ok:=
 ⟨ok.mod,ok.kind,ok.glob,ok.blt,ok.above,ok.inj,ok.has,ok.cab,ok.hd,ok.frames,ok.stk,ok.exf,ok.bs,ok.bsz,ok.noex,ok.exfs,ok.funs,ok.frf⟩
section
variable {X : Cx} {pins : List (Addr × Obj)} {σ : St} {H : Hp} {s : Shared} {E : Value -> Shared -> Prop}
theorem Inv.wish(I:%[|5])(E:%[|7]):Inv (X.wish E) pins σ H s:=⟨I.ok.wish E,I.os,I.bare,I.base,I.loc,I.cell,I.free,I.freeC,I.pin,I.hok,I.len⟩
theorem Inv.unwish(I:Inv (X.wish E) pins σ H s):%[|5]:=⟨I.ok.unwish,I.os,I.bare,I.base,I.loc,I.cell,I.free,I.freeC,I.pin,I.hok,I.len⟩
theorem SP.unwish{D:Ends}{f:Flow}{s':Shared}(h:SP (X.wish E) pins D f s'):SP X pins D f s':=by
 cases f with
 | next=>obtain⟨a,b,I,q⟩:=h;exact⟨a,b,I.unwish,q⟩
 | brk=>obtain⟨a,b,I,q⟩:=h;exact⟨a,b,I.unwish,q⟩
 | cont=>obtain⟨a,b,I,q⟩:=h;exact⟨a,b,I.unwish,q⟩
 | ret u=>obtain⟨v,a,b,I,r,q⟩:=h;exact⟨v,a,b,I.unwish,r,q⟩
theorem PSs.nox{st:List Stmt}{t:TS}(h:PSs X.nox st t):PSs X st t:=λ a s c H D I b=>
 wpAny_mono (h a s c H D (I.wish _) b) (λ _ _ q=>q.unwish) λ _ _ z=>False.elim z
end
section
variable {X : Cx} {st : Stmt} {rest : List Stmt} {t u : TS} {e : Expr} {te : TE} {pos : Pos}
theorem Inv.quiet{pins:List (Addr×Obj)}{σ:St}{H:Hp}{s:Shared}(I:%[|5]):interactive X.env=false:=by simp[interactive,I.ok.kind]
end
abbrev TG:=V->St->Hp->(St->Hp->Prop)->Prop
def PG(X:Cx)(target:Expr)(t:TG):Prop:=
 ∀ (a:List (Addr×Obj))(s:Shared)(d:St)(H:Hp)(v:V)(u:Value)(Q:St->Hp->Prop),Inv X a d H s->RelV v u->t v d H Q->
   wpAny %[|6] X.A (assign target X.env u) (λ _ e=>∃b c,Inv X a b c e/\Q b c) X.xe s
abbrev W5:=V->V->V->Hp->(Hp->Prop)->Prop
def Wt(X:Cx)(t:W5):Prop:=
 ∀ (a:List (Addr×Obj))(s:Shared)(e:St)(H:Hp)(o i v:V)(d c u:Value)(Q:Hp->Prop),Inv X a e H s->RelV o d->RelV i c->RelV v u->t o i v H Q->
   wpAny %[|6] X.A (setItem d c u) (λ _ f=>∃b,Inv X a e b f/\Q b) X.xe s
abbrev TIp:=V->V->Hp->VK->Prop
def PIp(X:Cx)(op:Operator)(t:TIp):Prop:=
 ∀ (a:List (Addr×Obj))(s:Shared)(b:St)(H:Hp)(x y:V)(v u:Value)(Q:VK),Inv X a b H s->RelV x v->RelV y u->t x y H Q->
   wpAny %[|6] X.A (inplaceOp op v u) (EP X a b Q) X.xe s
section
variable {X : Cx} {pos : Pos}
def W0(i:Nat)(te:TE)(ti:TIp):TS:=λ D a H=>∃x,a[i]? =some (some x)/\te a H λ y b=>ti x y b λ z c=>D.nx (a.set i (some z)) c
theorem zF{i:Nat}{x:Str}{e:Expr}{q:TE}{op:Operator}{t:TIp}{f:Pos}(E:X.N.Nodup)(hi:X.N[i]? =some x)(n:Loc X.env.scope x)(G:PE X e q)(N:PIp X op t)(J:X.fn x=true∨X.env.scope.names.lookup x=some .local:=by first | exact .inl rfl | exact .inr rfl | assumption):
 PS X (.AugAssign (.Name x f) op e pos) (W0 i q t):=by
 intro a s A H D I h;obtain⟨v,C,h⟩:=h;obtain⟨m,M,K⟩:=I.loc;have o:Vis X.env.scope x:=by rcases n with k | k;exact .inl k;exact .inr (.inl k)
 obtain⟨u,r,l⟩:=K i x v hi C o;refine wpAny_AugAssign_Name ?_;have p:wpAny %[|6] X.A (eval e X.env) (λ w g=>wpAny %[|6] X.A (inplaceOp op u w) (λ r j=>wpAny %[|6] X.A (storeName X.env x r) (λ _=>SP X a D .next) X.xe j) X.xe g) X.xe s:=by refine thn (G a s A H _ I h) λ w O ⟨y,H1,I1,r1,q1⟩=>?_;refine thn (N a O A H1 v y u w _ I1 r r1 q1) λ z P ⟨zv,H2,I2,r2,q2⟩=>?_;exact pY I2 E hi n r2 (λ Q B=>⟨_,H2,B,q2⟩) J
 rcases l with⟨b,L⟩ | ⟨b,c,F,d⟩;{exact wpAny_loadName_local I.ok.kind b M L p};{rcases b with b | b;{exact wpAny_loadName_cell I.ok.kind b F d p};{rcases n with k | k;{have:X.env.scope.names.lookup x=some .free:=b;rw[k]at this;cases this};{have:X.env.scope.names.lookup x=some .free:=b;rw[k]at this;cases this}}}
end
structure It where
 go:Nat->Hp->Prop
 yld:Nat->Hp->V->Hp->Prop
 stop:Nat->Hp->Prop
def fB(X:Cx)(pins:List (Addr×Obj))(H:Hp)(b:Addr):Prop:=
 H b=none/\b≠X.env.locals/\b∉X.fs/\(b∈X.ex∨X.s₀.heap.objs.size≤b)/\(∀x c,X.env.cells.lookup x=some c->c≠b)/\∀p∈X.pn++pins,p.1≠b
theorem Inv.fpOk{X:Cx}{pins:List (Addr×Obj)}{σ:St}{H d:Hp}{s:Shared}{b:Addr}(I:%[|5])(a:s.heap.objs.size≤b)(f:d b=none):fB X pins d b:=by refine⟨f,Nat.ne_of_gt (ZM I.lt a),I.nofs a,.inr (Nat.le_trans I.sz a),λ x c e z=>?_,λ p g z=>?_⟩;{obtain⟨v,q⟩:=I.cell x c e;exact absurd (ZM q.lt (by rw[z];exact a)) (Nat.lt_irrefl _)};{exact absurd (ZM (ZE (I.pin p g).1) (by rw[z];exact a)) (Nat.lt_irrefl _)}
structure Turn(P:Program)(w:World)(K:PySem.W.Frag)(tg:Expr)(J:It)(fp:List Addr)(it:Addr)(tn:Nat->Heap->Prop):Prop where
 mem:it∈fp
 obj:∀i h,tn i h->∀b∈fp,∃o,h.get? b=some o/\∀v,o.data≠.cell v
 keep:∀i h h',tn i h->(∀b∈fp,∀o,h.get? b=some o->h'.get? b=some o)->tn i h'
 item:∀(X:Cx),X.prog=P->X.w=w->X.K=K->X.calm=true->∀(i:Nat)(pins:List (Addr×Obj))(s:Shared)(σ:St)(H:Hp)(E:%[|7]),%[|5]->(∀b∈fp,fB X pins H b)->tn i s.heap->J.go i H->
  wpAny (model P w) X.A (pyNext (.ref it)) (λ r s1=>∃u,r=some u/\
   wpAny (model P w) X.A (letOwnedTupleGo tg (.ref it) u) (λ _ s2=>∃x H',Inv X pins σ H' s2/\RelV x u/\J.yld i H x H'/\tn (i+1) s2.heap/\∀b∈fp,H' b=none) E s1) E s
 done:∀(X:Cx),X.prog=P->X.w=w->X.K=K->X.calm=true->∀(i:Nat)(pins:List (Addr×Obj))(s:Shared)(σ:St)(H:Hp)(E:%[|7]),%[|5]->(∀b∈fp,fB X pins H b)->tn i s.heap->J.stop i H->
  wpAny (model P w) X.A (pyNext (.ref it)) (λ r s1=>r=none/\Inv X pins σ H s1) E s
 self:∀(A:Around)(i:Nat)(s:Shared)(Q:%[|7])(E:%[|7]),tn i s.heap->Q (.ref it) s->wpAny (model P w) A (pyIter (.ref it)) Q E s
abbrev TI:=St->Hp->(It->Hp->Prop)->Prop
def PIE(X:Cx)(pins:List (Addr×Obj))(σ:St)(tg:Expr)(R:It->Hp->Prop)(itv:Value)(s2:Shared):Prop:=
 ∃(d:Addr) (c:List Addr) (e:Nat->Heap->Prop) (J:It) (a:Hp),itv=.ref d/\Inv X pins σ a s2/\Turn X.prog X.w X.K tg J c d e/\e 0 s2.heap/\(∀b∈c,fB X pins a b)/\R J a
def PI(X:Cx)(tg iter:Expr)(wi:TI):Prop:=
 ∀ (a:List (Addr×Obj))(s:Shared)(b:St)(H:Hp)(R:It->Hp->Prop),Inv X a b H s->wi b H R->
   wpAny %[|6] X.A (eval iter X.env) (λ v c=>wpAny %[|6] X.A (pyIter v) (PIE X a b tg R) X.xe c) X.xe s
theorem qT{M:Model}{A:Around}{E:%[|7]}{s:Shared}{b:Addr}{u:Value}{o:Obj}{n:String}{c:Array Value}{Q:Unit->%[|8]}(g:s.heap.get? b=some o)(d:o.cls=.type n)(e:o.data=.fields c)
 (f:["enumerate","zip","dict_itemiterator","dict_reverseitemiterator","odict_iterator","itertools.zip_longest","itertools.pairwise"].contains n=false)(a:Q () s):wpAny M A (letOwnedTupleGo tg (.ref b) u) Q E s:=by
 unfold letOwnedTupleGo;cases tg<;>first
  | exact ZB a
  | (cases u<;>first
   | exact ZB a
   | (refine ZA (wpAny_load g ?_);rw[d,e];show wpAny M A (if(["enumerate","zip","dict_itemiterator","dict_reverseitemiterator","odict_iterator","itertools.zip_longest","itertools.pairwise"].contains n&&c[0]? ==some (rawInt _))=true then _ else _) Q E s;rw[if_neg (by intro h;rw[f,Bool.false_and]at h;cases h)];exact ZB a))
def Itl(K:PySem.W.Frag)(a:Addr):It:=
 ⟨λ i H=>∃b x,SqL K H a b/\b[i]? =some x,λ i H x c=>c=H/\∀b,SqL K H a b->b[i]? =some x,λ i H=>∃b,SqL K H a b/\b.length≤i⟩
def Itt(K:PySem.W.Frag)(a:Addr):It:=
 ⟨λ i H=>∃b x,SqT K H a b/\b[i]? =some x,λ i H x c=>c=H/\∀b,SqT K H a b->b[i]? =some x,λ i H=>∃b,SqT K H a b/\b.length≤i⟩
def Itr(lo:Int)(n:Nat):It:=⟨λ i _=>i<n,λ i H x a=>a=H/\x=.int (lo+i),λ i _=>n≤i⟩
theorem mD{P:Program}{w:World}(a l:Addr):Turn P w K tg (Itl K a) [l] l (λ i h=>h.IsListIter l a i) where
 mem:=by simp
 obj:=λ i h f b j=>by
  have e:b=l:=by simpa using j
  subst e;obtain⟨o,e,c,d⟩:=f;exact⟨o,e,λ v z=>by rw[d]at z;cases z⟩
 keep:=λ i h n f k=>f.at λ o e=>k l (by simp) o e
 item:=by intro X F J D O i g s Q H E I q f G;subst F J D;obtain⟨Z,x,r,L⟩:=G;obtain⟨M,N,p,W⟩:=I.list r;obtain⟨u,U,Y⟩:=N.get L;obtain⟨t,y,T,A,B,C⟩:=q l (by simp);refine wpAny_pyNext_list_item f p.isList (x:=u) (by simpa using U) λ n m sb=>?_;have R:Inv X g Q H {s with heap:=n}:=I.turned (t':=s.toks) (λ b o j e=>(sb.2 b j).trans e) t y A B C;obtain⟨o,e,c,d⟩:=id m;exact⟨u,rfl,qT (s:={s with heap:=n}) e c d %[|3] ⟨x,H,R,Y,⟨rfl,λ ys V=>by rw[I.list_inj V r];exact L⟩,m,λ b j=>(q b j).1⟩⟩
 done:=by intro X F J D O i g s Q H E I q f G;subst F J D;obtain⟨Z,r,L⟩:=G;obtain⟨M,N,p,W⟩:=I.list r;obtain⟨t,y,T,A,B,C⟩:=q l (by simp);have hl:=N.length;exact wpAny_pyNext_list_end (I.ok.hd O) f p.isList (by simp;omega) λ n S=>⟨rfl,I.turned (t':=s.toks) (λ b o j e=>S b o j e) t y A B C⟩
 self:=λ _ _ _ _ _ f h=>wpAny_pyIter_listiter f h
theorem qZ{P:Program}{w:World}(a l:Addr):Turn P w K tg (Itt K a) [l] l (λ i h=>h.IsTupleIter l a i) where
 mem:=by simp
 obj:=λ i h f b j=>by
  have e:b=l:=by simpa using j
  subst e;obtain⟨o,e,c,d⟩:=f;exact⟨o,e,λ v z=>by rw[d]at z;cases z⟩
 keep:=λ i h q f k=>f.at λ o e=>k l (by simp) o e
 item:=by intro X G L F O i g s Q H E I r f J;subst G L F;obtain⟨Z,x,t,M⟩:=J;obtain⟨m,N,p,W⟩:=I.tuple t;obtain⟨u,U,Y⟩:=N.get M;obtain⟨y,A,T,B,C,D⟩:=r l (by simp);refine wpAny_pyNext_tuple_item f (show s.heap.IsTuple a m.toArray from p) (x:=u) (by simpa using U) λ q n sb=>?_;have R:Inv X g Q H {s with heap:=q}:=I.turned (t':=s.toks) (λ b o j e=>(sb.2 b j).trans e) y A B C D;obtain⟨o,e,c,d⟩:=id n;exact⟨u,rfl,qT (s:={s with heap:=q}) e c d %[|3] ⟨x,H,R,Y,⟨rfl,λ ys V=>by rw[I.tuple_inj V t];exact M⟩,n,λ b j=>(r b j).1⟩⟩
 done:=by intro X G L F O i g s Q H E I r f J;subst G L F;obtain⟨Z,t,M⟩:=J;obtain⟨m,N,p,W⟩:=I.tuple t;obtain⟨y,A,T,B,C,D⟩:=r l (by simp);have hl:=N.length;exact wpAny_pyNext_tuple_end (I.ok.hd O) f (show s.heap.IsTuple a m.toArray from p) (by simp;omega) λ q S=>⟨rfl,I.turned (t':=s.toks) (λ b o j e=>S b o j e) y A B C D⟩
 self:=λ _ _ _ _ _ f h=>wpAny_pyIter_tupleiter f h
theorem Gg{P:Program}{w:World}(c:Addr)(lo:Int)(n:Nat):Turn P w K tg (Itr lo n) [c] c (λ i h=>IsRangeIter h c (lo+(i:Nat)*1) ((n:Int)-(i:Nat)) 1) where
 mem:=by simp
 obj:=λ i h a b f=>by
  have e:b=c:=by simpa using f
  subst e;exact⟨_,a,λ v z=>by have O:Data.fields _=Data.cell v:=z;cases O⟩
 keep:=λ i h j a k=>k c (by simp) _ a
 item:=by intro X y C x A i d s F H E I l a B;subst y C x;obtain⟨m,p,L,q,r,u⟩:=l c (by simp);have W:=Walks.range (prog:=X.prog) (w:=X.w) (I.ok.hd A) c lo 1 n;refine W.item i s _ _ B a λ v j D M g N=>?_;obtain⟨t,rfl⟩:=M;have G:Inv X d F H {s with heap:=j,toks:=D}:=I.turned (λ b o f e=>N b o (by simpa using f) e) m p q r u;refine⟨_,rfl,qT (s:={s with heap:=j,toks:=D}) (n:="range_iterator") g rfl rfl %[|3] ⟨.int (lo+i),H,G,⟨t,?_⟩,⟨rfl,rfl⟩,g,λ b f=>(l b f).1⟩⟩;rw[Int.mul_one]
 done:=by intro X y C x A i d s F H E I l a B;subst y C x;obtain⟨m,p,L,q,r,u⟩:=l c (by simp);exact wpAny_pyNext_range_end (I.ok.hd A) a (by have:n≤i:=B;omega) λ j J=>⟨rfl,I.turned (t':=s.toks) (λ b o f e=>J b o f e) m p q r u⟩
 self:=λ _ _ _ _ _ a h=>wpAny_pyIter_rangeiter a h
end L2
namespace L2
open PySem PySem.Spec PyProof.Rows
section
variable {X : Cx} {tg : Expr}
theorem By{pins:List (Addr×Obj)}{σ:St}{H:Hp}{s:Shared}{R:It->Hp->Prop}{E:%[|7]}{lo hi:Int}{t u v:Tok}{tk:Nat}(I:%[|5])(h1: -(2 ^ 62)≤lo)(h2:lo<2 ^ 62)(f: -(2 ^ 62)≤hi)(g:hi<2 ^ 62)
 (q:R (Itr lo (hi-lo).toNat) H):wpAny %[|6] X.A (pyIter (.ref s.heap.objs.size)) (PIE X pins σ tg R) E {s with heap:=s.heap.push {cls:=.type "range",data:=.fields #[.int lo t,.int hi u,.int 1 v]},toks:=tk}:=by
 refine wpAny_pyIter_range (IsRange.new ..) (small_one h1 h2 f g) ?_;have a:Inv X pins σ H {s with heap:=s.heap.push {cls:=.type "range",data:=.fields #[.int lo t,.int hi u,.int 1 v]},toks:=tk}:=I.kept λ b o e=>ZC _ e;refine⟨(s.heap.push {cls:=.type "range",data:=.fields #[.int lo t,.int hi u,.int 1 v]}).objs.size,[(s.heap.push {cls:=.type "range",data:=.fields #[.int lo t,.int hi u,.int 1 v]}).objs.size],_,_,H,rfl,
  a.kept (t':=tk) λ b o e=>ZC _ e,Gg _ lo (hi-lo).toNat,?_,λ b h=>?_,q⟩
 . have c:lo+((0:Nat):Int)*1=lo:=by simp
   have d:(((hi-lo).toNat:Nat):Int)-((0:Nat):Int)=Builtin.Range.rangeSize lo hi 1:=by rw[rangeSize_one];split<;>omega
   show IsRangeIter _ _ (lo+((0:Nat):Int)*1) ((((hi-lo).toNat:Nat):Int)-((0:Nat):Int)) 1;rw[c,d];exact ZD _ rfl
 . have e:b=(s.heap.push {cls:=.type "range",data:=.fields #[.int lo t,.int hi u,.int 1 v]}).objs.size:=by simpa using h
   subst e;exact a.fpOk (x6 _) (a.hok.fresh (x6 _))
def Wa(ta:TA):TI:=λ c H R=>ta c H λ b a=>∃j:Int,b=[.int j]/\ -(2 ^ 62)≤j/\j<2 ^ 62/\R (Itr 0 j.toNat) a
def VM(ta:TA):TI:=λ c H R=>ta c H λ b a=>∃i j:Int,b=[.int i,.int j]/\(-(2 ^ 62)≤i/\i<2 ^ 62/\ -(2 ^ 62)≤j/\j<2 ^ 62)/\R (Itr i (j-i).toNat) a
theorem HY{a:Expr}{d:TA}{p pos:Pos}(g:Gl X "range")(i:X.mg "range"=none)(f:PA X [a] d)(k:starEach [a] X.env=[(false,eval a X.env)]:=by rfl):PI X tg (.Call (.Name "range" p) [a] [] pos) (Wa d):=by intro b s n H R I h;refine Call_ (cI I g i boot_range (PyProof.Rows.callWith_type1 (thn (f pos b s n H _ I h) λ u o ⟨vs,H1,I1,r1,c⟩=>?_) k rfl));obtain⟨j,e,c,l,q⟩:=c;subst e;cases r1 with| cons r m=>cases m;obtain⟨t,rfl⟩:=r;exact call_range_1 (By I1 %[|0] %[|0] c l (by simpa using q))
theorem JD{a b:Expr}{k:TA}{p pos:Pos}(m:Gl X "range")(n:X.mg "range"=none)(l:PA X [a,b] k)(o:starEach [a,b] X.env=[(false,eval a X.env),(false,eval b X.env)]:=by rfl)(c:starEach [b] X.env=[(false,eval b X.env)]:=by rfl):
 PI X tg (.Call (.Name "range" p) [a,b] [] pos) (VM k):=by intro d s y H R I h;refine Call_ (cI I m n boot_range (PyProof.Rows.callWith_type1 (thn (l pos d s y H _ I h) λ B z ⟨vs,H1,I1,r1,f⟩=>?_) (by rw[o,c]) (by rw[c];rfl)));obtain⟨i,j,e,⟨f,u,v,w⟩,q⟩:=f;subst e;cases r1 with| cons r g=>cases g with| cons x g=>cases g;obtain⟨t,rfl⟩:=r;obtain⟨A,rfl⟩:=x;exact call_range_2 (By I1 f u v w q)
def Wm(wi:TI)(g:TG)(tb:TS):TS:=λ D a H=>wi a H λ J f=>∃W:Nat->Nat->St->Hp->Prop,(∃m,W 0 m a f)/\∀i m a H,W i m a H->
 (J.stop i H/\D.nx a H)∨(J.go i H/\∃N:St->Hp->Prop,(∀c b,N c b->∃e,e<m/\W (i+1) e c b)/\∀x b,J.yld i H x b->g x a b λ d h=>tb {D with nx:=N,ct:=N,bk:=D.nx} d h)
def nj(fp:List Addr)(h:Heap):List (Addr×Obj):=fp.filterMap λ b=>(h.get? b).map λ o=>(b,o)
theorem gC{a:List Addr}{h:Heap}{b:Addr}{o:Obj}(c:b∈a)(e:h.get? b=some o):(b,o)∈nj a h:=List.mem_filterMap.mpr ⟨b,c,by rw[e];rfl⟩
theorem J0{a:List Addr}{h:Heap}{p:Addr×Obj}(f:p∈nj a h):p.1∈a/\h.get? p.1=some p.2:=by
 obtain⟨b,d,e⟩:=List.mem_filterMap.mp f
 cases q:h.get? b with
 | none=>rw[q]at e;cases e
 | some o=>rw[q]at e;have c:(b,o)=p:=Option.some.inj e;subst c;exact⟨d,q⟩
theorem Inv.pinned{pins:List (Addr×Obj)}{σ:St}{H:Hp}{s:Shared}{a:List Addr}(I:%[|5])(j:∀b∈a,fB X pins H b)(k:∀b∈a,∃o,s.heap.get? b=some o/\∀v,o.data≠.cell v):Inv X (pins++nj a s.heap) σ H s:=
 I.pins_of λ p l=>(ZK.mp l).elim (λ z=>I.pin p (List.mem_append_right _ z)) λ z=>by obtain⟨f,e⟩:=J0 z;obtain⟨g,h,i,_⟩:=j p.1 f;obtain⟨o,c,d⟩:=k p.1 f;rw[e]at c;cases c;exact⟨e,g,h,i,d⟩
theorem Inv.unpinned{pins b:List (Addr×Obj)}{σ:St}{H:Hp}{s:Shared}(I:Inv X (pins++b) σ H s):%[|5]:=I.pins_of λ p a=>I.pin p (List.mem_append_right _ (List.mem_append_left _ a))
theorem Ka{iter:Expr}{z:List Stmt}{wi:TI}{g:TG}{tb:TS}{pos:Pos}(E:PassesOwn %[|6] X.A X.env X.xe)(V:X.calm=true)(hi:PI X tg iter wi)(hg:PG X tg g)(p:PSs X z tb)
 (hs:∀x,foldedSetIterable iter X.env x=pure x:=by intro _;rfl):PS X (.For tg iter z [] pos) (Wm wi g tb):=by
 intro a s σ H D I h;refine wpAny_For (thn (hi a s σ H _ I h) λ v s1 h1=>thn h1 λ aa s2 h2=>?_) hs;obtain⟨it,B,tn,J,H2,e,I2,T,R,U,W,⟨m0,w0⟩,M⟩:=h2;subst e;have q:∀{y:Hp},(∀b∈B,y b=none)->∀b∈B,fB X a y b:=λ hn b p=>⟨hn b p,(U b p).2⟩;refine codeAny_forLoop_any (λ n Y=>∃i t y,Inv X a t y Y/\tn i Y.heap/\(∀b∈B,y b=none)/\W i n t y) ?_ m0 ⟨0,σ,H2,I2,R,λ b p=>(U b p).1,w0⟩;rintro n Z ⟨i,w,O,S,G,C,w3⟩;rcases M i n w O w3 with⟨L,qn⟩ | ⟨go,N,hN,K⟩;{refine wpAny_passesOwn E (thn (T.done X rfl rfl rfl V i a Z w O X.xe S (q C) G L) λ r s4 ⟨hr,I4⟩=>?_);subst hr;exact wpAny_execs_nil ⟨w,O,I4,qn⟩}
 . refine wpAny_passesOwn E (thn (T.item X rfl rfl rfl V i a Z w O X.xe S (q C) G go) λ r s4 ⟨u,hr,h4⟩=>?_);subst hr;refine wpAny_passesOwn E (thn h4 λ _ s5 ⟨x,H5,I5,r5,y5,st5,fr5⟩=>?_);have P:=I5.pinned (q fr5) (T.obj _ _ st5);refine wpAny_passesOwn E (thn (hg _ s5 w H5 x u _ P r5 (K x H5 y5)) λ _ s6 ⟨σ6,H6,I6,q6⟩=>?_);refine wpAny_passesOwn E (thn (p _ s6 σ6 H6 _ I6 q6) λ f Q A=>?_);have l:∀{c:St}{j:Hp},Inv X (a++nj B s5.heap) c j Q->N c j->∃m,m<n/\∃i t y,Inv X a t y Q/\tn i Q.heap/\(∀b∈B,y b=none)/\W i m t y:=λ{c j} k F=>by obtain⟨m',hm,w7⟩:=hN c j F;refine⟨m',hm,i+1,c,j,k.unpinned,T.keep _ _ _ st5 λ b p o e=>(k.pin (b,o) (List.mem_append_right _ (List.mem_append_right _ (gC p e)))).1,λ b p=>?_,w7⟩;obtain⟨o,e,d⟩:=T.obj _ _ st5 b p;exact(k.pin (b,o) (List.mem_append_right _ (List.mem_append_right _ (gC p e)))).2.1
   cases f with
   | next=>obtain⟨c,j,k,F⟩:=A;exact l k F
   | cont=>obtain⟨c,j,k,F⟩:=A;exact l k F
   | brk=>obtain⟨c,j,k,A⟩:=A;exact⟨c,j,k.unpinned,A⟩
   | ret v=>obtain⟨x7,c,j,k,r7,A⟩:=A;exact⟨x7,c,j,k.unpinned,r7,A⟩
end
abbrev R2:=V->V->Hp->VK->Prop
def OpR(X:Cx)(f:Value->Value->Sem Value)(r:R2):Prop:=
 ∀ (a:List (Addr×Obj))(s:Shared)(b:St)(H:Hp)(x y:V)(v u:Value)(Q:VK),Inv X a b H s->RelV x v->RelV y u->r x y H Q->
   wpAny %[|6] X.A (f v u) (EP X a b Q) X.xe s
def UnR(X:Cx)(f:Value->Sem Value)(r:V->Hp->VK->Prop):Prop:=
 ∀ (a:List (Addr×Obj))(s:Shared)(b:St)(H:Hp)(x:V)(v:Value)(Q:VK),Inv X a b H s->RelV x v->r x H Q->
   wpAny %[|6] X.A (f v) (EP X a b Q) X.xe s
def d7(X:Cx)(f:Value)(r:List V->Hp->VK->Prop):Prop:=
 ∀ (a:List (Addr×Obj))(s:Shared)(d:St)(H:Hp)(c:List V)(b:List Value)(Q:VK),Inv X a d H s->Vals c b->r c H Q->
   wpAny %[|6] X.A (call f b) (EP X a d Q) X.xe s
def rI(C:Int->Int->Prop)(g:Int->Int->V):R2:=λ x y H Q=>∃i j,x=.int i/\y=.int j/\C i j/\Q (g i j) H
def rI0(g:Int->Int->V):R2:=λ x y H Q=>∃i j,x=.int i/\y=.int j/\Q (g i j) H
def rU(g:Int->V):V->Hp->VK->Prop:=λ x H Q=>∃i,x=.int i/\Q (g i) H
section
variable {X : Cx} {a b c : Expr} {ta tb tc : TE} {pos : Pos}
theorem opI{f:Value->Value->Sem Value}{C:Int->Int->Prop}{g:Int->Int->Int}
 (a:∀(i j:Int)(t u:Tok)(s:Shared)(Q:%[|7])(E:%[|7]),C i j->Q (.int (g i j) s.toks) {s with toks:=s.toks+1}->wpAny %[|6] X.A (f (.int i t) (.int j u)) Q E s):
 OpR X f (rI C λ i j=>.int (g i j)):=by intro b s l H x y v u Q I d e h;obtain⟨i,j,rfl,rfl,c,q⟩:=h;obtain⟨t,rfl⟩:=d;obtain⟨k,rfl⟩:=e;exact a i j t k s _ _ c ⟨.int (g i j),H,I.tok _,⟨_,rfl⟩,q⟩
theorem G4{f:Value->Value->Sem Value}{g:Int->Int->Int}
 (a:∀(i j:Int)(t u:Tok)(s:Shared)(Q:%[|7])(E:%[|7]),Q (.int (g i j) s.toks) {s with toks:=s.toks+1}->wpAny %[|6] X.A (f (.int i t) (.int j u)) Q E s):
 OpR X f (rI0 λ i j=>.int (g i j)):=by intro b s k H x y v u Q I c d h;obtain⟨i,j,rfl,rfl,q⟩:=h;obtain⟨t,rfl⟩:=c;obtain⟨e,rfl⟩:=d;exact a i j t e s _ _ ⟨.int (g i j),H,I.tok _,⟨_,rfl⟩,q⟩
theorem Hm{f:Value->Value->Sem Value}{g:Int->Int->Bool}
 (a:∀(i j:Int)(t u:Tok)(s:Shared)(Q:%[|7])(E:%[|7]),Q (.bool (g i j)) s->wpAny %[|6] X.A (f (.int i t) (.int j u)) Q E s):
 OpR X f (rI0 λ i j=>.bl (g i j)):=by intro b s k H x y v u Q I c d h;obtain⟨i,j,rfl,rfl,q⟩:=h;obtain⟨t,rfl⟩:=c;obtain⟨e,rfl⟩:=d;exact a i j t e s _ _ ⟨.bl (g i j),H,I,rfl,q⟩
def WL(i j:Int):Prop:=0<j/\j<1073741824
def CPow(i j:Int):Prop:=0≤j/\j≤1000000/\i.natAbs<2 ^ 64
def CMul(i j:Int):Prop:=(-(2 ^ 64)<i/\i<2 ^ 64)∨(-(2 ^ 64)<j/\j<2 ^ 64)
theorem CMul.ok{i j:Int}(h:CMul i j):IntMulOk i j:=by rcases h with⟨a,b⟩ | ⟨a,b⟩;{exact .of_left (intBits_le_64 a b)};{exact .of_right (intBits_le_64 a b)}
theorem RT:OpR X (binaryOp .Add) (rI0 λ i j=>.int (i+j)):=G4 λ _ _ _ _ _ _ _ q=>add_int q
theorem R7:OpR X (binaryOp .Sub) (rI0 λ i j=>.int (i-j)):=G4 λ _ _ _ _ _ _ _ q=>sub_int q
theorem U5:OpR X (binaryOp .Mult) (rI CMul λ i j=>.int (i*j)):=opI λ _ _ _ _ _ _ _ a q=>mul_int q a.ok
theorem Ov:OpR X (binaryOp .FloorDiv) (rI WL λ i j=>.int (i/j)):=opI λ i j _ _ _ _ _ hc q=>by have a:(0:Int)<j:=hc.1;have b:j<1073741824:=hc.2;exact floordiv_int %[|0] (by rw[Int.fdiv_eq_ediv_of_nonneg i %[|0]];exact q) (.inl (PyProof.noPylong_small %[|0]))
theorem Sw:OpR X (binaryOp .Mod) (rI (λ _ j=>0<j) λ i j=>.int (i % j)):=opI λ i j _ _ _ _ _ a q=>by have b:(0:Int)<j:=a;exact mod_int' %[|0] (by rw[Int.fmod_eq_emod_of_nonneg i %[|0]];exact q)
theorem Sy:OpR X (binaryOp .Pow) (rI CPow λ i j=>.int (i ^ j.toNat)):=opI λ _ _ _ _ _ _ _ hc q=>pow_int_small hc.1 hc.2.1 hc.2.2 q
theorem Rc:OpR X (inplaceOp .Add) (rI0 λ i j=>.int (i+j)):=G4 λ _ _ _ _ _ _ _ q=>iadd_int q
theorem Q6:OpR X (inplaceOp .Sub) (rI0 λ i j=>.int (i-j)):=G4 λ _ _ _ _ _ _ _ q=>isub_int q
theorem QM:OpR X (inplaceOp .Mult) (rI CMul λ i j=>.int (i*j)):=opI λ _ _ _ _ _ _ _ a q=>imul_int q a.ok
theorem unI{f:Value->Sem Value}{g:Int->Int}
 (a:∀(i:Int)(t:Tok)(s:Shared)(Q:%[|7])(E:%[|7]),Q (.int (g i) s.toks) {s with toks:=s.toks+1}->wpAny %[|6] X.A (f (.int i t)) Q E s):
 UnR X f (rU λ i=>.int (g i)):=by intro b s d H x v Q I c h;obtain⟨i,rfl,q⟩:=h;obtain⟨t,rfl⟩:=c;exact a i t s _ _ ⟨.int (g i),H,I.tok _,⟨_,rfl⟩,q⟩
theorem Td:UnR X (unaryOp .USub) (rU λ i=>.int (-i)):=unI λ _ _ _ _ _ q=>neg_int q
end
def Ss:V->V->Bool
 | .non,.non=>true | .non,.int _=>true | .int _,.non=>true | .non,.bl _=>true | .bl _,.non=>true | .non,.str _=>true | .str _,.non=>true
 | .int _,.int _=>true | .bl _,.bl _=>true | .str _,.str _=>true | .byt _,.byt _=>true
 | .int _,.str _=>true | .str _,.int _=>true | .bl _,.str _=>true | .str _,.bl _=>true
 | _,_=>false
def rEq:R2:=λ x y H Q=>Ss x y=true/\Q (.bl (decide (x=y))) H
def rNe:R2:=λ x y H Q=>Ss x y=true/\Q (.bl (!decide (x=y))) H
theorem oF{i j:Int}:decide (V.int i=V.int j)=(i==j):=by rw[Bool.eq_iff_iff];simp
theorem qD{i j:Bool}:decide (V.bl i=V.bl j)=(i==j):=by rw[Bool.eq_iff_iff];simp
theorem DX{i j:Str}:decide (V.str i=V.str j)=(i==j):=by rw[Bool.eq_iff_iff];simp
theorem Fj{i j:Array UInt8}:decide (V.byt i=V.byt j)=(i.toList==j.toList):=by rw[Bool.eq_iff_iff];cases i;cases j;simp
section
variable {X : Cx} {a b c : Expr} {ta tb tc : TE} {pos : Pos}
theorem aF{pins:List (Addr×Obj)}{σ:St}{H:Hp}{s:Shared}{Q:VK}{k k':Bool}(I:%[|5])(q:Q (.bl k) H)(e:k=k'):EP X pins σ Q (.bool k') s:=by subst e;exact⟨.bl k,H,I,rfl,q⟩
theorem NZ:OpR X (compareOp .Eq) rEq:=by
 intro e s f H x y v u Q I d a h;obtain⟨c,q⟩:=h
 cases x with
 | non=>
   cases d
   cases y with
   | non=>cases a;exact PySem.EqNone.eq_none_none (aF I q (by simp))
   | bl j=>cases a;exact PySem.EqNone.eq_none_bool (aF I q (by simp))
   | int j=>obtain⟨b,rfl⟩:=a;exact PySem.EqNone.eq_none_int (aF I q (by simp))
   | str j=>obtain⟨b,rfl⟩:=a;exact PySem.EqNone.eq_none_str (aF I q (by simp))
   | _=>exact absurd (show false=true from c) y9
 | bl i=>
   cases d
   cases y with
   | non=>cases a;exact PySem.EqNone.eq_bool_none (aF I q (by simp))
   | bl j=>cases a;exact eq_bool (aF I q qD)
   | str j=>obtain⟨b,rfl⟩:=a;exact PySem.EqMixed.eq_bool_str (aF I q (by simp))
   | _=>exact absurd (show false=true from c) y9
 | int i=>
   obtain⟨t,rfl⟩:=d
   cases y with
   | non=>cases a;exact PySem.EqNone.eq_int_none (aF I q (by simp))
   | int j=>obtain⟨b,rfl⟩:=a;exact eq_int (aF I q oF)
   | str j=>obtain⟨b,rfl⟩:=a;exact PySem.EqMixed.eq_int_str (aF I q (by simp))
   | _=>exact absurd (show false=true from c) y9
 | str i=>
   obtain⟨t,rfl⟩:=d
   cases y with
   | non=>cases a;exact PySem.EqNone.eq_str_none (aF I q (by simp))
   | bl j=>cases a;exact PySem.EqMixed.eq_str_bool (aF I q (by simp))
   | int j=>obtain⟨b,rfl⟩:=a;exact PySem.EqMixed.eq_str_int (aF I q (by simp))
   | str j=>obtain⟨b,rfl⟩:=a;exact eq_str (aF I q DX)
   | _=>exact absurd (show false=true from c) y9
 | byt i=>
   obtain⟨t,rfl⟩:=d
   cases y with
   | byt j=>obtain⟨b,rfl⟩:=a;exact PySem.W.eq_bytes (aF I q Fj)
   | _=>exact absurd (show false=true from c) y9
 | _=>cases y<;>exact absurd (show false=true from c) y9
theorem N7:OpR X (compareOp .NotEq) rNe:=by
 intro e s f H x y v u Q I d a h;obtain⟨c,q⟩:=h
 cases x with
 | non=>
   cases d
   cases y with
   | non=>cases a;exact PySem.EqNone.ne_none_none (aF I q (by simp))
   | bl j=>cases a;exact PySem.EqNone.ne_none_bool (aF I q (by simp))
   | int j=>obtain⟨b,rfl⟩:=a;exact PySem.EqNone.ne_none_int (aF I q (by simp))
   | str j=>obtain⟨b,rfl⟩:=a;exact PySem.EqNone.ne_none_str (aF I q (by simp))
   | _=>exact absurd (show false=true from c) y9
 | bl i=>
   cases d
   cases y with
   | non=>cases a;exact PySem.EqNone.ne_bool_none (aF I q (by simp))
   | bl j=>cases a;exact ne_bool (aF I q (congrArg not qD))
   | str j=>obtain⟨b,rfl⟩:=a;exact PySem.EqMixed.ne_bool_str (aF I q (by simp))
   | _=>exact absurd (show false=true from c) y9
 | int i=>
   obtain⟨t,rfl⟩:=d
   cases y with
   | non=>cases a;exact PySem.EqNone.ne_int_none (aF I q (by simp))
   | int j=>obtain⟨b,rfl⟩:=a;exact ne_int (aF I q (congrArg not oF))
   | str j=>obtain⟨b,rfl⟩:=a;exact PySem.EqMixed.ne_int_str (aF I q (by simp))
   | _=>exact absurd (show false=true from c) y9
 | str i=>
   obtain⟨t,rfl⟩:=d
   cases y with
   | non=>cases a;exact PySem.EqNone.ne_str_none (aF I q (by simp))
   | bl j=>cases a;exact PySem.EqMixed.ne_str_bool (aF I q (by simp))
   | int j=>obtain⟨b,rfl⟩:=a;exact PySem.EqMixed.ne_str_int (aF I q (by simp))
   | str j=>obtain⟨b,rfl⟩:=a;exact ne_str (aF I q (congrArg not DX))
   | _=>exact absurd (show false=true from c) y9
 | byt i=>
   obtain⟨t,rfl⟩:=d
   cases y with
   | byt j=>obtain⟨b,rfl⟩:=a;exact PySem.W.ne_bytes (aF I q (congrArg not Fj))
   | _=>exact absurd (show false=true from c) y9
 | _=>cases y<;>exact absurd (show false=true from c) y9
theorem VV:OpR X (compareOp .Lt) (rI0 λ i j=>.bl (decide (i<j))):=Hm λ _ _ _ _ _ _ _ q=>lt_int q
theorem Vf:OpR X (compareOp .LtE) (rI0 λ i j=>.bl (decide (i≤j))):=Hm λ _ _ _ _ _ _ _ q=>le_int q
theorem Wl:OpR X (compareOp .Gt) (rI0 λ i j=>.bl (decide (j<i))):=Hm λ _ _ _ _ _ _ _ q=>gt_int q
theorem VJ:OpR X (compareOp .GtE) (rI0 λ i j=>.bl (decide (j≤i))):=Hm λ _ _ _ _ _ _ _ q=>ge_int q
theorem Tv:OpR X (compareOp .Is) (λ x y H Q=>y=.non/\Q (.bl (decide (x=.non))) H):=by
 intro a s d H x y v u Q I b c h;obtain⟨rfl,q⟩:=h;cases c;refine is_none_gen (aF I q ?_);cases x<;>first
  | (cases b;rfl)
  | (obtain⟨t,rfl⟩:=b;rfl)
theorem Qc:OpR X (compareOp .IsNot) (λ x y H Q=>y=.non/\Q (.bl (!decide (x=.non))) H):=by
 intro a s d H x y v u Q I b c h;obtain⟨rfl,q⟩:=h;cases c;refine isnot_none_gen (aF I q ?_);cases x<;>first
  | (cases b;rfl)
  | (obtain⟨t,rfl⟩:=b;rfl)
theorem sU:(sizeLine:Nat)<2 ^ 63:=by rw[sizeLine_eq];decide
theorem vals1{x:V}{a:List Value}(r:Vals [x] a):∃u,a=[u]/\RelV x u:=by cases r with| cons b c=>cases c;exact⟨_,rfl,b⟩
theorem vals2{x y:V}{a:List Value}(r:Vals [x,y] a):∃u w',a=[u,w']/\RelV x u/\RelV y w':=by cases r with| cons b c=>cases c with| cons d e=>cases e;exact⟨_,_,rfl,b,d⟩
theorem Nv:d7 X (.builtin "abs") (λ xs H Q=>∃i,xs=[.int i]/\Q (.int (if i<0 then-i else i)) H):=by intro a s d H xs c Q I r h;obtain⟨i,rfl,q⟩:=h;obtain⟨u,rfl,t,rfl⟩:=vals1 r;exact call_abs_int λ u b=>⟨.int (if i<0 then-i else i),H,I.tok _,⟨_,rfl⟩,q⟩
theorem JX(c:X.calm=true):d7 X (.builtin "max") (λ xs H Q=>∃i j,xs=[.int i,.int j]/\Q (.int (if j>i then j else i)) H):=by intro b s m H xs g Q I r h;obtain⟨i,j,rfl,q⟩:=h;obtain⟨u,l,rfl,⟨t,rfl⟩,⟨e,rfl⟩⟩:=vals2 r;refine max_two_ints (I.ok.hd c) λ d f k=>⟨_,H,I.kept k,?_,q⟩;by_cases a:j>i;{rw[if_pos a,if_pos a];exact⟨_,rfl⟩};{rw[if_neg a,if_neg a];exact⟨_,rfl⟩}
theorem Iz(c:X.calm=true):d7 X (.builtin "min") (λ xs H Q=>∃i j,xs=[.int i,.int j]/\Q (.int (if j<i then j else i)) H):=by intro b s m H xs g Q I r h;obtain⟨i,j,rfl,q⟩:=h;obtain⟨u,l,rfl,⟨t,rfl⟩,⟨e,rfl⟩⟩:=vals2 r;refine min_two_ints (I.ok.hd c) λ d f k=>⟨_,H,I.kept k,?_,q⟩;by_cases a:j<i;{rw[if_pos a,if_pos a];exact⟨_,rfl⟩};{rw[if_neg a,if_neg a];exact⟨_,rfl⟩}
theorem vP:d7 X (.type "int") (λ xs H Q=>(∃i,xs=[.int i]/\Q (.int i) H)∨∃k,xs=[.bl k]/\Q (.int (if k then 1 else 0)) H):=by intro a s d H xs c Q I r h;rcases h with⟨i,rfl,q⟩ | ⟨k,rfl,q⟩;{obtain⟨u,rfl,t,rfl⟩:=vals1 r;exact call_int_int ⟨.int i,H,I,⟨_,rfl⟩,q⟩};{obtain⟨u,rfl,b⟩:=vals1 r;cases b;exact call_int_bool ⟨.int (if k then 1 else 0),H,I.tok _,⟨_,rfl⟩,q⟩}
end
structure Room(k:Nat)(A:Around):Prop where
 hd:A.handled=none
 dp:A.depth+3*k+5<recursionLimit
 un:A.units+16*k+200<cLine
theorem Room.mono{j k:Nat}{A:Around}(r:Room k A)(h:j≤k):Room j A:=⟨r.hd,by have:=r.dp;omega,by have:=r.un;omega⟩
theorem Room.deeper{k:Nat}{A:Around}(r:Room (k+1) A)(env:Env):Room k (A.deeper env):=
 ⟨r.hd,by have:=r.dp;show A.depth+1+3*k+5<_;omega,by have:=r.un;show A.units+3+16*k+200<_;omega⟩
theorem Room.depth{k:Nat}{A:Around}(r:Room k A):A.depth<recursionLimit:=by have:=r.dp;omega
def Wv:TA:=λ _ H Q=>Q [] H
def V6(ta:TE)(tr:TA):TA:=λ a H Q=>ta a H λ x b=>tr a b λ d c=>Q (x::d) c
section
variable {X : Cx} {e : Expr} {es : List Expr} {te : TE} {t : TA} {pos : Pos}
theorem rY:PA X [] Wv:=λ _ _ _ _ H Q I h=>Calls.spliced_nil ⟨[],H,I,.nil,h⟩
theorem gH(d:PE X e te)(f:PA X es t)(g:starEach (e::es) X.env=(false,eval e X.env)::starEach es X.env:=by rfl):PA X (e::es) (V6 te t):=by intro b a s c H Q I h;rw[g];show wpAny _ _ (spliced ((false,eval e X.env)::backTo b (starEach es X.env))) _ _ s;refine Calls.spliced_cons (thn (d a s c H _ I h) λ u i ⟨x,H1,I1,r1,q1⟩=>?_);exact thn (f b a i c H1 _ I1 q1) λ k j ⟨xs,H2,I2,r2,q2⟩=>⟨x::xs,H2,I2,.cons r1 r2,q2⟩
end
abbrev Sp:=List V->Hp->VK->XK->Prop
abbrev CXT:=List Env->Hp->Shared->XK->%[|7]
structure Env0(P:Program)(w:World)(K:PySem.W.Frag)(mg:Str->Option Value)(base:Heap)(A:Around)(outer:List Env)(s:Shared)(H:Hp):Prop where
 frames:A.frames=some outer
 mod:Mod K mg base
 bs:∀b o,base.get? b=some o->s.heap.get? b=some o/\H b=none
 bsz:base.objs.size≤s.heap.objs.size
 funs:s.heap.FunFrames base outer
 frf:∀b∈frs outer,H b=none
 hok:HOk P w H s.heap
 bare:AllBare s.gens
def CE(outer:List Env)(P:Program)(w:World)(H:Hp)(s:Shared)(Q:VK)(u:Value)(s':Shared):Prop:=
 ∃v a,s'.os=s.os/\AllBare s'.gens/\Un (frs outer) [] H a s.heap s'.heap/\HOk P w a s'.heap/\RelV v u/\Q v a
def CR(CX:CXT)(outer:List Env)(P:Program)(w:World)(H:Hp)(s:Shared)(Q:VK)(E:XK)(r:Result)(s':Shared):Prop:=
 match r with
 | .ok (.ret u)=>CE outer P w H s Q u s'
 | .ok _=>False
 | .error e=>CX outer H s E e s'
structure FnOk(P:Program)(w:World)(K:PySem.W.Frag)(mg:Str->Option Value)(base:Heap)(CX:CXT)(k:Nat)(f:Addr)(fd:FuncData)(ps:%[|2])(sp:Sp):Prop where
 len:∀vs H Q E,sp vs H Q E->vs.length=ps.length
 run:∀(A:Around)(outer:List Env)(s:Shared)(H:Hp)(args:Args)(us:List Value)(vs:List V)(Q:VK)(E:XK),Room k A->Env0 P w K mg base A outer s H->BindsTo s fd args (ps.zip us)->Vals vs us->sp vs H Q E->
  codeAny (model P w) A (.call (.ref f) args) (CR CX outer P w H s Q E) s
section
variable {X : Cx} {pins : List (Addr × Obj)} {σ : St} {H : Hp} {s s' : Shared}
theorem Inv.env0(I:%[|5]):Env0 X.prog X.w X.K X.mg X.base X.A X.stack s H:=
 ⟨I.ok.frames,I.ok.mod,I.bs,Nat.le_trans I.ok.bsz I.sz,I.stack,I.stkFree,I.hok,I.bare⟩
theorem Inv.after{Q:VK}{u:Value}(I:%[|5])(h:CE X.stack X.prog X.w H s Q u s'):EP X pins σ Q u s':=by obtain⟨v,f,i,a,j,c,r,q⟩:=h;obtain⟨hh,g,d,t,e⟩:=s';obtain rfl:e=s.os:=i;exact⟨v,f,I.call (h':=hh) (g':=g) (d':=d) (t':=t) (ch:=[]) j c a (λ b z=>absurd z (by simp)),r,q⟩
end
def Binds(K:PySem.W.Frag)(fd:FuncData)(ps:%[|2])(ds:List Value):Prop:=
 ∀(s:Shared)(a:List Value),K.In s.heap->(a++ds).length=ps.length->BindsTo s fd ⟨a,[]⟩ (ps.zip (a++ds))
theorem Binds.all{K:PySem.W.Frag}{b:FuncData}{a:%[|2]}(h:∀us:List Value,us.length=a.length->bindArgs b ⟨us,[]⟩=pure (a.zip us)):Binds K b a []:=λ s us _ c=>by rw[List.append_nil]at c ⊢;exact .of_eq (h us c)
def Kl(CX:CXT)(X:Cx)(E:XK):Prop:=∀(a:List (Addr×Obj))(c:St)(H:Hp)(s:Shared)(e:Value)(b:Shared),Inv X a c H s->CX X.stack H s E e b->X.xe e b
section
variable {X : Cx} {CX : CXT} {k : Nat} {f C : Addr} {fd : FuncData} {ps : %[|2]} {sp : Sp} {dvs : List V} {ds : List Value} {E : XK} {x m : Str} {p pos apos : Pos} {e o : Expr} {es : List Expr} {ta : TE} {t : TA}
theorem Uq{pins:List (Addr×Obj)}{σ:St}{H:Hp}{s:Shared}{Q:VK}{a:List Value}{c:List V}(F:FnOk X.prog X.w X.K X.mg X.base CX k f fd ps sp)(m:Room k X.A)(i:Binds X.K fd ps ds)(j:Vals dvs ds)(n:Kl CX X E)
 (I:%[|5])(r:Vals c a)(h:sp (c++dvs) H Q E):wpAny %[|6] X.A (call (.ref f) a) (EP X pins σ Q) X.xe s:=by
 have d:Vals (c++dvs) (a++ds):=r.append j;have l:(a++ds).length=ps.length:=by rw[←d.length];exact F.len _ _ _ _ h
 refine wpAny_call (codeAny_mono (F.run X.A X.stack s H ⟨a,[]⟩ (a++ds) (c++dvs) Q E m I.env0 (i s a I.kIn l) d h) λ r o b=>?_)
 cases r with
 | error e=>exact n pins σ H s e o I b
 | ok g=>
   cases g with
   | ret u=>exact I.after b
   | next=>exact False.elim b
   | brk=>exact False.elim b
   | cont=>exact False.elim b
end
structure FnScope(N P:%[|2])(sc:Scope):Prop where
 kind:sc.kind=.function
 co:sc.isCoroutine=false
 gen:sc.isGenerator=false
 nd:N.Nodup
 pre:N.take P.length=P
 par:∀x∈P,sc.names.lookup x=some .local∨sc.names.lookup x=some .cell
 nofree:∀y∈sc.names,y.2≠.free
theorem vK{b:Str->Option NameKind}{x:Str}:∀{a:List (Str×Value)}{m:Str->Option Value},(∀v,(x,v)∉a)->bindL b a m x=m x
 | [],_,_=>rfl
 | (n,v)::r,m,h=>by
   unfold bindL;rw[vK λ w c=>h w (x8 _ c)];split
   . have:x≠n:=by rintro rfl;exact h v w9
     simp[this]
   {rfl}
theorem vq{b:Str->Option NameKind}{x:Str}:∀{a:List (Str×Value)}{m:Str->Option Value},(∀v,(x,v)∉a)->bindC b a m x=m x
 | [],_,_=>rfl
 | (n,v)::r,m,h=>by
   unfold bindC;rw[vq λ w c=>h w (x8 _ c)];split;{rfl}
   . have:x≠n:=by rintro rfl;exact h v w9
     simp[this]
theorem vD{a:Str->Option NameKind}{x:Str}{v:Value}:∀{P:%[|2]}{b:List Value}{i:Nat}{m:Str->Option Value},P.Nodup->P[i]? =some x->b[i]? =some v->a x=some .local->
 bindL a (P.zip b) m x=some v
 | [],_,_,_,_,h,_,_=>by simp at h
 | _::_,[],_,_,_,_,h,_=>by simp at h
 | p::P,w::b,0,m,nd,h1,h2,hk=>by simp at h1 h2;subst h1;subst h2;show bindL a ((p,w)::P.zip b) m p=_;unfold bindL;rw[vK λ v c=>(List.nodup_cons.mp nd).1 (List.of_mem_zip c).1,if_pos hk];simp
 | p::P,w::b,i+1,m,nd,h1,h2,hk=>by show bindL a ((p,w)::P.zip b) m x=_;unfold bindL;exact vD (i:=i) (List.nodup_cons.mp nd).2 (by simpa using h1) (by simpa using h2) hk
theorem vy{a:Str->Option NameKind}{x:Str}{v:Value}:∀{P:%[|2]}{b:List Value}{i:Nat}{m:Str->Option Value},P.Nodup->P[i]? =some x->b[i]? =some v->a x≠some .local->
 bindC a (P.zip b) m x=some v
 | [],_,_,_,_,h,_,_=>by simp at h
 | _::_,[],_,_,_,_,h,_=>by simp at h
 | p::P,w::b,0,m,nd,h1,h2,hk=>by simp at h1 h2;subst h1;subst h2;show bindC a ((p,w)::P.zip b) m p=_;unfold bindC;rw[vq λ v c=>(List.nodup_cons.mp nd).1 (List.of_mem_zip c).1,if_neg hk];simp
 | p::P,w::b,i+1,m,nd,h1,h2,hk=>by show bindC a ((p,w)::P.zip b) m x=_;unfold bindC;exact vy (i:=i) (List.nodup_cons.mp nd).2 (by simpa using h1) (by simpa using h2) hk
def start(N:%[|2])(vs:List V):St:=vs.map some++List.replicate (N.length-vs.length) none
def nq(CX:CXT)(P:Program)(w:World)(K:PySem.W.Frag)(mg:Str->Option Value)(base:Heap)(N:%[|2])(qual:Str)(scope:Scope)(f:Addr)(cd:Value)(A:Around)(outer:List Env)(s:Shared)(H:Hp)(E:XK):Cx where
 prog:=P
 w:=w
 K:=K
 mg:=mg
 base:=base
 A:=A.deeper (envOfC qual scope s.heap.objs.size f cd)
 N:=N
 s₀:=s
 H₀:=H
 env:=envOfC qual scope s.heap.objs.size f cd
 outer:=outer
 stack:=envOfC qual scope s.heap.objs.size f cd::outer
 ex:=[]
 calm:=true
 fn:=λ _=>true
 pn:=[]
 xe:=λ e c=>wpAny (model P w) (A.deeper (envOfC qual scope s.heap.objs.size f cd)) (leaving (envOfC qual scope s.heap.objs.size f cd) e) (λ _ a=>CX outer H s E e a) (λ b a=>CX outer H s E b a) c
theorem BP{a:Scope}{n:Nat}{x:Str}(h:a.names.lookup x=some .cell):∃c,(cellsFrom n a.names []).lookup x=some c:=by have q:=PySem.W.cellsFrom_some a.names n [] (.inl h);exact Option.isSome_iff_exists.mp q
theorem JS{CX:CXT}{P:Program}{w:World}{K:PySem.W.Frag}{mg:Str->Option Value}{base:Heap}{N o:%[|2]}{d:Str}{scope:Scope}{f:Addr}{cd:Value}{A:Around}{outer:List Env}{s s1:Shared}{H:Hp}{E:XK}{G:List Value}{t:List V}
 (S:FnScope N o scope)(M:A.handled=none)(j:Env0 P w K mg base A outer s H)(T:t.length=o.length)(r:Vals t G)
 (x:InCallC s s.heap.objs.size (bindL (envOfC d scope s.heap.objs.size f cd).kindOf (o.zip G) λ _=>none) (cellsFrom (s.heap.objs.size+1) scope.names []) (bindC (envOfC d scope s.heap.objs.size f cd).kindOf (o.zip G) λ _=>none) s1):
 Inv (nq CX P w K mg base N d scope f cd A outer s H E) [] (start N t) H s1:=by
 have O:o.length≤N.length:=by have:=congrArg List.length S.pre;rw[List.length_take]at this;omega
 obtain⟨D,U,rfl,I⟩:=x.done;have m:∀b:Addr,b∉(nq CX P w K mg base N d scope f cd A outer s H E).ex:=λ b z=>absurd (show b∈([]:List Addr)from z) (by simp);refine⟨⟨j.mod,S.kind,rfl,rfl,x6 _,λ y z c D g=>?_,λ y l=>?_,λ y c _ h=>?_,λ _=>M,Around.frames_deeper j.frames,.inr ⟨rfl,rfl⟩,λ b z=>absurd z (m b),j.bs,j.bsz,λ b _ _=>m b,λ b z=>absurd z (m b),j.funs,j.frf⟩,
  rfl,j.bare,Un.kept I,⟨_,x.toInCall.ns,λ i y v D g R=>?_⟩,λ y c h=>⟨_,x.cell y c h⟩,j.hok.fresh (x6 _),λ y c h=>?_,λ p B=>absurd (show p∈([]:List (Addr×Obj))from B) (by simp),j.hok.kept I,?_⟩;{exact name_of_addr x.apart (PySem.mem_of_lookup D) (PySem.mem_of_lookup g)};{have l:scope.names.lookup y=some .cell∨scope.names.lookup y=some .free:=l;rcases l with l | l;{exact BP l};{exact absurd rfl (S.nofree _ (PySem.mem_of_lookup l))}};{exact Nat.le_of_lt (x.above y c (PySem.mem_of_lookup h))}
 . have F:i<t.length:=by unfold start at g;by_cases F:i<t.length;{exact F};{rw[List.getElem?_append_right (by simpa using F)]at g;rw[List.getElem?_replicate]at g;split at g<;>cases g}
   have L:t[i]? =some v:=by
    unfold start at g;rw[List.getElem?_append_left (by simpa using F),x5]at g
    cases e:t[i]? with
    | none=>rw[e]at g;cases g
    | some a=>rw[e]at g;cases g;rfl
   obtain⟨u,J,Q⟩:=r.get L;have B:o[i]? =some y:=by rw[←S.pre,List.getElem?_take_of_lt %[|0]];exact D
   have C:o.Nodup:=by rw[←S.pre];exact S.nd.sublist (List.take_sublist _ _)
   refine⟨u,Q,?_⟩;rcases S.par y (y8 B)with k | k;{exact .inl ⟨k,vD C B J k⟩};{obtain⟨c,e⟩:=BP (n:=s.heap.objs.size+1) k;refine .inr ⟨.inl k,c,e,?_⟩;have q:=x.cell y c e;rw[vy C B J (by show scope.names.lookup y≠_;rw[k];decide)]at q;exact q}
 {exact j.hok.fresh (Nat.le_of_lt (x.above y c (PySem.mem_of_lookup h)))};{unfold start;show _=N.length;rw[v3,x4,List.length_replicate];omega}
theorem V1{CX:CXT}{P:Program}{w:World}{K:PySem.W.Frag}{mg:Str->Option Value}{base:Heap}{k:Nat}{f:Addr}{name a:Str}{d:Arguments}{g:List Stmt}{scope:Scope}{Y Z p pm c ct oc:Value}{W od:Option Addr}
 {O:Array (Option Value)}{N F:%[|2]}{sp:Sp}(lk:K.lookup f=some ⟨oc,od,.func (PySem.W.fnOf name a d g scope Y Z p pm W c ct),O⟩)(G:PySem.W.codeIn K c a=true)(S:FnScope N F scope)
 (D:∀h H Q E,sp h H Q E->h.length=F.length)
 (j:∀(A:Around)(outer:List Env)(s:Shared)(H:Hp)(h:List V)(Q:VK)(E:XK),Room k (A.deeper (envOfC a scope s.heap.objs.size f c))->sp h H Q E->
  ∃t,PSs (nq CX P w K mg base N a scope f c A outer s H E) g t/\t {nx:=λ _ H'=>Q .non H',rt:=Q} (start N h) H):
 FnOk P w K mg base CX (k+1) f (PySem.W.fnOf name a d g scope Y Z p pm W c ct) F sp:=by
 refine⟨D,λ A outer s H X us h Q E L z hb r C=>?_⟩;have hl:=D _ _ _ _ C;have U:K.In s.heap:=z.mod.kin.keeps λ b o e=>(z.bs b o e).1;have M:s.heap.NoLimit:=z.mod.nolimit.keeps λ b o e=>(z.bs b o e).1;have l:∀y∈F.zip us,scope.names.lookup y.1=some .local∨(scope.names.lookup y.1=some .cell/\((cellsFrom (s.heap.objs.size+1) scope.names []).lookup y.1).isSome=true):=λ⟨n,v⟩ hy=>by rcases S.par n (List.of_mem_zip hy).1 with q | q;{exact .inl q};{exact .inr ⟨q,PySem.W.cellsFrom_some _ _ _ (.inl q)⟩}
 refine codeAny_call_function L.depth (U _ _ lk) rfl S.co S.gen rfl (PySem.W.codeRec_of U G) (hb _ _ _ _ ?_);refine wpAny_newFunctionEnv_cells S.kind l λ aa he s1 x=>?_;subst he;refine⟨M.keeps x.toInCall.keep,codeAny_func ?_⟩;obtain⟨t,ht,hq⟩:=j A outer s H h Q E (L.deeper _) C;have I:Inv (nq CX P w K mg base N a scope f c A outer s H E) [] (start N h) H s1:=JS S L.hd z hl r x;refine wpAny_mono (ht [] s1 (start N h) H _ I hq) (λ fl T m=>?_) λ e T m=>m;have B:∀{i:St}{H':Hp}{v:V}{u:Value},Inv (nq CX P w K mg base N a scope f c A outer s H E) [] i H' T->RelV v u->Q v H'->CE outer P w H s Q u T:=
  λ{i H' v u} J R q=>⟨v,H',J.os,J.bare,J.base,J.hok,R,q⟩
 cases fl with
 | ret u=>obtain⟨v,i,H',J,R,q⟩:=m;exact B J R q
 | next=>obtain⟨i,H',J,q⟩:=m;exact B (v:=V.non) (u:=Value.none) J rfl q
 | brk=>obtain⟨_,_,_,q⟩:=m;exact False.elim q
 | cont=>obtain⟨_,_,_,q⟩:=m;exact False.elim q
section
variable {X : Cx} {x : Str} {p pos : Pos} {e : Expr} {es : List Expr} {t : TA} {id T : String} {r : List V -> Hp -> VK -> Prop}
def tCB(r:List V->Hp->VK->Prop)(t:TA):TE:=λ c H Q=>t c H λ b a=>r b a Q
theorem yO(g:d7 X (.builtin id) r)(j:Gl X x)(k:X.mg x=none)(m:bootBuiltins x=some (.builtin id))(f:PA X (e::es) t)(l:x≠"__name__":=by decide)(b:(x==("__debug__":Str))=false:=by decide)
 (i:starEach (e::es) X.env=(false,eval e X.env)::starEach es X.env:=by rfl)(c:(backTo pos (starEach es X.env)).any (·.1)=false:=by rfl):PE X (.Call (.Name x p) (e::es) [] pos) (tCB r t):=by intro a s d H Q I h;refine wpAny_Call_Name_kw (cI I j k m ?_ l b);exact PyProof.Rows.callWith_builtin1 (thn (f pos a s d H _ I h) λ o n ⟨vs,H1,I1,r1,q1⟩=>g a n d H1 vs o Q I1 r1 q1) i c
end
end L2
namespace HT
open PySem PyProof.Rows
section
variable {prog : Program} {w : World} {A : Around} {E : Value -> Shared -> Prop} {s : Shared}
theorem cat_tup{t b:Addr}{d a:List Value}{Q:%[|7]}(z:IsTup s.heap t d.toArray)(y:IsTup s.heap b a.toArray)(u:d≠[])
 (h1:a=[]->Q (.ref t) s)(h2:a≠[]->Q (.ref s.heap.objs.size) {s with heap:=s.heap.push {cls:=.type "tuple",data:=.seq (d++a).toArray}})
 (m:d.length+a.length≤sizeLine):wpAny (model prog w) A (binaryOp .Add (.ref t) (.ref b)) Q E s:=by
 obtain⟨⟨cls,p,data,x⟩,j,q,n,r⟩:=id z;obtain⟨⟨o,f,l,i⟩,c,g,v,h⟩:=id y;simp only at q r g h;subst q r g h;have e:d.toArray++a.toArray=(d++a).toArray:=by simp
 by_cases k:a=[]
 . exact concat_meets ⟨_,j,rfl⟩ ⟨_,c,rfl⟩ noFill_tuple_add seq_tuple_add PySem.F.slot_tuple_add PySem.F.entry_tuple_add (PySem.F.args_tuple_add_2 _ _)
    (tuple_addW1 t b d.toArray a.toArray n v p f x i (by simpa using u) (by simp[k])) ⟨j,c,h1 k⟩
 . refine concat_meets ⟨_,j,rfl⟩ ⟨_,c,rfl⟩ noFill_tuple_add seq_tuple_add PySem.F.slot_tuple_add PySem.F.entry_tuple_add (PySem.F.args_tuple_add_2 _ _)
    (tuple_addW2 t b d.toArray a.toArray n v p f x i (by simpa using u) (by simpa using k) (by rw[x9,x9];exact m)) ⟨j,c,?_⟩;rw[e];exact h2 k
def sIx(n d:Nat):Option Int->Nat
 | none=>d
 | some v=>if v<0 then(v+(n:Int)).toNat else min v.toNat n
theorem sIx_none(n d:Nat):sIx n d none=d:=rfl
theorem sIx_nat(n d k:Nat):sIx n d (some (k:Int))=min k n:=by show(if(k:Int)<0 then((k:Int)+(n:Int)).toNat else min (k:Int).toNat n)=min k n;rw[if_neg %[|0],Int.toNat_natCast]
theorem RP(n d:Nat)(b:d≤n)(o:Option Int):sIx n d o≤n:=by
 cases o with
 | none=>exact b
 | some v=>show(if v<0 then(v+(n:Int)).toNat else min v.toNat n)≤n;by_cases a:v<0;{rw[if_pos a];omega};{rw[if_neg a];exact Nat.min_le_right _ _}
theorem FP(v:Int)(n d:Nat):(if v<0 then max (v+(n:Int)) 0 else min v (n:Int))=((sIx n d (some v):Nat):Int):=by show(if v<0 then max (v+(n:Int)) 0 else min v (n:Int))=(((if v<0 then(v+(n:Int)).toNat else min v.toNat n):Nat):Int);by_cases a:v<0;{simp only[if_pos a];omega};{simp only[if_neg a];omega}
theorem GQ(lo hi:Option Int)(n:Nat):Builtin.Slice.sliceAdjust lo hi 1 (n:Int)=(((sIx n 0 lo:Nat):Int),((sIx n n hi:Nat):Int)):=by
 have a:¬((1:Int)<0):=%[|0]
 unfold Builtin.Slice.sliceAdjust;simp only[a,if_false];refine Prod.ext ?_ ?_
 . cases lo with
   | none=>rfl
   | some v=>exact FP v n 0
 . cases hi with
   | none=>rfl
   | some v=>exact FP v n n
theorem Hv(i j:Nat):Builtin.Slice.slicePlaces (i:Int) (j:Int) 1=j-i:=by
 unfold Builtin.Slice.slicePlaces;have a:(1:Int)>0:=%[|0]
 simp only[a,if_true,Int.ediv_one];split<;>omega
theorem qG{v:Value}{o:Option Int}{Q:Option Int->%[|8]}(p:IsPart v o)(h:Q o s):wpAny (model prog w) A (Builtin.Slice.slicePartIndex v) Q E s:=by
 cases p with
 | none=>exact slicePart_none h
 | int i t=>exact slicePart_int h
theorem sliceApplied_gen{c:Addr}{vl vu:Value}{lo hi:Option Int}{n:Nat}{Q:Int×Int×Nat->%[|8]}(e:s.heap.IsSliceOf c vl vu .none)(f:IsPart vl lo)(g:IsPart vu hi)
 (h:Q (((sIx n 0 lo:Nat):Int),1,sIx n n hi-sIx n 0 lo) s):wpAny (model prog w) A (Builtin.Slice.sliceApplied (.ref c) (pure (n:Int))) Q E s:=by obtain⟨i,b,d,a⟩:=id e;unfold Builtin.Slice.sliceApplied Builtin.Slice.sliceFields;refine ZA (ZA (wpAny_field b a (x:=vl) rfl (ZA (wpAny_field b a (x:=vu) rfl (ZA (wpAny_field b a (x:=.none) rfl (ZB ?_)))))));refine ZA (slicePart_none ?_);show wpAny _ _ (if((1:Int)==0)=true then _ else _) _ _ s;rw[if_neg %[|3]];refine ZA (qG f (ZA (qG g (ZA (ZB ?_)))));show wpAny _ _ (match Builtin.Slice.sliceAdjust lo hi 1 (n:Int)with | (lo,hi)=>pure (lo,(1:Int),Builtin.Slice.slicePlaces lo hi 1)) _ _ s;rw[GQ lo hi n];show wpAny _ _ (pure (((sIx n 0 lo:Nat):Int),(1:Int),Builtin.Slice.slicePlaces ((sIx n 0 lo:Nat):Int) ((sIx n n hi:Nat):Int) 1)) _ _ s;rw[Hv];exact ZB h
theorem K1(xs:Array Value)(i k:Nat):((List.range k).filterMap λ(m:Nat)=>xs[((i:Int)+(m:Int)*1).toNat]?).toArray=((xs.toList.drop i).take k).toArray:=by
 have e:(λ(m:Nat)=>xs[((i:Int)+(m:Int)*1).toNat]?)=λ m=>xs[i+m]?:=by
  funext m;have:((i:Int)+(m:Int)*1).toNat=i+m:=%[|0]
  rw[this]
 rw[e];have:=pick_run xs i k;rw[List.filterMap_map]at this;have a:((λ x=>xs[x]?) ∘ λ x=>i+x)=λ m=>xs[i+m]?:=rfl;rw[a]at this;rw[this]
theorem getItem_tuple_cut{t g:Addr}{items:Array Value}{vl vu:Value}{lo hi:Option Int}{Q:%[|7]}(b:IsTup s.heap t items)(i:s.heap.IsSliceOf g vl vu .none)(n:IsPart vl lo)(o:IsPart vu hi)
 (hw:¬(sIx items.size 0 lo=0/\sIx items.size items.size hi=items.size))
 (h:Q (.ref s.heap.objs.size) {s with heap:=s.heap.push {cls:=.type "tuple",data:=.seq ((items.toList.drop (sIx items.size 0 lo)).take (sIx items.size items.size hi-sIx items.size 0 lo)).toArray}})
 (k:items.size≤sizeLine):wpAny (model prog w) A (getItem (.ref t) (.ref g)) Q E s:=by
 have a:sizeOk (.seq ((items.toList.drop (sIx items.size 0 lo)).take (sIx items.size items.size hi-sIx items.size 0 lo)).toArray):=by show((items.toList.drop (sIx items.size 0 lo)).take (sIx items.size items.size hi-sIx items.size 0 lo)).toArray.size≤sizeLine;rw[x9,List.length_take,List.length_drop,Array.length_toList];omega
 have p:sIx items.size items.size hi≤items.size:=RP _ _ (x6 _) hi;obtain⟨l,f,d,j⟩:=id i;have c:s.TypeIs (.ref g) "slice":=⟨l,f,d⟩;unfold getItem;try with_reducible refine ZQ ?_
 first | refine ZA (ZB ?_) | skip
 refine ZA (wpAny_sequenceKey b.typeIs %[|3] ?_);refine ZA (wpAny_callSpecial?_slot (name:=Str.ofString "__getitem__") b.typeIs PyProof.Rows.slot_tuple_getitem
  (ZP PyProof.Rows.slot_tuple_getitem b.typeIs entry_tuple_getitem ?_ (args_tuple_getitem _ _)));show wpAny _ _ (Builtin.Tuple.tupleItemsOf (.ref t)>>=_) _ _ s;refine ZA (tupleItemsOf_ b ?_);refine ZA (wpAny_typeOf c ?_);rw[if_pos %[|3]];refine ZA (sliceApplied_gen i n o ?_);have e:¬((((sIx items.size 0 lo:Nat):Int)==0&&(1:Int)==1&&(sIx items.size items.size hi-sIx items.size 0 lo)==items.size)=true):=by intro q;rw[Bool.and_eq_true,Bool.and_eq_true]at q;have r:((sIx items.size 0 lo:Nat):Int)=0:=ZI q.1.1;have u:sIx items.size items.size hi-sIx items.size 0 lo=items.size:=ZI q.2;exact hw ⟨%[|0],%[|0]⟩
 show wpAny _ _ (if(((sIx items.size 0 lo:Nat):Int)==0&&(1:Int)==1&&(sIx items.size items.size hi-sIx items.size 0 lo)==items.size)=true then _ else _) _ _ s;rw[if_neg e,K1];first
  | exact ZA (m:=Builtin.Tuple.tupleExact _) (wpAny_newObj_type (ZB ⟨_,rfl,ZB h⟩) a)
  | exact ZA (m:=Builtin.Tuple.tupleExact _) (wpAny_newObj_type (ZA (ZB (ZB ⟨_,rfl,ZB h⟩))) a)
  | exact ZA (ZA (m:=Builtin.Tuple.tupleExact _) (wpAny_newObj_type (ZB (ZB ⟨_,rfl,ZB h⟩)) a))
  | exact ZA (ZA (m:=Builtin.Tuple.tupleExact _) (wpAny_newObj_type (ZB ⟨_,rfl,ZB h⟩) a))
end
end HT
namespace L2
open PySem PySem.Spec PyProof.Rows
abbrev TO:=St->Hp->(Option Int->Hp->Prop)->Prop
theorem intsAre_of{ns:%[|1]}:∀{a:List Value},Vals (ns.map V.int) a->IntsAre a ns:=by
 induction ns with
 | nil=>intro a r;rw[List.map_nil]at r;cases r;exact .nil
 | cons n ns b=>intro a r;rw[List.map_cons]at r;cases r with| cons c d=>obtain⟨t,e⟩:=c;subst e;exact .cons n t (b d)
section
variable {X : Cx} {e : Expr} {te : TE} {lo hi : Option Expr} {tl th : TO} {pos p2 : Pos}
def SlR(X:Cx)(r:V->Option Int->Option Int->Hp->VK->Prop):Prop:=
 ∀ (a:List (Addr×Obj))(s:Shared)(g:St)(H:Hp)(x:V)(v e f:Value)(c b:Option Int)(d:Addr)(Q:VK),Inv X a g H s->RelV x v->s.heap.IsSliceOf d e f .none->IsPart e c->IsPart f b->r x c b H Q->
   ∃T h,typeLookup (.type T) "__getitem__"=pure (some (.builtin h))/\s.TypeIs v T/\wpAny %[|6] X.A (getItem v (.ref d)) (EP X a g Q) X.xe s
def mU(xs:List V)(lo hi:Option Int):List V:=(xs.drop (HT.sIx xs.length 0 lo)).take (HT.sIx xs.length xs.length hi-HT.sIx xs.length 0 lo)
theorem ph(xs:List V)(lo hi:Option Int):(mU xs lo hi).length≤xs.length:=by unfold mU;rw[List.length_take,List.length_drop];omega
def Wx(K:PySem.W.Frag):V->Option Int->Option Int->Hp->VK->Prop:=λ x d c H Q=>∃a b,x=.ref a/\SqT K H a b/\
 ¬(HT.sIx b.length 0 d=0/\HT.sIx b.length b.length c=b.length)/\∀p,H p=none->Q (.ref p) (upd H p (.tup (mU b d c)))
theorem Uv:SlR X (Wx X.K):=by
 intro k s B H x v z A e f y Q I u l p t h;obtain⟨a,d,rfl,n,m,q⟩:=h;cases u;obtain⟨g,r,i,j⟩:=I.tuple n;have c:g.toArray.size=d.length:=by rw[x9];exact r.length.symm
 refine⟨"tuple",_,PyProof.Rows.slot_tuple_getitem.lookup,i.typeIs,?_⟩;refine HT.getItem_tuple_cut i l p t (by rw[c];exact m) ?_ (by rw[c];exact j);rw[c];refine⟨.ref s.heap.objs.size,_,I.laid (t':=s.toks) (o:=.tup (mU d e f)) (λ b w q=>ZC _ q) (x6 _) ?_,rfl,q _ (I.hok.fresh (x6 _))⟩;exact⟨Nat.le_trans (ph d e f) j,_,(r.drop (HT.sIx d.length 0 e)).take (HT.sIx d.length d.length f-HT.sIx d.length 0 e),IsTup.new _ _⟩
def VL(K:PySem.W.Frag):R2:=λ x y H Q=>∃a b d c,x=.ref a/\y=.ref b/\SqT K H a d/\SqT K H b c/\d≠[]/\d.length+c.length≤sizeLine/\
 (c=[]->Q (.ref a) H)/\(c≠[]->∀p,H p=none->Q (.ref p) (upd H p (.tup (d++c))))
theorem Vals.nil_iff{xs:List V}{a:List Value}(r:Vals xs a):a=[]↔xs=[]:=by
 cases r with
 | nil=>simp
 | cons _ _=>simp
theorem Qz:OpR X (binaryOp .Add) (VL X.K):=by intro g s E H x y v u Q I t A h;obtain⟨a,b,B,C,rfl,rfl,i,j,k,e,p,r⟩:=h;cases t;cases A;obtain⟨l,d,m,_⟩:=I.tuple i;obtain⟨f,c,n,_⟩:=I.tuple j;refine HT.cat_tup m n (λ z=>k (d.nil_iff.mp z)) (λ z=>⟨.ref a,H,I,rfl,p (c.nil_iff.mp z)⟩) (λ z=>?_) (by rw[←d.length,←c.length];exact e);refine⟨.ref s.heap.objs.size,_,I.laid (t':=s.toks) (o:=.tup (B++C)) (λ b D q=>ZC _ q) (x6 _) ?_,rfl,r (λ w=>z (c.nil_iff.mpr w)) _ (I.hok.fresh (x6 _))⟩;exact⟨by rw[v3];exact e,_,d.append c,IsTup.new _ _⟩
end
def ixN(n:Nat)(i:Int):Option Nat:=if 0≤i then(if i<n then some i.toNat else none)else if-(n:Int)≤i then some (i+n).toNat else none
def atI{α:Type}(xs:List α)(i:Int):Option α:=(ixN xs.length i).bind λ j=>xs[j]?
theorem Fl{n:Nat}{i:Int}{j:Nat}(h:ixN n i=some j):seqIndex? i n=some j/\j<n/\ -(n:Int)≤i/\i<n:=by unfold ixN at h;by_cases b:0≤i;{rw[if_pos b]at h;by_cases a:i<n;{rw[if_pos a]at h;have e:i.toNat=j:=Option.some.inj h;exact⟨by rw[seqIndex_of b a,e],%[|0],%[|0],a⟩};{rw[if_neg a]at h;cases h}};{rw[if_neg b]at h;by_cases a: -(n:Int)≤i;{rw[if_pos a]at h;have e:(i+n).toNat=j:=Option.some.inj h;exact⟨by rw[seqIndex_neg %[|0] a,e],%[|0],a,%[|0]⟩};{rw[if_neg a]at h;cases h}}
theorem FW{a:Type}{xs:List a}{i:Int}{v:a}(h:atI xs i=some v):∃j,seqIndex? i xs.length=some j/\xs[j]? =some v/\j<xs.length/\ -(xs.length:Int)≤i/\i<xs.length:=by
 unfold atI at h
 cases e:ixN xs.length i with
 | none=>rw[e]at h;cases h
 | some j=>rw[e]at h;obtain⟨b,c,d,f⟩:=Fl e;exact⟨j,b,h,c,d,f⟩
theorem cL{a:Type}{xs:List a}{j:Nat}{v:a}(h:xs[j]? =some v):atI xs (j:Int)=some v:=by
 have b:j<xs.length:=(z0.mp h).1;have e:ixN xs.length (j:Int)=some j:=by unfold ixN;rw[if_pos %[|0],if_pos %[|0]];simp
 unfold atI;rw[e];exact h
def Ea(b:Expr):Prop:=∀o i,subscripted b false o i=operate [o,i] (getItem o i)
def IxR(X:Cx)(r:R2):Prop:=
 ∀ (c a:Expr)(b:List (Addr×Obj))(s:Shared)(d:St)(H:Hp)(x y:V)(v u:Value)(Q:VK),Inv X b d H s->RelV x v->RelV y u->r x y H Q->
   subscripted a false v u=operate [v,u] (getItem v u)->wpAny %[|6] X.A (subscriptTail c a v u) (EP X b d Q) X.xe s
def MtR(X:Cx)(id:String)(r:V->List V->Hp->VK->Prop):Prop:=
 ∀ (a:List (Addr×Obj))(s:Shared)(d:St)(H:Hp)(x:V)(c:List V)(v:Value)(b:List Value)(Q:VK),Inv X a d H s->RelV x v->Vals c b->r x c H Q->
   wpAny %[|6] X.A (call (.builtin id) (v::b)) (EP X a d Q) X.xe s
section
variable {X : Cx} {a b : Expr} {ta tb : TE} {pos : Pos}
def Wq(K:PySem.W.Frag):R2:=λ x y H Q=>∃p a i v,x=.ref p/\y=.int i/\SqL K H p a/\atI a i=some v/\Q v H
def WW(K:PySem.W.Frag):R2:=λ x y H Q=>∃p a i v,x=.ref p/\y=.int i/\SqT K H p a/\atI a i=some v/\Q v H
theorem Ey:IxR X (Wq X.K):=by
 intro l k a s A H x y v u Q I J K h o;obtain⟨p,P,i,z,rfl,rfl,G,E,q⟩:=h;cases J;obtain⟨t,rfl⟩:=K;obtain⟨e,r,f,O⟩:=I.list G;obtain⟨j,c,B,M,C,D⟩:=FW E;obtain⟨w,m,g⟩:=r.get B;have F:=r.length;have N:=sU;have b:EP X a A Q w s:=⟨z,H,I,g,q⟩;by_cases n:0≤i
 . have d:i.toNat=j:=by rw[seqIndex_of n D]at c;exact Option.some.inj c
   exact item_listR f.isList n %[|0] (by rw[d];simpa using m) b o
 . have d:(i+(e.toArray.size:Int)).toNat=j:=by rw[seqIndex_neg %[|0] C]at c;rw[x9,←F];exact Option.some.inj c
   exact subscriptTail_builtinR (x:=w) f.isList.typeIs slot_list_getitem.lookup
    (wpAny_getItem_list_neg (Q:=λ r L=>r=w/\EP X a A Q r L) f.isList %[|0] (by rw[x9]<;>omega) %[|0] (by rw[d];simpa using m) ⟨rfl,b⟩) o
theorem Sd:IxR X (WW X.K):=by
 intro e d a s g H x y v u Q I D E h B;obtain⟨p,N,i,z,rfl,rfl,A,n,q⟩:=h;cases D;obtain⟨t,rfl⟩:=E;obtain⟨C,r,f,M⟩:=I.tuple A;obtain⟨j,l,m,G,J,K⟩:=FW n;obtain⟨w,k,c⟩:=r.get m;have o:=r.length;have L:=sU;have b:EP X a g Q w s:=⟨z,H,I,c,q⟩;exact subscriptTail_builtinR (x:=w) f.typeIs slot_tuple_getitem.lookup
  (getItem_tuple (j:=j) (Q:=λ r F=>r=w/\EP X a g Q r F) f %[|0] %[|0] (by rw[x9,←o];exact l) (by simpa using k) ⟨rfl,b⟩) B
theorem Hj(its:List Value)(n j:Nat)(u:Value):Obj.mapSeq (·.setIfInBounds j u) {cls:=.type "list",data:=.seq its.toArray n}={cls:=.type "list",data:=.seq (its.set j u).toArray n}:=by simp[Obj.mapSeq]
theorem Inv.lst{pins:List (Addr×Obj)}{σ:St}{H:Hp}{s:Shared}{p:Addr}{xs:List V}(I:%[|5])(h:H p=some (.lst xs)):
 ∃(its:List Value) (n:Nat),Vals xs its/\s.heap.get? p=some {cls:=.type "list",data:=.seq its.toArray n}/\xs.length≤sizeLine:=by obtain⟨z,its,n,r,e⟩:=I.hok p _ h;exact⟨its,n,r,e,z⟩
theorem Inv.lstUpd{pins:List (Addr×Obj)}{σ:St}{H:Hp}{s:Shared}{p:Addr}{xs ys:List V}{its its':List Value}{n a:Nat}{f:Obj->Obj}(I:%[|5])(h:H p=some (.lst xs))
 (g:s.heap.get? p=some {cls:=.type "list",data:=.seq its.toArray n})(c:f {cls:=.type "list",data:=.seq its.toArray n}={cls:=.type "list",data:=.seq its'.toArray a})(r:Vals ys its')(hz:ys.length≤sizeLine)(t:Nat):
 Inv X pins σ (upd H p (.lst ys)) {s with heap:=s.heap.update p f,toks:=t}:=by
 have e:(s.heap.update p f).get? p=some {cls:=.type "list",data:=.seq its'.toArray a}:=by rw[Heap.get?_update_self f g (by rw[c]<;>rfl),c]
 refine I.write (x:=p) (e:=p) (by rw[h];trivial) (.inl rfl) (λ b u d q=>(Heap.get?_update_other _ _ (Ne.symm d)).trans q) ⟨_,e⟩ ?_;exact⟨hz,its',a,r,e⟩
def V8:V->V->V->Hp->(Hp->Prop)->Prop:=λ o i v H Q=>∃p a k j,o=.ref p/\i=.int k/\H p=some (.lst a)/\ixN a.length k=some j/\Q (upd H p (.lst (a.set j v)))
theorem set_list:Wt X V8:=by
 intro b s E H o i v K J u Q I B A C h;obtain⟨p,D,k,j,rfl,rfl,x,y,q⟩:=h;cases B;obtain⟨t,rfl⟩:=A;obtain⟨a,n,r,f,z⟩:=I.lst x;obtain⟨c,F,m,w⟩:=Fl y;have e:=r.length;have G:=sU;have g:Inv X b E (upd H p (.lst (D.set j v))) {s with heap:=s.heap.update p (Obj.mapSeq (·.setIfInBounds j u))}:=
  I.lstUpd x f (Hj a n j u) (r.set C j) (by rw[List.length_set];exact z) s.toks;by_cases l:0≤k
 . have d:k.toNat=j:=by rw[seqIndex_of l w]at c;exact Option.some.inj c
   exact PySem.W.ki_setAt f l %[|0] (by rw[x9,←e];exact w) (by rw[d];exact⟨_,g,q⟩)
 . have d:(k+(a.toArray.size:Int)).toNat=j:=by rw[seqIndex_neg %[|0] m]at c;rw[x9,←e];exact Option.some.inj c
   exact PySem.W.ki_setBack f %[|0] (by rw[x9,←e];exact m) %[|0] (by rw[d];exact⟨_,g,q⟩)
theorem Av(lo hi:Option Int)(n:Nat):(sliceBounds lo hi none n).1=((HT.sIx n 0 lo:Nat):Int)/\(sliceBounds lo hi none n).2.1=((HT.sIx n n hi:Nat):Int)/\(sliceBounds lo hi none n).2.2=1:=by
 refine⟨?_,?_,rfl⟩
 . cases lo with
   | none=>simp[sliceBounds,HT.sIx]
   | some i=>simp only[sliceBounds,HT.sIx,Option.getD_none,show(1:Int)>0 by decide,if_true];by_cases h:i<0;{simp only[h,if_true]<;>omega};{simp only[h,if_false]<;>omega}
 . cases hi with
   | none=>simp[sliceBounds,HT.sIx]
   | some i=>simp only[sliceBounds,HT.sIx,Option.getD_none,show(1:Int)>0 by decide,if_true];by_cases h:i<0;{simp only[h,if_true]<;>omega};{simp only[h,if_false]<;>omega}
theorem vV(its:List Value)(lo hi:Option Int):slicePick its.toArray lo hi none=((its.drop (HT.sIx its.length 0 lo)).take (HT.sIx its.length its.length hi-HT.sIx its.length 0 lo)).toArray:=by obtain⟨a,b,c⟩:=Av lo hi its.toArray.size;unfold slicePick;rw[a,b,c];simp only[sliceRange_one,pick_run,x9]<;>rfl
def Wr(K:PySem.W.Frag):V->Option Int->Option Int->Hp->VK->Prop:=λ x d c H Q=>∃a b,x=.ref a/\SqL K H a b/\∀p,H p=none->Q (.ref p) (upd H p (.lst (mU b d c)))
theorem Fg:SlR X (Wr X.K):=by intro i s A H x v y z e f w Q I t j n p h;obtain⟨a,c,rfl,k,q⟩:=h;cases t;obtain⟨m,r,g,l⟩:=I.list k;have d:=r.length;refine⟨"list",_,slot_list_getitem.lookup,g.isList.typeIs,?_⟩;refine wpAny_getItem_list_slice g.isList j n p .none (by simp) ?_ (by rw[x9]<;>omega);rw[vV,←d];refine⟨.ref s.heap.objs.size,_,I.laid (t':=s.toks) (o:=.lst (mU c e f)) (λ b u q=>ZC _ q) (x6 _) ?_,rfl,q _ (I.hok.fresh (x6 _))⟩;exact⟨Nat.le_trans (ph c e f) l,_,0,(r.drop (HT.sIx c.length 0 e)).take (HT.sIx c.length c.length f-HT.sIx c.length 0 e),ZD _ rfl⟩
theorem gW:d7 X (.builtin "len") (λ xs H Q=>∃p ys,xs=[.ref p]/\(SqL X.K H p ys∨SqT X.K H p ys)/\Q (.int ys.length) H):=by intro f s l H xs k Q I r h;obtain⟨p,ys,rfl,b,q⟩:=h;obtain⟨u,rfl,i⟩:=vals1 r;cases i;have j:=sU;rcases b with b | b;{obtain⟨c,e,d,g⟩:=I.list b;have a:=e.length;exact Calls.call_len_list d.isList (by simp only[x9]<;>omega) ⟨.int ys.length,H,I.tok _,⟨s.toks+1,by rw[x9,a]⟩,q⟩};{obtain⟨c,e,d,g⟩:=I.tuple b;have a:=e.length;exact len_tuple d (by simp only[x9]<;>omega) ⟨.int ys.length,H,I.tok _,⟨s.toks+1,by rw[x9,a]⟩,q⟩}
theorem mG:d7 X (.type "list") (λ xs H Q=>∃p ys,xs=[.ref p]/\(SqL X.K H p ys∨SqT X.K H p ys)/\∀l,H l=none->Q (.ref l) (upd H l (.lst ys))):=by
 intro t s B H xs C Q I r h;obtain⟨p,ys,rfl,j,q⟩:=h;obtain⟨u,rfl,A⟩:=vals1 r;cases A;have g:∀(a:List Value),Vals ys a->ys.length≤sizeLine->∀(c:Heap)(d:Nat),(∀b z,s.heap.get? b=some z->c.get? b=some z)->
  c.get? s.heap.objs.size=some {cls:=.type "list",dict:=none,data:=.seq a.toArray d,slots:=#[]}->EP X t B Q (.ref s.heap.objs.size) {s with heap:=c}:=λ a f k c d m e=>
  ⟨.ref s.heap.objs.size,_,I.laid (t':=s.toks) m (x6 _) (show az X.prog X.w _ c _ (.lst ys)from⟨k,a,d,f,e⟩),rfl,q _ (I.hok.fresh (x6 _))⟩;rcases j with j | j;{obtain⟨a,f,y,k⟩:=I.list j;have i:=f.length;obtain⟨o,x,v,n,w⟩:=y.isList;exact call_list_seq p (.inl rfl) x v w (λ c d m e=>g a f k c d m e) (by simp only[x9]<;>omega)};{obtain⟨a,f,y,k⟩:=I.tuple j;have i:=f.length;obtain⟨o,x,v,n,w⟩:=y;exact call_list_seq p (.inr rfl) x v w (λ c d m e=>g a f k c d m e) (by simp only[x9]<;>omega)}
theorem lC:d7 X (.type "tuple") (λ xs H Q=>∃p ys,xs=[.ref p]/\((SqL X.K H p ys/\∀l,H l=none->Q (.ref l) (upd H l (.tup ys)))∨(SqT X.K H p ys/\Q (.ref p) H))):=by
 intro a s n H xs x Q I r h;obtain⟨p,ys,rfl,h⟩:=h;obtain⟨u,rfl,w⟩:=vals1 r;cases w;rcases h with⟨f,q⟩ | ⟨f,q⟩
 . obtain⟨c,i,g,m⟩:=I.list f;have k:=i.length;refine call_tuple_list g.isList (λ d v=>?_) (by simp only[x9]<;>omega);have j:Inv X a n H {s with heap:=d}:=I.kept (t':=s.toks) v;have t:Inv X a n (upd H d.objs.size (.tup ys)) {s with heap:=d.push {cls:=.type "tuple",data:=.seq c.toArray}}:=
    j.laid (t':=s.toks) (λ b o e=>ZC _ e) (x6 _) (show az X.prog X.w _ _ _ (.tup ys)from⟨m,c,i,IsTup.new _ _⟩);exact⟨.ref d.objs.size,_,t,rfl,q _ (j.hok.fresh (x6 _))⟩
 {obtain⟨c,i,g,m⟩:=I.tuple f;exact call_tuple_same g ⟨.ref p,H,I,rfl,q⟩}
def tyV(K:PySem.W.Frag)(T:String)(x:V)(H:Hp):Prop:=match x with
 | .str _=>T="str"
 | .int _=>T="int"
 | .ref p=>(T="list"/\∃b,SqL K H p b)∨(T="tuple"/\∃o,K.lookup p=some o/\o.cls=.type "tuple"/\o.dict=none)∨
  (T="dict"/\((∃a,H p=some (.dK a))∨∃a,H p=some (.dT a)))∨(T="set"/\∃S n,H p=some (.set S n))
 | _=>False
theorem UL{pins:List (Addr×Obj)}{σ:St}{H:Hp}{s:Shared}{T:String}{x:V}{v:Value}(I:%[|5])(r:RelV x v)(d:tyV X.K T x H):
 s.TypeIs v T/\∀a,v=.ref a->∃ob,s.heap.get? a=some ob/\ob.dict=none:=by
 cases x with
 | str z=>obtain⟨t,rfl⟩:=r;cases (show T="str" from d);exact⟨typeIs_str s z t,λ _ e=>nomatch e⟩
 | int i=>obtain⟨t,rfl⟩:=r;cases (show T="int" from d);exact⟨typeIs_int s i t,λ _ e=>nomatch e⟩
 | ref p=>
   cases r;rcases d with⟨rfl,q,l⟩ | ⟨rfl,o,b,k,g⟩ | ⟨rfl,b⟩ | ⟨rfl,S,n,b⟩;{obtain⟨m,_,j,_⟩:=I.list l;refine⟨j.isList.typeIs,λ a e=>?_⟩;cases e;obtain⟨o,n,e,c,g,_⟩:=j;exact⟨o,e,g⟩};{refine⟨⟨o,I.kIn p o b,k⟩,λ a e=>?_⟩;cases e;exact⟨o,I.kIn _ o b,g⟩}
   . have z:∃o,s.heap.get? p=some o/\o.ExactDict:=by rcases b with⟨h,b⟩ | ⟨h,b⟩;{obtain⟨_,_,_,_,o,_,_,e,ex,_⟩:=I.hok p _ b;exact⟨o,e,ex⟩};{obtain⟨_,_,_,_,o,_,_,e,ex,_⟩:=I.hok p _ b;exact⟨o,e,ex⟩}
     obtain⟨o,e,ex⟩:=z;refine⟨⟨o,e,ex.1⟩,λ a f=>?_⟩;cases f;exact⟨o,e,ex.2.1⟩
   {obtain⟨o,_,_,_,e,ex,_⟩:=I.hok p _ b;refine⟨⟨o,e,ex.1⟩,λ a f=>?_⟩;cases f;exact⟨o,e,ex.2.1⟩}
 | _=>exact False.elim d
def tBM(K:PySem.W.Frag)(T:String)(r:V->List V->Hp->VK->Prop)(to:TE)(t:TA):TE:=λ b H Q=>to b H λ x a=>tyV K T x a/\t b a λ d c=>r x d c Q
variable {o e : Expr} {es : List Expr} {to : TE} {t : TA} {name : Str} {apos cpos : Pos} {T id : String} {r : V -> List V -> Hp -> VK -> Prop}
theorem Oj(u:PlainAttrs T)(slot:Slot T name id)(g:typeOf (.builtin id)=pure (.type "method_descriptor"))(n:MtR X id r)(p:PE X o to)(m:PA X (e::es) t)
 (c:attributeBase o name X.env (eval o X.env)=eval o X.env:=by rfl)
 (f:((backTo cpos (starEach (e::es) X.env)).all (λ x=>!x.1)&&(backToKw cpos (keywordEach [] X.env)).all (λ x=>x.1.isSome)
  &&decide ((e::es).length+([]:List Keyword).length+(if([]:List Keyword).isEmpty then 0 else 1)<30))=true:=by rfl)
 (d:(apos.endLine==cpos.line)=true:=by rfl)(q:starEach (e::es) X.env=(false,eval e X.env)::starEach es X.env:=by rfl)(b:(backTo cpos (starEach es X.env)).any (·.1)=false:=by rfl):
 PE X (.Call (.Attribute o name apos) (e::es) [] cpos) (tBM X.K T r to t):=by intro a s i H Q I h;refine wpAny_Call_method_late c f d rfl (thn (p a s i H _ I h) λ v w ⟨x,H1,I1,r1,ty,q1⟩=>?_);obtain⟨k,l⟩:=UL I1 r1 ty;refine⟨T,id,u,slot,g,k,l,?_⟩;have j:=m cpos a w i H1 _ I1 q1;rw[q]at j ⊢;refine Calls.callWith_builtin (by show(false||(backTo cpos (starEach es X.env)).any (·.1))=false;rw[b]<;>rfl) (Calls.evalArgs_plain ?_);exact thn j λ z y ⟨vs,H2,I2,r2,q2⟩=>n a y i H2 x vs v z Q I2 r1 r2 q2
end
def MtM(X:Cx)(id:String)(r:V->List V->Hp->VK->Prop):Prop:=
 ∀ (a:List (Addr×Obj))(s:Shared)(d:St)(H:Hp)(x:V)(c:List V)(v:Value)(b:List Value)(Q:VK),Inv X a d H s->RelV x v->Vals c b->r x c H Q->
   wpAny %[|6] X.A (call (.builtin id) (v::b)) (EP X a d Q) X.xe s
theorem Vals.one:∀{x:V}{a:List Value},Vals [x] a->∃u,a=[u]/\RelV x u
 | _,_,.cons r .nil=>⟨_,rfl,r⟩
theorem Vals.rep{xs:List V}{a:List Value}(h:Vals xs a):∀k:Nat,Vals (List.replicate k xs).flatten (List.replicate k a).flatten
 | 0=>.nil
 | k+1=>by rw[List.replicate_succ,List.replicate_succ,List.flatten_cons,List.flatten_cons];exact Vals.append h (Vals.rep h k)
theorem foldl_rep(its:List Value):∀(k:Nat)(acc:List Value),
 List.foldl (λ x1 x2=>x1++x2) acc.toArray (List.replicate k its.toArray)=(acc++(List.replicate k its).flatten).toArray
 | 0,acc=>by simp
 | k+1,acc=>by
   have e:acc.toArray++its.toArray=(acc++its).toArray:=by simp
   have a:(acc++its)++(List.replicate k its).flatten=acc++(List.replicate (k+1) its).flatten:=by rw[List.replicate_succ,List.flatten_cons,List.append_assoc]
   rw[←a,←foldl_rep its k (acc++its),←e,List.replicate_succ,List.foldl_cons]
section
variable {X : Cx} {pins : List (Addr × Obj)} {σ : St} {H : Hp} {s : Shared} {l b : Addr} {xs ys zs : List V}
theorem Inv.lset{its its':List Value}{n:Nat}{f:Array Value->Array Value}{t':Nat}(I:%[|5])(a:H l=some (.lst xs))
 (e:s.heap.get? l=some {cls:=.type "list",data:=.seq its.toArray n})(c:f its.toArray=its'.toArray)(g:Vals ys its')(hz:ys.length≤sizeLine):
 Inv X pins σ (upd H l (.lst ys)) {s with heap:=s.heap.update l (Obj.mapSeq f),toks:=t'}:=by have q:=PySem.IsL.update e f;rw[c]at q;refine I.write (x:=l) (e:=l) (by rw[a];exact trivial) (.inl rfl) (λ h u b d=>(Heap.get?_update_other s.heap (Obj.mapSeq f) (Ne.symm b)).trans d) ⟨_,q⟩ ?_;exact⟨hz,its',_,g,q⟩
theorem Inv.lnew{its:List Value}{t':Nat}(I:%[|5])(a:Vals ys its)(hz:ys.length≤sizeLine):
 Inv X pins σ (upd H s.heap.objs.size (.lst ys)) {s with heap:=s.heap.push {cls:=.type "list",data:=.seq its.toArray},toks:=t'}:=
 I.laid (λ _ _ q=>ZC _ q) (x6 _) ⟨hz,its,0,a,ZD _ rfl⟩
theorem Inv.fresh(I:%[|5]):H s.heap.objs.size=none:=I.hok.fresh (x6 _)
theorem Inv.lstM(I:%[|5])(a:H l=some (.lst xs)):xs.length≤sizeLine/\∃(its:List Value) (n:Nat),Vals xs its/\xs.length=its.length/\s.heap.get? l=some {cls:=.type "list",data:=.seq its.toArray n}:=by obtain⟨z,its,n,r,e⟩:=I.hok l _ a;exact⟨z,its,n,r,r.length,e⟩
end
section
variable {X : Cx}
def Pu:V->List V->Hp->VK->Prop:=λ x b H Q=>∃l a y,x=.ref l/\b=[y]/\H l=some (.lst a)/\a.length<sizeLine/\Q .non (upd H l (.lst (a++[y])))
theorem vQ:MtM X "list.append" Pu:=by intro c s p H x m v k Q I g f h;obtain⟨l,o,y,rfl,rfl,b,j,q⟩:=h;cases g;obtain⟨u,rfl,d⟩:=f.one;obtain⟨z,a,n,r,i,e⟩:=I.lstM b;refine call_meets F.slot_list_append ⟨_,e,rfl⟩ F.entry_list_append (F.args_list_append_2 _ _) (PySem.list_append l a.toArray n u (by rw[x9];omega)) ⟨e,?_⟩;refine⟨.non,_,I.lset (its':=a++[u]) b e (by simp) (r.append (.cons d .nil)) ?_,rfl,q⟩;rw[v3,List.length_singleton];omega
theorem len_rep{b:Type}(xs:List b)(k:Nat):(List.replicate k xs).flatten.length=k*xs.length:=by
 induction k with
 | zero=>simp
 | succ k a=>rw[List.replicate_succ,List.flatten_cons,v3,a,Nat.succ_mul,Nat.add_comm]
end
end L2
namespace Att
open PySem PySem.W PySem.Calls PyProof.Rows
theorem qP{P:Params}{h:Heap}:∀(ns:%[|1])(c:List Value),WellAll P h c (ns.map WData.int)->IntsAre c ns:=by
 intro ns
 induction ns with
 | nil=>intro c w;rw[List.map_nil]at w;cases w;exact .nil
 | cons n ns d=>intro c w;rw[List.map_cons]at w;cases w with| cons a b=>cases a;exact .cons _ _ (d _ b)
theorem J3{l:OpenLaw}{n:Nat}(t:l.most=some n){P:Params}{h:Heap}{args:List WData}{c:List Value}
 (b:l.row.toRowW.claim.pre args=true)(k:WellAll P h c args):
 ∃a vs ns,c=[Value.ref a]/\args=[WData.list (ns.map WData.int)]/\h.get? a=some {cls:=.type "list",data:=.seq vs.toArray}/\IntsAre vs ns/\ns.length≤n:=by
 have j:WShape.hasAll [] args [.list .int]=true:=(pre_splitW b).1;have m:l.pre.holds [] {args:=args}=true:=(pre_splitW b).2;obtain⟨d,r,rfl,o,p⟩:=hasAllW_cons j;obtain rfl:=hasAllW_nil p;obtain⟨y,rfl,s⟩:=hasW_list o;obtain⟨ns,rfl⟩:=items_int s;have f:ns.length≤n:=by
  unfold OpenLaw.pre at m;have g:(WTm.not (.lt (.lit (.int (n:Int))) (.len (.arg 0)))).holds [] {args:=[.list (ns.map .int)]}=true:=by have g:=(holds_andW m).1;rw[t]at g;exact g
  have i:=condW_of g (w_not (w_lt w_lit (w_len_list (w_arg rfl))));rw[x4]at i;refine Nat.le_of_not_lt λ q=>?_;have v:(n:Int)<((ns.length:Nat):Int):=%[|0]
  first
   | (rw[ZG v]at i;exact absurd i %[|3])
   | (simp at i;omega)
 cases k with| cons w x=>cases x;cases w with| list u e=>exact⟨_,_,ns,rfl,rfl,u,qP ns _ e,f⟩
theorem Jk(l:OpenLaw)(args:List WData):l.row.toRowW.claim.post args (.bool true) args=true:=
 postW_of (r:=l.row.toRowW) (X:=(true==true))
  (show WShape.has [] (.bool true) .bool=true by first | rfl | decide | simp[WShape.has,WShape.arms,WShape.armsAll])
  (show(WTm.eq .res (.lit (.bool true))).value [] {args:=args,res:=some (.bool true),after:=args}=some (.bool (true==true))from w_eq_bool (w_res rfl) w_lit) rfl
theorem attach_call{l:OpenLaw}{n:Nat}{q:Program}{c:%[|2]}{x:(Str->Option Value)->Heap->Prop}{y:World->Heap->Prop}{d:DefRec}
 (M:l.most=some n)(p:d.params.defaults=[])
 (call:∀(w:World)(s₀ b:Shared)(mg u:Str->Option Value)(fa:Addr)(o:Obj)(v cd e:Value)(a:Addr)(h:List Value)(ns:%[|1]),
  Ground q c [] x w s₀ mg u b.heap->y w b.heap->
  b.heap.get? fa=some o->o.data=.func (docDef d.name d.params d.body d.scope v cd e)->b.heap.CodeRec cd d.name->mg d.name=some (.ref fa)->
  b.heap.get? a=some {cls:=.type "list",data:=.seq h.toArray}->IntsAre h ns->ns.length≤n->b.gens=#[]->
  codeAny (model l.prog w) callerA (.call (.ref fa) ⟨[.ref a],[]⟩) (λ r s'=>r=.ok (.ret (.bool true))/\OldK b.heap s'.heap/\s'.os=b.os/\AllBare s'.gens) b):
 WalkO q c x y l.row.toRowW d [] (λ f h=>PySem.call f h):=by intro w s₀ b mg u G Y fa o v cd e D Q N I m A s J z C R k B P t K;obtain rfl:D=.none:=Dflts.none A p;obtain rfl:Q=.none:=Dflts.noKw A;obtain⟨a,h,ns,rfl,rfl,j,g,i⟩:=J3 M k t;refine enter_call (codeAny_mono (call w s₀ b mg u fa o v cd e a h ns G Y N (fd_plain I) m s j g i J) λ r s' O=>?_);obtain⟨rfl,E,F,H⟩:=O;exact⟨.inl ⟨.bool true,.bool true,[],rfl,λ _=>rfl,.bool true,Jk l _,λ _=>⟨List.Pairwise.nil,λ _ L=>(nomatch L)⟩⟩,E,F,H⟩
end Att
namespace L2
open PySem PySem.Spec PyProof.Rows
theorem fV:∀{a:List Value}{ns:%[|1]},IntsAre a ns->Vals (ns.map V.int) a
 | _,_,.nil=>.nil
 | _,_,.cons n t h=>.cons ⟨t,rfl⟩ (fV h)
def Only(H:Hp):Prop:=∀b,H b=none∨∃o a,H b=some (.frz o (.lst a))
theorem MP{P:Program}{w:World}{K:PySem.W.Frag}{mg S:Str->Option Value}{CX:CXT}{k:Nat}{fa a:Addr}{X:FuncData}{x:Str}{sp:Sp}{c:Shared}{p:List Value}{ns:%[|1]}
 (U:K.In c.heap)(D:c.heap.Ns mainGlobals mg)(g:c.heap.Ns builtinsNs S)(O:∀x:Str,x≠"__name__"->S x=bootBuiltins x)(C:c.heap.NoLimit)(hg:c.gens=#[])
 (L:c.heap.get? a=some {cls:=.type "list",data:=.seq p.toArray})(hi:IntsAre p ns)(hl:ns.length≤sizeLine)(hr:Room k callerA)
 (F:∀base:Heap,K.In base->base.Ns mainGlobals mg->FnOk P w K mg base CX k fa X [x] sp)(l:∀(s:Shared)(u:Value),BindsTo s X ⟨[u],[]⟩ [(x,u)])
 (R:∀H:Hp,Only H->SqL K H a (ns.map V.int)->sp [.ref a] H (λ v _=>v=.bl true) λ _ _ _=>False)
 (N:∀H e s',CX [] H c (λ _ _ _=>False) e s'->False):
 codeAny (model P w) callerA (.call (.ref fa) ⟨[.ref a],[]⟩) (λ r s'=>r=.ok (.ret (.bool true))/\OldK c.heap s'.heap/\s'.os=c.os/\AllBare s'.gens) c:=by
 have rv:=fV hi;have I:=hi.length;have j:∀H:Hp,Only H->SqL K H a (ns.map V.int)->HOk P w H c.heap->(∀b,H b≠none->b=a)->(H a≠none->K.lookup a=none)->
  codeAny (model P w) callerA (.call (.ref fa) ⟨[.ref a],[]⟩) (λ r s'=>r=.ok (.ret (.bool true))/\OldK c.heap s'.heap/\s'.os=c.os/\AllBare s'.gens) c:=by
  intro H Z hS E Y hK;have f:∀{b:Addr}{o:Obj},c.heap.get? b=some o->H b=none->(jY c.heap H).get? b=some o:=λ e n=>Lq e n;have T:∀{b:Addr}{o:Obj}{A:Array DictEntry}{y:Nat},c.heap.get? b=some o->o.data=.dict A y->H b=none:=λ{b o A y} e d=>by
   cases q:H b with
   | none=>rfl
   | some u=>have M:b=a:=Y b (by rw[q];simp);subst M;rw[L]at e;cases e;have d':Data.seq p.toArray _=Data.dict A y:=d;cases d'
  have i:∀{b:Addr}{m:Str->Option Value},c.heap.Ns b m->(jY c.heap H).Ns b m:=λ{b m} ⟨o,A,y,e,d,r⟩=>⟨o,A,y,f e (T e d),d,r⟩;have B:K.In (jY c.heap H):=λ b o e=>f (U b o e) (by
   cases q:H b with
   | none=>rfl
   | some u=>have M:b=a:=Y b (by rw[q];simp);subst M;rw[hK (by rw[q];simp)]at e;cases e);have hM:Mod K mg (jY c.heap H):=⟨B,i D,⟨S,i g,O⟩,let ⟨mc,h1,h2⟩:=C;⟨mc,i h1,h2⟩⟩;have e0:Env0 P w K mg (jY c.heap H) callerA [] c H:=⟨rfl,hM,λ b o e=>QV e,Nat.le_of_eq (Iu _ _),trivial,λ b g=>absurd (show b∈([]:List Addr)from g) (by simp),E,.of_eq hg⟩;refine codeAny_mono ((F _ B (i D)).run callerA [] c H ⟨[.ref a],[]⟩ [.ref a] [.ref a] _ _ hr e0 (l c (.ref a)) (.cons rfl .nil) (R H Z hS)) λ r s' h=>?_
  cases r with
  | error e=>exact(N H e s' h).elim
  | ok fl =>
    cases fl with
    | next=>exact False.elim h
    | brk=>exact False.elim h
    | cont=>exact False.elim h
    | ret u=>
      obtain⟨v,H',os,t,un,G,r',q⟩:=h;have q':v=.bl true:=q;subst q';obtain rfl:u=Value.bool true:=r';refine⟨rfl,OldK.of_keep λ b o e=>?_,os,t⟩
      cases q:H b with
      | none=>exact un.keep b o e q (by intro z;exact absurd (show b∈([]:List Addr)from z) (by simp)) (by simp)
      | some u=>rcases Z b with z | ⟨ob,xs,z⟩;{rw[q]at z;cases z};{have z2:=un.frzs b ob _ z;obtain⟨W,_⟩:=E b _ z;obtain⟨e2,_⟩:=G b _ z2;rw[e]at W;cases W;exact e2}
 cases Q:K.lookup a with
 | some o=>have e:=U a o Q;rw[L]at e;cases e;refine j (λ _=>none) (λ _=>.inl rfl) (.inr ⟨_,p.toArray,_,Q,rfl,rfl,rfl,by rw[x9,I];exact hl,by simpa using rv⟩) (λ b u z=>by have J:(none:Option HO)=some u:=z;cases J) (λ b z=>absurd rfl z) λ z=>absurd rfl z
 | none=>refine j (λ b=>if b=a then some (.frz {cls:=.type "list",data:=.seq p.toArray} (.lst (ns.map V.int)))else none) (λ b=>?_) (.inl (.inr ⟨{cls:=.type "list",data:=.seq p.toArray},if_pos rfl⟩)) (λ b u z=>?_) (λ b z=>?_) λ _=>Q;{by_cases g:b=a;{exact .inr ⟨_,_,if_pos g⟩};{exact .inl (if_neg g)}};{by_cases g:b=a;{have J:=(if_pos g).symm.trans z;cases J;subst g;exact⟨L,by rw[x4];exact hl,p,_,rv,L⟩};{have J:=(if_neg g).symm.trans z;cases J}};{by_cases g:b=a;{exact g};{exact absurd (if_neg g) z}}
abbrev KOf{K:PySem.W.Frag}{h:Heap}(_:K.In h):PySem.W.Frag:=K
theorem walk_of{l:PySem.W.OpenLaw}{n k:Nat}{q:Program}{g:%[|2]}{C:(Str->Option Value)->Heap->Prop}{A:World->Heap->Prop}{d:DefRec}{K:Params->PySem.W.Frag}{CX:World->CXT}{sp:World->Sp}{x:Str}
 (P:l.most=some n)(t:n≤sizeLine)(p:d.params.defaults=[])(Q:Room k callerA)
 (L:∀(w:World)(h:Heap),A w h->(K w.params).In h)
 (F :∀(w:World)(mg:Str->Option Value)(fa:Addr)(h:Heap),(K w.params).In h->h.Ns mainGlobals mg->mg d.name=some (.ref fa)->
  ∃ fd:FuncData,(∀(s:Shared)(u:Value),BindsTo s fd ⟨[u],[]⟩ [(x,u)])/\
    ∀base:Heap,(K w.params).In base->base.Ns mainGlobals mg->FnOk l.prog w (K w.params) mg base (CX w) k fa fd [x] (sp w))
 (y:∀(w:World)(H:Hp)(a:Addr)(ns:%[|1]),ns.length≤n->Only H->SqL (K w.params) H a (ns.map V.int)->sp w [.ref a] H (λ v _=>v=.bl true) λ _ _ _=>False)
 (m:∀(w:World)(H:Hp)(s:Shared)(e:Value)(s':Shared),CX w [] H s (λ _ _ _=>False) e s'->False):
 PySem.W.WalkO q g C A l.row.toRowW d [] (λ f vs=>PySem.call f vs):=by refine Att.attach_call P p λ w B j mg U fa o W R D a vs ns G Y T S N r i c b O=>?_;have z:=L w _ Y;obtain⟨fd,M,E⟩:=F w mg fa _ z G.T.g r;exact MP z G.T.g G.T.b G.T.builtins G.T.nolimit O i c (Nat.le_trans b t) Q E M (λ H I J=>y w H a ns b I J) λ H e s'=>m w H j e s'
def fK(s:Stmt):Arguments:=match s with
 | .FunctionDef _ a _ _ _ _ _ _ _ _=>a
 | _=>{posonlyargs:=[],args:=[],vararg:=none,kwonlyargs:=[],kw_defaults:=[],kwarg:=none,defaults:=[]}
def cJ(s:Stmt):List Stmt:=match s with
 | .FunctionDef _ _ b _ _ _ _ _ _ _=>b
 | _=>[]
def aN(s:Stmt):Scope:=match s with
 | .FunctionDef _ _ _ _ _ _ sc _ _ _=>sc
 | _=>{kind:=.function,names:=[],isGenerator:=false,isCoroutine:=false}
abbrev CX0:CXT:=λ _ _ _ _ _ _=>False
abbrev E0:XK:=λ _ _ _=>False
theorem Vg{X:Cx}:Kl CX0 X E0:=λ _ _ _ _ _ _ _ h=>h.elim
structure Fun(K:PySem.W.Frag)(x qual:Str)(st:Stmt)(f:Addr)(fd:FuncData):Prop where
 ex:∃(oc:Value) (od:Option Addr) (kV doc pm:Value) (an:Option Addr) (cdv ct:Value) (osl:Array (Option Value)),
  fd=PySem.W.fnOf x qual (fK st) (cJ st) (aN st) .none kV doc pm an cdv ct/\K.lookup f=some ⟨oc,od,.func fd,osl⟩/\PySem.W.codeIn K cdv qual=true
 kp:PySem.W.keepIn K (.ref f)=true
section
variable {P : Program} {w : World} {K : PySem.W.Frag} {mg : Str -> Option Value} {base : Heap}
theorem Fun.binds{x a:Str}{st:Stmt}{f:Addr}{k:FuncData}{i:%[|2]}(F:Fun K x a st f k)
 (h:∀(e c g:Value)(d:Option Addr)(b ct:Value)(j:List Value),j.length=i.length->bindArgs (PySem.W.fnOf x a (fK st) (cJ st) (aN st) .none e c g d b ct) ⟨j,[]⟩=pure (i.zip j)):Binds K k i []:=by obtain⟨o,p,e,c,g,d,b,ct,m,rfl,n,l⟩:=F.ex;exact .all (h e c g d b ct)
theorem J4{x a:Str}{st:Stmt}{f:Addr}{j:Value}{od g:Option Addr}{e:Array (Option Value)}{h d i b ct:Value}(l:K.lookup f=some ⟨j,od,.func (PySem.W.fnOf x a (fK st) (cJ st) (aN st) .none h d i g b ct),e⟩)
 (c:PySem.W.codeIn K b a=true)(k:PySem.W.keepIn K (.ref f)=true):Fun K x a st f (PySem.W.fnOf x a (fK st) (cJ st) (aN st) .none h d i g b ct):=⟨⟨j,od,h,d,i,g,b,ct,e,rfl,l,c⟩,k⟩
end
def cW(H H':Hp):Prop:=∀b o,H b=some o->H' b=some o
theorem cW.refl(H:Hp):cW H H:=λ _ _ h=>h
theorem VB{P:Program}{w:World}{k:Key}{u:Value}(r:RelV (kV k) u):(bz P w).is k u=true:=by
 cases k with
 | inl i=>obtain⟨t,e⟩:=(show ∃t,u=Value.int i t from r);subst e;exact DW P w i t
 | inr x=>obtain⟨t,e⟩:=(show ∃t,u=Value.str x t from r);subst e;exact Cm P w x t
theorem vA{P:Program}{w:World}:∀{a:List Key}{b:List Value},Vals (a.map kV) b->ItemsAre (bz P w) a b
 | [],_,r=>by rw[List.map_nil]at r;cases r;exact .nil
 | k::a,_,r=>by rw[List.map_cons]at r;cases r with| cons h t=>exact .cons (VB h) (vA t)
abbrev KT(H:Hp):List (List Key×V)->List (List Key×Addr×Value)->Prop:=Paired λ p q=>p.1=q.1/\H q.2.1=some (.tup (p.1.map kV))/\RelV p.2 q.2.2
section
variable {P : Program} {w : World} {H : Hp} {h : Heap} {a : Addr}
theorem Oh{u:HO}(ok:HOk P w H h)(e:Rd H a u):az P w H h a u:=e.ok ok
theorem Vq{kvs:List (Key×V)}(ok:HOk P w H h)(e:Rd H a (.dK kvs)):kvs.length≤sizeLine/\(a==sysModules)=false/\∃vs,KV kvs vs/\h.DictOf (bz P w) a vs:=
 show az P w H h a (.dK kvs)from Oh ok e
theorem Ul{c:List Key}(ok:HOk P w H h)(e:H a=some (.tup (c.map kV))):(tupleKind (bz P w)).is h c a:=by obtain⟨_,b,r,o,d,f,n,g⟩:=(show az P w H h a (.tup (c.map kV))from ok a _ e);exact⟨o,b.toArray,n,d,f,g,by simpa using vA r⟩
theorem Vw{kvs:List (List Key×V)}(ok:HOk P w H h)(e:Rd H a (.dT kvs)):kvs.length≤sizeLine/\(a==sysModules)=false/\
 ∃xs,KT H kvs xs/\h.DictOfH (tupleKind (bz P w)) a xs:=by
 obtain⟨z,y,xs,r,o,f,d,g,i,j,k,n⟩:=(show az P w H h a (.dT kvs)from Oh ok e);refine⟨z,y,xs,r,o,f,d,g,i,j,k,λ x b=>?_,n⟩;have c:∀{l:List (List Key×V)}{m:List (List Key×Addr×Value)},KT H l m->∀x∈m,(tupleKind (bz P w)).is h x.1 x.2.1:=by
  intro l m q
  induction q with
  | nil=>intro x b;exact nomatch b
  | @cons p q u v hq t s=>intro x b;rcases ZJ.mp b with e | b;{subst e;exact Ul ok (by rw[←hq.1];exact hq.2.1)};{exact s x b}
 exact c r x b
end
section
variable {X : Cx} {pins : List (Addr × Obj)} {σ : St} {H : Hp} {s : Shared} {a : Addr} {y v : V} {u r : Value} {o : Option V} {A : Around} {E : Value -> Shared -> Prop}
theorem Inv.big(I:%[|5]):sysModules<s.heap.objs.size:=by have h:mainGlobals<s.heap.objs.size:=(I.mod.glob.keeps I.bk).lt;exact Nat.lt_trans %[|3] h
theorem uR{h':Heap}{t':Nat}{d:HO}(I:%[|5])(h:Mut (H a))(hs:Heap.SameBut a s.heap h')(g:∃q,h'.get? a=some q)(c:az X.prog X.w (upd H a d) h' a d):
 Inv X pins σ (upd H a d) {s with heap:=h',toks:=t'}:=
 I.write (x:=a) (e:=a) h (.inl rfl) (λ b q f z=>(hs.2 b f).trans z) g c
end
def TX(i:Expr):Prop:=∀b a,subscripted i false b a=operate [b,a] (getItem b a)
theorem Ou{prog:Program}{w:World}{A:Around}{E:%[|7]}{s:Shared}{env:Env}{b a:Expr}{pos:Pos}{T id:String}{Q:%[|7]}
 (k:typeLookup (.type T) "__getitem__"=pure (some (.builtin id)))(l:TX a)
 (h:wpAny (model prog w) A (eval b env) (λ o s₁=>wpAny (model prog w) A (eval a env) (λ i s₂=>s₂.TypeIs o T/\wpAny (model prog w) A (getItem o i) Q E s₂) E s₁) E s):
 wpAny (model prog w) A (eval (.Subscript b a pos) env) Q E s:=by
 refine Subscript_ (wpAny_mono h (λ o s₁ f=>wpAny_mono f (λ i s₂ c=>?_) λ _ _ x=>x) λ _ _ x=>x);obtain⟨j,c⟩:=c;unfold subscriptTail;refine ZA ?_;rw[getitemInPython_of_ne j.not_modules];refine ZA (wpAny_specialOf j k ?_);have e:wpAny (model prog w) A (subscripted a false o i) (λ r d=>wpAny (model prog w) A (letTemporaryGo b o r>>=λ _=>pure r) Q E d) E s₂:=by rw[l o i];exact wpAny_operating (wpAny_mono c (λ r d g=>ZA (wpAny_letTemporaryGo (ZB g))) λ _ _ x=>x)
 first
  | exact ZB (ZA e)
  | exact ZA (ZB (ZA e))
  | exact ZA e
structure M2(X:Cx)(o:Expr)(m:Str)(apos:Pos)(e f:Expr)(cpos:Pos):Prop where
 base:attributeBase o m X.env (eval o X.env)=eval o X.env
 few:((backTo cpos (starEach [e,f] X.env)).all (λ x=>!x.1)&&(backToKw cpos (keywordEach [] X.env)).all (λ x=>x.1.isSome)
  &&decide (([e,f]:List Expr).length+([]:List Keyword).length+(if([]:List Keyword).isEmpty then 0 else 1)<30))=true
 line:(apos.endLine==cpos.line)=true
 trees:backTo cpos (starEach [e,f] X.env)=[(false,eval e X.env),(false,eval f X.env)]
def IsD(H:Hp)(a:Addr):Prop:=(∃b,Rd H a (.dK b))∨∃b,Rd H a (.dT b)
theorem Rw{X:Cx}{pins:List (Addr×Obj)}{σ:St}{H:Hp}{s:Shared}{a:Addr}(I:%[|5])(d:IsD H a):
 s.TypeIs (.ref a) "dict"/\(∀b,Value.ref a=.ref b->∃ob,s.heap.get? b=some ob/\ob.dict=none)/\(a==sysModules)=false:=by rcases d with⟨h,e⟩ | ⟨h,e⟩;{obtain⟨_,g,i,_,c⟩:=Vq I.hok e;refine⟨c.typeIs,λ b q=>?_,g⟩;cases q;obtain⟨ob,_,_,f,h2,_⟩:=c;exact⟨ob,f,h2.2.1⟩};{obtain⟨_,g,j,_,c⟩:=Vw I.hok e;refine⟨c.typeIs,λ b q=>?_,g⟩;cases q;obtain⟨ob,_,_,f,h2,_⟩:=c;exact⟨ob,f,h2.2.1⟩}
end L2
set_option maxHeartbeats 4000000
namespace DL
open PySem PySem.Spec L2
open PyProof.Rows
variable {a p : Addr} {K : PySem.W.Frag} {O O' : Own} {H H' : Hp} {xs vs : List V} {ds : List D} {S : Store}
abbrev St:=L2.St
inductive D where
 | non | bl(b:Bool) | int(i:Int) | str(x:Str) | tup(ds:List D) | lst(ds:List D) | loc(k:Nat) | dic | dlo(k:Nat)
abbrev Store:=List (List D)
abbrev Gam:=List (Option D)
structure Own where
 A:List (Addr×Bool)
 B:List Addr
abbrev adr(A:List (Addr×Bool)):List Addr:=A.map Prod.fst
theorem bU{A:List (Addr×Bool)}{k:Nat}{q:Bool}(h:A[k]? =some (a,q)):a∈adr A:=ZO.mpr ⟨_,y8 h,rfl⟩
theorem bR(A N:List (Addr×Bool)):adr (A++N)=adr A++adr N:=List.map_append
abbrev Own.has(O:Own)(a:Addr):Prop:=a∈adr O.A∨a∈O.B
def Tp(K:PySem.W.Frag)(O:Own)(H:Hp)(a:Addr)(xs:List V):Prop:=¬O.has a/\H a=some (.tup xs)
def Ls(K:PySem.W.Frag)(O:Own)(H:Hp)(a:Addr)(xs:List V):Prop:=(¬O.has a/\Rd H a (.lst xs))∨SqL K (λ _=>none) a xs
theorem Tp.sq(h:Tp K O H a xs):SqT K H a xs:=.inl (.inl h.2)
theorem Ls.sq(h:Ls K O H a xs):SqL K H a xs:=by rcases h with⟨_,h⟩ | (h | h);{exact .inl h};{rcases h with h | ⟨_,h⟩<;>cases h};{exact .inr h}
def Abv(K:PySem.W.Frag)(a:Addr):Prop:=∀c o,K.lookup c=some o->c<a
mutual
inductive Rep(K:PySem.W.Frag)(O:Own)(H:Hp):V->D->Prop
 | non:Rep K O H .non .non
 | bl(b:Bool):Rep K O H (.bl b) (.bl b)
 | int(i:Int):Rep K O H (.int i) (.int i)
 | str(x:Str):Rep K O H (.str x) (.str x)
 | tup{a:Addr}{xs:List V}{ds:List D}(h:Tp K O H a xs)(r:Reps K O H xs ds):Rep K O H (.ref a) (.tup ds)
 | lst{a:Addr}{xs:List V}{ds:List D}(h:Ls K O H a xs)(r:Reps K O H xs ds):Rep K O H (.ref a) (.lst ds)
 | loc{a:Addr}{k:Nat}(h:O.A[k]? =some (a,false)):Rep K O H (.ref a) (.loc k)
 | dlo{a:Addr}{k:Nat}(h:O.A[k]? =some (a,true))(n:Abv K a):Rep K O H (.ref a) (.dlo k)
 | dic{a:Addr}(h:¬O.has a)(e:H a=some (.dK [])):Rep K O H (.ref a) .dic
inductive Reps(K:PySem.W.Frag)(O:Own)(H:Hp):List V->List D->Prop
 | nil:Reps K O H [] []
 | cons{v:V}{d:D}{vs:List V}{ds:List D}(r:Rep K O H v d)(t:Reps K O H vs ds):Reps K O H (v::vs) (d::ds)
end
structure Step(O O':Own)(H H':Hp):Prop where
 kept:∀b o,b∉adr O.A->H b=some o->H' b=some o
 dom:∀b,H b≠none->H' b≠none
 ext:∃N,O'.A=O.A++N/\∀b∈adr N,H b=none
 hid:O'.B=O.B
theorem Step.refl(O:Own)(H:Hp):Step O O H H:=⟨λ _ _ _ h=>h,λ _ h=>h,⟨[],by simp,λ _ h=>nomatch h⟩,rfl⟩
theorem Step.trans{O1 O2:Own}{H1 H2:Hp}(a:Step O O1 H H1)(b:Step O1 O2 H1 H2):Step O O2 H H2:=by
 obtain⟨g,e,f⟩:=a.ext;obtain⟨i,j,k⟩:=b.ext;refine⟨λ c o d h=>b.kept c o (λ z=>?_) (a.kept c o d h),λ c h=>b.dom c (a.dom c h),⟨g++i,by rw[j,e,List.append_assoc],λ c d=>?_⟩,b.hid.trans a.hid⟩;{rw[e,bR]at z;rcases ZK.mp z with z | z;{exact d z};{rw[f c z]at h;cases h}}
 . rw[bR]at d;rcases ZK.mp d with z | z;{exact f c z}
   . cases q:H c with
     | none=>rfl
     | some o=>exact absurd (k c z) (a.dom c (by rw[q];simp))
theorem Step.nothas(s:Step O O' H H'){a:Addr}(h:¬O.has a)(t:H a≠none):¬O'.has a:=by obtain⟨N,e,f⟩:=s.ext;rintro(z | z);{rw[e,bR]at z;rcases ZK.mp z with z | z;{exact h (.inl z)};{exact t (f a z)}};{rw[s.hid]at z;exact h (.inr z)}
structure Conv(O O':Own)(H H':Hp):Prop where
 tr:∀a u,¬O.has a->H a=some u->¬O'.has a/\H' a=some u
 lc:∀(k:Nat)(a:Addr×Bool),O.A[k]? =some a->O'.A[k]? =some a
theorem Step.conv(s:Step O O' H H'):Conv O O' H H':=
 ⟨λ a u h t=>⟨s.nothas h (by rw[t];simp),s.kept a u (λ z=>h (.inl z)) t⟩,λ k a h=>by obtain⟨N,e,_⟩:=s.ext;rw[e,List.getElem?_append_left (z0.mp h).1];exact h⟩
theorem Rd.conv(s:Conv O O' H H'){a:Addr}{u:HO}(h:¬O.has a)(r:Rd H a u):¬O'.has a/\Rd H' a u:=by rcases r with r | ⟨o,r⟩;{obtain⟨x,y⟩:=s.tr a _ h r;exact⟨x,.inl y⟩};{obtain⟨x,y⟩:=s.tr a _ h r;exact⟨x,.inr ⟨o,y⟩⟩}
theorem Tp.conv(h:Tp K O H a xs)(s:Conv O O' H H'):Tp K O' H' a xs:=s.tr a _ h.1 h.2
theorem Ls.conv(h:Ls K O H a xs)(s:Conv O O' H H'):Ls K O' H' a xs:=by rcases h with⟨n,r⟩ | h;{exact .inl (Rd.conv s n r)};{exact .inr h}
theorem Reps.ind{P:List V->List D->Prop}(n:P [] [])(c:∀{v:V}{d:D}{a:List V}{ds:List D},Rep K O H v d->Reps K O H a ds->P a ds->P (v::a) (d::ds)){a:List V}{ds:List D}(h:Reps K O H a ds):P a ds:=
 Reps.rec (motive_1:=λ _ _ _=>True) (motive_2:=λ a ds _=>P a ds) trivial (λ _=>trivial) (λ _=>trivial) (λ _=>trivial) (λ _ _ _=>trivial) (λ _ _ _=>trivial) (λ _=>trivial) (λ _ _=>trivial) (λ _ _=>trivial) n (λ r t _ b=>c r t b) h
theorem Rep.conv(s:Conv O O' H H'){v:V}{d:D}(h:Rep K O H v d):Rep K O' H' v d:=
 Rep.rec (motive_1:=λ v d _=>Rep K O' H' v d) (motive_2:=λ c b _=>Reps K O' H' c b) .non .bl .int .str (λ h _ a=>.tup (h.conv s) a) (λ h _ a=>.lst (h.conv s) a) (λ h=>.loc (s.lc _ _ h)) (λ h n=>.dlo (s.lc _ _ h) n) (λ h e=>.dic (s.tr _ _ h e).1 (s.tr _ _ h e).2) .nil (λ _ _ i j=>.cons i j) h
theorem Reps.conv(s:Conv O O' H H'){a:List V}{ds:List D}(h:Reps K O H a ds):Reps K O' H' a ds:=
 h.ind .nil λ r _ i=>.cons (r.conv s) i
theorem Rep.mono{v:V}{d:D}(h:Rep K O H v d)(s:Step O O' H H'):Rep K O' H' v d:=h.conv s.conv
theorem Reps.mono{v:List V}{d:List D}(h:Reps K O H v d)(s:Step O O' H H'):Reps K O' H' v d:=h.conv s.conv
abbrev Own.hide(O:Own)(p:Addr):Own:=⟨O.A,p::O.B⟩
theorem Conv.hide(h:H p=none)(o:HO):Conv O (O.hide p) H (upd H p o):=
 ⟨λ a u n t=>by have b:a≠p:=aC t h;refine⟨λ z=>?_,by rw[ao b];exact t⟩;rcases z with z | z;{exact n (.inl z)};{rcases ZJ.mp z with z | z;{exact b z};{exact n (.inr z)}},λ _ _ h=>h⟩
theorem Conv.unhide{A:List (Addr×Bool)}{B:List Addr}:Conv ⟨A,p::B⟩ ⟨A,B⟩ H H:=
 ⟨λ a u n t=>⟨λ z=>n (z.elim .inl λ z=>.inr (x8 _ z)),t⟩,λ _ _ h=>h⟩
theorem Conv.updHid(h:p∈O.B)(o:HO):Conv O O H (upd H p o):=
 ⟨λ a u n t=>⟨n,by rw[ao (λ e=>n (.inr (by rw[e];exact h)))];exact t⟩,λ _ _ h=>h⟩
theorem Reps.length(h:Reps K O H vs ds):vs.length=ds.length:=
 h.ind (P:=λ vs ds=>vs.length=ds.length) rfl λ _ _ i=>congrArg Nat.succ i
theorem Reps.get{i:Nat}{d:D}(h:Reps K O H vs ds)(e:ds[i]? =some d):∃v,vs[i]? =some v/\Rep K O H v d:=by
 revert i;refine h.ind (P:=λ vs ds=>∀{i:Nat},ds[i]? =some d->∃v,vs[i]? =some v/\Rep K O H v d) (λ e=>by simp at e) λ r t a i e=>?_
 cases i with
 | zero=>exact⟨_,rfl,Option.some.inj e▸r⟩
 | succ i=>exact a e
theorem Reps.append{a:List V}{es:List D}(h:Reps K O H vs ds)(s:Reps K O H a es):Reps K O H (vs++a) (ds++es):=
 h.ind (P:=λ vs ds=>Reps K O H (vs++a) (ds++es)) s λ r _ i=>.cons r i
theorem Reps.take(n:Nat)(h:Reps K O H vs ds):Reps K O H (vs.take n) (ds.take n):=by
 revert n;refine h.ind (P:=λ vs ds=>∀n:Nat,Reps K O H (vs.take n) (ds.take n)) (λ n=>?_) λ r t a n=>?_;{cases n<;>exact .nil}
 . cases n with
   | zero=>exact .nil
   | succ n=>exact .cons r (a n)
theorem Reps.drop(n:Nat)(h:Reps K O H vs ds):Reps K O H (vs.drop n) (ds.drop n):=by
 revert n;refine h.ind (P:=λ vs ds=>∀n:Nat,Reps K O H (vs.drop n) (ds.drop n)) (λ n=>?_) λ r t a n=>?_;{cases n<;>exact .nil}
 . cases n with
   | zero=>exact .cons r t
   | succ n=>exact a n
theorem Reps.set{v:V}{d:D}(r:Rep K O H v d){a:List V}{ds:List D}(i:Nat)(h:Reps K O H a ds):Reps K O H (a.set i v) (ds.set i d):=by
 revert i;refine h.ind (P:=λ a ds=>∀i:Nat,Reps K O H (a.set i v) (ds.set i d)) (λ _=>.nil) λ q t b i=>?_
 cases i with
 | zero=>exact .cons r t
 | succ i=>exact .cons q (b i)
theorem Reps.ints{ns:%[|1]}(h:Reps K O H vs (ns.map D.int)):vs=ns.map V.int:=by
 induction ns generalizing vs with
 | nil=>cases h;rfl
 | cons n ns a=>cases h with| cons r t=>cases r;rw[a t];rfl
theorem Xx{K:PySem.W.Frag}{O:Own}{H:Hp}:∀ns:%[|1],Reps K O H (ns.map V.int) (ns.map D.int)
 | []=>.nil
 | n::ns=>.cons (.int n) (Xx ns)
theorem Reps.bools{ns:List Bool}(h:Reps K O H vs (ns.map D.bl)):vs=ns.map V.bl:=by
 induction ns generalizing vs with
 | nil=>cases h;rfl
 | cons n ns a=>cases h with| cons r t=>cases r;rw[a t];rfl
def WF(ns:%[|1]):List Key:=ns.map Sum.inl
inductive Kps(K:PySem.W.Frag)(O:Own)(H:Hp):List (List Key×V)->List D->Prop
 | nil:Kps K O H [] []
 | cons{ns:%[|1]}{v:V}{d:D}{kvs:List (List Key×V)}{ds:List D}(r:Rep K O H v d)(t:Kps K O H kvs ds):Kps K O H ((WF ns,v)::kvs) (.tup [.tup (ns.map .int),d]::ds)
theorem Kps.conv(s:Conv O O' H H'){kvs:List (List Key×V)}{ds:List D}(h:Kps K O H kvs ds):Kps K O' H' kvs ds:=by
 induction h with
 | nil=>exact .nil
 | cons r t a=>exact .cons (r.conv s) a
def hC0(c:Int×%[|1]):Int:=reduceHash (Builtin.Tuple.tupleHashOf [hashInt c.1,reduceHash (Builtin.Tuple.tupleHashOf (c.2.map hashInt))])
abbrev Cy:=List ((Int×%[|1])×Addr×Value)
def Mz(a:Addr)(ys:Cy)(h:Heap):Prop:=ys.length≤sizeLine/\(a==sysModules)=false/\(ys.map (·.1)).Nodup/\
 ∃o b c,h.get? a=some o/\o.ExactDict/\o.data=.dict b c/\b.toList=ys.map λ y=>(⟨hC0 y.1,.ref y.2.1,y.2.2⟩:DictEntry)
def aM(a:Addr)(ys:Cy)(h:Heap):Prop:=ys.length≤sizeLine/\(a==sysModules)=false/\(ys.map (·.1)).Nodup/\
 ∃o b,h.get? a=some o/\o.ExactDict/\o.data=.dict b ys.length/\b.toList=ys.map λ y=>(⟨hC0 y.1,.ref y.2.1,y.2.2⟩:DictEntry)
inductive Kcs(K:PySem.W.Frag)(O:Own)(H:Hp):Cy->List D->Prop
 | nil:Kcs K O H [] []
 | cons{c:Int×%[|1]}{b:Addr}{u:Value}{v:V}{k d:D}{ys:Cy}{ds:List D}(e:k=.tup [.int c.1,.tup (c.2.map .int)])(rk:Rep K O H (.ref b) k)(rv:RelV v u)(r:Rep K O H v d)(t:Kcs K O H ys ds):Kcs K O H ((c,b,u)::ys) (.tup [k,d]::ds)
theorem Kcs.conv(s:Conv O O' H H'){ys:Cy}{ds:List D}(h:Kcs K O H ys ds):Kcs K O' H' ys ds:=by
 induction h with
 | nil=>exact .nil
 | cons e b c r t a=>exact .cons e (b.conv s) c (r.conv s) a
def isO:Option Int->Value->Bool
 | some i,.int j _=>decide (i=j)
 | none,.none=>true
 | _,_=>false
def hO0:Option Int->Int
 | some i=>hashInt i
 | none=>4238894112
abbrev Oy:=List (Option Int×Value)
inductive OEs:List DictEntry->Oy->Prop
 | nil:OEs [] []
 | cons{e:DictEntry}{k:Option Int}{v:Value}{es:List DictEntry}{ys:Oy}(i:isO k e.key=true)(h:e.hash=hO0 k)(q:e.val=v)(t:OEs es ys):OEs (e::es) ((k,v)::ys)
def Nf(a:Addr)(ys:Oy)(h:Heap):Prop:=ys.length≤sizeLine/\(a==sysModules)=false/\(ys.map (·.1)).Nodup/\
 ∃o b c,h.get? a=some o/\o.ExactDict/\o.data=.dict b c/\OEs b.toList ys
def oD:Option Int->D
 | some i=>.int i
 | none=>.non
inductive Kos(K:PySem.W.Frag)(O:Own)(H:Hp):Oy->List D->Prop
 | nil:Kos K O H [] []
 | cons{c:Option Int}{u:Value}{v:V}{k d:D}{ys:Oy}{ds:List D}(e:k=oD c)(rv:RelV v u)(r:Rep K O H v d)(t:Kos K O H ys ds):Kos K O H ((c,u)::ys) (.tup [k,d]::ds)
theorem Kos.conv(s:Conv O O' H H'){ys:Oy}{ds:List D}(h:Kos K O H ys ds):Kos K O' H' ys ds:=by
 induction h with
 | nil=>exact .nil
 | cons e b r t a=>exact .cons e b (r.conv s) a
abbrev tbD(b:Bool)(l c:Nat)(q:Str)(z:Nat):List D:=[.bl b,.int l,.int c,.str q,.int z,.tup (List.replicate (sizeLine+1) .non)]
def Vd(K:PySem.W.Frag)(z a:Addr):Prop:=∃o b,K.lookup z=some o/\o.data=.fields b/\b[11]? =some (.ref a)
def WY(x:Addr)(q:Str)(h:Heap):Prop:=h.CodeRec (.ref x) q
inductive DOb(K:PySem.W.Frag)(O:Own)(H:Hp)(a:Addr)(ds:List D):Prop
 | t(kvs:List (List Key×V))(e:H a=some (.dT kvs))(r:Kps K O H kvs ds):DOb K O H a ds
 | c(ys:Cy)(n:ys≠[])(e:H a=some (.ext (Mz a ys)))(r:Kcs K O H ys ds):DOb K O H a ds
 | o(ys:Oy)(n:ys≠[])(e:H a=some (.ext (Nf a ys)))(r:Kos K O H ys ds):DOb K O H a ds
 | m(ys:Cy)(ds':List D)(hd:ds=.non::ds')(e:H a=some (.ext (aM a ys)))(r:Kcs K O H ys ds'):DOb K O H a ds
 | p(ps:Array Value)(n:¬Abv K a)(b:Bool)(l c z:Nat)(q:Str)(k:Vd K z a)(e:H a=some (.tbl ps))(hd:ds=tbD b l c q z)
   (g:(b=false/\ps=#[])∨(b=true/\∃x,ps=#[rawInt l,rawInt c,.ref x]/\¬O.has x/\H x=some (.ext (WY x q)))):DOb K O H a ds
theorem DOb.move(s:Conv O O' H H')(b:DOb K O H a ds)(h:∀o,H a=some o->H' a=some o):DOb K O' H' a ds:=by
 cases b with
 | t i e r=>exact .t i (h _ e) (r.conv s)
 | c d n e r=>exact .c d n (h _ e) (r.conv s)
 | o d n e r=>exact .o d n (h _ e) (r.conv s)
 | m d j f e r=>exact .m d j f (h _ e) (r.conv s)
 | p u n b l c z q k e f g=>exact .p u n b l c z q k (h _ e) f (g.imp id λ⟨g1,x,g2,g3,g4⟩=>⟨g1,x,g2,s.tr _ _ g3 g4⟩)
theorem DOb.there(b:DOb K O H a ds):H a≠none:=by
 cases b with
 | t h e r=>rw[e];simp
 | c d n e r=>rw[e];simp
 | o d n e r=>rw[e];simp
 | m d i f e r=>rw[e];simp
 | p j n b l c z q k e f g=>rw[e];simp
structure StOk(K:PySem.W.Frag)(O:Own)(H:Hp)(S:Store):Prop where
 nd:(adr O.A).Nodup
 len:O.A.length=S.length
 obj:∀(k:Nat)(a:Addr)(ds:List D),O.A[k]? =some (a,false)->S[k]? =some ds->∃xs,H a=some (.lst xs)/\Reps K O H xs ds
 dob:∀(k:Nat)(a:Addr)(ds:List D),O.A[k]? =some (a,true)->S[k]? =some ds->DOb K O H a ds
 apart:∀a∈adr O.A,a∉O.B
 hidden:∀b∈O.B,H b≠none
structure EnvOk(K:PySem.W.Frag)(O:Own)(H:Hp)(σ:St)(Γ:Gam):Prop where
 len:σ.length=Γ.length
 at_:∀(i:Nat)(d:D),Γ[i]? =some (some d)->∃v,σ[i]? =some (some v)/\Rep K O H v d
theorem EnvOk.mono{σ:St}{c:Gam}(e:EnvOk K O H σ c)(s:Step O O' H H'):EnvOk K O' H' σ c:=
 ⟨e.len,λ i d h=>let ⟨v,a,b⟩:=e.at_ i d h;⟨v,a,b.mono s⟩⟩
theorem EnvOk.set{σ:St}{b:Gam}(e:EnvOk K O H σ b){v:V}{d:D}(r:Rep K O H v d)(i:Nat):EnvOk K O H (σ.set i (some v)) (b.set i (some d)):=by
 refine⟨by simp[e.len],λ j c h=>?_⟩;by_cases a:i=j
 . subst a;have f:i<b.length:=by have:=(z0.mp h).1;simpa using this
   rw[List.getElem?_set_self f]at h;cases h;exact⟨v,List.getElem?_set_self (by rw[e.len];exact f),r⟩
 {rw[List.getElem?_set_ne a]at h;rw[List.getElem?_set_ne a];exact e.at_ j c h}
theorem StOk.tracked(s:StOk K O H S){a:Addr}(h:O.has a):H a≠none:=by
 rcases h with h | h
 . obtain⟨⟨b,c⟩,f,rfl⟩:=ZO.mp h;obtain⟨k,d⟩:=ZR f;have e:k<S.length:=by rw[←s.len];exact(z0.mp d).1
   cases c with
   | false=>obtain⟨g,q,_⟩:=s.obj k b S[k] d (y4 e);rw[show(b,false).1=b from rfl,q];simp
   | true=>exact(s.dob k b S[k] d (y4 e)).there
 {exact s.hidden a h}
theorem Step.fresh(h:H p=none)(o:HO):Step O O H (upd H p o):=
 ⟨λ b u _ q=>by rw[ao (aC q h)];exact q,λ b q=>by by_cases e:b=p;{subst e;rw[aJ];simp};{rw[ao e];exact q},⟨[],by simp,λ _ z=>nomatch z⟩,rfl⟩
theorem Step.same(h:cW H H'):Step O O H H':=
 ⟨λ b o _ q=>h b o q,λ b q=>by
  cases e:H b with
  | none=>exact absurd e q
  | some o=>rw[h b o e];simp,⟨[],by simp,λ _ z=>nomatch z⟩,rfl⟩
theorem cW.fresh(h:H p=none)(o:HO):cW H (upd H p o):=λ b u q=>by rw[ao (aC q h)];exact q
theorem StOk.same(s:StOk K O H S)(h:cW H H'):StOk K O H' S:=
 ⟨s.nd,s.len,λ k a c d e=>let ⟨xs,q,r⟩:=s.obj k a c d e;⟨xs,h _ _ q,r.mono (Step.same h)⟩,λ k a c d e=>(s.dob k a c d e).move (Step.same h).conv λ o q=>h _ _ q,s.apart,λ b f=>(Step.same (O:=O) h).dom b (s.hidden b f)⟩
theorem StOk.fresh_not(s:StOk K O H S){p:Addr}(h:H p=none):¬O.has p:=λ z=>s.tracked z h
theorem StOk.fresh(s:StOk K O H S){p:Addr}(h:H p=none)(o:HO):StOk K O (upd H p o) S:=s.same (cW.fresh h o)
abbrev Own.more(O:Own)(p:Addr)(q:Bool:=false):Own:=⟨O.A++[(p,q)],O.B⟩
theorem Step.own(h:H p=none)(o:HO)(q:Bool:=false):Step O (O.more p q) H (upd H p o):=
 ⟨(Step.fresh (O:=O) h o).kept,(Step.fresh (O:=O) h o).dom,⟨[(p,q)],rfl,λ b z=>by rw[ZL.mp z];exact h⟩,rfl⟩
theorem jM{A:List (Addr×Bool)}{p:Addr×Bool}{k:Nat}{x:Addr×Bool}(h:(A++[p])[k]? =some x):A[k]? =some x∨(k=A.length/\x=p):=by
 by_cases b:k<A.length;{rw[List.getElem?_append_left b]at h;exact .inl h}
 . rw[List.getElem?_append_right %[|0]]at h;have a:k-A.length=0:=by have:=(z0.mp h).1;simp at this;omega
   rw[a]at h;exact .inr ⟨%[|0],(Option.some.inj h).symm⟩
theorem Br{A:List (Addr×Bool)}{q:Bool}(h:(adr A).Nodup)(n:p∉adr A):(adr (A++[(p,q)])).Nodup:=by rw[bR];refine List.nodup_append.mpr ⟨h,by simp,λ a c b d e=>?_⟩;rw[ZL.mp d]at e;rw[e]at c;exact n c
theorem StOk.own(s:StOk K O H S){p:Addr}(h:H p=none){xs:List V}{ds:List D}(r:Reps K O H xs ds):
 StOk K (O.more p) (upd H p (.lst xs)) (S++[ds]):=by have f:=Step.own (O:=O) h (.lst xs);have l:=s.fresh_not h;refine⟨Br s.nd λ z=>l (.inl z),by simp[s.len],λ k a g c d=>?_,λ k a g c d=>?_,λ a j=>?_,λ b m=>f.dom b (s.hidden b m)⟩;{rcases jM c with c | ⟨rfl,e⟩;{have i:=(z0.mp c).1;rw[List.getElem?_append_left (by rw[←s.len];exact i)]at d;obtain⟨t,q,n⟩:=s.obj k a g c d;exact⟨t,by rw[ao (aC q h)];exact q,n.mono f⟩};{cases e;rw[List.getElem?_append_right (by rw[s.len];exact x6 _),s.len,Nat.sub_self]at d;cases d;exact⟨xs,aJ,r.mono f⟩}};{rcases jM c with c | ⟨rfl,e⟩;{have i:=(z0.mp c).1;rw[List.getElem?_append_left (by rw[←s.len];exact i)]at d;exact(s.dob k a g c d).move f.conv λ o q=>by rw[ao (aC q h)];exact q};{cases e}};{rw[bR]at j;rcases ZK.mp j with z | z;{exact s.apart a z};{rw[ZL.mp z];exact λ q=>l (.inr q)}}
theorem Step.put(h:a∈adr O.A)(o:HO):Step O O H (upd H a o):=
 ⟨λ b u c q=>by rw[ao (λ e=>c (by rw[e];exact h))];exact q,λ b q=>by by_cases e:b=a;{subst e;rw[aJ];simp};{rw[ao e];exact q},⟨[],by simp,λ _ z=>nomatch z⟩,rfl⟩
theorem sV{A:List (Addr×Bool)}(nd:(adr A).Nodup){k j:Nat}{a b:Addr}{p q:Bool}(h:A[k]? =some (a,p))(h2:A[j]? =some (b,q))(i:k≠j):b≠a:=λ e=>i (by
 have f:(adr A)[k]? =some a:=by rw[x5,h];rfl
 have g:(adr A)[j]? =some b:=by rw[x5,h2];rfl
 obtain⟨l,c⟩:=z0.mp f;obtain⟨h2,d⟩:=z0.mp g;exact(List.getElem_inj nd).mp (c.trans (e.symm.trans d.symm)))
theorem StOk.put(s:StOk K O H S){k:Nat}{a:Addr}(h:O.A[k]? =some (a,false)){xs:List V}{ds:List D}(r:Reps K O H xs ds):
 StOk K O (upd H a (.lst xs)) (S.set k ds):=by
 have g:=Step.put (O:=O) (H:=H) (bU h) (.lst xs);refine⟨s.nd,by simp[s.len],λ j b i c d=>?_,λ j b i c d=>?_,s.apart,λ b l=>g.dom b (s.hidden b l)⟩;{by_cases f:k=j;{subst f;rw[h]at c;cases c;have m:=(z0.mp d).1;rw[List.getElem?_set_self (by simpa using m)]at d;cases d;exact⟨xs,aJ,r.mono g⟩};{rw[List.getElem?_set_ne f]at d;obtain⟨p,q,n⟩:=s.obj j b i c d;exact⟨p,by rw[ao (sV s.nd h c f)];exact q,n.mono g⟩}}
 . have f:k≠j:=λ e=>by subst e;rw[h]at c;cases c
   rw[List.getElem?_set_ne f]at d;exact(s.dob j b i c d).move g.conv λ o q=>by rw[ao (sV s.nd h c f)];exact q
theorem StOk.putO(s:StOk K O H S){k:Nat}{a:Addr}(h:O.A[k]? =some (a,true)){o:HO}{ds:List D}(r:DOb K O (upd H a o) a ds):
 StOk K O (upd H a o) (S.set k ds):=by
 have i:=Step.put (O:=O) (H:=H) (bU h) o;refine⟨s.nd,by simp[s.len],λ j b g c d=>?_,λ j b g c d=>?_,s.apart,λ b l=>i.dom b (s.hidden b l)⟩
 . have f:k≠j:=λ e=>by subst e;rw[h]at c;cases c
   rw[List.getElem?_set_ne f]at d;obtain⟨p,q,n⟩:=s.obj j b g c d;exact⟨p,by rw[ao (sV s.nd h c f)];exact q,n.mono i⟩
 {by_cases f:k=j;{subst f;rw[h]at c;cases c;have m:=(z0.mp d).1;rw[List.getElem?_set_self (by simpa using m)]at d;cases d;exact r};{rw[List.getElem?_set_ne f]at d;exact(s.dob j b g c d).move i.conv λ o q=>by rw[ao (sV s.nd h c f)];exact q}}
theorem StOk.hide(s:StOk K O H S){p:Addr}(h:H p=none)(o:HO):StOk K (O.hide p) (upd H p o) S:=by have i:=Step.fresh (O:=O) h o;refine⟨s.nd,s.len,λ k a c d e=>?_,λ k a c d e=>?_,λ a f z=>?_,λ b g=>?_⟩;{obtain⟨j,q,r⟩:=s.obj k a c d e;exact⟨j,by rw[ao (aC q h)];exact q,r.conv (Conv.hide h o)⟩};{exact(s.dob k a c d e).move (Conv.hide h o) λ o q=>by rw[ao (aC q h)];exact q};{rcases ZJ.mp z with z | z;{exact s.tracked (.inl f) (z▸h)};{exact s.apart a f z}};{rcases ZJ.mp g with z | z;{subst z;rw[aJ];simp};{exact i.dom b (s.hidden b z)}}
theorem StOk.unhide{A:List (Addr×Bool)}{B:List Addr}(s:StOk K ⟨A,p::B⟩ H S):StOk K ⟨A,B⟩ H S:=
 ⟨s.nd,s.len,λ k a c d e=>let ⟨xs,q,r⟩:=s.obj k a c d e;⟨xs,q,r.conv Conv.unhide⟩,λ k a c d e=>(s.dob k a c d e).move Conv.unhide λ _ q=>q,λ a f z=>s.apart a f (x8 _ z),λ b g=>s.hidden b (x8 _ g)⟩
theorem StOk.updHid(s:StOk K O H S){p:Addr}(h:p∈O.B)(o:HO):StOk K O (upd H p o) S:=
 ⟨s.nd,s.len,λ k a d c f=>by obtain⟨j,q,r⟩:=s.obj k a d c f;have g:a≠p:=λ e=>s.apart a (bU c) (e▸h);exact⟨j,by rw[ao g];exact q,r.conv (Conv.updHid h o)⟩,λ k a d c f=>by have g:a≠p:=λ e=>s.apart a (bU c) (e▸h);exact(s.dob k a d c f).move (Conv.updHid h o) λ _ q=>by rw[ao g];exact q,s.apart,λ b i=>by by_cases e:b=p;{subst e;rw[aJ];simp};{rw[ao e];exact s.hidden b i}⟩
theorem Step.adopt{A:List (Addr×Bool)}(s:Step O ⟨A,O.B⟩ H H')(h:H p=none):Step O ⟨A++[(p,false)],O.B⟩ H H':=by obtain⟨N,e,f⟩:=s.ext;refine⟨s.kept,s.dom,⟨N++[(p,false)],?_,λ b a=>?_⟩,rfl⟩;{show A++[(p,false)]=_;rw[show A=O.A++N from e,List.append_assoc]};{rw[bR]at a;rcases ZK.mp a with z | z;{exact f b z};{rw[ZL.mp z];exact h}}
theorem Conv.adopt{A:List (Addr×Bool)}{B:List Addr}:Conv ⟨A,p::B⟩ ⟨A++[(p,false)],B⟩ H H:=
 ⟨λ a u n t=>⟨λ z=>n (z.elim (λ z=>(ZK.mp (by rw[←bR];exact z)).elim .inl λ z=>.inr (by rw[ZL.mp z];exact w9)) λ z=>.inr (x8 _ z)),t⟩,
  λ k a h=>by show(A++[(p,false)])[k]? =some a;rw[List.getElem?_append_left (z0.mp h).1];exact h⟩
theorem StOk.adopt{A:List (Addr×Bool)}{B:List Addr}(s:StOk K ⟨A,p::B⟩ H S)(m:p∉B)(h:H p=some (.lst xs))(r:Reps K ⟨A,p::B⟩ H xs ds):StOk K ⟨A++[(p,false)],B⟩ H (S++[ds]):=by have n:p∉adr A:=λ z=>s.apart p z w9;have i:A.length=S.length:=s.len;refine⟨Br s.nd n,by simp[i],λ k a g c d=>?_,λ k a g c d=>?_,λ a f=>?_,λ b j=>s.hidden b (x8 _ j)⟩;{rcases jM c with c | ⟨rfl,e⟩;{have l:=(z0.mp c).1;rw[List.getElem?_append_left %[|0]]at d;obtain⟨t,q,o⟩:=s.obj k a g c d;exact⟨t,q,o.conv Conv.adopt⟩};{cases e;rw[List.getElem?_append_right %[|0],i,Nat.sub_self]at d;cases d;exact⟨xs,h,r.conv Conv.adopt⟩}};{rcases jM c with c | ⟨rfl,e⟩;{have l:=(z0.mp c).1;rw[List.getElem?_append_left %[|0]]at d;exact(s.dob k a g c d).move Conv.adopt λ _ q=>q};{cases e}};{have f:a∈adr (A++[(p,false)]):=f;rw[bR]at f;rcases ZK.mp f with z | z;{exact λ q=>s.apart a z (x8 _ q)};{rw[ZL.mp z];exact m}}
theorem Step.inner{d f:List (Addr×Bool)}{B:List Addr}{H1 H2:Hp}(a:Step O ⟨d,B⟩ H H1)(b:Step ⟨d,p::B⟩ ⟨f,p::B⟩ H1 H2)(h:H p=none)(o:HO):Step O ⟨f,B⟩ H (upd H2 p o):=by have g:Step ⟨d,B⟩ ⟨f,B⟩ H1 H2:=⟨b.kept,b.dom,b.ext,rfl⟩;have c:=a.trans g;refine⟨λ x u i t=>?_,λ x t=>?_,c.ext,c.hid⟩;{rw[ao (aC t h)];exact c.kept x u i t};{by_cases e:x=p;{subst e;rw[aJ];simp};{rw[ao e];exact c.dom x t}}
end DL
namespace DL
open PySem PySem.Spec L2
open PyProof.Rows
variable {K : PySem.W.Frag} {O : Own} {H : Hp} {x : D} {ds : List D} {i j : Int} {p : Addr} {xs : List V}
abbrev Pins:=List (Addr×Obj)
abbrev WD:=D->%[|4]
def QG(K:PySem.W.Frag)(O:Own)(H:Hp)(W:WD):VK:=λ v a=>∃b d c,W d c/\Step O b H a/\StOk K b a c/\Rep K b a v d
def QA(K:PySem.W.Frag)(O:Own)(H:Hp)(W:List D->%[|4]):List V->Hp->Prop:=λ e a=>∃b d c,W d c/\Step O b H a/\StOk K b a c/\Reps K b a e d
def QT(K:PySem.W.Frag)(O:Own)(H:Hp)(W:Bool->%[|4]):Bool->Hp->Prop:=λ b a=>∃c d,W b d/\Step O c H a/\StOk K c a d
def Ev(X:Cx)(Γ:Gam)(S:Store)(e:Expr)(W:WD):Prop:=
 ∀ (a:Pins)(s:Shared)(b:St)(H:Hp)(O:Own),Inv X a b H s->EnvOk X.K O H b Γ->StOk X.K O H S->
   wpAny %[|6] X.A (eval e X.env) (EP X a b (QG X.K O H W)) X.xe s
def EvA(X:Cx)(Γ:Gam)(S:Store)(es:List Expr)(W:List D->%[|4]):Prop:=
 ∀ (b:Pos)(a:Pins)(s:Shared)(c:St)(H:Hp)(O:Own),Inv X a c H s->EnvOk X.K O H c Γ->StOk X.K O H S->
   wpAny %[|6] X.A (spliced (backTo b (starEach es X.env))) (AP X a c (QA X.K O H W)) X.xe s
def TsW(X:Cx)(Γ:Gam)(S:Store)(e:Expr)(W:Bool->%[|4]):Prop:=
 ∀ (b:Sem Value)(a:Pins)(s:Shared)(c:St)(H:Hp)(O:Own),Inv X a c H s->EnvOk X.K O H c Γ->StOk X.K O H S->
   wpAny %[|6] X.A (isTrue e X.env b) (TP X a c (QT X.K O H W)) X.xe s
def Ts(X:Cx)(Γ:Gam)(S:Store)(e:Expr)(W:Bool->%[|4]):Prop:=
 ∀ (a:Pins)(s:Shared)(b:St)(H:Hp)(O:Own),Inv X a b H s->EnvOk X.K O H b Γ->StOk X.K O H S->
   wpAny %[|6] X.A (isTrue e X.env (eval e X.env)) (TP X a b (QT X.K O H W)) X.xe s
def OpW(X:Cx)(f:Value->Value->Sem Value)(x y:D)(S:Store)(W:WD):Prop:=
 ∀ (a:Pins)(s:Shared)(c:St)(H:Hp)(O:Own)(v w:V)(u b:Value),Inv X a c H s->StOk X.K O H S->Rep X.K O H v x->Rep X.K O H w y->RelV v u->RelV w b->
   wpAny %[|6] X.A (f u b) (EP X a c (QG X.K O H W)) X.xe s
def cX(X:Cx)(f:Value)(ds:List D)(S:Store)(W:WD):Prop:=
 ∀ (a:Pins)(s:Shared)(d:St)(H:Hp)(O:Own)(c:List V)(b:List Value),Inv X a d H s->StOk X.K O H S->Reps X.K O H c ds->Vals c b->
   wpAny %[|6] X.A (call f b) (EP X a d (QG X.K O H W)) X.xe s
abbrev du(X:Cx)(op:Operator):=OpW X (binaryOp op)
abbrev aY(X:Cx)(op:CmpOp):=OpW X (compareOp op)
section
variable {X : Cx} {Γ : Gam} {S S1 : Store} {W : WD} {a b e : Expr} {es rest : List Expr} {pos : Pos}
theorem QG.pre{O1:Own}{H1:Hp}(st:Step O O1 H H1){v:V}{a:Hp}(q:QG K O1 H1 W v a):QG K O H W v a:=by obtain⟨b,d,c,w,f,e,r⟩:=q;exact⟨b,d,c,w,st.trans f,e,r⟩
theorem eE{pins:Pins}{σ:St}{O1:Own}{H1:Hp}(st:Step O O1 H H1){u:Value}{s':Shared}(q:EP X pins σ (QG X.K O1 H1 W) u s'):EP X pins σ (QG X.K O H W) u s':=by obtain⟨v,a,I,r,q⟩:=q;exact⟨v,a,I,r,q.pre st⟩
theorem NT{pins:Pins}{σ:St}{O1:Own}{H1:Hp}(st:Step O O1 H H1){W:Bool->%[|4]}{u:Bool}{s':Shared}(q:TP X pins σ (QT X.K O1 H1 W) u s'):TP X pins σ (QT X.K O H W) u s':=by obtain⟨a,I,b,c,w,e,d⟩:=q;exact⟨a,I,b,c,w,st.trans e,d⟩
theorem Ev.mono{f:WD}(h:Ev X Γ S e W)(k:∀d S',W d S'->f d S'):Ev X Γ S e f:=λ a s m H O I b l=>
 thn (h a s m H O I b l) λ _ _ c=>by obtain⟨v,g,i,r,j,d,S',w,q⟩:=c;exact⟨v,g,i,r,j,d,S',k d S' w,q⟩
theorem OpW.mono{f:Value->Value->Sem Value}{y:D}{c:WD}(h:OpW X f x y S W)(k:∀d S',W d S'->c d S'):OpW X f x y S c:=λ a s t H O v w u p I o j l m n=>
 thn (h a s t H O v w u p I o j l m n) λ _ _ b=>by obtain⟨v,e,g,r,i,d,S',w,q⟩:=b;exact⟨v,e,g,r,i,d,S',k d S' w,q⟩
theorem eG{f:Value->Value->Sem Value}{r:R2}{y:D}(b:OpR X f r)(h:∀O H v w,StOk X.K O H S->Rep X.K O H v x->Rep X.K O H w y->r v w H (QG X.K O H W)):OpW X f x y S W:=
 λ a s k H O v w u j I i c d e g=>b a s k H v w u j _ I e g (h O H v w i c d)
theorem cg{f:Value}{r:List V->Hp->VK->Prop}(b:d7 X f r)(h:∀O H vs,StOk X.K O H S->Reps X.K O H vs ds->r vs H (QG X.K O H W)):cX X f ds S W:=
 λ a s i H O vs g I e c d=>b a s i H vs g _ I d (h O H vs e c)
theorem Hh{v:V}{d:D}(w:W d S)(st:StOk K O H S)(r:Rep K O H v d):QG K O H W v H:=⟨O,d,S,w,Step.refl O H,st,r⟩
theorem Uk(i:Nat){x:Str}{d:D}(f:Γ[i]? =some (some d))(w:W d S)(g:X.N[i]? =some x:=by rfl)
 (j:Vis X.env.scope x:=by first | exact Or.inl rfl | exact Or.inr (Or.inl rfl) | exact Or.inr (Or.inr rfl))(h:(x==("__debug__":Str))=false:=by decide)(c:(x==("__classdict__":Str))=false:=by decide):
 Ev X Γ S (.Name x pos) W:=by intro a s l H O I b k;obtain⟨v,e,r⟩:=b.at_ i d f;exact Um g j h c a s l H _ I ⟨v,e,Hh w k r⟩
theorem R4{j}(w:W (.int i) S):Ev X Γ S (.Constant (.int i) j pos) W:=λ a s c H O I _ b=>Sv a s c H _ I (Hh w b (.int i))
theorem Vx{i:Bool}{j}(w:W (.bl i) S):Ev X Γ S (.Constant (.bool i) j pos) W:=λ a s c H O I _ b=>Wk a s c H _ I (Hh w b (.bl i))
theorem R1{j}(w:W .non S):Ev X Γ S (.Constant .none j pos) W:=λ a s c H O I _ b=>R8 a s c H _ I (Hh w b .non)
theorem Ln{x:Str}{t:Tok}(d:X.mg x=some (.int i t))(w:W (.int i) S)(c:Gl X x:=by rfl)(b:(x==("__debug__":Str))=false:=by decide):Ev X Γ S (.Name x pos) W:=
 λ a s f H O I _ e=>OJ c d (v:=.int i) ⟨t,rfl⟩ b a s f H _ I (Hh w e (.int i))
theorem rW{op:Operator}(h:Ev X Γ S a λ x S1=>Ev X Γ S1 b λ y S2=>du X op x y S2 W):Ev X Γ S (.BinOp a op b pos) W:=by intro c s m H O I e G;refine wpAny_BinOp (thn (h c s m H O I e G) λ u E d=>?_);obtain⟨v,n,p,C,t,x,S1,A,i,k,f⟩:=d;refine thn (A c E m n t p (e.mono i) k) λ J F d=>?_;obtain⟨w,o,r,D,z,y,S2,B,j,l,g⟩:=d;exact thn (B c F m o z v w u J r l (f.mono j) g C D) λ _ _ q=>eE (i.trans j) q
theorem SJ{op:CmpOp}(h:Ev X Γ S a λ x S1=>Ev X Γ S1 b λ y S2=>aY X op x y S2 W)(B:behindInMarks op b=false:=by first | exact nomark _ | (with_unfolding_all rfl)):Ev X Γ S (.Compare a [op] [b] pos) W:=by intro c s m H O I e J;refine wpAny_Compare1 (thn (h c s m H O I e J) λ u F d=>?_) B;obtain⟨v,n,p,D,t,x,S1,A,i,k,f⟩:=d;refine thn (A c F m n t p (e.mono i) k) λ K G d=>?_;obtain⟨w,o,r,E,z,y,S2,C,j,l,g⟩:=d;exact thn (C c G m o z v w u K r l (f.mono j) g D E) λ _ _ q=>eE (i.trans j) q
abbrev asB(W:Bool->%[|4]):WD:=λ d S=>∃c,d=.bl c/\W c S
theorem yC{op:CmpOp}{W:Bool->%[|4]}(h:Ev X Γ S a λ x S1=>Ev X Γ S1 b λ y S2=>aY X op x y S2 (asB W))(N:behindInMarks op b=false:=by first | exact nomark _ | (with_unfolding_all rfl)):Ts X Γ S (.Compare a [op] [b] pos) W:=by intro f s r H O I g Y;refine wpAny_isTrue_Compare1 (thn (h f s r H O I g Y) λ u U e=>?_) N;obtain⟨v,t,C,Q,F,x,S1,L,l,n,i⟩:=e;refine thn (L f U r t F C (g.mono l) n) λ Z V e=>?_;obtain⟨w,A,D,R,G,y,S2,P,m,o,j⟩:=e;refine thn (P f V r A G v w u Z D o (i.mono m) j Q R) λ _ _ e=>?_;obtain⟨z,B,E,T,J,d,K,⟨c,M,wc⟩,q,p,k⟩:=e;subst M;cases k;cases T;exact wpAny_truthy_bool ⟨B,E,J,K,wc,(l.trans m).trans q,p⟩
theorem Ue{W:Bool->%[|4]}(h:Ev X Γ S e (asB W))(p:∀whole,isTrue e X.env whole=(do let v ←whole;standAt e.pos;holding [v] (truthy v)):=by intro _;rfl):Ts X Γ S e W:=by intro a s u H O I f r;refine isTrue_plain (thn (h a s u H O I f r) λ _ _ g=>?_) (p _);obtain⟨z,k,l,q,m,d,n,⟨c,o,t⟩,j,i,b⟩:=g;subst o;cases b;cases q;exact wpAny_truthy_bool ⟨k,l,m,n,t,j,i⟩
theorem TsW.ts{W:Bool->%[|4]}(h:TsW X Γ S e W):Ts X Γ S e W:=λ a s d H O I b c=>h _ a s d H O I b c
theorem tw_and1{W:Bool->%[|4]}(h:Ts X Γ S a W):TsW X Γ S (.BoolOp .And [a] pos) W:=by
 intro j b s g H O I d f;refine isTrue_and (thn (h b s g H O I d f) λ c i e=>?_)
 cases c with
 | true=>exact isTrue_and_nil e
 | false=>exact e
theorem tw_or1{W:Bool->%[|4]}(h:Ts X Γ S a W):TsW X Γ S (.BoolOp .Or [a] pos) W:=by
 intro j b s g H O I d f;refine isTrue_or (thn (h b s g H O I d f) λ c i e=>?_)
 cases c with
 | false=>exact isTrue_or_nil e
 | true=>exact e
theorem tw_and{W:Bool->%[|4]}(h:Ts X Γ S a λ c S1=>(c=true->TsW X Γ S1 (.BoolOp .And (b::rest) pos) W)/\(c=false->W false S1)):TsW X Γ S (.BoolOp .And (a::b::rest) pos) W:=by
 intro p d s m H O I f o;refine isTrue_and (thn (h d s m H O I f o) λ c n i=>?_);obtain⟨j,k,l,S1,w1,e,g⟩:=i
 cases c with
 | true=>exact thn (w1.1 rfl p d n m j l k (f.mono e) g) λ _ _ q=>NT e q
 | false=>exact⟨j,k,l,S1,w1.2 rfl,e,g⟩
theorem tw_or{W:Bool->%[|4]}(h:Ts X Γ S a λ c S1=>(c=true->W true S1)/\(c=false->TsW X Γ S1 (.BoolOp .Or (b::rest) pos) W)):TsW X Γ S (.BoolOp .Or (a::b::rest) pos) W:=by
 intro p d s m H O I f o;refine isTrue_or (thn (h d s m H O I f o) λ c n i=>?_);obtain⟨j,k,l,S1,w1,e,g⟩:=i
 cases c with
 | false=>exact thn (w1.2 rfl p d n m j l k (f.mono e) g) λ _ _ q=>NT e q
 | true=>exact⟨j,k,l,S1,w1.1 rfl,e,g⟩
theorem RZ{W:Bool->%[|4]}(h:Ts X Γ S a λ c S1=>W (!c) S1):Ts X Γ S (.UnaryOp .Not a pos) W:=by intro b s f H O I d e;exact isTrue_not (thn (h b s f H O I d e) λ c g ⟨H1,I1,O1,S1,w1,st1,ok1⟩=>⟨H1,I1,O1,S1,w1,st1,ok1⟩)
theorem Jg{op}(h:Ev X Γ S a W):Ev X Γ S (.BoolOp op [a] pos) W:=λ b s e H O I c d=>BoolOp_one (h b s e H O I c d)
theorem T4(h:Ev X Γ S a λ x S1=>∃c,x=.bl c/\(c=true->Ev X Γ S1 (.BoolOp .And (b::rest) pos) W)/\(c=false->W (.bl false) S1)):Ev X Γ S (.BoolOp .And (a::b::rest) pos) W:=by
 intro d s n H O I f y;refine BoolOp_and (thn (h d s n H O I f y) λ u w j=>?_);obtain⟨v,k,l,t,m,x,S1,⟨c,r,o,p⟩,e,g,i⟩:=j;subst r;cases i;cases t;refine wpAny_truthy_bool ?_
 cases c with
 | true=>exact thn (o rfl d w n k m l (f.mono e) g) λ _ _ q=>eE e q
 | false=>exact⟨.bl false,k,l,rfl,m,.bl false,S1,p rfl,e,g,.bl false⟩
theorem Vr(h:Ev X Γ S a λ x S1=>∃c,x=.bl c/\(c=true->W (.bl true) S1)/\(c=false->Ev X Γ S1 (.BoolOp .Or (b::rest) pos) W)):Ev X Γ S (.BoolOp .Or (a::b::rest) pos) W:=by
 intro d s n H O I f y;refine BoolOp_or (thn (h d s n H O I f y) λ u w j=>?_);obtain⟨v,k,l,t,m,x,S1,⟨c,r,o,p⟩,e,g,i⟩:=j;subst r;cases i;cases t;refine wpAny_truthy_bool ?_
 cases c with
 | false=>exact thn (p rfl d w n k m l (f.mono e) g) λ _ _ q=>eE e q
 | true=>exact⟨.bl true,k,l,rfl,m,.bl true,S1,o rfl,e,g,.bl true⟩
theorem Sx(h:Ev X Γ S a λ x S1=>∃c,x=.bl c/\W (.bl (!c)) S1):Ev X Γ S (.UnaryOp .Not a pos) W:=by intro b s q H O I e p;refine UnaryOp_ (thn (h b s q H O I e p) λ u r f=>?_);obtain⟨v,j,k,o,l,x,S1,⟨c,n,m⟩,i,g,d⟩:=f;subst n;cases d;cases o;exact not_of (wpAny_truthy_bool ⟨.bl (!c),j,k,rfl,l,.bl (!c),S1,m,i,g,.bl (!c)⟩)
theorem Uz(h:Ev X Γ S a λ x S1=>∃i,x=.int i/\W (.int (-i)) S1):Ev X Γ S (.UnaryOp .USub a pos) W:=by intro b s k H O I e t;refine UnaryOp_ (thn (h b s k H O I e t) λ u r f=>?_);obtain⟨v,l,m,q,n,x,S1,⟨c,p,o⟩,j,g,d⟩:=f;subst p;cases d;exact Td b r k l _ _ _ m q ⟨c,rfl,n,.int (-c),S1,o,j,g,.int (-c)⟩
theorem M8{c:Expr}{op n:CmpOp}(h:Ev X Γ S a λ x S1=>Ev X Γ S1 b λ y S2=>aY X op x y S2 λ z S3=>∃k,z=.bl k/\(k=false->W (.bl false) S3)/\(k=true->Ev X Γ S3 c λ t S4=>aY X n y t S4 W))
 (hm:lastMarks [op,n] [b,c]=false:=by with_unfolding_all rfl):Ev X Γ S (.Compare a [op,n] [b,c] pos) W:=by
 intro e s C H O I m st;refine Compare_chain (thn (h e s C H O I m st) λ u s1 f=>?_) hm;obtain⟨v,N,R,r1,V,x,S1,hb,g,D,p⟩:=f;refine chain_link (thn (hb e s1 C N V R (m.mono g) D) λ M s2 f=>?_);obtain⟨w,P,T,L,Y,y,S2,hw,i,E,l⟩:=f;refine thn (hw e s2 C P Y v w u M T E (p.mono i) l r1 L) λ _ s3 f=>?_;obtain⟨z,G,J,r3,K,d,S3,⟨k,hd,k1,k2⟩,j,o,r⟩:=f;subst hd;cases r;cases r3;refine wpAny_truthy_bool ?_
 cases k with
 | false=>exact ite_ff ⟨.bl false,G,J,rfl,K,.bl false,S3,k1 rfl,(g.trans i).trans j,o,.bl false⟩
 | true=>refine ite_tt (chain_last (thn (k2 rfl e s3 C G K J (((m.mono g).mono i).mono j) o) λ u4 s4 f=>?_));obtain⟨w4,Q,U,r4,Z,t,S4,h4,B,F,A⟩:=f;exact thn (h4 e s4 C Q Z w w4 M u4 U F ((l.mono j).mono B) A L r4) λ _ _ q=>eE (((g.trans i).trans j).trans B) q
theorem gM{W:List D->%[|4]}(w:W [] S):EvA X Γ S [] W:=λ _ a s c H O I _ b=>Calls.spliced_nil ⟨[],H,I,.nil,O,[],S,w,Step.refl O H,b,.nil⟩
theorem cB{W:List D->%[|4]}(h:Ev X Γ S e λ d S1=>EvA X Γ S1 es λ ds S2=>W (d::ds) S2)(A:starEach (e::es) X.env=(false,eval e X.env)::starEach es X.env:=by rfl):EvA X Γ S (e::es) W:=by intro f a s n H O I c F;rw[A];show wpAny _ _ (spliced ((false,eval e X.env)::backTo f (starEach es X.env))) _ _ s;refine Calls.spliced_cons (thn (h a s n H O I c F) λ u E b=>?_);obtain⟨v,o,q,B,t,x,S1,z,j,l,g⟩:=b;exact thn (z f a E n o t q (c.mono j) l) λ K J b=>by obtain⟨G,p,r,C,y,ds,S2,w,k,m,i⟩:=b;exact⟨v::G,p,r,.cons B C,y,x::ds,S2,w,j.trans k,m,.cons (g.mono k) i⟩
theorem small{n:Nat}(h:n≤1000000):n≤sizeLine:=Nat.le_trans h %[|3]
theorem Ui(st:StOk K O H S)(h:H p=none):Tp K O (upd H p (.tup xs)) p xs:=⟨st.fresh_not h,aJ⟩
theorem sH(st:StOk K O H S)(h:H p=none):Ls K O (upd H p (.lst xs)) p xs:=.inl ⟨st.fresh_not h,.inl aJ⟩
theorem jA(w:W (.tup ds) S)(st:StOk K O H S)(h:H p=none)(r:Reps K O H xs ds):QG K O H W (.ref p) (upd H p (.tup xs)):=
 ⟨O,.tup ds,S,w,Step.fresh h _,st.fresh h _,.tup (Ui st h) (r.mono (Step.fresh h _))⟩
theorem fU(w:W (.lst ds) S)(st:StOk K O H S)(h:H p=none)(r:Reps K O H xs ds):QG K O H W (.ref p) (upd H p (.lst xs)):=
 ⟨O,.lst ds,S,w,Step.fresh h _,st.fresh h _,.lst (sH st h) (r.mono (Step.fresh h _))⟩
theorem yt(w:W (.loc S.length) (S++[ds]))(st:StOk K O H S)(h:H p=none)(r:Reps K O H xs ds):QG K O H W (.ref p) (upd H p (.lst xs)):=
 ⟨O.more p,.loc S.length,S++[ds],w,Step.own h _,st.own h r,.loc (by show(O.A++[(p,false)])[S.length]? =some (p,false);rw[←st.len];simp)⟩
theorem Tc{o}(h:EvA X Γ S es λ ds S1=>ds.length≤1000000/\W (.tup ds) S1):Ev X Γ S (.Tuple es o pos) W:=by intro c s q H O I d m;refine wpAny_Tuple_spliced (thn (h pos c s q H O I d m) λ n s1 f=>?_);obtain⟨p,j,k,r,t,ds,S1,⟨z,w⟩,i,g,a⟩:=f;refine⟨by rw[←r.length,a.length];exact small z,?_⟩;have l:j s1.heap.objs.size=none:=k.hok.fresh (x6 _);refine⟨.ref s1.heap.objs.size,upd j s1.heap.objs.size (.tup p),k.laid (t':=s1.toks) (λ b u e=>ZC _ e) (x6 _) ?_,rfl,(jA w g l a).pre i⟩;exact⟨by rw[a.length];exact small z,n,r,⟨_,ZD _ rfl,rfl,_,rfl⟩⟩
theorem Ur(h:EvA X Γ S es λ ds S1=>ds.length≤1000000/\W (.lst ds) S1):Ev X Γ S (.List es pos) W:=by intro c s p H O I d m;refine wpAny_List_spliced (thn (h pos c s p H O I d m) λ n s1 f=>?_);obtain⟨o,j,k,r,q,ds,S1,⟨z,w⟩,i,g,a⟩:=f;refine⟨by rw[←r.length,a.length];exact small z,?_⟩;have l:j s1.heap.objs.size=none:=k.hok.fresh (x6 _);refine⟨.ref s1.heap.objs.size,upd j s1.heap.objs.size (.lst o),k.laid (t':=s1.toks) (λ b u e=>ZC _ e) (x6 _) ?_,rfl,(fU w g l a).pre i⟩;exact⟨by rw[a.length];exact small z,n,0,r,ZD _ rfl⟩
theorem Rf(h:EvA X Γ S es λ ds S1=>ds.length≤1000000/\W (.loc S1.length) (S1++[ds])):Ev X Γ S (.List es pos) W:=by intro c s p H O I d m;refine wpAny_List_spliced (thn (h pos c s p H O I d m) λ n s1 f=>?_);obtain⟨o,j,k,r,q,ds,S1,⟨z,w⟩,i,g,a⟩:=f;refine⟨by rw[←r.length,a.length];exact small z,?_⟩;have l:j s1.heap.objs.size=none:=k.hok.fresh (x6 _);refine⟨.ref s1.heap.objs.size,upd j s1.heap.objs.size (.lst o),k.laid (t':=s1.toks) (λ b u e=>ZC _ e) (x6 _) ?_,rfl,(yt w g l a).pre i⟩;exact⟨by rw[a.length];exact small z,n,0,r,ZD _ rfl⟩
theorem gJ{op:Operator}{C:Int->Int->Prop}{g:Int->Int->Int}(a:OpR X (binaryOp op) (rI C λ i j=>.int (g i j))){i j:Int}(c:C i j)(w:W (.int (g i j)) S):du X op (.int i) (.int j) S W:=
 eG a λ O H v f e b d=>by cases b;cases d;exact⟨i,j,rfl,rfl,c,Hh w e (.int _)⟩
theorem BJ{op:Operator}{g:Int->Int->Int}(a:OpR X (binaryOp op) (rI0 λ i j=>.int (g i j))){i j:Int}(w:W (.int (g i j)) S):du X op (.int i) (.int j) S W:=
 eG a λ O H v e d b c=>by cases b;cases c;exact⟨i,j,rfl,rfl,Hh w d (.int _)⟩
theorem Wj(w:W (.int (i+j)) S):du X .Add (.int i) (.int j) S W:=BJ RT w
theorem Vt(w:W (.int (i-j)) S):du X .Sub (.int i) (.int j) S W:=BJ R7 w
theorem Vm(c:CMul i j)(w:W (.int (i*j)) S):du X .Mult (.int i) (.int j) S W:=gJ U5 c w
theorem Wg(c:0<j)(w:W (.int (i % j)) S):du X .Mod (.int i) (.int j) S W:=gJ Sw c w
theorem UJ(c:0<j/\j<1073741824)(w:W (.int (i/j)) S):du X .FloorDiv (.int i) (.int j) S W:=gJ Ov c w
theorem Vo(c:CPow i j)(w:W (.int (i ^ j.toNat)) S):du X .Pow (.int i) (.int j) S W:=gJ Sy c w
theorem nP{op:CmpOp}{g:Int->Int->Bool}(a:OpR X (compareOp op) (rI0 λ i j=>.bl (g i j))){i j:Int}(w:W (.bl (g i j)) S):aY X op (.int i) (.int j) S W:=
 eG a λ O H v e d b c=>by cases b;cases c;exact⟨i,j,rfl,rfl,Hh w d (.bl _)⟩
theorem WM(w:W (.bl (decide (i<j))) S):aY X .Lt (.int i) (.int j) S W:=nP VV w
theorem Wo(w:W (.bl (decide (i≤j))) S):aY X .LtE (.int i) (.int j) S W:=nP Vf w
theorem WQ(w:W (.bl (decide (j<i))) S):aY X .Gt (.int i) (.int j) S W:=nP Wl w
theorem Ww(w:W (.bl (decide (j≤i))) S):aY X .GtE (.int i) (.int j) S W:=nP VJ w
theorem Vc(w:W (.bl (decide (i=j))) S):aY X .Eq (.int i) (.int j) S W:=
 eG NZ λ O H v d c a b=>by
  cases a;cases b;have e:decide (V.int i=V.int j)=decide (i=j):=by rw[oF];exact(Bool.beq_eq_decide_eq i j)
  exact⟨rfl,by rw[e];exact Hh w c (.bl _)⟩
theorem Va(w:W (.bl (!decide (i=j))) S):aY X .NotEq (.int i) (.int j) S W:=
 eG N7 λ O H v d c a b=>by
  cases a;cases b;have e:decide (V.int i=V.int j)=decide (i=j):=by rw[oF];exact(Bool.beq_eq_decide_eq i j)
  exact⟨rfl,by rw[e];exact Hh w c (.bl _)⟩
theorem Vk{i j:Bool}(w:W (.bl (i==j)) S):aY X .Eq (.bl i) (.bl j) S W:=
 eG NZ λ O H v d c a b=>by cases a;cases b;exact⟨rfl,by rw[qD];exact Hh w c (.bl _)⟩
theorem Vh{i j:Bool}(w:W (.bl (!(i==j))) S):aY X .NotEq (.bl i) (.bl j) S W:=
 eG N7 λ O H v d c a b=>by cases a;cases b;exact⟨rfl,by rw[qD];exact Hh w c (.bl _)⟩
theorem VG(w:W (.bl (match x with | .non=>true | _=>false)) S):aY X .Is x .non S W:=
 eG Tv λ O H v d c a b=>by cases b;refine⟨rfl,?_⟩;cases a<;>exact Hh w c (.bl _)
theorem Pj(w:W (.bl (match x with | .non=>false | _=>true)) S):aY X .IsNot x .non S W:=
 eG Qc λ O H v d c a b=>by cases b;refine⟨rfl,?_⟩;cases a<;>exact Hh w c (.bl _)
theorem RK{es:List D}(hz:ds.length+es.length≤1000000)(w:W (.tup (ds++es)) S):du X .Add (.tup ds) (.tup es) S W:=by
 intro h s Z H O v w' u U I r Q R C E
 cases Q with
 | @tup a F _ m i=>
   cases R with
   | @tup b Y _ o j=>
     by_cases B:F=[]
     . subst B;have e:ds=[]:=by have:=i.length;simpa using this.symm
       subst e;cases C;cases E;obtain⟨L,V,N,_⟩:=I.tuple m.sq;obtain⟨g,v2,P,_⟩:=I.tuple o.sq;cases V;obtain⟨⟨G,J,x,T⟩,A,y,n,z⟩:=id N;obtain⟨⟨t,l,k,q⟩,f,c,M,d⟩:=id P;simp only at y z c d;subst y z c d;exact concat_meets ⟨_,A,rfl⟩ ⟨_,f,rfl⟩ noFill_tuple_add seq_tuple_add PySem.F.slot_tuple_add PySem.F.entry_tuple_add (PySem.F.args_tuple_add_2 _ _)
        (tuple_addW0 a b ([]:List Value).toArray g.toArray n M J l T q rfl) ⟨A,f,⟨.ref b,H,I,rfl,Hh w r (.tup o j)⟩⟩
     . refine Qz h s Z H _ _ u U _ I C E ⟨a,b,F,Y,rfl,rfl,m.sq,o.sq,B,by rw[i.length,j.length];exact small hz,λ e=>?_,λ _ p K=>jA w r K (i.append j)⟩;subst e;have e:es=[]:=by have:=j.length;simpa using this.symm
       subst e;rw[List.append_nil]at w;exact Hh w r (.tup m i)
theorem Uc{es:List D}(hz:ds.length+es.length≤1000000)(w:W (.lst (ds++es)) S):du X .Add (.lst ds) (.lst es) S W:=by
 intro x s σ H O v Y u V I U N P Q R
 cases N with
 | @lst a Z _ F j=>
   cases P with
   | @lst b ys _ G k=>
     cases Q;cases R;obtain⟨d,y,L,_⟩:=I.list F.sq;obtain⟨c,A,M,_⟩:=I.list G.sq;obtain⟨⟨B,C,o,T⟩,n,t,p,J,q⟩:=id L;obtain⟨⟨m,i,h,l⟩,K,g,e,r,f⟩:=id M;simp only at p q e f;subst p q e f;have z:d.length+c.length≤sizeLine:=by rw[←y.length,←A.length,j.length,k.length];exact small hz
     refine concat_meets ⟨_,t,rfl⟩ ⟨_,g,rfl⟩ noFill_list_add seq_list_add PySem.F.slot_list_add PySem.F.entry_list_add (PySem.F.args_list_add_2 _ _)
      (list_addW a b d.toArray c.toArray n K C i T l (by simpa using z)) ⟨t,g,?_⟩;have E:d.toArray++c.toArray=(d++c).toArray:=by simp
     rw[E];refine⟨.ref s.heap.objs.size,_,I.lnew (t':=s.toks) (y.append A) (by rw[v3,j.length,k.length];exact small hz),rfl,fU w U I.fresh (j.append k)⟩
end
end DL
namespace DL
open PySem PySem.Spec L2
open PyProof.Rows
variable {K : PySem.W.Frag} {O : Own} {H : Hp} {xs : List V} {ds : List D} {i : Int} {d : D} {k : Nat} {x : Str} {p : Pos}
section
variable {X : Cx} {Γ : Gam} {S : Store} {W : WD} {a b e : Expr} {es : List Expr} {pos : Pos}
def IxW(X:Cx)(a b:Expr)(x y:D)(S:Store)(W:WD):Prop:=
 ∀ (c:Pins)(s:Shared)(e:St)(H:Hp)(O:Own)(v w:V)(u d:Value),Inv X c e H s->StOk X.K O H S->Rep X.K O H v x->Rep X.K O H w y->RelV v u->RelV w d->
   subscripted b false u d=operate [u,d] (getItem u d)->wpAny %[|6] X.A (subscriptTail a b u d) (EP X c e (QG X.K O H W)) X.xe s
theorem Vz(h:Ev X Γ S a λ x S1=>Ev X Γ S1 b λ y S2=>IxW X a b x y S2 W)(B:Ea b:=by intro _ _;rfl):Ev X Γ S (.Subscript a b pos) W:=by intro c s m H O I e J;refine Subscript_ (thn (h c s m H O I e J) λ u F d=>?_);obtain⟨v,n,p,D,t,x,S1,A,i,k,f⟩:=d;refine thn (A c F m n t p (e.mono i) k) λ K G d=>?_;obtain⟨w,o,r,E,z,y,S2,C,j,l,g⟩:=d;exact thn (C c G m o z v w u K r l (f.mono j) g D E (B _ _)) λ _ _ q=>eE (i.trans j) q
theorem tB(r:Reps K O H xs ds)(h:atI ds i=some d):∃v,atI xs i=some v/\Rep K O H v d:=by
 unfold atI at h ⊢;rw[r.length]
 cases e:ixN ds.length i with
 | none=>rw[e]at h;cases h
 | some j=>rw[e]at h;exact r.get (i:=j) h
theorem V4(h:atI ds i=some d)(w:W d S):IxW X a b (.tup ds) (.int i) S W:=by intro c s x H O v y u r I q k l m n f;cases l;cases k with| @tup p t _ e j=>obtain⟨z,g,o⟩:=tB j h;exact Sd a b c s x H _ _ u r _ I m n ⟨p,t,i,z,rfl,rfl,e.sq,g,Hh w q o⟩ f
theorem VH(h:atI ds i=some d)(w:W d S):IxW X a b (.lst ds) (.int i) S W:=by intro c s x H O v y u r I q k l m n f;cases l;cases k with| @lst p t _ e j=>obtain⟨z,g,o⟩:=tB j h;exact Ey a b c s x H _ _ u r _ I m n ⟨p,t,i,z,rfl,rfl,e.sq,g,Hh w q o⟩ f
theorem Vb(g:S[k]? =some ds)(h:atI ds i=some d)(w:W d S):IxW X a b (.loc k) (.int i) S W:=by intro c s B H O v C u y I e o q r t j;cases q;cases o with| @loc p _ f=>obtain⟨A,l,n⟩:=e.obj k p ds f g;obtain⟨z,m,x⟩:=tB n h;exact Ey a b c s B H _ _ u y _ I r t ⟨p,A,i,z,rfl,rfl,SqL.of l,m,Hh w e x⟩ j
def PoD(X:Cx)(Γ:Gam)(S:Store)(o:Option Expr)(W:Option Int->%[|4]):Prop:=match o with
 | none=>W none S
 | some e=>Ev X Γ S e λ d a=>∃i,d=.int i/\W (some i) a
def SlW(X:Cx)(x:D)(lo hi:Option Int)(S:Store)(W:WD):Prop:=
 ∀ (a:Pins)(s:Shared)(e:St)(H:Hp)(O:Own)(v:V)(u c d:Value)(b:Addr),Inv X a e H s->StOk X.K O H S->Rep X.K O H v x->RelV v u->s.heap.IsSliceOf b c d .none->IsPart c lo->IsPart d hi->
   ∃T f,typeLookup (.type T) "__getitem__"=pure (some (.builtin f))/\s.TypeIs u T/\wpAny %[|6] X.A (getItem u (.ref b)) (EP X a e (QG X.K O H W)) X.xe s
theorem Kh{W:Option Int->%[|4]}{o:Option Expr}(h:PoD X Γ S o W){pins:Pins}{s:Shared}{σ:St}{H:Hp}{O:Own}(I:%[|5])(env:EnvOk X.K O H σ Γ)(st:StOk X.K O H S):
 wpAny %[|6] X.A (evalPart o X.env) (λ u s'=>∃p H' O' S',Inv X pins σ H' s'/\IsPart u p/\W p S'/\Step O O' H H'/\StOk X.K O' H' S') X.xe s:=by
 cases o with
 | none=>rw[evalPart_none];exact ZB ⟨none,H,O,S,I,.none,h,Step.refl O H,st⟩
 | some e=>rw[evalPart_some];refine thn (h pins s σ H O I env st) λ u n b=>?_;obtain⟨v,f,g,m,j,x,k,⟨i,l,w⟩,d,c,a⟩:=b;subst l;cases a;obtain⟨t,rfl⟩:=m;exact⟨some i,f,j,k,g,.int i t,w,d,c⟩
theorem Mi{lo hi:Option Expr}{w:Pos}(h:Ev X Γ S e λ x S1=>PoD X Γ S1 lo λ l S2=>PoD X Γ S2 hi λ r S3=>SlW X x l r S3 W):Ev X Γ S (.Subscript e (.Slice lo hi none w) pos) W:=by intro c s t H O I d Q;refine Subscript_ (thn (h c s t H O I d Q) λ v s1 a=>?_);obtain⟨y,R,z,P,V,x,S1,F,f,n,i⟩:=a;refine wpAny_Slice (thn (Kh F z (d.mono f) n) λ k s2 a=>?_);obtain⟨l,U,Y,S2,A,M,G,g,o⟩:=a;refine thn (Kh G A ((d.mono f).mono g) o) λ m s3 a=>?_;obtain⟨r,u,D,S3,B,N,J,j,p⟩:=a;rw[evalPart_none];refine ZB ?_;have C:Inv X c t u {s3 with heap:=s3.heap.push {cls:=.type "slice",data:=.fields #[k,m,.none]}}:=B.kept (t':=s3.toks) λ b ob q=>ZC _ q;obtain⟨T,Z,E,L,K⟩:=J c {s3 with heap:=s3.heap.push {cls:=.type "slice",data:=.fields #[k,m,.none]}} t u D y v k m s3.heap.objs.size C p ((i.mono g).mono j) P (Heap.IsSliceOf.new ..) M N;show wpAny %[|6] X.A (subscriptTail e (.Slice lo hi none w) v (.ref s3.heap.objs.size)) _ X.xe {s3 with heap:=s3.heap.push {cls:=.type "slice",data:=.fields #[k,m,.none]}};exact tail_any (ops:=[.ref s3.heap.objs.size,v]) L E (thn K λ _ _ q=>eE ((f.trans g).trans j) q) (by with_unfolding_all rfl)
def cutD(ds:List D)(lo hi:Option Int):List D:=(ds.drop (HT.sIx ds.length 0 lo)).take (HT.sIx ds.length ds.length hi-HT.sIx ds.length 0 lo)
theorem tH(r:Reps K O H xs ds)(lo hi:Option Int):Reps K O H (mU xs lo hi) (cutD ds lo hi):=by unfold mU cutD;rw[r.length];exact(r.drop _).take _
theorem Df{prog:Program}{w:World}{A:Around}{E:%[|7]}{s:Shared}{t e:Addr}{items:Array Value}{vl vu:Value}{lo hi:Option Int}{Q:%[|7]}(a:IsTup s.heap t items)(f:s.heap.IsSliceOf e vl vu .none)(k:IsPart vl lo)(l:IsPart vu hi)
 (g:HT.sIx items.size 0 lo=0)(h1:HT.sIx items.size items.size hi=items.size)(h:Q (.ref t) s):wpAny (model prog w) A (getItem (.ref t) (.ref e)) Q E s:=by
 obtain⟨j,c,b,i⟩:=id f;have d:s.TypeIs (.ref e) "slice":=⟨j,c,b⟩;unfold getItem;try with_reducible refine ZQ ?_
 first | refine ZA (ZB ?_) | skip
 refine ZA (wpAny_sequenceKey a.typeIs %[|3] ?_);refine ZA (wpAny_callSpecial?_slot (name:=Str.ofString "__getitem__") a.typeIs PyProof.Rows.slot_tuple_getitem
  (ZP PyProof.Rows.slot_tuple_getitem a.typeIs entry_tuple_getitem ?_ (args_tuple_getitem _ _)));show wpAny _ _ (Builtin.Tuple.tupleItemsOf (.ref t)>>=_) _ _ s;refine ZA (tupleItemsOf_ a (ZA (wpAny_typeOf d ?_)));rw[if_pos %[|3]];refine ZA (HT.sliceApplied_gen f k l ?_);rw[g,h1];show wpAny _ _ (if(((0:Nat):Int)==0&&(1:Int)==1&&(items.size-0)==items.size)=true then _ else _) _ _ s;rw[if_pos (by simp)];unfold Builtin.Tuple.tupleIsExact;first
  | exact ZA (ZA (wpAny_typeOf a.typeIs (ZB (by rw[if_pos %[|3]];exact ZA (wpAny_rule (ZB ⟨_,rfl,ZB h⟩))))))
  | (refine ZA (ZA (wpAny_typeOf a.typeIs (ZB ?_)));simp only[beq_self_eq_true,if_true];exact ZA (wpAny_rule (ZB ⟨_,rfl,ZB h⟩)))
theorem Wb{lo hi:Option Int}(w:W (.tup (cutD ds lo hi)) S):SlW X (.tup ds) lo hi S W:=by
 intro c s y H O v u t x q I m o l h j k
 cases o with
 | @tup p b _ f d=>
   by_cases hw:HT.sIx b.length 0 lo=0/\HT.sIx b.length b.length hi=b.length
   . cases l;obtain⟨g,r,i,z⟩:=I.tuple f.sq;have a:g.toArray.size=b.length:=by rw[x9];exact r.length.symm
     refine⟨"tuple",_,PyProof.Rows.slot_tuple_getitem.lookup,i.typeIs,Df i h j k (by rw[a];exact hw.1) (by rw[a];exact hw.2) ⟨.ref p,H,I,rfl,?_⟩⟩;have e:cutD ds lo hi=ds:=by unfold cutD;rw[←d.length,hw.1,hw.2,List.drop_zero,List.take_of_length_le (by rw[←d.length];omega)]
     rw[e]at w;exact Hh w m (.tup f d)
   {exact Uv c s y H _ u t x lo hi q _ I l h j k ⟨p,b,rfl,f.sq,hw,λ A n=>jA w m n (tH d lo hi)⟩}
theorem Ve{lo hi:Option Int}(w:W (.lst (cutD ds lo hi)) S):SlW X (.lst ds) lo hi S W:=by intro a s o H O v u l m j I k h i d e f;cases h with| @lst p n _ b g=>exact Fg a s o H _ u l m lo hi j _ I i d e f ⟨p,n,rfl,b.sq,λ q c=>fU w k c (tH g lo hi)⟩
theorem Mv{id:String}(h:EvA X Γ S (e::es) λ ds S1=>cX X (.builtin id) ds S1 W)(t:X.mg x=none)(v:bootBuiltins x=some (.builtin id))(r:Gl X x:=by rfl)(u:x≠"__name__":=by decide)(c:(x==("__debug__":Str))=false:=by decide)
 (o:starEach (e::es) X.env=(false,eval e X.env)::starEach es X.env:=by rfl)(d:(backTo pos (starEach es X.env)).any (·.1)=false:=by rfl):Ev X Γ S (.Call (.Name x p) (e::es) [] pos) W:=by intro a s k H O I b A;refine wpAny_Call_Name_kw (cI I r t v ?_ u c);exact PyProof.Rows.callWith_builtin1 (thn (h pos a s k H O I b A) λ B z f=>by obtain⟨C,l,m,y,n,ds,S1,w,j,g,i⟩:=f;exact thn (w a z k l n C B m g i y) λ _ _ q=>eE j q) o d
theorem MJ{T:String}(h:EvA X Γ S (e::es) λ ds S1=>cX X (.type T) ds S1 W)(t:X.mg x=none)(v:bootBuiltins x=some (.type T))(r:Gl X x:=by rfl)(u:x≠"__name__":=by decide)(c:(x==("__debug__":Str))=false:=by decide)
 (o:starEach (e::es) X.env=(false,eval e X.env)::starEach es X.env:=by rfl)(d:(backTo pos (starEach es X.env)).any (·.1)=false:=by rfl):Ev X Γ S (.Call (.Name x p) (e::es) [] pos) W:=by intro a s k H O I b A;refine wpAny_Call_Name_kw (cI I r t v ?_ u c);exact PyProof.Rows.callWith_type1 (thn (h pos a s k H O I b A) λ B z f=>by obtain⟨C,l,m,y,n,ds,S1,w,j,g,i⟩:=f;exact thn (w a z k l n C B m g i y) λ _ _ q=>eE j q) o d
theorem cC{b:List V}(r:Reps K O H b [d]):∃v,b=[v]/\Rep K O H v d:=by cases r with| cons a t=>cases t;exact⟨_,rfl,a⟩
theorem Sh(w:W (.int ds.length) S):cX X (.builtin "len") [.tup ds] S W:=cg gW λ O H f d r=>by obtain⟨v,rfl,c⟩:=cC r;cases c with| @tup p e _ a b=>exact⟨p,e,rfl,.inr a.sq,by rw[b.length];exact Hh w d (.int _)⟩
theorem Rt(w:W (.int ds.length) S):cX X (.builtin "len") [.lst ds] S W:=cg gW λ O H f d r=>by obtain⟨v,rfl,c⟩:=cC r;cases c with| @lst p e _ a b=>exact⟨p,e,rfl,.inl a.sq,by rw[b.length];exact Hh w d (.int _)⟩
theorem Uy(c:S[k]? =some ds)(w:W (.int ds.length) S):cX X (.builtin "len") [.loc k] S W:=cg gW λ O H h a r=>by obtain⟨v,rfl,f⟩:=cC r;cases f with| @loc p _ b=>obtain⟨g,d,e⟩:=a.obj k p ds b c;exact⟨p,g,rfl,.inl (SqL.of d),by rw[e.length];exact Hh w a (.int _)⟩
theorem UV(w:W (.tup ds) S):cX X (.type "tuple") [.lst ds] S W:=cg lC λ O H g e r=>by obtain⟨v,rfl,d⟩:=cC r;cases d with| @lst p f _ a c=>exact⟨p,f,rfl,.inl ⟨a.sq,λ l b=>jA w e b c⟩⟩
theorem TJ(c:S[k]? =some ds)(w:W (.tup ds) S):cX X (.type "tuple") [.loc k] S W:=cg lC λ O H i a r=>by obtain⟨v,rfl,g⟩:=cC r;cases g with| @loc p _ b=>obtain⟨h,e,f⟩:=a.obj k p ds b c;exact⟨p,h,rfl,.inl ⟨SqL.of e,λ l d=>jA w a d f⟩⟩
theorem SX(w:W (.lst ds) S):cX X (.type "list") [.tup ds] S W:=cg mG λ O H g e r=>by obtain⟨v,rfl,d⟩:=cC r;cases d with| @tup p f _ a c=>exact⟨p,f,rfl,.inr a.sq,λ l b=>fU w e b c⟩
theorem UT(w:W (.lst ds) S):cX X (.type "list") [.lst ds] S W:=cg mG λ O H g e r=>by obtain⟨v,rfl,d⟩:=cC r;cases d with| @lst p f _ a c=>exact⟨p,f,rfl,.inl a.sq,λ l b=>fU w e b c⟩
abbrev Ct:=List D->Store->WD->Prop
def spC(K:PySem.W.Frag)(n:Nat)(F:Ct):Sp:=λ c H Q _=>∃O a S W,a.length=n/\Reps K O H c a/\StOk K O H S/\F a S W/\∀v b,QG K O H W v b->Q v b
structure Callee(P:Program)(w:World)(K:PySem.W.Frag)(mg:Str->Option Value)(base:Heap)(x:Str)(k n:Nat)(F:Ct):Prop where
 ex:∃f fd ps,FnOk P w K mg base CX0 k f fd ps (spC K n F)/\mg x=some (.ref f)/\PySem.W.keepIn K (.ref f)=true/\Binds K fd ps []
theorem Qk{n:Nat}{F:Ct}(C:Callee X.prog X.w X.K X.mg X.base x k n F)(D:Room k X.A)(h:EvA X Γ S (e::es) λ ds S1=>ds.length=n/\F ds S1 W)(y:Gl X x:=by rfl)(c:(x==("__debug__":Str))=false:=by decide)
 (u:starEach (e::es) X.env=(false,eval e X.env)::starEach es X.env:=by rfl)(d:(backTo pos (starEach es X.env)).any (·.1)=false:=by rfl):Ev X Γ S (.Call (.Name x p) (e::es) [] pos) W:=by intro a s J H O I b G;obtain⟨f,M,N,r,B,z,t⟩:=C.ex;refine wpAny_Call_Name_kw (Ej I y B ?_ c);refine PySem.W.callWith_K (h₀:=X.base) I.ok.mod.kin z (thn (h pos a s J H O I b G) λ Q P g=>?_) u d;obtain⟨R,L,m,E,o,ds,S1,⟨A,w⟩,l,i,j⟩:=g;refine⟨m.kIn,?_⟩;refine Uq r D t .nil Vg m E ?_;rw[List.append_nil];exact⟨o,ds,S1,W,A,j,i,w,λ v K q=>q.pre l⟩
structure Fin where
 nx:Gam->%[|4]
 rt:WD
 bk:Gam->%[|4]:=λ _ _=>False
 ct:Gam->%[|4]:=λ _ _=>False
def QN(K:PySem.W.Frag)(O:Own)(H:Hp)(W:Gam->%[|4]):St->Hp->Prop:=λ d b=>∃c a e,W a e/\Step O c H b/\StOk K c b e/\EnvOk K c b d a
def ends(K:PySem.W.Frag)(O:Own)(H:Hp)(W:Fin):Ends:={nx:=QN K O H W.nx,rt:=QG K O H W.rt,bk:=QN K O H W.bk,ct:=QN K O H W.ct}
def Rn(X:Cx)(Γ:Gam)(S:Store)(st:Stmt)(W:Fin):Prop:=
 ∀ (a:Pins)(s:Shared)(b:St)(H:Hp)(O:Own),Inv X a b H s->EnvOk X.K O H b Γ->StOk X.K O H S->
   wpAny %[|6] X.A (exec st X.env) (SP X a (ends X.K O H W)) X.xe s
def Rns(X:Cx)(Γ:Gam)(S:Store)(sts:List Stmt)(W:Fin):Prop:=
 ∀ (a:Pins)(s:Shared)(b:St)(H:Hp)(O:Own),Inv X a b H s->EnvOk X.K O H b Γ->StOk X.K O H S->
   wpAny %[|6] X.A (execs sts X.env) (SP X a (ends X.K O H W)) X.xe s
theorem QN.pre{O1:Own}{H1:Hp}(st:Step O O1 H H1){W:Gam->%[|4]}{v:St}{a:Hp}(q:QN K O1 H1 W v a):QN K O H W v a:=by obtain⟨b,d,c,w,f,e,r⟩:=q;exact⟨b,d,c,w,st.trans f,e,r⟩
theorem G9{pins:Pins}{O1:Own}{H1:Hp}{W:Fin}(st:Step O O1 H H1){f:Flow}{s':Shared}(q:SP X pins (ends X.K O1 H1 W) f s'):SP X pins (ends X.K O H W) f s':=by
 cases f with
 | next=>obtain⟨b,a,I,q⟩:=q;exact⟨b,a,I,QN.pre st q⟩
 | brk=>obtain⟨b,a,I,q⟩:=q;exact⟨b,a,I,QN.pre st q⟩
 | cont=>obtain⟨b,a,I,q⟩:=q;exact⟨b,a,I,QN.pre st q⟩
 | ret u=>obtain⟨v,b,a,I,r,q⟩:=q;exact⟨v,b,a,I,r,QG.pre st q⟩
variable {W : Fin} {st : Stmt} {sts : List Stmt}
theorem R5(w:W.nx Γ S):Rns X Γ S [] W:=λ b s d H O I a c=>wpAny_execs_nil ⟨d,H,I,O,Γ,S,w,Step.refl O H,c,a⟩
theorem Qx(h:Rn X Γ S st {W with nx:=λ Γ1 S1=>Rns X Γ1 S1 sts W}):Rns X Γ S (st::sts) W:=by
 intro a s n H O I c l;refine wpAny_execs_cons (thn (h a s n H O I c l) λ f m q=>?_)
 cases f with
 | next=>obtain⟨g,i,j,k,Γ1,S1,w,e,d,b⟩:=q;exact thn (w a m g i k j b d) λ _ _ q=>G9 e q
 | ret v=>exact q
 | brk=>exact q
 | cont=>exact q
theorem VR(h:Ev X Γ S e W.rt):Rn X Γ S (.Return (some e) pos) W:=by intro a s c H O I b d;exact wpAny_Return_some (thn (h a s c H O I b d) λ v f ⟨x,H1,I1,r1,q1⟩=>⟨x,c,H1,I1,r1,q1⟩)
theorem Wy{c:Expr}{xs ys:List Stmt}(h:Ts X Γ S c λ k S1=>(k=true->Rns X Γ S1 xs W)/\(k=false->Rns X Γ S1 ys W)):Rn X Γ S (.If c xs ys pos) W:=by
 intro a s i H O I e o;refine wpAny_If (thn (h a s i H O I e o) λ d n g=>?_);obtain⟨j,l,m,S1,w,b,f⟩:=g
 cases d with
 | true=>exact thn (w.1 rfl a n i j m l (e.mono b) f) λ _ _ q=>G9 b q
 | false=>exact thn (w.2 rfl a n i j m l (e.mono b) f) λ _ _ q=>G9 b q
theorem N8(i:Nat){x:Str}{a:Pos}(h:Ev X Γ S e λ d S1=>W.nx (Γ.set i (some d)) S1)(p:X.N.Nodup)(hi:X.N[i]? =some x:=by rfl)(t:Loc X.env.scope x:=by first | exact Or.inl rfl | exact Or.inr rfl)
 (r:swapsWith e (some (.Name x a)) pos.line X.env=pure false:=by rfl)(q:X.fn x=true∨X.env.scope.names.lookup x=some .local:=by first | exact .inl rfl | exact .inr rfl):Rn X Γ S (.Assign [.Name x a] e pos) W:=by intro c s A H O I b u;refine wpAny_Assign_Name (thn (h c s A H O I b u) λ v B j=>?_) r;obtain⟨y,l,m,z,o,d,S1,w,g,k,f⟩:=j;exact pY m p hi t z (λ C n=>⟨_,l,n,o,_,S1,w,g,k,(b.mono g).set f i⟩) q
theorem Ti(h:Ev X Γ S e λ d S1=>W.nx Γ S1)(n:swapsWith e none pos.line X.env=pure false:=by rfl):Rn X Γ S (.Expr e pos) W:=by intro b s j H O I a o;exact wpAny_Expr_any (thn (h b s j H O I a o) λ v q f=>by obtain⟨x,k,l,p,m,d,S1,w,c,g,i⟩:=f;exact⟨j,k,l,m,Γ,S1,w,c,g,a.mono c⟩) I.quiet n
def tE(K:PySem.W.Frag)(Γ:Gam)(S:Store)(W:WD):TE:=λ b H Q=>∃O,EnvOk K O H b Γ/\StOk K O H S/\∀v a,QG K O H W v a->Q v a
theorem Tj{pins:Pins}{σ:St}{Q a:VK}{u:Value}{s':Shared}(q:EP X pins σ Q u s')(k:∀v H',Q v H'->a v H'):EP X pins σ a u s':=by obtain⟨v,H',I,r,q⟩:=q;exact⟨v,H',I,r,k v H' q⟩
theorem Ev.pe{W:WD}(h:Ev X Γ S e W):PE X e (tE X.K Γ S W):=λ a s b H Q I ⟨O,env,st,k⟩=>thn (h a s b H O I env st) λ _ _ q=>Tj q k
def tEA(K:PySem.W.Frag)(Γ:Gam)(S:Store)(W:List D->%[|4]):TA:=λ b H Q=>∃O,EnvOk K O H b Γ/\StOk K O H S/\∀v a,QA K O H W v a->Q v a
theorem EvA.pa{W:List D->%[|4]}(h:EvA X Γ S es W):PA X es (tEA X.K Γ S W):=λ b a s c H Q I ⟨O,env,st,k⟩=>thn (h b a s c H O I env st) λ _ _ ⟨v,H',I',r,q⟩=>⟨v,H',I',r,k v H' q⟩
theorem P0{o i:Expr}{a:Pos}(h:Ev X Γ S e λ d S1=>Ev X Γ S1 o λ x S2=>Ev X Γ S2 i λ y S3=>∃k n ds j,x=.loc k/\y=.int n/\S3[k]? =some ds/\ixN ds.length n=some j/\W.nx Γ (S3.set k (ds.set j d)))
 (ha:∀v,assign (.Subscript o i a) X.env v=(do
  let ov ←holding [v] (eval o X.env)
  let iv ←holding [v,ov] (eval i X.env)
  standAt a
  holding [v,ov,iv] (setItem ov iv v)
  release [v,ov,iv] []):=by intro _;rfl)(hs:swapsWithSole [.Subscript o i a] e pos.line X.env=pure false:=by rfl)(hw:swappedStores [.Subscript o i a] e X.env=pure none:=by rfl)
 (h1:(assignEach [.Subscript o i a] X.env).map (·.2)=[assign (.Subscript o i a) X.env]:=by rfl):Rn X Γ S (.Assign [.Subscript o i a] e pos) W:=by intro c s B H O I f ok;refine wpAny_Assign_stores (thn (h c s B H O I f ok) λ u s1 b=>?_) hs hw;obtain⟨v,K,M,r1,R,d,S1,w1,g,D,t⟩:=b;rw[h1];show wpAny _ _ (assign (.Subscript o i a) X.env u) _ _ _;rw[ha];refine ZA (ZQ (thn (w1 c s1 B K R M (f.mono g) D) λ ov s2 b=>?_));obtain⟨x,L,N,r2,T,dx,S2,w2,l,E,z⟩:=b;refine ZA (ZQ (thn (w2 c s2 B L T N ((f.mono g).mono l) E) λ iv s3 b=>?_));obtain⟨y,F,P,r3,U,dy,S3,⟨k,n,ds,j,Y,Z,hk,hj,w⟩,m,r,A⟩:=b;subst Y;subst Z;have rx:=z.mono m;cases rx with| @loc p _ C=>cases A;obtain⟨G,hx,q⟩:=r.obj k p ds C hk;have rd:=(t.mono l).mono m;refine ZA (wpAny_standAt (ZA (ZQ (thn (set_list c s3 B F _ _ v ov iv u (λ J=>J=upd F p (.lst (G.set j v))) P r2 r3 r1 ⟨p,G,n,j,rfl,rfl,hx,by rw[q.length];exact hj,rfl⟩) λ _ s4 b=>?_))));obtain⟨H4,Q,V⟩:=b;subst V;refine wpAny_release ⟨B,_,Q,U,Γ,_,w,((g.trans l).trans m).trans (Step.put (bU C) _),r.put C (q.set rd j),(((f.mono g).mono l).mono m).mono (Step.put (bU C) _)⟩
def BdW(X:Cx)(tg:Expr)(d:D)(Γ:Gam)(S:Store)(W:Gam->%[|4]):Prop:=
 ∀ (a:Pins)(s:Shared)(e:St)(H:Hp)(O:Own)(v:V)(u:Value),Inv X a e H s->EnvOk X.K O H e Γ->StOk X.K O H S->Rep X.K O H v d->RelV v u->
   wpAny %[|6] X.A (assign tg X.env u) (λ _ f=>∃b c,Inv X a b c f/\QN X.K O H W b c) X.xe s
def zU(X:Cx)(ts:List Expr)(ds:List D)(Γ:Gam)(S:Store)(W:Gam->%[|4]):Prop:=
 ∀ (a:Pins)(s:Shared)(f:St)(H:Hp)(O:Own)(e:List V)(d:List Value),Inv X a f H s->EnvOk X.K O H f Γ->StOk X.K O H S->Reps X.K O H e ds->Vals e d->
   wpAny %[|6] X.A (assignInOrder ((assignEach ts X.env).map (·.2)) d) (λ _ g=>∃b c,Inv X a b c g/\QN X.K O H W b c) X.xe s
theorem OD(i:Nat){x:Str}{d:D}{W:Gam->%[|4]}(w:W (Γ.set i (some d)) S)(e:X.N.Nodup)(hi:X.N[i]? =some x:=by rfl)(g:Loc X.env.scope x:=by first | exact Or.inl rfl | exact Or.inr rfl)
 (f:X.fn x=true∨X.env.scope.names.lookup x=some .local:=by first | exact .inl rfl | exact .inr rfl):BdW X (.Name x pos) d Γ S W:=λ b s l H O v u I a j r h=>
 wpAny_assign_Name (pY I e hi g h (λ k c=>⟨_,H,c,O,_,S,w,Step.refl O H,j,a.set r i⟩) f)
theorem PX{W:Gam->%[|4]}(w:W Γ S):zU X [] [] Γ S W:=λ b s e H O g f I a d r c=>by cases r;cases c;exact assignInOrder_nil ⟨e,H,I,O,Γ,S,w,Step.refl O H,d,a⟩
theorem KH{t:Expr}{f:List Expr}{W:Gam->%[|4]}(h:BdW X t d Γ S λ Γ1 S1=>zU X f ds Γ1 S1 W)
 (x:(assignEach (t::f) X.env).map (·.2)=assign t X.env::(assignEach f X.env).map (·.2):=by rfl):zU X (t::f) (d::ds) Γ S W:=λ a s B H O E D I g A r k=>by cases r with| cons r y=>cases k with| cons k j=>rw[x];refine assignInOrder_cons (thn (h a s B H O _ _ I g A r k) λ _ z b=>?_);obtain⟨l,n,p,v,Γ1,S1,w,e,i,c⟩:=b;refine thn (w a z l n v _ _ p c i (y.mono e) j) λ _ C b=>by obtain⟨m,o,u,q⟩:=b;exact⟨m,o,u,QN.pre e q⟩
theorem RM{c:List Expr}{W:Gam->%[|4]}(h:zU X c ds Γ S W)(q:X.calm=true:=by rfl)(t:(assignEach c X.env).length=ds.length:=by rfl)(f:(assignEach c X.env).findIdx? (·.1)=none:=by rfl):BdW X (.Tuple c k pos) (.tup ds) Γ S W:=λ a s j H O v u I d A r z=>by cases r with| @tup p B _ n g=>cases z;obtain⟨y,i,w,C⟩:=I.tuple n.sq;refine assign_Tuple_tuple (I.ok.hd q) w (by simp[t,←g.length,i.length]) f λ m x=>?_;have l:Inv X a j H {s with heap:=m}:=I.kept (t':=s.toks) λ b o e=>x b o (ZN (ZE e)) e;exact h a _ j H O B _ l d A g (by simpa using i)
def iI(K:PySem.W.Frag)(J:It)(O:Own)(H:Hp)(ds:List D):Prop:=
 ∀(e:Own)(c:Hp),Conv O e H c->(∀a,e.has a->c a≠none)->∀i:Nat,(∀d,ds[i]? =some d->J.go i c/\∀x b,J.yld i c x b->cW c b/\Rep K e b x d)/\(i=ds.length->J.stop i c)
def QI(K:PySem.W.Frag)(O:Own)(H:Hp)(W:List D->%[|4]):It->Hp->Prop:=λ J a=>∃b d c,W d c/\Step O b H a/\StOk K b a c/\iI K J b a d
def ItW(X:Cx)(Γ:Gam)(S:Store)(tg iter:Expr)(W:List D->%[|4]):Prop:=
 ∀ (a:Pins)(s:Shared)(b:St)(H:Hp)(O:Own),Inv X a b H s->EnvOk X.K O H b Γ->StOk X.K O H S->
   wpAny %[|6] X.A (eval iter X.env) (λ v c=>wpAny %[|6] X.A (pyIter v) (PIE X a b tg (QI X.K O H W)) X.xe c) X.xe s
theorem pF{a:Addr}(h:Ls K O H a xs)(r:Reps K O H xs ds):iI K (Itl K a) O H ds:=by intro n m f _ i;have b:=(h.conv f).sq;refine⟨λ d j=>?_,λ k=>⟨xs,b,by rw[r.length];exact Nat.le_of_eq k.symm⟩⟩;obtain⟨v,c,l⟩:=r.get j;refine⟨⟨xs,v,b,c⟩,λ x g y=>?_⟩;obtain⟨e,y⟩:=y;subst e;have e:=y xs b;rw[c]at e;cases e;exact⟨cW.refl _,l.conv f⟩
theorem su{a:Addr}(h:Tp K O H a xs)(r:Reps K O H xs ds):iI K (Itt K a) O H ds:=by intro n m f _ i;have b:=(h.conv f).sq;refine⟨λ d j=>?_,λ k=>⟨xs,b,by rw[r.length];exact Nat.le_of_eq k.symm⟩⟩;obtain⟨v,c,l⟩:=r.get j;refine⟨⟨xs,v,b,c⟩,λ x g y=>?_⟩;obtain⟨e,y⟩:=y;subst e;have e:=y xs b;rw[c]at e;cases e;exact⟨cW.refl _,l.conv f⟩
def upTo(lo:Int)(n:Nat):List D:=(List.range n).map λ(k:Nat)=>D.int (lo+(k:Int))
theorem aq(lo:Int)(n:Nat):(upTo lo n).length=n:=by simp[upTo]
theorem bN{lo:Int}{n i:Nat}(h:(upTo lo n)[i]? =some d):i<n/\d=.int (lo+i):=by
 unfold upTo at h;rw[x5]at h
 cases e:(List.range n)[i]? with
 | none=>rw[e]at h;cases h
 | some k=>rw[e]at h;obtain⟨b,a⟩:=z0.mp e;simp at b a;subst a;cases h;exact⟨b,rfl⟩
theorem lZ(lo:Int)(n:Nat):iI K (Itr lo n) O H (upTo lo n):=by intro j h k _ i;refine⟨λ d g=>?_,λ a=>by rw[aq]at a;exact Nat.le_of_eq a.symm⟩;obtain⟨a,c⟩:=bN g;subst c;refine⟨a,λ x b y=>?_⟩;obtain⟨e,f⟩:=y;subst e;subst f;exact⟨cW.refl _,.int _⟩
theorem Jc{x a:Expr}{W:List D->%[|4]}(h:Ev X Γ S a λ d S1=>∃j:Int,d=.int j/\ -(2 ^ 62)≤j/\j<2 ^ 62/\W (upTo 0 j.toNat) S1)(t:X.mg "range"=none)(r:Gl X "range":=by rfl)(i:starEach [a] X.env=[(false,eval a X.env)]:=by rfl):
 ItW X Γ S x (.Call (.Name "range" p) [a] [] pos) W:=by intro b s y H O I c u;refine HY r t (gH h.pe rY i) i b s y H _ I ⟨O,c,u,λ v z q=>?_⟩;obtain⟨k,d,l,⟨j,m,n,o,w⟩,g,e,f⟩:=q;subst m;cases f;exact⟨j,rfl,n,o,k,_,l,w,g,e,lZ 0 _⟩
theorem JM{G a b:Expr}{W:List D->%[|4]}(h:Ev X Γ S a λ d S1=>Ev X Γ S1 b λ d' S2=>∃i j:Int,d=.int i/\d'=.int j/\(-(2 ^ 62)≤i/\i<2 ^ 62/\ -(2 ^ 62)≤j/\j<2 ^ 62)/\W (upTo i (j-i).toNat) S2)(B:X.mg "range"=none)(A:Gl X "range":=by rfl)
 (r:starEach [a,b] X.env=[(false,eval a X.env),(false,eval b X.env)]:=by rfl)(c:starEach [b] X.env=[(false,eval b X.env)]:=by rfl):
 ItW X Γ S G (.Call (.Name "range" p) [a,b] [] pos) W:=by
 intro e s J H O I f F;have z:EvA X Γ S [a,b] λ o S2=>∃i j:Int,o=[.int i,.int j]/\(-(2 ^ 62)≤i/\i<2 ^ 62/\ -(2 ^ 62)≤j/\j<2 ^ 62)/\W (upTo i (j-i).toNat) S2:=
  cB (h.mono λ d S1 y=>cB (y.mono λ d' S2 ⟨i,j,e1,e2,g,w⟩=>gM ⟨i,j,by rw[e1,e2],g,w⟩) c) (by rw[r,c]);refine JD A B z.pa r c e s J H _ I ⟨O,f,F,λ v K q=>?_⟩;obtain⟨t,o,u,⟨i,j,x,g,w⟩,n,k,m⟩:=q;subst x;cases m with| cons C l=>cases l with| cons l E=>cases E;cases C;cases l;exact⟨i,j,rfl,g,t,_,u,w,n,k,lZ i _⟩
theorem VP{M iter:Expr}{l:List Stmt}(h:ItW X Γ S M iter λ ds S1=>∃Pv:Nat->Gam->%[|4],Pv 0 Γ S1/\
 (∀i d Γ' S',ds[i]? =some d->Pv i Γ' S'->BdW X M d Γ' S' λ Γ2 S2=>Rns X Γ2 S2 l {W with nx:=Pv (i+1),ct:=Pv (i+1),bk:=W.nx})/\(∀Γ' S',Pv ds.length Γ' S'->W.nx Γ' S'))
 (hp:PassesOwn %[|6] X.A X.env X.xe:=by exact PassesOwn.never)(hc:X.calm=true:=by rfl)(hs:∀x,foldedSetIterable iter X.env x=pure x:=by intro _;rfl):Rn X Γ S (.For M iter l [] pos) W:=by
 intro j s o H O I n ok;let WI:List D->%[|4]:=λ ds S1=>∃Pv:Nat->Gam->%[|4],Pv 0 Γ S1/\
     (∀i d Γ' S',ds[i]? =some d->Pv i Γ' S'->BdW X M d Γ' S' λ Γ2 S2=>Rns X Γ2 S2 l {W with nx:=Pv (i+1),ct:=Pv (i+1),bk:=W.nx})/\(∀Γ' S',Pv ds.length Γ' S'->W.nx Γ' S');have hI:PI X M iter (λ o H R=>∃O,EnvOk X.K O H o Γ/\StOk X.K O H S/\∀J g,QI X.K O H WI J g->R J g):=λ j s o H R I T=>by obtain⟨O,n,U,k⟩:=T;refine thn (h j s o H O I n U) λ _ _ q=>thn q λ _ _ q2=>?_;obtain⟨it,fp,tn,J,g,e1,e2,e3,e4,e5,e6⟩:=q2;exact⟨it,fp,tn,J,g,e1,e2,e3,e4,e5,k J g e6⟩
 have hG:PG X M (λ v o H Q=>∃O d Γ S t,EnvOk X.K O H o Γ/\StOk X.K O H S/\Rep X.K O H v d/\BdW X M d Γ S t/\∀c g,QN X.K O H t c g->Q c g):=λ j s o H v u Q I ru T=>by obtain⟨O,d,Γ,S,t,n,U,r,b,k⟩:=T;refine thn (b j s o H O v u I n U r ru) λ _ _ q2=>?_;obtain⟨c,g,w,q⟩:=q2;exact⟨c,g,w,k c g q⟩
 have hB:PSs X l (λ D o H=>∃O Γ S t,EnvOk X.K O H o Γ/\StOk X.K O H S/\Rns X Γ S l t/\(∀c g,QN X.K O H t.nx c g->D.nx c g)/\(∀v g,QG X.K O H t.rt v g->D.rt v g)/\(∀c g,QN X.K O H t.bk c g->D.bk c g)/\∀c g,QN X.K O H t.ct c g->D.ct c g):=
  λ j s o H D I T=>by
   obtain⟨O,Γ,S,t,n,U,b,k1,k2,k3,k4⟩:=T;refine thn (b j s o H O I n U) λ f s' q=>?_
   cases f with
   | next=>obtain⟨c,g,w,q⟩:=q;exact⟨c,g,w,k1 c g q⟩
   | brk=>obtain⟨c,g,w,q⟩:=q;exact⟨c,g,w,k3 c g q⟩
   | cont=>obtain⟨c,g,w,q⟩:=q;exact⟨c,g,w,k4 c g q⟩
   | ret u=>obtain⟨v,c,g,w,r,q⟩:=q;exact⟨v,c,g,w,r,k2 v g q⟩
 refine Ka hp hc hI hG hB hs j s o H _ I ⟨O,n,ok,λ J H1 q=>?_⟩;obtain⟨Y,ds,S1,⟨Pv,p0,pt,pe⟩,A,aa,yl⟩:=q;refine⟨λ i m c g=>m=ds.length-i/\i≤ds.length/\∃E Γ' S',Pv i Γ' S'/\Step Y E H1 g/\StOk X.K E g S'/\EnvOk X.K E g c Γ',⟨ds.length,by simp,Nat.zero_le _,Y,Γ,S1,p0,Step.refl _ _,aa,n.mono A⟩,?_⟩;rintro i m af H2 ⟨rfl,hi,O2,Γ2,S2,p2,K,F,C⟩;obtain⟨y1,y2⟩:=yl O2 H2 K.conv (λ a ha=>F.tracked ha) i;by_cases z:i<ds.length;{obtain⟨go,yy⟩:=y1 ds[i] (y4 z);refine .inr ⟨go,λ c g=>i+1≤ds.length/\∃E Γ' S',Pv (i+1) Γ' S'/\Step Y E H1 g/\StOk X.K E g S'/\EnvOk X.K E g c Γ',λ c g q=>⟨ds.length-(i+1),%[|0],rfl,q.1,q.2⟩,λ x H3 y=>?_⟩;obtain⟨sm,rx⟩:=yy x H3 y;have V:=Step.same (O:=O2) sm;refine⟨O2,ds[i],Γ2,S2,_,C.mono V,F.same sm,rx,pt i ds[i] Γ2 S2 (y4 z) p2,λ ag H4 q4=>?_⟩;obtain⟨O4,ad,S4,w4,ac,ab,P⟩:=q4;have B:=(K.trans V).trans ac;refine⟨O4,ad,S4,_,P,ab,w4,?_,?_,?_,?_⟩;{rintro ae H5 ⟨Z,N,S5,w5,L,G,p⟩;exact⟨z,Z,N,S5,w5,B.trans L,G,p⟩};{exact λ v g q=>QG.pre (A.trans B) q};{exact λ c g q=>QN.pre (A.trans B) q};{rintro ae H5 ⟨Z,N,S5,w5,L,G,p⟩;exact⟨z,Z,N,S5,w5,B.trans L,G,p⟩}}
 . have e:i=ds.length:=%[|0]
   subst e;exact .inl ⟨y2 rfl,O2,Γ2,S2,pe Γ2 S2 p2,A.trans K,F,C⟩
theorem Vl {P:Program}{w:World}{mg:Str->Option Value}{base:Heap}{g:Str}{m:Stmt}{f:Addr}{G:FuncData}{N B:%[|2]}{F:Ct}(FF:Fun K x g m f G)(SC:FnScope N B (aN m))
 (p:∀(l:Value)(A:Around)(outer:List Env)(s:Shared)(H:Hp)(E:XK)(ds:List D)(S:Store)(W:WD),G.code=l->Room k (A.deeper (envOfC g (aN m) s.heap.objs.size f l))->ds.length=B.length->F ds S W->
  Rns (nq CX0 P w K mg base N g (aN m) f l A outer s H E).nox (ds.map some++List.replicate (N.length-ds.length) none) S (cJ m) {nx:=λ _ S1=>W .non S1,rt:=W}):FnOk P w K mg base CX0 (k+1) f G B (spC K B.length F):=by
 obtain⟨oc,od,kV,aa,pm,an,l,ct,ab,rfl,lk,J⟩:=FF.ex;refine V1 lk J SC (λ X H Q E h=>?_) λ A outer s H X Q E hr h=>?_;{obtain⟨O,ds,S,W,M,r,_⟩:=h;rw[r.length,M]}
 . obtain ⟨O,ds,S,W,M,r,U,hF,q⟩:=h;have hB:=p l A outer s H E ds S W rfl hr M hF;suffices key:∃t,PSs (nq CX0 P w K mg base N g (aN m) f l A outer s H E).nox (cJ m) t/\t {nx:=λ _ c=>Q .non c,rt:=Q} (L2.start N X) H from key.elim λ t h=>⟨t,h.1.nox,h.2⟩;refine⟨λ D Z c=>∃O Y S o,EnvOk K O c Z Y/\StOk K O c S/\Rns (nq CX0 P w K mg base N g (aN m) f l A outer s H E).nox Y S (cJ m) o/\(∀a j,QN K O c o.nx a j->D.nx a j)/\(∀v j,QG K O c o.rt v j->D.rt v j)/\(∀a j,QN K O c o.bk a j->D.bk a j)/\∀a j,QN K O c o.ct a j->D.ct a j,?_,?_⟩
   . rintro y s Z c D I ⟨O,Y,S,o,C,U,b,k1,k2,k3,k4⟩;refine thn (b y s Z c O I C U) λ f s' q=>?_
     cases f with
     | next=>obtain⟨a,c,n,q⟩:=q;exact⟨a,c,n,k1 a c q⟩
     | brk=>obtain⟨a,c,n,q⟩:=q;exact⟨a,c,n,k3 a c q⟩
     | cont=>obtain⟨a,c,n,q⟩:=q;exact⟨a,c,n,k4 a c q⟩
     | ret u=>obtain⟨v,a,c,n,r,q⟩:=q;exact⟨v,a,c,n,r,k2 v c q⟩
   . refine⟨O,_,S,_,?_,U,hB,?_,?_,?_,?_⟩
     . have hv:X.length=ds.length:=r.length;refine⟨by simp[L2.start,hv],λ i d h=>?_⟩;by_cases L:i<ds.length
       . rw[List.getElem?_append_left (by simpa using L),x5]at h
         cases e:ds[i]? with
         | none=>rw[e]at h;cases h
         | some d'=>rw[e]at h;cases h;obtain⟨v,R,rv⟩:=r.get e;refine⟨v,?_,rv⟩;unfold L2.start;rw[List.getElem?_append_left (by rw[x4,hv];exact L),x5,R];rfl
       {rw[List.getElem?_append_right (by simpa using L),List.getElem?_replicate]at h;split at h<;>cases h}
     {rintro a j ⟨O',ac,S',w,V,T,_⟩;exact q _ _ ⟨O',.non,S',w,V,T,.non⟩};{exact λ v j z=>q v j z};{rintro a j ⟨_,_,_,w,_⟩;exact w.elim};{rintro a j ⟨_,_,_,w,_⟩;exact w.elim}
end
end DL
namespace DL
open PySem PySem.Spec L2
open PyProof.Rows
variable {x : Str} {K : PySem.W.Frag} {O : Own} {H : Hp} {s : Shared}
def rk(env:Env)(n:Str)(k:NameKind):NameKind:=if(k==NameKind.free&&env.scope.kind==.function&&env.kindOf n==some .cell)=true then .cell else k
theorem j7(a:Scope)(env:Env):(relabel a env).names=a.names.map λ p=>(p.1,rk env p.1 p.2):=by show a.names.map _=_;congr 1;funext p;obtain⟨n,k⟩:=p;unfold rk;by_cases h:(k==NameKind.free&&env.scope.kind==.function&&env.kindOf n==some .cell)=true;{simp only[h,if_true]};{simp only[h,if_false,Bool.false_eq_true]}
theorem d8(g:Str->NameKind->NameKind)(x:Str):∀names:List (Str×NameKind),(names.map λ p=>(p.1,g p.1 p.2)).lookup x=(names.lookup x).map (g x)
 | []=>rfl
 | (n,k)::r=>by
   have b:=d8 g x r;rw[List.map_cons,List.lookup_cons,List.lookup_cons]
   cases a:x==n with
   | true=>rw[ZI a];rfl
   | false=>exact b
theorem qx(env:Env)(n:Str)(k:NameKind):rk env n k=k∨(k=.free/\rk env n k=.cell):=by unfold rk;by_cases h:(k==NameKind.free&&env.scope.kind==.function&&env.kindOf n==some .cell)=true;{rw[if_pos h];rw[Bool.and_eq_true,Bool.and_eq_true]at h;exact .inr ⟨ZI h.1.1,rfl⟩};{rw[if_neg h];exact .inl rfl}
theorem jz{env:Env}{a:Scope}{k:NameKind}(h:(relabel a env).names.lookup x=some k):∃k0,a.names.lookup x=some k0/\(k=k0∨(k0=.free/\k=.cell)):=by
 rw[j7,d8]at h
 cases e:a.names.lookup x with
 | none=>rw[e]at h;cases h
 | some k0=>rw[e]at h;have b:rk env x k0=k:=Option.some.inj h;refine⟨k0,rfl,?_⟩;rcases qx env x k0 with q | ⟨c,d⟩;{exact .inl (b.symm.trans q)};{exact .inr ⟨c,b.symm.trans d⟩}
theorem yV{env:Env}{a:Scope}(h:a.names.lookup x=some .free):(relabel a env).names.lookup x=some .cell∨(relabel a env).names.lookup x=some .free:=by rw[j7,d8,h];rcases qx env x .free with q | ⟨_,q⟩;{exact .inr (congrArg some q)};{exact .inl (congrArg some q)}
def closes(env:Env):List (Str×NameKind)->List (Str×Addr)->List (Str×Addr)
 | [],cs=>cs
 | (n,k)::r,cs=>closes env r (if k==.free then(n,(env.cells.lookup n).getD 0)::cs else cs)
theorem CG{env:Env}:∀(names:List (Str×NameKind))(cs:List (Str×Addr)),(∀y∈names,y.2=.free->∃c,env.cells.lookup y.1=some c)->
 (forIn (m:=Sem) names cs λ x r=>if(x.2==.free)=true then do let a ←cellOf env x.1;pure (ForInStep.yield ((x.1,a)::r))else pure (ForInStep.yield r))=pure (closes env names cs):=by
 intro names
 induction names with
 | nil=>intro cs _;rw[List.forIn_nil];rfl
 | cons l r g=>
   obtain⟨n,k⟩:=l;intro cs h;rw[List.forIn_cons];have f:=λ cs=>g cs λ y j=>h y (x8 _ j);by_cases d:(k==NameKind.free)=true
   . obtain⟨c,i⟩:=h (n,k) w9 (ZI d);have b:env.cells.lookup n=some c:=i;have e:cellOf env n=pure c:=by unfold cellOf;rw[b]
     have q:=f ((n,c)::cs);simp only[d,if_true,e,pure_bind];rw[q];simp[closes,d,b]
   {have q:=f cs;simp only[d,if_false,pure_bind,Bool.false_eq_true];rw[q];simp[closes,d]}
theorem lB{env:Env}{a:Scope}(h:∀y∈a.names,y.2=.free->∃c,env.cells.lookup y.1=some c):closureFor a env=pure (closes env a.names []):=by
 have q:=CG (env:=env) a.names [] h;unfold closureFor;first
  | (simp only[bind_pure];exact q)
  | (rw[show(forIn a.names ([]:List (Str×Addr)) _:Sem _)=_ from q];rfl)
  | (refine Eq.trans (congrArg (λ t=>t>>=pure) q) ?_;simp)
theorem Dh{env:Env}{c:Addr}:∀(names:List (Str×NameKind))(cs:List (Str×Addr)),(∀y∈names,y.2=.free->∃c,env.cells.lookup y.1=some c)->(∀c,cs.lookup x=some c->env.cells.lookup x=some c)->(closes env names cs).lookup x=some c->env.cells.lookup x=some c:=by
 intro names
 induction names with
 | nil=>intro cs _ d h;exact d c h
 | cons p r l=>
   obtain⟨n,k⟩:=p;intro cs j d h;refine l _ (λ y o=>j y (x8 _ o)) ?_ h;intro i a;by_cases f:(k==NameKind.free)=true
   . rw[if_pos f]at a;obtain⟨m,b⟩:=j (n,k) w9 (ZI f);have b:env.cells.lookup n=some m:=b;rw[List.lookup_cons]at a
     cases g:x==n with
     | true=>rw[g,b]at a;have e:x=n:=ZI g;subst e;simp only[Option.getD_some]at a;cases a;exact b
     | false=>rw[g]at a;exact d i a
   {rw[if_neg f]at a;exact d i a}
theorem jU{env:Env}:∀(names:List (Str×NameKind))(cs:List (Str×Addr)),((∃c,cs.lookup x=some c)∨names.lookup x=some .free)->∃c,(closes env names cs).lookup x=some c:=by
 intro names
 induction names with
 | nil=>intro cs h;rcases h with h | h;{exact h};{simp at h}
 | cons e r d=>
   obtain⟨n,k⟩:=e;intro cs h;refine d _ ?_;rcases h with⟨c,h⟩ | h
   . refine .inl ?_;by_cases b:(k==NameKind.free)=true
     . rw[if_pos b,List.lookup_cons]
       cases a:x==n with
       | true=>exact⟨_,rfl⟩
       | false=>exact⟨c,h⟩
     {rw[if_neg b];exact⟨c,h⟩}
   . rw[List.lookup_cons]at h
     cases a:x==n with
     | true=>rw[a]at h;simp only at h;cases h;refine .inl ⟨(env.cells.lookup n).getD 0,?_⟩;simp[List.lookup_cons,a]
     | false=>rw[a]at h;exact .inr h
def fL(X:Cx)(sc:Scope)(N:%[|2])(C:Addr)(s:Shared)(H:Hp)(ex:List Addr)(cl:List (Str×Addr)):Cx:=
 {X with N:=N,s₀:=s,H₀:=H,env:=compEnvC sc cl C X.env,outer:=X.stack,stack:=X.stack,ex:=ex,fn:=λ x=>sc.names.lookup x==some .cell,pn:=[]}
def capt{α:Type}(cap:List (Option Nat))(xs:List (Option α)):List (Option α):=cap.map λ o=>o.bind λ j=>(xs[j]?).join
def bw(N:%[|2])(names:List (Str×NameKind))(N':%[|2])(names':List (Str×NameKind)):List (Option Nat)->%[|2]->Bool
 | [],[]=>true
 | none::r,_::t=>bw N names N' names' r t
 | some j::r,x::t=>(N[j]? ==some x)&&(names.lookup x==some .cell||names.lookup x==some .free)&&(names'.lookup x==some .free)&&bw N names N' names' r t
 | _,_=>false
theorem HW{N:%[|2]}{names:List (Str×NameKind)}{d:%[|2]}{b:List (Str×NameKind)}:∀{a:List (Option Nat)}{t:%[|2]},bw N names d b a t=true->a.length=t.length:=by
 intro a
 induction a with
 | nil=>
   intro t h
   cases t with
   | nil=>rfl
   | cons=>simp[bw]at h
 | cons o r c=>
   intro t h
   cases t with
   | nil=>cases o<;>simp[bw]at h
   | cons x t=>
     cases o with
     | none=>simp only[bw]at h;simp[c h]
     | some j=>simp only[bw,Bool.and_eq_true]at h;simp[c h.2]
theorem Lz{N:%[|2]}{names:List (Str×NameKind)}{l:%[|2]}{c:List (Str×NameKind)}:∀{d:List (Option Nat)}{t:%[|2]}{i j:Nat},bw N names l c d t=true->d[i]? =some (some j)->
 ∃x,t[i]? =some x/\N[j]? =some x/\(names.lookup x=some .cell∨names.lookup x=some .free)/\c.lookup x=some .free:=by
 intro d
 induction d with
 | nil=>intro t i j _ h;simp at h
 | cons o r f=>
   intro t i j h e
   cases t with
   | nil=>cases o<;>simp[bw]at h
   | cons x t=>
     cases o with
     | none=>
       cases i with
       | zero=>simp at e
       | succ i=>simp only[bw]at h;obtain⟨y,a,b⟩:=f (i:=i) h (by simpa using e);exact⟨y,by simpa using a,b⟩
     | some k=>
       simp only[bw,Bool.and_eq_true]at h
       cases i with
       | zero=>obtain⟨⟨⟨m,g⟩,n⟩,_⟩:=h;simp at e;subst e;rw[Bool.or_eq_true]at g;exact⟨x,rfl,ZI m,g.imp ZI ZI,ZI n⟩
       | succ i=>obtain⟨y,a,b⟩:=f (i:=i) h.2 (by simpa using e);exact⟨y,by simpa using a,b⟩
theorem Fe{b:Type}{a:List (Option Nat)}{xs:List (Option b)}{i:Nat}{d:b}(h:(capt a xs)[i]? =some (some d)):∃j,a[i]? =some (some j)/\xs[j]? =some (some d):=by
 unfold capt at h;rw[x5]at h
 cases e:a[i]? with
 | none=>rw[e]at h;cases h
 | some o=>
   rw[e]at h
   cases o with
   | none=>simp at h
   | some j=>
     simp at h;refine⟨j,rfl,?_⟩
     cases q:xs[j]? with
     | none=>rw[q]at h;cases h
     | some z=>rw[q]at h;simp at h;rw[h]
theorem EnvOk.capt{σ:St}{b:Gam}(e:EnvOk K O H σ b)(a:List (Option Nat)):EnvOk K O H (capt a σ) (capt a b):=by refine⟨by simp[DL.capt],λ i d h=>?_⟩;obtain⟨j,f,c⟩:=Fe h;obtain⟨v,g,r⟩:=e.at_ j d c;refine⟨v,?_,r⟩;unfold DL.capt;rw[x5,f];simp[g]
def Sub(Γ Γ':Gam):Prop:=Γ.length=Γ'.length/\∀(i:Nat)(d:D),Γ[i]? =some (some d)->Γ'[i]? =some (some d)
theorem Sub.refl(a:Gam):Sub a a:=⟨rfl,λ _ _ h=>h⟩
theorem Sub.set{b Γ':Gam}(s:Sub b Γ')(i:Nat)(d:Option D)(h:b[i]? =some none:=by rfl):Sub b (Γ'.set i d):=⟨by rw[List.length_set];exact s.1,λ j c a=>by
 have f:i≠j:=λ e=>by subst e;rw[h]at a;cases a
 rw[List.getElem?_set_ne f];exact s.2 j c a⟩
theorem EnvOk.sub{σ:St}{a Γ':Gam}(e:EnvOk K O H σ Γ')(s:Sub a Γ'):EnvOk K O H σ a:=⟨e.len.trans s.1.symm,λ i d h=>e.at_ i d (s.2 i d h)⟩
theorem EnvOk.conv{f:Own}{c:Hp}{σ:St}{g:Gam}(e:EnvOk K O H σ g)(s:Conv O f H c):EnvOk K f c σ g:=
 ⟨e.len,λ i d h=>let ⟨v,a,b⟩:=e.at_ i d h;⟨v,a,b.conv s⟩⟩
def freeOk(names names':List (Str×NameKind)):Bool:=names'.all λ y=>!(y.2==.free)||(names.lookup y.1==some .cell||names.lookup y.1==some .free)
theorem ni{names a:List (Str×NameKind)}(h:freeOk names a=true):∀y∈a,y.2=.free->names.lookup y.1=some .cell∨names.lookup y.1=some .free:=λ y b e=>by have q:=List.all_eq_true.mp h y b;simp only[e,beq_self_eq_true,Bool.not_true,Bool.false_or,Bool.or_eq_true,beq_iff_eq]at q;exact q
def yR(names:List (Str×NameKind)):Bool:=match names.filter (λ y=>y.2==.cell)with
 | []=>true
 | [y]=>names.lookup y.1==some .cell
 | _=>false
theorem yH{names:List (Str×NameKind)}(h:names.filter (λ y=>y.2==.cell)=[])(n:Nat)(acc:List (Str×Addr))(b:Heap):cellsFrom n names acc=acc/\pushCells b names=b:=by
 induction names with
 | nil=>exact⟨rfl,rfl⟩
 | cons y r e=>obtain⟨x,k⟩:=y;rw[List.filter_cons]at h;by_cases a:(k==NameKind.cell)=true;{rw[if_pos a]at h;cases h};{rw[if_neg a]at h;obtain⟨c,d⟩:=e h;unfold cellsFrom pushCells;rw[if_neg a,if_neg a];exact⟨c,d⟩}
theorem uZ{names:List (Str×NameKind)}{t:Str×NameKind}(h:names.filter (λ y=>y.2==.cell)=[t])(n:Nat)(acc:List (Str×Addr))(b:Heap):cellsFrom n names acc=(t.1,n)::acc/\pushCells b names=b.push {cls:=.type "cell",data:=.cell none}:=by
 induction names with
 | nil=>cases h
 | cons y r f=>obtain⟨x,k⟩:=y;rw[List.filter_cons]at h;by_cases a:(k==NameKind.cell)=true;{rw[if_pos a]at h;have e:=List.cons.inj h;obtain⟨c,d⟩:=yH e.2 (n+1) ((x,n)::acc) (b.push {cls:=.type "cell",data:=.cell none});unfold cellsFrom pushCells;rw[if_pos a,if_pos a,c,d,←e.1];exact⟨rfl,rfl⟩};{rw[if_neg a]at h;obtain⟨c,d⟩:=f h;unfold cellsFrom pushCells;rw[if_neg a,if_neg a];exact⟨c,d⟩}
theorem Qj{M:Model}{A:Around}{E:%[|7]}{scope:Scope}{b:Addr}{a:List (Str×Addr)}{c:Str}{outer:Env}{Q:Env->%[|8]}
 (h:Q (newEnv scope s.heap.objs.size b (cellsFrom (s.heap.objs.size+1) scope.names a) c none .none (some outer) builtinsNs) {s with heap:=pushCells (s.heap.push {cls:=.type "dict",data:=.dict #[]}) scope.names}):
 wpAny M A (newFunctionEnv scope b a [] c none .none (some outer)) Q E s:=by simp only[newFunctionEnv,Option.isSome_some,if_true];refine ZA (wpAny_alloc ?_);refine ZA (wpAny_layCells _ (λ g d e=>by cases f:d==NameKind.cell<;>simp[f]) _ _ _ _ ?_);rw[show({s with heap:=s.heap.push {cls:=.type "dict",data:=.dict #[]}}:Shared).heap.objs.size=s.heap.objs.size+1 from Heap.size_push ..];rw[List.forIn_nil];exact ZA (ZB (ZB h))
structure CelsB(X:Cx)(sc:Scope)(cl:List (Str×Addr))(z:Nat)(h1:Heap):Prop where
 lk:∀x c,cl.lookup x=some c->X.env.cells.lookup x=some c∨(c=z/\sc.names.lookup x=some .cell/\h1.IsCell c none/\∀y,cl.lookup y=some c->y=x)
 has:∀x,sc.names.lookup x=some .cell∨sc.names.lookup x=some .free->∃c,cl.lookup x=some c
 cp:∀x c,sc.names.lookup x=some .free->X.env.cells.lookup x=some c->cl.lookup x=some c
 ow:∀x c,sc.names.lookup x=some .cell->cl.lookup x=some c->z≤c
section
variable {X : Cx}
theorem Q8{pins:Pins}{σ:St}{n:Scope}{F:%[|2]}{C:List (Option Nat)}{J:List Addr}{h1:Heap}{t:Nat}(I:%[|5])(A:∀b∈J,fB X pins H b)(R:∀b∈J,∃o,s.heap.get? b=some o)
 {cl:List (Str×Addr)}(D:n.kind=.function)(f:CelsB X n cl (s.heap.objs.size+2) h1)(P:∀y∈n.names,y.2=.free->X.env.kindOf y.1=some .cell∨X.env.kindOf y.1=some .free)(B:bw X.N X.env.scope.names F n.names C F=true)
 (k:∀b u,s.heap.get? b=some u->h1.get? b=some u)(hD:h1.get? s.heap.objs.size=some {cls:=.type "list",data:=.seq #[] 0})(hC:∃m,h1.Ns (s.heap.objs.size+1) m):
 Inv (fL X n F (s.heap.objs.size+1) s H J cl) [] (capt C σ) (upd H s.heap.objs.size (.lst [])) {s with heap:=h1,toks:=t}:=by
 have L:H s.heap.objs.size=none:=I.hok.fresh (x6 _);have M:H (s.heap.objs.size+1)=none:=I.hok.fresh (Nat.le_succ _);have N:H (s.heap.objs.size+2)=none:=I.hok.fresh %[|0];have V:∀b∈J,b<s.heap.objs.size:=λ b g=>let ⟨o,e⟩:=R b g;ZE e;have K:∀{x c},X.env.cells.lookup x=some c->c<s.heap.objs.size:=λ{x c} h=>by obtain⟨v,q⟩:=I.cell x c h;exact q.lt
 refine⟨⟨I.ok.mod,D,I.ok.glob,I.ok.blt,Nat.le_succ _,λ x y c a b=>?_,λ x hx=>?_,λ x c z e=>?_,I.ok.hd,I.ok.frames,.inl rfl,λ b g=>⟨ZN (Nat.lt_succ_of_lt (V b g)),λ x c h=>?_⟩,
  I.bs,Nat.le_trans I.ok.bsz I.sz,λ b o e g=>?_,λ b g z=>?_,I.stack,I.stkFree⟩,rfl,I.bare,Un.laid k (x6 _) L,?_,λ x c h=>?_,?_,λ x c h=>?_,λ p hp=>absurd (show p∈([]:Pins)from hp) (by simp),I.hok.laid k (x6 _) ⟨Nat.zero_le _,[],0,.nil,hD⟩,?_⟩;{rcases f.lk x c a with q | ⟨_,_,_,q⟩;{rcases f.lk y c b with E | ⟨_,_,_,E⟩;{exact I.ok.inj x y c q E};{exact E x a}};{exact(q y b).symm}}
 . have S:(relabel n X.env).names.lookup x=some .cell∨(relabel n X.env).names.lookup x=some .free:=hx;have z:n.names.lookup x=some .cell∨n.names.lookup x=some .free:=by rcases S with q | q;{obtain⟨k0,e,r⟩:=jz q;rcases r with r | r;{exact .inl (by rw[e,r])};{exact .inr (by rw[e,r.1])}};{obtain⟨k0,e,r⟩:=jz q;rcases r with r | r;{exact .inr (by rw[e,r])};{exact absurd r.2 %[|3]}}
   exact f.has x z
 {have z':n.names.lookup x=some .cell:=ZI z;have:=f.ow x c z' e;show s.heap.objs.size≤c;omega};{rcases f.lk x c h with q | ⟨q,_⟩;{exact(A b g).2.2.2.2.1 x c q};{exact λ e=>Nat.lt_irrefl _ (ZM (V b g) (by rw[←e,q];exact Nat.le_add_right _ _))}};{rcases(A b g).2.2.2.1 with z | z;{exact I.ok.noex b o e z};{exact absurd (ZM (ZE e) (Nat.le_trans I.ok.bsz z)) (Nat.lt_irrefl _)}};{rcases ZJ.mp (I.stkSub b z)with q | q;{exact(A b g).2.1 q};{exact(A b g).2.2.1 q}}
 . obtain⟨m,hm⟩:=hC;refine⟨m,hm,λ i x v W Y e3=>?_⟩;obtain⟨j,hj,hv⟩:=Fe Y;obtain⟨y,a,b,c,d⟩:=Lz B hj;have G:F[i]? =some x:=W;rw[a]at G;cases G;obtain⟨m0,aa,hl⟩:=I.loc;have T:Vis X.env.scope x:=by rcases c with c | c;{exact .inr (.inl c)};{exact .inr (.inr c)}
   obtain⟨u,r,l⟩:=hl j x v b hv T;refine⟨u,r,?_⟩;rcases l with⟨q,_⟩ | ⟨q,U,hc,w⟩;{exfalso;have E:X.env.scope.names.lookup x=some .local:=q;rcases c with c | c<;>· rw[c]at E;cases E};{have Z:=f.cp x U d hc;obtain⟨o,Q,O⟩:=w;refine .inr ⟨?_,U,Z,⟨o,k _ _ Q,O⟩⟩;exact yV d}
 {rcases f.lk x c h with q | ⟨_,_,q,_⟩;{obtain⟨v,o,Q,O⟩:=I.cell x c q;exact⟨v,o,k _ _ Q,O⟩};{exact⟨_,q⟩}};{show upd H s.heap.objs.size (.lst []) (s.heap.objs.size+1)=none;rw[ao (Nat.succ_ne_self _)];exact M};{rcases f.lk x c h with q | ⟨q,_⟩;{rw[ao (ZN (K q))];exact I.freeC x c q};{subst q;rw[ao (Nat.ne_of_gt (Nat.lt_add_of_pos_right %[|3]))];exact N}};{show(capt C σ).length=F.length;rw[←HW B];simp[capt]}
theorem tL{a:Type}{t:Sem a}{Q:a->%[|8]}{M:Model}{A:Around}{E E':%[|7]}(b:E=λ _ _=>False)(h:wpAny M A t Q E s):wpAny M A t Q E' s:=wpAny_mono h (λ _ _ q=>q) λ _ _ z=>by rw[b]at z;exact z.elim
def TsA(X:Cx)(Γ:Gam)(S:Store):List Expr->(Bool->%[|4])->Prop
 | [],W=>W true S
 | [c],W=>Ts X Γ S c W
 | _,_=>False
theorem Oo{X:Cx}{b:Gam}{S:Store}{a:List Expr}{W:Bool->%[|4]}(h:TsA X b S a W){pins:Pins}{s:Shared}{σ:St}{H:Hp}{O:Own}(I:%[|5])(env:EnvOk X.K O H σ b)(st:StOk X.K O H S):
 wpAny %[|6] X.A (forIn a true λ c r=>if r=true then do let ok ←isTrue c X.env (eval c X.env);pure (ForInStep.yield ok)else pure (ForInStep.yield r)) (TP X pins σ (QT X.K O H W)) X.xe s:=by
 match a,h with
 | [],h=>exact wpAny_tests_nil ⟨H,I,O,S,h,Step.refl O H,st⟩
 | [c],h=>exact wpAny_tests_one (h pins s σ H O I env st)
 | _::_::_,h=>exact h.elim
def gK(K:PySem.W.Frag)(J:It)(O:Own)(H:Hp)(C:%[|4])(ds:List D):Prop:=
 ∀(c:Own)(b:Hp)(e:Store),Conv O c H b->StOk K c b e->C e->∀i:Nat,(∀d,ds[i]? =some d->J.go i b/\∀x a,J.yld i b x a->cW b a/\Rep K c a x d)/\(i=ds.length->J.stop i b)
def QIc(K:PySem.W.Frag)(O:Own)(H:Hp)(W:List D->%[|4]->%[|4]):It->Hp->Prop:=λ J a=>∃b d C c,W d C c/\Step O b H a/\StOk K b a c/\gK K J b a C d
def ItC(X:Cx)(Γ:Gam)(S:Store)(tg iter:Expr)(W:List D->%[|4]->%[|4]):Prop:=
 ∀ (a:Pins)(s:Shared)(b:St)(H:Hp)(O:Own),Inv X a b H s->EnvOk X.K O H b Γ->StOk X.K O H S->
   wpAny %[|6] X.A (eval iter X.env) (λ v c=>wpAny %[|6] X.A (pyIter v) (PIE X a b tg (QIc X.K O H W)) X.xe c) X.xe s
theorem qd{J:It}{ds:List D}(y:iI K J O H ds):gK K J O H (λ _=>True) ds:=λ c b g f e _ i=>y c b f (λ a d=>e.tracked d) i
theorem X4{X:Cx}{e:Gam}{S:Store}{d iter:Expr}{W:List D->%[|4]->%[|4]}(h:ItW X e S d iter λ ds S1=>W ds (λ _=>True) S1):ItC X e S d iter W:=λ a s y H O I b r=>
 thn (h a s y H O I b r) λ _ _ q=>thn q λ _ _ c=>by obtain⟨p,o,t,J,f,j,k,l,m,n,g,ds,i,w,u,v,x⟩:=c;exact⟨p,o,t,J,f,j,k,l,m,n,g,ds,_,i,w,u,v,qd x⟩
abbrev xg(X:Cx)(sc:Scope)(N':%[|2])(cap:List (Option Nat))(Γ:Gam)(elt tg:Expr)(ifs:List Expr)(W:WD):List D->%[|4]->%[|4]:=λ g l m=>
 g.length≤1000000/\∃e:Nat->List D->%[|4],e 0 [] m/\(∀i a b,e i a b->l b)/\
  (∀i d a b,g[i]? =some d->e i a b->∀(C:Addr)(s:Shared)(H:Hp)(h:List Addr)(f:List (Str×Addr)),BdW (fL X sc N' C s H h f) tg d (capt cap Γ) b λ c n=>Sub (capt cap Γ) c/\
   TsA (fL X sc N' C s H h f) c n ifs λ k j=>(k=true->Ev (fL X sc N' C s H h f) c j elt λ y o=>e (i+1) (a++[y]) o)/\(k=false->e (i+1) a j))/\
  ∀a b,e g.length a b->W (.lst a) b∨W (.loc b.length) (b++[a])
theorem vB{Γ:Gam}{S:Store}{al tg iter:Expr}{ar:List Expr}{f:Scope}{ab:Pos}{N':%[|2]}{N:List (Option Nat)}{W:WD}{E:%[|7]}{pins:Pins}{σ:St}
 {RR:Value->Addr->Result->%[|8]}
 (hx:X.xe=λ _ _=>False)(hc:X.calm=true)(az:f.kind=.function)(F:yR f.names=true)(ae:∀y∈f.names,y.2=.free->X.env.kindOf y.1=some .cell∨X.env.kindOf y.1=some .free)
 (aQ:bw X.N X.env.scope.names N' f.names N N'=true)(h:ItC X Γ S tg iter (xg X f N' N Γ al tg ar W))(I:%[|5])(env:EnvOk X.K O H σ Γ)(st:StOk X.K O H S)
 (fin:∀(s':Shared)(g:Hp)(D0 C:Addr)(m:Str->Option Value),Inv X pins σ g s'->s'.heap.Ns C m->fB X pins g C->D0≠C->QG X.K O H W (.ref D0) g->RR (.ref D0) C (.ok .next) s'):
 wpAny %[|6] X.A (eval iter X.env) (λ x s₁=>wpAny %[|6] X.A (pyIter x) (λ it s₂=>wpAny %[|6] X.A (newList []) (λ acc s₃=>
  wpAny %[|6] X.A (newFunctionEnv f X.env.globals (closes X.env f.names []) [] X.env.qual none .none (some X.env)) (λ cenv s₄=>
   codeAny %[|6] X.A (.compStart (.ListComp al [⟨tg,iter,ar,0⟩] f ab) 0 it acc {cenv with scope:=relabel f X.env}) (RR acc cenv.locals) s₄) E s₃) E s₂) E s₁) E s:=by
 refine thn (tL hx (h pins s σ H O I env st)) λ xv s1 h1=>thn (tL hx h1) λ bk s2 h2=>?_;obtain⟨it,fp,tn,J,H2,e,I2,T,aG,f2,l,ds,C0,S2,⟨hz,Pv,p0,pC,pt,pe⟩,aI,aE,yl⟩:=h2;subst e;refine wpAny_newObj_type (Qj ?_);dsimp only;have L:H2 s2.heap.objs.size=none:=I2.hok.fresh (x6 _);have aB:(s2.heap.push {cls:=.type "list",dict:=none,data:=.seq ([]:List Value).toArray}).objs.size=s2.heap.objs.size+1:=Heap.size_push ..;rw[aB];have aX:=Heap.Ns.new (s2.heap.push {cls:=.type "list",dict:=none,data:=.seq ([]:List Value).toArray}) (.type "dict");rw[aB]at aX;obtain⟨cl,P⟩:∃cl,cellsFrom (s2.heap.objs.size+1+1) f.names (closes X.env f.names [])=cl:=⟨_,rfl⟩;obtain⟨h₁,an⟩:∃h₁,pushCells ((s2.heap.push {cls:=.type "list",dict:=none,data:=.seq ([]:List Value).toArray}).push {cls:=.type "dict",data:=.dict #[]}) f.names=h₁:=⟨_,rfl⟩;have aq:h₁.Ns (s2.heap.objs.size+1) (λ _=>none):=by rw[←an];exact aX.keeps (pushCells_keeps _ _)
 have aW:∀b u,(s2.heap.push {cls:=.type "list",dict:=none,data:=.seq ([]:List Value).toArray}).get? b=some u->h₁.get? b=some u:=λ b u e=>by rw[←an];exact pushCells_keeps _ _ b u (ZC _ e)
 have kp:∀b u,s2.heap.get? b=some u->h₁.get? b=some u:=λ b u e=>aW b u (ZC _ e);have ba:h₁.get? s2.heap.objs.size=some {cls:=.type "list",data:=.seq #[] 0}:=aW _ _ (ZD _ rfl);have hf:∀y∈f.names,y.2=.free->∃c,X.env.cells.lookup y.1=some c:=λ y hy e=>I.ok.has y.1 (ae y hy e);have bb :CelsB X f cl (s2.heap.objs.size+2) h₁:=by
  have U:∀{x c},(closes X.env f.names []).lookup x=some c->X.env.cells.lookup x=some c:=λ{x c} h=>Dh f.names [] hf (λ c h=>by simp at h) h;have aK:∀x c,f.names.lookup x=some .free->X.env.cells.lookup x=some c->(closes X.env f.names []).lookup x=some c:=λ x c d hc=>by obtain⟨c2,h2⟩:=jU (env:=X.env) f.names [] (.inr d);have e:=U h2;rw[hc]at e;cases e;exact h2
  unfold yR at F;split at F
  . rename_i aa;have e1:=(yH aa (s2.heap.objs.size+1+1) (closes X.env f.names []) s2.heap).1;rw[P]at e1;have no:∀x,f.names.lookup x≠some .cell:=λ x z=>by have:(x,NameKind.cell)∈f.names.filter (λ y=>y.2==.cell):=List.mem_filter.mpr ⟨PySem.mem_of_lookup z,rfl⟩;rw[aa]at this;cases this
    rw[e1];exact⟨λ x c h=>.inl (U h),λ x hx=>hx.elim (λ z=>absurd z (no x)) λ z=>jU f.names [] (.inr z),aK,λ x c z=>absurd z (no x)⟩
  . rename_i y aa;have hy:f.names.lookup y.1=some .cell:=ZI F;obtain⟨e1,_⟩:=uZ aa (s2.heap.objs.size+1+1) (closes X.env f.names []) s2.heap;rw[P]at e1;have e2:=(uZ aa 0 [] ((s2.heap.push {cls:=.type "list",dict:=none,data:=.seq ([]:List Value).toArray}).push {cls:=.type "dict",data:=.dict #[]})).2;rw[an]at e2;have e3:((s2.heap.push {cls:=.type "list",dict:=none,data:=.seq ([]:List Value).toArray}).push {cls:=.type "dict",data:=.dict #[]}).objs.size=s2.heap.objs.size+2:=by rw[Heap.size_push,aB]
    have a3:h₁.IsCell (s2.heap.objs.size+2) none:=by rw[e2,←e3];exact⟨_,ZD _ rfl,rfl⟩
    have only:∀x,f.names.lookup x=some .cell->x=y.1:=λ x z=>by have:(x,NameKind.cell)∈f.names.filter (λ y=>y.2==.cell):=List.mem_filter.mpr ⟨PySem.mem_of_lookup z,rfl⟩;rw[aa]at this;have:=ZL.mp this;rw[←this]
    have bg:∀{x c},(closes X.env f.names []).lookup x=some c->c<s2.heap.objs.size:=λ{x c} h=>by obtain⟨v,q⟩:=I2.cell x c (U h);exact q.lt
    have af:∀x,cl.lookup x=if x=y.1 then some (s2.heap.objs.size+1+1)else(closes X.env f.names []).lookup x:=λ x=>by rw[e1,List.lookup_cons];by_cases z:x=y.1;{subst z;simp};{rw[if_neg z,beq_eq_false_iff_ne.mpr z]}
    refine⟨λ x c h=>?_,λ x hx=>?_,λ x c d hc=>?_,λ x c z h=>?_⟩;{rw [af]at h;by_cases z:x=y.1;{rw[if_pos z]at h;cases h;refine .inr ⟨rfl,by rw[z];exact hy,a3,λ u hu=>?_⟩;rw[af]at hu;by_cases z2:u=y.1;{rw[z2,z]};{rw[if_neg z2]at hu;exact(Nat.lt_irrefl _ (Nat.lt_of_le_of_lt (Nat.le_add_right _ 2) (bg hu))).elim}};{rw[if_neg z]at h;exact .inl (U h)}};{rw[af];by_cases z:x=y.1;{exact⟨_,if_pos z⟩};{rw[if_neg z];exact hx.elim (λ q=>absurd (only x q) z) λ q=>jU f.names [] (.inr q)}};{rw[af,if_neg (λ z=>by rw[z,hy]at d;cases d)];exact aK x c d hc};{rw[af,if_pos (only x z)]at h;cases h;exact x6 _}
  {cases F}
 rw[P,an];have aS:∀b∈fp,∃o,s2.heap.get? b=some o:=λ b k=>let ⟨o,e,_⟩:=T.obj _ _ aG b k;⟨o,e⟩;have I4:=Q8 (t:=s2.toks) (h1:=h₁) I2 f2 aS az bb ae aQ kp ba ⟨_,aq⟩;generalize hX':fL X f N' (s2.heap.objs.size+1) s2 H2 fp cl=X' at I4;have aZ:=λ i d acc S' a b=>pt i d acc S' a b (s2.heap.objs.size+1) s2 H2 fp cl;rw[hX']at aZ;have eP:X'.prog=X.prog:=by rw[←hX'];rfl
 have ew:X'.w=X.w:=by rw[←hX'];rfl
 have eK:X'.K=X.K:=by rw[←hX'];rfl
 have eA:X'.A=X.A:=by rw[←hX'];rfl
 have ec:X'.calm=true:=by rw[←hX'];exact hc
 have am:X'.xe=λ _ _=>False:=by rw[←hX'];exact hx
 have ac:X'.env=compEnvC f cl (s2.heap.objs.size+1) X.env:=by rw[←hX'];rfl
 have ad:X'.ex=fp:=by rw[←hX'];rfl
 have aN:X'.outer=X.stack:=by rw[←hX'];rfl
 have aO:X'.s₀=s2:=by rw[←hX'];rfl
 have a5:X'.H₀=H2:=by rw[←hX'];rfl
 have a6:X'.pn=[]:=by rw[←hX'];rfl
 have aj:∀{H':Hp},(∀b∈fp,H' b=none)->∀b∈fp,fB X' [] H' b:=λ hn b k=>by refine⟨hn b k,(I4.ok.exf b (by rw[ad];exact k)).1,I4.ok.exfs b (by rw[ad];exact k),.inl (by rw[ad];exact k),(I4.ok.exf b (by rw[ad];exact k)).2,λ p hp=>?_⟩;rw[a6]at hp;exact absurd hp (by simp)
 have av:∀s₃:Shared,s₃={s2 with heap:=h₁}->
  codeAny %[|6] X.A (.compLoop (.ListComp al [⟨tg,iter,ar,0⟩] f ab) 0 (.ref it) (.ref s2.heap.objs.size) (compEnvC f cl (s2.heap.objs.size+1) X.env))
   (RR (.ref s2.heap.objs.size) (s2.heap.objs.size+1)) s₃:=by
  intro s₃ es;rw[←ac];refine codeAny_loop rfl (λ n s'=>∃i acc Y g A Z G,n=ds.length-i/\i≤ds.length/\Inv X' [] G g s'/\tn i s'.heap/\(∀b∈fp,g b=none)/\Pv i acc Z/\g s2.heap.objs.size=some (.lst Y)/\Y.length≤i/\
   Reps X.K ⟨A,s2.heap.objs.size::l.B⟩ g Y acc/\Step l ⟨A,l.B⟩ H2 g/\StOk X.K ⟨A,s2.heap.objs.size::l.B⟩ g Z/\EnvOk X.K ⟨A,s2.heap.objs.size::l.B⟩ g G (capt N Γ)) ?_ ds.length ?_
  . rintro n s' ⟨i,acc,Y,g,A,Z,G,rfl,hi,Ic,a0,aP,pc,aC,aU,rc,ag,Q,aM⟩;show wpAny _ _ ((compTurn (.ListComp al [⟨tg,iter,ar,0⟩] f ab) 0 (.ref it) (.ref s2.heap.objs.size) X'.env).onRaise (λ x=>do noteFrame x X'.env;theTreesLotGoes x)) _ _ s';refine wpAny_noted ?_;rw[compTurn_list];refine ZA (wpAny_standAt (ZA ?_));have cv:Conv l ⟨A,s2.heap.objs.size::l.B⟩ H2 g:=by refine⟨λ a u n t=>?_,ag.conv.lc⟩;obtain⟨x1,x2⟩:=ag.conv.tr a u n t;refine⟨λ z=>?_,x2⟩;rcases z with z | z;{exact x1 (.inl z)};{rcases ZJ.mp z with z | z;{subst z;rw[L]at t;cases t};{exact x1 (.inr z)}}
    obtain⟨y1,y2⟩:=yl _ _ _ cv Q (pC _ _ _ pc) i;by_cases aA:i<ds.length
    . obtain⟨go,yy⟩:=y1 ds[i] (y4 aA);have aV:=T.item X' eP ew eK ec i [] s' G g (λ _ _=>False) Ic (aj aP) a0 go;rw[eA]at aV;refine wpAny_mono aV (λ r s3 j=>?_) λ _ _ z=>z.elim;obtain⟨u,hr,h3⟩:=j;subst hr;refine ZA (wpAny_mono h3 (λ _ s5 j=>?_) λ _ _ z=>z.elim);obtain⟨x,H5,I5,r5,y5,aH,a8⟩:=j;obtain⟨sm,rx⟩:=yy x H5 y5;have a2:=I5.pinned (aj a8) (T.obj _ _ aH);have ax:=Step.same (O:=⟨A,s2.heap.objs.size::l.B⟩) sm;have bd:=aZ i ds[i] acc Z (y4 aA) pc _ s5 G H5 ⟨A,s2.heap.objs.size::l.B⟩ x u a2 (by rw[eK];exact aM.mono ax) (by rw[eK];exact Q.same sm) (by rw[eK];exact rx) r5;rw[eP,ew,eA]at bd;refine ZA (wpAny_mono (tL (E':=λ _ _=>False) am bd) (λ _ s6 j=>?_) λ _ _ z=>z.elim);obtain⟨ak,H6,I6,O6,bl,S6,⟨ay,w6⟩,bi,aY,K⟩:=j;have a1:=Oo w6 I6 K aY;rw[eP,ew,eA]at a1;refine ZA (wpAny_mono (tL (E':=λ _ _=>False) am a1) (λ ok s7 j=>?_) λ _ _ z=>z.elim);obtain⟨H7,I7,O7,S7,w7,au,aF⟩:=j;have M:Step ⟨A,s2.heap.objs.size::l.B⟩ O7 g H7:=ax.trans (bi.trans au);have bj:O7.B=s2.heap.objs.size::l.B:=M.hid;have next:∀(s9:Shared)(H8:Hp)(O8:Own)(S8:Store)(ys:List V)(R:List D),Step ⟨A,s2.heap.objs.size::l.B⟩ O8 g H8->
       StOk X.K O8 H8 S8->EnvOk X.K O8 H8 ak (capt N Γ)->Pv (i+1) R S8->Inv X' ([]++nj fp s5.heap) ak (upd H8 s2.heap.objs.size (.lst ys)) s9->Reps X.K O8 H8 ys R->ys.length≤i+1->
       ∃ m,m<ds.length-i/\∃i acc Y g A Z G,m=ds.length-i/\i≤ds.length/\Inv X' [] G g s9/\tn i s9.heap/\(∀b∈fp,g b=none)/\Pv i acc Z/\g s2.heap.objs.size=some (.lst Y)/\Y.length≤i/\
         Reps X.K ⟨A,s2.heap.objs.size::l.B⟩ g Y acc/\Step l ⟨A,l.B⟩ H2 g/\StOk X.K ⟨A,s2.heap.objs.size::l.B⟩ g Z/\EnvOk X.K ⟨A,s2.heap.objs.size::l.B⟩ g G (capt N Γ):=by
       intro s9 H8 O8 S8 ys R ai as aL p8 I8 r8 bc;have eB:O8.B=s2.heap.objs.size::l.B:=ai.hid;obtain⟨A8,B8⟩:=O8;have a4:B8=s2.heap.objs.size::l.B:=eB;subst a4;have aD:s2.heap.objs.size∈(⟨A8,s2.heap.objs.size::l.B⟩:Own).B:=w9;refine⟨ds.length-(i+1),%[|0],i+1,R,ys,_,A8,S8,ak,rfl,aA,I8.unpinned,T.keep _ _ _ aH λ b k o e=>(I8.pin (b,o) (List.mem_append_right _ (List.mem_append_right _ (gC k e)))).1,λ b k=>?_,p8,aJ,bc,
        r8.conv (Conv.updHid aD _),ag.inner ai L _,as.updHid aD _,aL.conv (Conv.updHid aD _)⟩;obtain⟨o,e,d⟩:=T.obj _ _ aH b k;exact(I8.pin (b,o) (List.mem_append_right _ (List.mem_append_right _ (gC k e)))).2.1
      rw[eK]at aF K aY;have aR:∀{O':Own}{H':Hp}{S':Store},Step ⟨A,s2.heap.objs.size::l.B⟩ O' g H'->H' s2.heap.objs.size=some (.lst Y):=λ bh=>
       bh.kept _ _ (λ z=>Q.apart _ z w9) aC
      cases ok with
      | false=>
        refine ZB ⟨rfl,?_⟩;have be:=aR (S':=S7) M;have a7:upd H7 s2.heap.objs.size (.lst Y)=H7:=by funext b;by_cases k:b=s2.heap.objs.size;{subst k;rw[aJ];exact be.symm};{exact ao k}
        exact next s7 H7 O7 S7 Y acc M aF ((K.mono au).sub ay) (w7.2 rfl) (by rw[a7];exact I7) (rc.mono M) (Nat.le_succ_of_le aU)
      | true=>
        have el:=w7.1 rfl _ s7 ak H7 O7 I7 (by rw[eK];exact K.mono au) (by rw[eK];exact aF);rw[eP,ew,eA]at el;refine ZA (ZA (wpAny_mono (tL (E':=λ _ _=>False) am el) (λ xe s8 j=>?_) λ _ _ z=>z.elim));obtain⟨v8,H8,I8,r8,O8,y,S8,w8,ai,as,aw⟩:=j;rw[eK]at as aw;have ah:=M.trans ai;have bf:=aR (S':=S8) ah;have ap:=vQ (X:=X') _ s8 ak H8 (.ref s2.heap.objs.size) [v8] (.ref s2.heap.objs.size) [xe] (λ v H'=>H'=upd H8 s2.heap.objs.size (.lst (Y++[v8]))) I8 rfl (.cons r8 .nil)
         ⟨s2.heap.objs.size,Y,v8,rfl,rfl,bf,Nat.lt_of_le_of_lt (Nat.le_trans aU (Nat.le_trans hi hz)) %[|3],rfl⟩;rw[eP,ew,eA]at ap;refine ZA (wpAny_mono (tL (E':=λ _ _=>False) am ap) (λ _ s9 j=>ZB (ZB ⟨rfl,?_⟩)) λ _ _ z=>z.elim);obtain⟨_,H9,I9,_,e9⟩:=j;subst e9;exact next s9 H8 O8 S8 (Y++[v8]) (acc++[y]) ah as (((K.mono au).mono ai).sub ay) w8 I9 ((rc.mono ah).append (.cons aw .nil)) (by rw[v3,List.length_singleton];omega)
    . have e:i=ds.length:=%[|0]
      subst e;have dn:=T.done X' eP ew eK ec ds.length [] s' G g (λ _ _=>False) Ic (aj aP) a0 (y2 rfl);rw[eA]at dn;refine wpAny_mono dn (λ r s3 j=>?_) λ _ _ z=>z.elim;obtain⟨hr,I3⟩:=j;subst hr;refine ZB ?_;obtain⟨m,hm,_⟩:=I3.loc;have un:Un (frs X.stack) fp H2 g s2.heap s3.heap:=by have:=I3.base;rw[ad,a5,aO]at this;show Un (frs X.stack) fp H2 g s2.heap s3.heap;rw[←aN];exact this
      have os:s3.os=s2.os:=by have:=I3.os;rw[aO]at this;exact this
      have aT:HOk X.prog X.w g s3.heap:=by have:=I3.hok;rw[eP,ew]at this;exact this
      have IX:Inv X pins σ g s3:=I2.call' os un aT I3.bare (λ b k=>⟨(f2 b k).2.2.2.1,(f2 b k).2.1,(f2 b k).2.2.2.2.1,(f2 b k).2.2.2.2.2⟩);have a9:g (s2.heap.objs.size+1)=none:=by have:=I3.free;rw[ac]at this;exact this
      refine fin s3 g _ _ m IX (by rw[ac]at hm;exact hm) (I2.fpOk (Nat.le_succ _) a9) (ZN (Nat.lt_succ_self _)) ?_;rcases pe acc Z pc with w | w;{refine⟨⟨A,l.B⟩,.lst acc,Z,w,aI.trans ag,Q.unhide,.lst (.inl ⟨λ z=>?_,.inl aC⟩) (rc.conv Conv.unhide)⟩;rcases z with z | z;{exact Q.apart _ z w9};{exact aE.hidden _ z L}};{refine⟨⟨A++[(s2.heap.objs.size,false)],l.B⟩,.loc Z.length,Z++[acc],w,aI.trans (ag.adopt L),Q.adopt (λ z=>aE.hidden _ z L) aC rc,.loc ?_⟩;have el:A.length=Z.length:=Q.len;show(A++[(s2.heap.objs.size,false)])[Z.length]? =some _;rw[←el];simp}
  {refine⟨0,[],[],upd H2 s2.heap.objs.size (.lst []),l.A,S2,capt N σ,rfl,Nat.zero_le _,by rw[es];exact I4,by rw[es];exact T.keep 0 s2.heap h₁ aG λ b k o e=>kp b o e,λ b k=>?_,p0,aJ,x6 0,.nil,Step.fresh L _,aE.hide L _,((env.mono aI).capt N).conv (Conv.hide L _)⟩;obtain⟨o,e⟩:=aS b k;rw[ao (ZN (ZE e))];exact(f2 b k).1}
 exact codeAny_compStart_list (av _ rfl) (T.self _ 0 _ _ _ (T.keep 0 s2.heap h₁ aG λ b k o e=>kp b o e) (av _ rfl))
variable {Γ : Gam} {S : Store} {elt tg iter : Expr} {ifs : List Expr} {sc : Scope} {pos : Pos} {N' : %[|2]} {cap : List (Option Nat)}
theorem Pz(n:%[|2])(j:List (Option Nat)){W:WD}(h:ItC X Γ S tg iter (xg X sc n j Γ elt tg ifs W))(N:X.xe=λ _ _=>False:=by rfl)(J:X.calm=true:=by rfl)(d:sc.kind=.function:=by rfl)
 (i:yR sc.names=true:=by rfl)(t:freeOk X.env.scope.names sc.names=true:=by rfl)
 (f:∀y∈sc.names,y.2=.local->sc.names.lookup y.1=some .local:=by decide+kernel)(k:bw X.N X.env.scope.names n sc.names j n=true:=by rfl)(M:∀x,foldedSetIterable iter X.env x=pure x:=by intro _;rfl):
 Ev X Γ S (.ListComp elt [⟨tg,iter,ifs,0⟩] sc pos) W:=by intro l s R H O I r Q;have a:∀y∈sc.names,y.2=.free->X.env.kindOf y.1=some .cell∨X.env.kindOf y.1=some .free:=ni t;have K:∀y∈sc.names,y.2=.free->∃c,X.env.cells.lookup y.1=some c:=λ y P e=>I.ok.has y.1 (a y P e);rw[eval_ListComp];refine wpAny_comprehension_free (use:=none) (g:=⟨tg,iter,ifs,0⟩) (gs:=[]) rfl M (lB K) d f ?_;refine vB (RR:=λ p C=>compPost %[|6] X.A X.xe none (EP X l R (QG X.K O H W)) p C) N J d i a k h I r Q ?_;intro s' v u C m w L F V q;refine⟨m,L,λ U sb=>⟨.ref u,v,?_,rfl,q⟩⟩;obtain⟨z,A,T,B,D,E⟩:=F;exact w.turned (t':=s'.toks) (λ b o G e=>(sb.2 b G).trans e) z A B D E
theorem J8(i:Nat){x:Str}{f p:Pos}{W:Fin}(E:%[|2])(t:List (Option Nat))(h:ItC X Γ S tg iter (xg X sc E t Γ elt tg ifs λ d S1=>W.nx (Γ.set i (some d)) S1))(hN:X.N.Nodup)(hi:X.N[i]? =some x:=by rfl)
 (hl:Loc X.env.scope x:=by first | exact Or.inl rfl | exact Or.inr rfl)(L:swapsWith (.ListComp elt [⟨tg,iter,ifs,0⟩] sc pos) (some (.Name x f)) p.line X.env=pure true:=by rfl)
 (G:X.fn x=true∨X.env.scope.names.lookup x=some .local:=by first | exact .inl rfl | exact .inr rfl)(hx:X.xe=λ _ _=>False:=by rfl)(hc:X.calm=true:=by rfl)(k:sc.kind=.function:=by rfl)
 (r:yR sc.names=true:=by rfl)(J:freeOk X.env.scope.names sc.names=true:=by rfl)
 (l:∀y∈sc.names,y.2=.local->sc.names.lookup y.1=some .local:=by decide+kernel)(v:bw X.N X.env.scope.names E sc.names t E=true:=by rfl)(hs:∀x,foldedSetIterable iter X.env x=pure x:=by intro _;rfl):
 Rn X Γ S (.Assign [.Name x f] (.ListComp elt [⟨tg,iter,ifs,0⟩] sc pos) p) W:=by
 intro n s σ H O I u st;have j:∀y∈sc.names,y.2=.free->X.env.kindOf y.1=some .cell∨X.env.kindOf y.1=some .free:=ni J;have hf:∀y∈sc.names,y.2=.free->∃c,X.env.cells.lookup y.1=some c:=λ y hy e=>I.ok.has y.1 (j y hy e);rw[exec_Assign_Name_used _ _ _ _ L];refine ZA (wpAny_standAt (ZA ?_));show wpAny _ X.A (do let _ ←comprehension (.ListComp elt [⟨tg,iter,ifs,0⟩] sc pos) sc X.env _ (newList []) false (eval iter X.env) (some (assign (.Name x f) X.env))) _ _ s;refine ZA (wpAny_mono (wpAny_comprehension_free (use:=some (assign (.Name x f) X.env)) (g:=⟨tg,iter,ifs,0⟩) (gs:=[]) (Q:=λ _ A=>SP X n (ends X.K O H W) .next A) rfl hs (lB hf) k l ?_) (λ _ A hq=>ZB (ZB hq)) λ _ _ e=>e);refine vB (RR:=λ F C=>compPost %[|6] X.A X.xe (some (assign (.Name x f) X.env)) (λ _ A=>SP X n (ends X.K O H W) .next A) F C) hx hc k r j v h I u st ?_;intro A U D C m V hm fp ne q;show wpAny _ X.A (assign (.Name x f) X.env (.ref D)) _ _ _;refine wpAny_assign_Name (vh V hN hi hl (show RelV (.ref D) (.ref D)from rfl) (λ s2 Y K=>?_) G);obtain⟨a,sa,ha⟩:=K;obtain⟨f0,R,f2,f3,T,f5⟩:=fp;have M:C≠a:=by rcases ha with z | z;{rw[z];exact R};{exact(T x a z).symm}
 refine⟨m,hm.sameBut sa M,λ h' sb=>?_⟩;obtain⟨Z,d,S',w,B,N,P⟩:=q;exact⟨_,U,Y.turned (t':=s2.toks) (λ b o hb e=>(sb.2 b hb).trans e) f0 R f3 T f5,Z,_,S',w,B,N,(u.mono B).set P i⟩
end
end DL
namespace DL
open PySem PySem.Spec L2
open PyProof.Rows
def tyD:D->String
 | .non=>"NoneType" | .bl _=>"bool" | .int _=>"int" | .str _=>"str" | .tup _=>"tuple" | .lst _=>"list" | .loc _=>"list" | .dic=>"dict" | .dlo _=>"dict"
def isi(t c:String):Bool:=t==c||(t=="bool"&&c=="int")
def isT(c:String):Bool:=c=="int"||c=="bool"||c=="tuple"||c=="list"||c=="str"
theorem kit_at(K:PySem.W.Frag)(d:D){c:String}(a:isT c=true):PySem.W.kitOne K (.type (tyD d)) (.type c)=some (isi (tyD d) c):=by simp only[isT,Bool.or_eq_true,beq_iff_eq]at a;rcases a with(((h | h) | h) | h) | h<;>subst h<;>cases d<;>kernel_rfl
section
variable {X : Cx} {Γ : Gam} {S : Store} {W : WD} {a b e : Expr} {es : List Expr} {pos : Pos}
theorem Gb{pins:Pins}{s:Shared}{σ:St}{H:Hp}{O:Own}{v:V}{u c:Value}{d:D}{A:Around}{E:%[|7]}{Q:%[|7]}(I:%[|5])(st:StOk X.K O H S)(r:Rep X.K O H v d)(f:RelV v u)
 (b:∀{x t:Value}{G:Heap->Prop},PySem.W.KitX X.K x t G->t=.type (tyD d)->G s.heap->x≠.builtin "__main__.__loader__#opaque"->wpAny %[|6] A (call (.builtin "isinstance") [x,c]) Q E s):
 wpAny %[|6] A (call (.builtin "isinstance") [u,c]) Q E s:=by
 cases r with
 | non=>cases f;exact b PySem.W.kitx_none rfl True.intro (λ z=>nomatch z)
 | bl y=>cases f;exact b PySem.W.kitx_bool rfl True.intro (λ z=>nomatch z)
 | int y=>obtain⟨t,rfl⟩:=f;exact b PySem.W.kitx_int rfl True.intro (λ z=>nomatch z)
 | str y=>obtain⟨t,rfl⟩:=f;exact b PySem.W.kitx_str rfl True.intro (λ z=>nomatch z)
 | tup q K=>cases f;obtain⟨i,_,⟨o,g,a,_⟩,_⟩:=I.tuple q.sq;exact b PySem.W.kitx_tuple rfl ⟨o,g,a⟩ (λ z=>nomatch z)
 | lst q K=>cases f;obtain⟨i,_,F,_⟩:=I.list q.sq;obtain⟨o,g,a,_⟩:=F.isList;exact b PySem.W.kitx_list rfl ⟨o,g,a⟩ (λ z=>nomatch z)
 | @loc p k h=>
   cases f;have B:k<S.length:=by rw[←st.len];exact(z0.mp h).1
   obtain⟨L,e,_⟩:=st.obj k p S[k] h (y4 B);obtain⟨i,_,F,_⟩:=I.list (SqL.of e);obtain⟨o,g,a,_⟩:=F.isList;exact b PySem.W.kitx_list rfl ⟨o,g,a⟩ (λ z=>nomatch z)
 | @dic p q g=>cases f;obtain⟨_,_,M,_,o,l,w,a,h4,_⟩:=(show az X.prog X.w H s.heap p (.dK [])from I.hok p _ g);exact b PySem.W.kitx_dict rfl ⟨o,a,h4.1⟩ (λ z=>nomatch z)
 | @dlo p k h J=>
   cases f;have B:k<S.length:=by rw[←st.len];exact(z0.mp h).1
   cases st.dob k p S[k] h (y4 B)with
   | t C e _=>obtain⟨_,_,L,_,o,l,w,a,h4,_⟩:=(show az X.prog X.w H s.heap p (.dT C)from I.hok p _ e);exact b PySem.W.kitx_dict rfl ⟨o,a,h4.1⟩ (λ z=>nomatch z)
   | c j _ e _=>obtain⟨⟨_,_,_,o,l,w,a,h4,_⟩,_,_⟩:=(show az X.prog X.w H s.heap p (.ext (Mz p j))from I.hok p _ e);exact b PySem.W.kitx_dict rfl ⟨o,a,h4.1⟩ (λ z=>nomatch z)
   | o j _ e _=>obtain⟨⟨_,_,_,o,l,w,a,h4,_⟩,_,_⟩:=(show az X.prog X.w H s.heap p (.ext (Nf p j))from I.hok p _ e);exact b PySem.W.kitx_dict rfl ⟨o,a,h4.1⟩ (λ z=>nomatch z)
   | m j _ _ e _=>obtain⟨⟨_,_,_,o,l,a,h4,_⟩,_,_⟩:=(show az X.prog X.w H s.heap p (.ext (aM p j))from I.hok p _ e);exact b PySem.W.kitx_dict rfl ⟨o,a,h4.1⟩ (λ z=>nomatch z)
   | p _ n=>exact absurd J n
theorem Ru{T:Str}{Tn:String}{p q:Pos}(h:Ev X Γ S a λ x S1=>W (.bl (isi (tyD x) Tn)) S1)(C:isT Tn=true)(D:bootBuiltins T=some (.type Tn))(t:X.mg "isinstance"=none)(G:X.mg T=none)(o:Gl X "isinstance":=by rfl)(F:Gl X T:=by rfl)
 (J:T≠"__name__":=by decide)(n:(T==("__debug__":Str))=false:=by decide)(i:starEach [a,.Name T q] X.env=(false,eval a X.env)::starEach [.Name T q] X.env:=by rfl)(j:starEach [.Name T q] X.env=[(false,eval (.Name T q) X.env)]:=by rfl):
 Ev X Γ S (.Call (.Name "isinstance" p) [a,.Name T q] [] pos) W:=by
 intro b s B H O I m N;have E:d7 X (.builtin "isinstance") (λ A l Q=>∃v,A=[v,.ty Tn]/\∃f d g,StOk X.K f l g/\Rep X.K f l v d/\Q (.bl (isi (tyD d) Tn)) l):=by intro b s B H A U Q I r h;obtain⟨v,rfl,f,d,g,y,c,q⟩:=h;obtain⟨u,R,rfl,L,M⟩:=vals2 r;cases M;refine Gb I y c L λ Z e p K=>?_;subst e;exact PySem.W.kia_one Z I.kIn p (kit_at X.K d C) K λ P=>⟨.bl _,H,I.tok P,rfl,q⟩
 refine yO E o t PyProof.Rows.boot_isinstance (gH h.pe (gH (Ed F G D (v:=.ty Tn) rfl J n) rY j) i) %[|3] %[|3] i (by rw[j];rfl) b s B H _ I ⟨O,m,N,λ v l q=>?_⟩;obtain⟨f,d,g,w,z,k,c⟩:=q;exact⟨v,rfl,f,d,g,k,c,f,_,g,w,z,k,.bl _⟩
theorem range_all{n:Type}(f:n->Bool)(d:n):∀(a:List n)(k:Nat),((List.range' k a.length).all λ i=>f ((List.replicate k d++a).getD i d))=a.all f:=by
 intro a
 induction a with
 | nil=>intro _;simp
 | cons b a o=>
   intro k;have q:=o (k+1);rw[List.length_cons,List.range'_succ,List.all_cons,List.all_cons];congr 1;{simp[List.getD]}
   . rw[←q];have e:List.replicate k d++b::a=(List.replicate k d++[b])++a:=by simp
     rw[List.all_eq,List.all_eq];congr 1;apply propext;constructor
     . intro h i c;have:=h i c;rw[List.mem_range']at c;obtain⟨j,p,rfl⟩:=c;simp only[List.getD,List.getElem?_append,List.length_replicate]at this ⊢;have l:¬(k+1+1*j<k):=%[|0]
       have m:¬(k+1+1*j<k+1):=%[|0]
       rw[if_neg l]at this;rw[if_neg m];have g:k+1+1*j-k=(k+1+1*j-(k+1))+1:=%[|0]
       rw[g,List.getElem?_cons_succ]at this;exact this
     . intro h i c;have:=h i c;rw[List.mem_range']at c;obtain⟨j,p,rfl⟩:=c;simp only[List.getD,List.getElem?_append,List.length_replicate]at this ⊢;have l:¬(k+1+1*j<k):=%[|0]
       have m:¬(k+1+1*j<k+1):=%[|0]
       rw[if_neg m]at this;rw[if_neg l];have g:k+1+1*j-k=(k+1+1*j-(k+1))+1:=%[|0]
       rw[g,List.getElem?_cons_succ];exact this
theorem HD(a:List Bool):((List.range a.length).all λ i=>a.getD i false)=a.all id:=by have:=range_all id false a 0;simpa[List.range_eq_range']using this
theorem k_all{c:List Bool}(w:W (.bl (c.all id)) S)(C:X.calm=true:=by rfl):cX X (.builtin "all") [.lst (c.map .bl)] S W:=by
 intro n s σ H O Z Y I N r K;obtain⟨v,rfl,J⟩:=cC r;obtain⟨u,rfl,l⟩:=vals1 K
 cases J with
 | @lst a xs _ B G=>
   cases l;obtain⟨d,p,k,T⟩:=I.list B.sq;have y:=G.bools;subst y;have f:d.length=c.length:=by rw[←p.length];simp
   refine call_all_walk (wpAny_pyIter_list k.isList ?_);have F:a≠s.heap.objs.size:=by obtain⟨o,e,_⟩:=k.isList;exact ZN (ZE e)
   refine⟨_,_,_,_,_,_,λ i=>c.getD i false,rfl,Walks.list (A:=X.A.in1) (I.ok.hd C) _ a F d.toArray,⟨⟨_,ZD _ rfl,rfl,rfl⟩,k.isList.push _⟩,λ i v M t Q j E=>?_,λ R U D=>?_⟩
   . have j:d[i]? =some v:=by simpa using j
     have m:i<c.length:=by rw[←f];exact(z0.mp j).1
     obtain⟨z,h,L⟩:=p.get (i:=i) (x:=V.bl c[i]) (by rw[x5,y4 m];rfl);rw[j]at h;cases h;cases L;have e:c.getD i false=c[i]:=by simp[List.getD,m]
     have g:t (c.getD i false) M:=E;rw[e]at g;exact wpAny_truthy_bool g
   . have e:(List.range d.toArray.size).all (λ i=>c.getD i false)=c.all id:=by rw[x9,f];exact HD c
     rw[e];refine⟨.bl _,H,I.kept (λ b o q=>D b o (λ z=>?_) (ZC _ q)),rfl,Hh w N (.bl _)⟩;have P:b=s.heap.objs.size:=by simpa using z
     exact absurd (ZE q) (by rw[P];exact Nat.lt_irrefl _)
theorem Wc{ns:%[|1]}(w:W (.int ns.sum) S)(l:X.calm=true:=by rfl):cX X (.builtin "sum") [.lst (ns.map .int)] S W:=by
 intro h s F H O D C I x r q;obtain⟨v,rfl,p⟩:=cC r;obtain⟨u,rfl,c⟩:=vals1 q
 cases p with
 | @lst a E _ k o=>
   cases c;obtain⟨b,t,n,z⟩:=I.list k.sq;have j:=o.ints;subst j;have g:IntsAre b ns:=intsAre_of t;obtain⟨i,d⟩:=g.allInts.items;have f:=n.isList;rw[d]at f;refine sum_intListG (I.ok.hd l) f λ y B A m=>?_;have e:preSum (numAt i) i.size=ns.sum:=by rw[preSum_eq,List.take_of_length_le (by simp),←nums_intItems,←d];exact congrArg List.sum g.numsOf
   rw[e];exact⟨.int _,H,I.kept m,⟨_,rfl⟩,Hh w x (.int _)⟩
mutual
def deep:D->Nat
 | .tup ds=>bJ ds+1
 | .lst ds=>bJ ds+1
 | .dic=>1
 | _=>0
def bJ:List D->Nat
 | []=>0
 | d::ds=>max (deep d) (bJ ds)
end
mutual
def ak:D->Bool
 | .tup ds=>aj ds
 | .lst ds=>aj ds
 | .loc _=>false
 | .dlo _=>false
 | _=>true
def aj:List D->Bool
 | []=>true
 | d::ds=>ak d&&aj ds
end
theorem dM{d:D}:∀{ds:List D}{i:Nat},ds[i]? =some d->deep d≤bJ ds
 | [],_,h=>by simp at h
 | c::ds,0,h=>by simp at h;subst h;simp[bJ];omega
 | c::ds,i+1,h=>by have:=dM (ds:=ds) (i:=i) (by simpa using h);simp[bJ];omega
theorem fQ{d:D}:∀{ds:List D}{i:Nat},aj ds=true->ds[i]? =some d->ak d=true
 | [],_,_,h=>by simp at h
 | c::ds,0,n,h=>by simp at h;subst h;simp[aj]at n;exact n.1
 | c::ds,i+1,n,h=>by simp[aj]at n;exact fQ (ds:=ds) (i:=i) n.2 (by simpa using h)
theorem jW{pins:Pins}{s:Shared}{σ:St}{H:Hp}{a:Addr}(I:%[|5])(h:H a=some (.dK [])):(a==sysModules)=false/\s.heap.DictOf (bz X.prog X.w) a []:=by obtain⟨_,b,e,c,d⟩:=(show az X.prog X.w H s.heap a (.dK [])from I.hok a _ h);cases c;exact⟨b,d⟩
theorem N6{P c:Program}{w r:World}{h:Heap}{a:Addr}(d:h.DictOf (bz P w) a []):h.DictOf (bz c r) a []:=by
 obtain⟨o,b,f,g,i,j,s,k,t⟩:=d;have e:b=#[]:=by
  have p:∀l,Pairs (bz P w) l ([]:List (Key×Value))->l=[]:=by intro l n;cases n;rfl
  have q:b.toList=[]:=p _ k;exact Array.toList_eq_nil_iff.mp q
 subst e;exact⟨o,#[],f,g,i,j,λ _ m=>by simp at m,Pairs.nil,List.nodup_nil⟩
theorem Jy (n:Nat):∀(x:D),deep x≤n->ak x=true->∀{pins:Pins}{s:Shared}{σ:St}{H:Hp}{O:Own}{v w:V}{u u':Value}{A:Around},%[|5]->Rep X.K O H v x->Rep X.K O H w x->RelV v u->RelV w u'->A.units+n<cLine->SeqAt.EqAt A s u u' true:=by
 induction n with
 | zero=>
   intro x q o pins s σ H O v w u u' A I r1 g h d hu
   cases r1 with
   | non=>cases g;cases h;cases d;exact SeqAt.EqAt.same _
   | bl b=>cases g;cases h;cases d;exact SeqAt.EqAt.same _
   | int i=>cases g;obtain⟨t,rfl⟩:=h;obtain⟨p,rfl⟩:=d;have:=SeqAt.EqAt.int_int (A:=A) (s:=s) i t i p;rw[beq_self_eq_true]at this;exact this
   | str i=>cases g;obtain⟨t,rfl⟩:=h;obtain⟨p,rfl⟩:=d;have:=SeqAt.EqAt.str_str (A:=A) (s:=s) i t i p;rw[beq_self_eq_true]at this;exact this
   | tup _ _=>simp[deep]at q
   | lst _ _=>simp[deep]at q
   | loc _=>simp[ak]at o
   | dlo _=>simp[ak]at o
   | dic _ _=>simp[deep]at q
 | succ n ih=>
   intro x q o pins s σ H O v w u u' A I r1 g h d hu
   cases r1 with
   | non=>cases g;cases h;cases d;exact SeqAt.EqAt.same _
   | bl b=>cases g;cases h;cases d;exact SeqAt.EqAt.same _
   | int i=>cases g;obtain⟨t,rfl⟩:=h;obtain⟨p,rfl⟩:=d;have:=SeqAt.EqAt.int_int (A:=A) (s:=s) i t i p;rw[beq_self_eq_true]at this;exact this
   | str i=>cases g;obtain⟨t,rfl⟩:=h;obtain⟨p,rfl⟩:=d;have:=SeqAt.EqAt.str_str (A:=A) (s:=s) i t i p;rw[beq_self_eq_true]at this;exact this
   | @tup a xs k M F=>
     cases g with
     | @tup b ys _ N G=>
       cases h;cases d;by_cases e:a=b;{subst e;exact SeqAt.EqAt.same _}
       . obtain⟨f,K,p1,_⟩:=I.tuple M.sq;obtain⟨c,L,p2,_⟩:=I.tuple N.sq;have B:f.length=k.length:=by rw[←K.length,F.length]
         have Z:c.length=k.length:=by rw[←L.length,G.length]
         have J:=SeqAt.RcAt.tuples (A:=A) (e:=λ _=>true) (show s.heap.IsTuple a f.toArray from p1) (show s.heap.IsTuple b c.toArray from p2) %[|0] (λ j Y j2=>?_)
         . have l:((List.range (min f.toArray.size c.toArray.size)).all (λ _=>true)&&f.toArray.size==c.toArray.size)=true:=by simp[B,Z]
           rw[l]at J;exact SeqAt.EqAt.of_refs e J
         . have m:j<k.length:=by simpa[B]using Y
           obtain⟨z1,P,S⟩:=F.get (y4 m);obtain⟨z2,R,T⟩:=G.get (y4 m);obtain⟨u1,U,r⟩:=K.get P;obtain⟨u2,W,y⟩:=L.get R;have z:f.toArray[j]=u1:=by have:=(z0.mp U).2;simpa using this
           have l:c.toArray[j]=u2:=by have:=(z0.mp W).2;simpa using this
           rw[z,l];have hd:=dM (y4 m);exact ih k[j] (by simp[deep]at q;omega) (fQ (by simpa[ak]using o) (y4 m)) I S T r y (by show A.units+1+n<cLine;omega)
   | @lst a xs k M F=>
     cases g with
     | @lst b ys _ N G=>
       cases h;cases d;by_cases e:a=b;{subst e;exact SeqAt.EqAt.same _}
       . obtain⟨f,K,p1,_⟩:=I.list M.sq;obtain⟨c,L,p2,_⟩:=I.list N.sq;have B:f.length=k.length:=by rw[←K.length,F.length]
         have Z:c.length=k.length:=by rw[←L.length,G.length]
         have J:=SeqAt.RcAt.lists (A:=A) (e:=λ _=>true) p1.isList p2.isList (by simp[B,Z]) %[|0] (λ j Y j2=>?_)
         . have l:(List.range f.toArray.size).all (λ _=>true)=true:=by simp
           rw[l]at J;exact SeqAt.EqAt.of_refs e J
         . have m:j<k.length:=by simpa[B]using Y
           obtain⟨z1,P,S⟩:=F.get (y4 m);obtain⟨z2,R,T⟩:=G.get (y4 m);obtain⟨u1,U,r⟩:=K.get P;obtain⟨u2,W,y⟩:=L.get R;have z:f.toArray[j]=u1:=by have:=(z0.mp U).2;simpa using this
           have l:c.toArray[j]=u2:=by have:=(z0.mp W).2;simpa using this
           rw[z,l];have hd:=dM (y4 m);exact ih k[j] (by simp[deep]at q;omega) (fQ (by simpa[ak]using o) (y4 m)) I S T r y (by show A.units+1+n<cLine;omega)
   | loc _=>simp[ak]at o
   | dlo _=>simp[ak]at o
   | @dic a M z=>cases g with| @dic b N l=>cases h;cases d;by_cases e:a=b;{subst e;exact SeqAt.EqAt.same _};{obtain⟨z1,r⟩:=jW I z;obtain⟨z2,y⟩:=jW I l;refine SeqAt.EqAt.of_refs e λ C w' E Q hq=>?_;exact PySem.W.keq_eq (knd:=bz C w') z1 z2 (N6 r) (N6 y) %[|0] (λ _=>.nil) (by simpa using hq)}
end
end DL
namespace DL
open PySem PySem.Spec L2
open PyProof.Rows
variable {pins : Pins} {H : Hp} {s : Shared}
section
variable {X : Cx} {Γ : Gam} {S : Store} {W : WD} {a b e : Expr} {es : List Expr} {pos : Pos}
theorem Lx{x:D}(hu:X.A.units+60<cLine)(K:ak x=true)(hd:deep x≤50)(w:W (.bl false) S):aY X .NotEq x x S W:=by
 intro A s σ H O v w' u u' I st r1 l m n;have d:∀{k:Bool},SeqAt.RcNeAt X.A s u u' k->k=false->wpAny %[|6] X.A (compareOp .NotEq u u') (EP X A σ (QG X.K O H W)) X.xe s:=λ h e=>by subst e;exact h _ _ _ _ ⟨.bl false,H,I,rfl,Hh w st (.bl false)⟩
 cases r1 with
 | non=>cases l;cases m;cases n;exact d SeqAt.RcNeAt.none_none rfl
 | bl y=>cases l;cases m;cases n;exact d (SeqAt.RcNeAt.bool_bool y y) (by simp)
 | int y=>cases l;obtain⟨t,rfl⟩:=m;obtain⟨t',rfl⟩:=n;exact d (SeqAt.RcNeAt.int_int y t y t') (by simp)
 | str y=>cases l;obtain⟨t,rfl⟩:=m;obtain⟨t',rfl⟩:=n;exact d (SeqAt.RcNeAt.str_str y t y t') (by simp)
 | @tup a xs g G B=>
   cases l with
   | @tup b ys _ J C=>
     cases m;cases n;obtain⟨f,E,Y,_⟩:=I.tuple G.sq;obtain⟨c,F,Z,_⟩:=I.tuple J.sq;have z:f.length=g.length:=by rw[←E.length,B.length]
     have V:c.length=g.length:=by rw[←F.length,C.length]
     refine d (SeqAt.RcNeAt.tuples (e:=λ _=>true) (show s.heap.IsTuple a f.toArray from Y) (show s.heap.IsTuple b c.toArray from Z) %[|0] (λ j U j2=>?_)) (by simp[z,V]);have i:j<g.length:=by simpa[z]using U
     obtain⟨z1,L,N⟩:=B.get (y4 i);obtain⟨z2,M,P⟩:=C.get (y4 i);obtain⟨u1,Q,o⟩:=E.get L;obtain⟨u2,R,p⟩:=F.get M;have q:f.toArray[j]=u1:=by have:=(z0.mp Q).2;simpa using this
     have r:c.toArray[j]=u2:=by have:=(z0.mp R).2;simpa using this
     rw[q,r];have T:=dM (y4 i);exact Jy 49 g[j] (by simp[deep]at hd;omega) (fQ (by simpa[ak]using K) (y4 i)) I N P o p (by show X.A.units+1+49<cLine;omega)
 | @lst a xs g G B=>
   cases l with
   | @lst b ys _ J C=>
     cases m;cases n;obtain⟨f,E,Y,_⟩:=I.list G.sq;obtain⟨c,F,Z,_⟩:=I.list J.sq;have z:f.length=g.length:=by rw[←E.length,B.length]
     have V:c.length=g.length:=by rw[←F.length,C.length]
     refine d (SeqAt.RcNeAt.lists (e:=λ _=>true) Y.isList Z.isList (by simp[z,V]) %[|0] (λ j U j2=>?_)) (by simp);have i:j<g.length:=by simpa[z]using U
     obtain⟨z1,L,N⟩:=B.get (y4 i);obtain⟨z2,M,P⟩:=C.get (y4 i);obtain⟨u1,Q,o⟩:=E.get L;obtain⟨u2,R,p⟩:=F.get M;have q:f.toArray[j]=u1:=by have:=(z0.mp Q).2;simpa using this
     have r:c.toArray[j]=u2:=by have:=(z0.mp R).2;simpa using this
     rw[q,r];have T:=dM (y4 i);exact Jy 49 g[j] (by simp[deep]at hd;omega) (fQ (by simpa[ak]using K) (y4 i)) I N P o p (by show X.A.units+1+49<cLine;omega)
 | loc _=>simp[ak]at K
 | dlo _=>simp[ak]at K
 | @dic a G q=>cases l with| @dic b J r=>cases m;cases n;obtain⟨z1,o⟩:=jW I q;obtain⟨z2,p⟩:=jW I r;exact PySem.W.keq_ne (knd:=bz X.prog X.w) z1 z2 o p %[|0] (λ _=>.nil) ⟨.bl false,H,I,rfl,Hh w st (.bl false)⟩
end
set_option genInjectivity false in
structure SqKind(P:Program)(w:World)(K:PySem.W.Frag) where
 Sq:Hp->Addr->List V->Prop
 It:Heap->Addr->Addr->Nat->Prop
 Ob:Heap->Addr->Array Value->Prop
 itObj:∀{h it a i},It h it a i->∃o vs,h.get? it=some o/\o.data=.fields vs
 itAt:∀{h h' it a i},It h it a i->(∀o,h.get? it=some o->h'.get? it=some o)->It h' it a i
 obObj:∀{h a its},Ob h a its->∃o n,h.get? a=some o/\o.data=.seq its n
 draws:∀(A:Around),A.handled=none->∀(it a:Addr),a≠it->∀items:Array Value,Draws P w A it [it,a] items.size (λ i v=>items[i]? =some v) (λ i h=>It h it a i/\Ob h a items)
 get:∀{X:Cx}{pins:Pins}{σ:St}{H:Hp}{s:Shared}{a:Addr}{xs:List V},X.prog=P->X.w=w->X.K=K->%[|5]->Sq H a xs->∃its:List Value,Vals xs its/\Ob s.heap a its.toArray
 inj:∀{X:Cx}{pins:Pins}{σ:St}{H:Hp}{s:Shared}{a:Addr}{xs ys:List V},X.prog=P->X.w=w->X.K=K->%[|5]->Sq H a xs->Sq H a ys->xs=ys
 far:∀{X:Cx}{pins:Pins}{σ:St}{H:Hp}{s:Shared}{a b:Addr}{xs:List V},X.K=K->%[|5]->Sq H a xs->fB X pins H b->a≠b
section
variable {P : Program} {w : World} {K : PySem.W.Frag}
theorem SqKind.ne(q:SqKind P w K){h:Heap}{d a:Addr}{i:Nat}{its:Array Value}(x:q.It h d a i)(y:q.Ob h a its):a≠d:=λ e=>by obtain⟨o,k,f,g⟩:=q.itObj x;obtain⟨j,n,b,c⟩:=q.obObj y;rw[e,f]at b;cases b;rw[g]at c;cases c
theorem Ut{X:Cx}{σ:St}{a b:Addr}{o:Obj}(I:%[|5])(h:X.K.lookup a=some o)(f:fB X pins H b):a≠b:=λ z=>by have e:=I.ok.mod.kin a o h;rw[z]at e;rcases f.2.2.2.1 with q | q;{exact I.ok.noex b o e q};{exact absurd (ZM (ZE e) (Nat.le_trans I.ok.bsz q)) (Nat.lt_irrefl _)}
def Ol(P:Program)(w:World)(K:PySem.W.Frag):SqKind P w K where
 Sq:=SqL K
 It:=λ h m a i=>h.IsListIter m a i
 Ob:=λ h a c=>h.IsList a c
 itObj:=λ x=>let ⟨o,e,_,d⟩:=x;⟨o,_,e,d⟩
 itAt:=λ x k=>x.at k
 obObj:=λ x=>let ⟨o,e,_,n,d⟩:=x;⟨o,n,e,d⟩
 draws:=λ A r m a s b=>Draws.list r m a s b
 get:=λ j l g I h=>by subst j l g;obtain⟨c,t,p,_⟩:=I.list h;exact⟨c,t,p.isList⟩
 inj:=λ j l g I h q=>by subst j l g;exact I.list_inj h q
 far:=λ g I h f=>by subst g;rcases h with(h | ⟨_,h⟩) | ⟨o,_,_,h,_⟩;{exact aC h f.1};{exact aC h f.1};{exact Ut I h f}
theorem Tu{prog:Program}{w:World}{A:Around}{E:%[|7]}{a t:Addr}{i:Nat}{items:Array Value}{x:Value}{Q:%[|7]}(hi:s.heap.IsTupleIter a t i)(h:s.heap.IsTuple t items)(j:items[i]? =some x)
 (f:∀h',h'.IsTupleIter a t (i+1)->Heap.SameBut a s.heap h'->Q x {s with heap:=h'}):wpAny (model prog w) A (Builtin.SmallTypes.nextOf (.ref a)) Q E s:=by obtain⟨o,c,g,b⟩:=id hi;obtain⟨l,e,_,k,d⟩:=h;unfold Builtin.SmallTypes.nextOf;refine ZA (wpAny_callSpecial?_slot (name:=Str.ofString "__next__") hi.typeIs F.slot_tuple_iterator_next (ZP F.slot_tuple_iterator_next hi.typeIs F.entry_tuple_iterator_next ?_ (F.args_tuple_iterator_next_1 _)));refine ZA (m:=field (.ref a) 0) (wpAny_field c b (x:=.ref t) rfl ?_);rw[if_neg (show ¬((Value.ref t==Value.none)=true)from y9)];refine ZA (m:=field (.ref a) 1) (wpAny_field c b (x:=.int i 0) rfl ?_);refine ZA (m:=seqItems? (.ref t)) (wpAny_seqItems e d ?_);simp only[Int.toNat_natCast,j];refine ZA (wpAny_setField c b (by simp) (ZB ⟨x,rfl,ZB (f _ ⟨_,Heap.get?_update_self _ c (Obj.isFreed_of_fields (Obj.data_mapFields b _)),(Obj.cls_mapFields ..).trans g,by rw[Obj.data_mapFields b];simp[rawInt]⟩ (Heap.SameBut.update ..))⟩))
theorem Kd{prog:Program}{w:World}{A:Around}{E:%[|7]}{b t:Addr}{i:Nat}{items:Array Value}{Q:%[|7]}(hh:A.handled=none)(hi:s.heap.IsTupleIter b t i)(j:s.heap.IsTuple t items)(k:items[i]? =none)
 (h:∀h' e,Heap.ExtBut b s.heap h'->(∃o,h'.get? e=some o/\o.cls=.type "StopIteration")->E (.ref e) {s with heap:=h'}):wpAny (model prog w) A (Builtin.SmallTypes.nextOf (.ref b)) Q E s:=by
 obtain⟨o,f,l,c⟩:=id hi;obtain⟨p,g,_,n,d⟩:=j;unfold Builtin.SmallTypes.nextOf;refine ZA (wpAny_callSpecial?_slot (name:=Str.ofString "__next__") hi.typeIs F.slot_tuple_iterator_next (ZP F.slot_tuple_iterator_next hi.typeIs F.entry_tuple_iterator_next ?_ (F.args_tuple_iterator_next_1 _)));refine ZA (m:=field (.ref b) 0) (wpAny_field f c (x:=.ref t) rfl ?_);rw[if_neg (show ¬((Value.ref t==Value.none)=true)from y9)];refine ZA (m:=field (.ref b) 1) (wpAny_field f c (x:=.int i 0) rfl ?_);refine ZA (m:=seqItems? (.ref t)) (wpAny_seqItems g d ?_);simp only[Int.toNat_natCast,k];refine ZA (wpAny_rule (ZA (wpAny_setField f c (by simp) (ZA (m:=newExc (.type "StopIteration") []) ?_))));simp only[newExc,newTuple];refine ZA (wpAny_newObj_type (ZA (m:=firstArgMember _ _) (wpAny_of_eq (a:=Value.none) (by first | rfl | (simp only[firstArgMember];rfl)) (wpAny_newObj_type ?_ (by size_fits)))) (by size_fits));simp only[raiseNew];refine ZA (wpAny_handled ?_);first | rw[show A.in1.handled=none from hh] | rw[hh]
 exact ZA (ZB (wpAny_throw (h _ _ (((Heap.SameBut.update ..).extBut.push _).push _) ⟨_,ZD _ rfl,rfl⟩)))
theorem Mm{prog:Program}{w:World}{A:Around}(hh:A.handled=none)(a t:Addr)(ne:t≠a)(items:Array Value):
 Draws prog w A a [a,t] items.size (λ i v=>items[i]? =some v) (λ i h=>h.IsTupleIter a t i/\h.IsTuple t items) where
 live:=λ i h x=>let ⟨o,e,_⟩:=x.1;⟨o,e⟩
 frame:=λ i h b x k=>by obtain⟨⟨o,e,r⟩,⟨d,g,m⟩⟩:=x;exact⟨⟨o,k a (by simp) o e,r⟩,⟨d,k t (by simp) d g,m⟩⟩
 item:=λ i s Q E c x l=>Tu x.1 x.2 (x:=items[i]) (by simp[c]) λ b y f=>l _ b s.toks (by simp[c]) ⟨y,x.2.extBut f.extBut ne⟩ f
 done:=λ s Q E x j=>Kd hh x.1 x.2 (by simp) j
def Hg(P:Program)(w:World)(K:PySem.W.Frag):SqKind P w K where
 Sq:=SqT K
 It:=λ h m a i=>h.IsTupleIter m a i
 Ob:=λ h a c=>h.IsTuple a c
 itObj:=λ x=>let ⟨o,e,_,d⟩:=x;⟨o,_,e,d⟩
 itAt:=λ x k=>let ⟨o,e,r⟩:=x;⟨o,k o e,r⟩
 obObj:=λ x=>let ⟨o,e,_,n,d⟩:=x;⟨o,n,e,d⟩
 draws:=λ A s m a t b=>Mm s m a t b
 get:=λ j l g I h=>by subst j l g;obtain⟨c,u,p,_⟩:=I.tuple h;exact⟨c,u,p⟩
 inj:=λ j l g I h q=>by subst j l g;exact I.tuple_inj h q
 far:=λ g I h f=>by subst g;rcases h with(h | ⟨_,h⟩) | ⟨o,_,_,h,_⟩;{exact aC h f.1};{exact aC h f.1};{exact Ut I h f}
theorem nM{X:Cx}{σ:St}{h':Heap}{t:Nat}{ch:List Addr}(I:%[|5])(d:∀b∈ch,fB X pins H b)(k:∀b o,b∉ch->s.heap.get? b=some o->h'.get? b=some o):Inv X pins σ H {s with heap:=h',toks:=t}:=by
 have f:∀b u,H b=some u->b∉ch:=λ b u e z=>by rw[(d b z).1]at e;cases e
 refine I.step (g':=s.gens) (d':=s.drawn) (ch:=ch) (λ b g=>⟨(d b g).2.2.2.1,(d b g).2.1,(d b g).2.2.2.2.1,(d b g).2.2.2.2.2⟩) (λ b o _ _ a e _=>k b o a e) (λ b o _ _ a e _=>⟨o.slots,k b o a e⟩) (λ _ _ _ _ n=>n) (λ b o a e=>⟨o,k b o a e⟩)
  (λ _ _ e=>e) (λ _ _ _ e=>e) (λ b p e=>⟨#[],by rw[e];simp⟩) (λ m j=>?_) (λ b u e=>?_) I.bare;{obtain⟨o,i,h,l,r⟩:=j;exact⟨o,i,h,k _ o (λ z=>(d _ z).2.1 rfl) l,r⟩};{refine(I.hok b u e).stay (λ c v a q=>k c v ?_ q) (λ _ q=>q) λ _ _ q=>q;rcases a with z | z;{rw[z];exact f b u e};{exact f c _ z}}
theorem pJ{X:Cx}{σ:St}{s':Shared}{p:Addr}{o:HO}(I:%[|5])(a:Inv X pins σ H s')(d:s.heap.objs.size≤p)(g:az X.prog X.w (upd H p o) s'.heap p o):Inv X pins σ (upd H p o) s':=by have y:H p=none:=I.hok.fresh d;have f:∀b u,H b=some u->b≠p:=λ b u e=>aC e y;refine⟨a.ok,a.os,a.bare,⟨a.base.keep,a.base.slot,λ b g e n A=>?_,a.base.there,λ b k e=>?_,λ b g u e=>?_,λ b C e=>?_⟩,a.loc,a.cell,?_,λ x c e=>?_,λ q j=>?_,λ b u e=>?_,a.len⟩;{have B:b<s.heap.objs.size:=ZM (ZE e) I.sz;rw[ao (ZN (ZM B d))];exact a.base.free b g e n A};{have:=a.base.tups b k e;rw[ao (f b _ this)];exact this};{have:=a.base.frzs b g u e;rw[ao (f b _ this)];exact this};{obtain⟨m,h⟩:=a.base.tbls b C e;exact⟨m,by rw[ao (f b _ h)];exact h⟩};{rw[ao (ZN (ZM I.lt d))];exact a.free};{obtain⟨v,z⟩:=I.cell x c e;rw[ao (ZN (ZM z.lt d))];exact a.freeC x c e};{obtain⟨w,_⟩:=I.pin q j;obtain⟨l,r,t⟩:=a.pin q j;exact⟨l,by rw[ao (ZN (ZM (ZE w) d))];exact r,t⟩};{by_cases i:b=p;{subst i;rw[aJ]at e;cases e;exact g};{rw[ao i]at e;exact(a.hok b u e).stay (λ c v _ q=>q) (λ c q=>by rw[ao (f c _ q)];exact q) λ c k q=>by rw[ao (f c _ q)];exact q}}
def Ite(q:SqKind P w K)(a:Addr):It:=
 ⟨λ i H=>∃b x,q.Sq H a b/\b[i]? =some x,λ i H x c=>∃p y,H p=none/\c=upd H p (.tup [.int i,y])/\x=.ref p/\∀b,q.Sq H a b->b[i]? =some y,λ i H=>∃b,q.Sq H a b/\i=b.length⟩
theorem JK(q:SqKind P w K){C:List Expr}{k:Nat}{pos:Pos}(a e g:Addr)(p:e≠g):Turn P w K (.Tuple C k pos) (Ite q a) [e,g] e (λ i h=>(∃old,IsEnum h e g i old)/\q.It h g a i) where
 mem:=by simp
 obj:=λ i h st b d=>by obtain⟨⟨old,f⟩,l⟩:=st;rcases ZJ.mp d with rfl | d;{exact⟨_,f,λ v z=>nomatch z⟩};{rw[ZL.mp d];obtain⟨o,vs,r,m⟩:=q.itObj l;exact⟨o,r,λ v z=>by rw[m]at z;cases z⟩}
 keep:=λ i h h' st k=>⟨let ⟨old,f⟩:=st.1;⟨old,k e (by simp) _ f⟩,q.itAt st.2 λ o e=>k g (by simp) o e⟩
 item :=by
  intro X t y G Q i j s σ H E I J st T;obtain⟨xs,x,L,M⟩:=T;obtain⟨c,Y,A⟩:=q.get t y G I L;obtain⟨u,hu,ru⟩:=Y.get M;obtain⟨⟨old,f⟩,l⟩:=st;have V:=q.ne l A;have S:e≠a:=λ z=>by obtain⟨o,n,r,m⟩:=q.obObj A;rw[←z,f]at r;cases r;cases m
  have U:i<c.toArray.size:=by simpa using(z0.mp hu).1
  have uq:∀ys,q.Sq H a ys->ys[i]? =some x:=λ ys hy=>by rw[q.inj t y G I hy L];exact M
  subst t y;refine wpAny_pyNext_enum_itemD (q.draws X.A.in1 (I.ok.hd Q) g a V c.toArray) f ⟨l,A⟩ U p (by simp[p,S]) λ x' h' F D ho hs' hT aa hk=>?_;have ex:x'=u:=by
   have:c.toArray[i]? =some u:=by simpa using hu
   rw[this]at D;exact(Option.some.inj D).symm
  subst ex;refine⟨_,rfl,wpAny_letOwnedTupleGo_enum ho λ m R sb=>?_⟩;have I1:Inv X j σ H {s with heap:=m,toks:=F+1}:=nM (ch:=[e,g]) I J λ b o d W=>(sb.2 b (λ z=>d (by simp[z]))).trans (hk b o (λ z=>d (by simp[z])) (λ z=>d (by simp[z])) W);have hp:H s.heap.objs.size=none:=I.hok.fresh (x6 _);have B:e<s.heap.objs.size:=ZE f;have O:m.get? s.heap.objs.size=some {cls:=.type "tuple",data:=.seq #[.int i F,x']}:=(sb.2 _ (Nat.ne_of_gt B)).trans hT;have I2:Inv X j σ (upd H s.heap.objs.size (.tup [.int i,x])) {s with heap:=m,toks:=F+1}:=pJ I I1 (x6 _) ⟨by show 2≤sizeLine;decide,[.int i F,x'],.cons ⟨F,rfl⟩ (.cons ru .nil),_,O,rfl,_,rfl⟩;refine⟨.ref s.heap.objs.size,_,I2,rfl,⟨_,x,hp,rfl,rfl,uq⟩,⟨⟨_,by simpa using R⟩,q.itAt hs'.1 λ o W=>(sb.2 g p.symm).trans W⟩,λ b d=>?_⟩;rw[ao (ZN ?_)];{exact(J b d).1};{rcases ZJ.mp d with rfl | d;{exact B};{rw[ZL.mp d];obtain⟨o,vs,r,_⟩:=q.itObj l;exact ZE r}}
 done:=by
  intro X t y G Q i j s σ H E I J st T;obtain⟨xs,L,M⟩:=T;obtain⟨c,Y,A⟩:=q.get t y G I L;obtain⟨⟨old,f⟩,l⟩:=st;have V:=q.ne l A;subst t y;obtain⟨f0,f1,f2,f3,f4,f5⟩:=J g (by simp);have hn:i=c.toArray.size:=by rw[M,Y.length];simp
  have Z:q.It s.heap g a c.toArray.size/\q.Ob s.heap a c.toArray:=⟨hn▸l,A⟩;exact wpAny_pyNext_enum_endD (q.draws X.A.in1 (I.ok.hd Q) g a V c.toArray) f Z λ h' N=>⟨rfl,I.turned (t':=s.toks) (λ b o d e=>N b o d e) f0 f1 f3 f4 f5⟩
 self:=λ _ _ _ _ _ st h=>let ⟨old,f⟩:=st.1;wpAny_pyIter_enum f h
theorem pq(q:SqKind P w K){O:Own}{H:Hp}{a:Addr}{ds:List D}(h:∀O' H',Conv O O' H H'->∃xs,q.Sq H' a xs/\Reps K O' H' xs ds):iI K (Ite q a) O H (ds.mapIdx λ i d=>.tup [.int i,d]):=by
 intro O' H' l t i;obtain⟨xs,f,r⟩:=h O' H' l;refine⟨λ d b=>?_,λ m=>⟨xs,f,by rw[m,r.length];simp⟩⟩;rw[List.getElem?_mapIdx]at b
 cases e:ds[i]? with
 | none=>rw[e]at b;cases b
 | some u=>rw[e]at b;cases b;obtain⟨v,j,s⟩:=r.get e;refine⟨⟨xs,v,f,j⟩,λ x k y=>?_⟩;obtain⟨p,y,c,rfl,rfl,n⟩:=y;have g:=n xs f;rw[j]at g;cases g;have o:¬O'.has p:=λ z=>t p z c;exact⟨cW.fresh c _,.tup ⟨o,aJ⟩ (.cons (.int _) (.cons (s.mono (Step.fresh c _)) .nil))⟩
section
variable {X : Cx} {Γ : Gam} {S : Store} {e : Expr} {pos : Pos}
theorem Eg{σ:St}{c:List Expr}{k:Nat}{g:Pos}{R:It->Hp->Prop}{E:%[|7]}{h':Heap}(q:SqKind X.prog X.w X.K){a:Addr}(I:%[|5])(e:IsEnum h' (s.heap.objs.size+1) s.heap.objs.size 0 .none)(hi:q.It h' s.heap.objs.size a 0)
 (f:∀b o,s.heap.get? b=some o->h'.get? b=some o)(r:R (Ite q a) H):wpAny %[|6] X.A (pyIter (.ref (s.heap.objs.size+1))) (PIE X pins σ (.Tuple c k g) R) E {s with heap:=h'}:=by refine wpAny_pyIter_enum e ?_;refine⟨s.heap.objs.size+1,[s.heap.objs.size+1,s.heap.objs.size],_,_,H,rfl,I.kept (t':=s.toks) f,JK q a (s.heap.objs.size+1) s.heap.objs.size (Nat.succ_ne_self _),⟨⟨_,e⟩,hi⟩,λ b d=>?_,r⟩;rcases ZJ.mp d with rfl | d;{exact I.fpOk (Nat.le_succ _) (I.hok.fresh (Nat.le_succ _))};{rw[ZL.mp d];exact I.fpOk (x6 _) (I.hok.fresh (x6 _))}
theorem Kp(l:Addr)(items:Array Value)(n:Nat)(b:Option Addr)(m:Array (Option Value)):
 Meets (Builtin.«enumerate.__new__» ⟨[.type "enumerate",.ref l],[]⟩) (λ _ R s=>s.heap.get? l=some {cls:=.type "tuple",dict:=b,data:=.seq items n,slots:=m}/\
  R (.ok (.ret (.ref (s.heap.push {cls:=.type "tuple_iterator",data:=.fields #[.ref l,.int 0 0]}).objs.size)))
    {s with heap:=(s.heap.push {cls:=.type "tuple_iterator",data:=.fields #[.ref l,.int 0 0]}).push {cls:=.type "enumerate",data:=.fields #[.none,.bool false,.ref s.heap.objs.size,rawInt 0,.none,.none]}}):=
 .of_wp λ i w A R s h=>by obtain⟨j,g,d,o,k⟩:=s;obtain⟨a,h⟩:=h;have f:=sub_enumerate;have e:Heap.IsTuple (Shared.heap ⟨j,g,d,o,k⟩) l items:=⟨_,a,rfl,n,rfl⟩;wp_walk using AutoSeq1.wpAny_loadPart' a;refine wpAny_stack_any λ p=>ZB ?_;split;{rename_i c _ _ _ _ _;cases (c==Value.type "enumerate")<;>(wp_walk using AutoSeq1.wpAny_loadPart' a,wpAny_pyIter_tuple e;exact⟨_,rfl,h⟩)};{wp_walk using AutoSeq1.wpAny_loadPart' a,wpAny_pyIter_tuple e;exact⟨_,rfl,h⟩}
end
end
end DL
namespace DL
open PySem PySem.Spec L2
open PyProof.Rows
structure Zd(z TI TO i1 i2:Addr)(f1 f2:List Addr):Prop where
 a:TI≠z
 b:TO≠z
 c:TI≠TO
 d:TI≠i1
 e:TI≠i2
 f:TO≠i1
 g:TO≠i2
 h:i1≠z
 i:i2≠z
 j:z∉f1
 k:z∉f2
 l:TO∉f1
 m:TO∉f2
 n:i1∉f2
 o:i2∉f1
section
variable {prog : Program} {w : World} {A : Around} {E : Value -> Shared -> Prop} {s : Shared} {z TI TO i1 i2 : Addr} {f1 f2 : List Addr} {n1 n2 k : Nat} {P1 P2 : Nat -> Value -> Prop} {T1 T2 : Nat -> Heap -> Prop} {va vb : Value}
theorem Uw{Q:%[|7]}(F:Draws prog w A i1 f1 n1 P1 T1)(G:Draws prog w A i2 f2 n2 P2 T2)(Z:Zd z TI TO i1 i2 f1 f2)(hz:IsZip s.heap z TI TO .none)(K:IsPair s.heap TI (.ref i1) (.ref i2))(L:IsPair s.heap TO va vb)(t1:T1 k s.heap)(t2:T2 k s.heap)(k1:k<n1)(k2:k<n2)
 (hQ:∀x y h' tk,P1 k x->P2 k y->IsZip h' z TI TO (rawInt s.heap.objs.size)->IsPair h' TO x y->T1 (k+1) h'->T2 (k+1) h'->IsPair h' s.heap.objs.size x y->
  (∀c o,c≠z->c≠TO->c≠i1->c≠i2->s.heap.get? c=some o->h'.get? c=some o)->Q (.ref s.heap.objs.size) {s with heap:=h',toks:=tk}):
 wpAny (model prog w) A (Builtin.«zip.__next__» ⟨[.ref z],[]⟩) (λ fin s'=>∃v,fin=.done (.ret v)/\Q v s') E s:=by
 obtain⟨V,g,d,aa,os⟩:=s;refine ZA (m:=field (.ref z) 2) (wpAny_field hz rfl (x:=.bool false) rfl (ZA (m:=field (.ref z) 3) (wpAny_field hz rfl (x:=.ref TI) rfl (ZA (wpAny_seqItems K rfl ?_)))));refine ZA (m:=Builtin.SmallTypes.ownedTupleIsFree (.ref z)) ?_;unfold Builtin.SmallTypes.ownedTupleIsFree;refine ZA (wpAny_field hz rfl (x:=.none) rfl (ZB ?_));simp only[if_true];refine ZA (wpAny_rule (ZA (wpAny_field hz rfl (x:=.ref TO) rfl (ZA (wpAny_setField_rec hz (by simp) λ S j s1=>?_)))));replace j:IsZip S z TI TO .ellipsis:=j;refine ZA ?_;simp only[List.zipIdx_cons,List.zipIdx_nil,List.forIn_cons,List.forIn_nil];refine ZA (ZA (wpAny_onRaise (ZA (m:=Builtin.SmallTypes.nextOf (.ref i1)) ?_)));refine F.item k _ _ _ k1 (F.frame _ _ _ t1 λ b a o e=>s1.extBut b o (λ q=>Z.j (q▸a)) e) λ x T ab p1 O s2=>ZB ?_;replace s2:Heap.SameBut i1 S T:=s2;have W:IsPair T TO va vb:=s2.extBut _ _ Z.f (s1.extBut _ _ Z.b L);refine ZA (wpAny_seqItems W rfl (ZA (wpAny_updateSeq_pair W λ J N s3=>ZA (wpAny_letGo (ZB ?_)))));replace N:IsPair J TO x vb:=N;refine ZA (ZA (wpAny_onRaise (ZA (m:=Builtin.SmallTypes.nextOf (.ref i2)) ?_)));have P:T2 k J:=G.frame _ _ _ t2 λ b a o e=>s3.extBut b o (λ q=>Z.m (q▸a)) (s2.extBut b o (λ q=>Z.n (q▸a)) (s1.extBut b o (λ q=>Z.k (q▸a)) e));refine G.item k _ _ _ k2 P λ y U R p2 t s4=>ZB ?_;replace s4:Heap.SameBut i2 J U:=s4;have X:IsPair U TO x vb:=s4.extBut _ _ Z.g N;refine ZA (wpAny_seqItems X rfl (ZA (wpAny_updateSeq_pair X λ f C s5=>ZA (wpAny_letGo (ZB (ZB ?_))))));replace C:IsPair f TO x y:=C;refine ZA (wpAny_seqItems C rfl (ZA (wpAny_newTuple ?_)));have sz:f.objs.size=V.objs.size:=by rw[s5.1,s4.1,s3.1,s2.1,s1.1]
 have p:IsZip f z TI TO .ellipsis:=s5.extBut _ _ Z.b.symm (s4.extBut _ _ Z.i.symm (s3.extBut _ _ Z.b.symm (s2.extBut _ _ Z.h.symm j)));have k5:∀c o,c≠z->c≠TO->c≠i1->c≠i2->V.get? c=some o->f.get? c=some o:=λ c o i B H I q=>s5.extBut _ _ B (s4.extBut _ _ I (s3.extBut _ _ B (s2.extBut _ _ H (s1.extBut _ _ i q))));have u:z<f.objs.size:=ZE p;refine ZA (m:=Builtin.SmallTypes.ownedTupleHandOut (.ref z) (.ref f.objs.size)) ?_;unfold Builtin.SmallTypes.ownedTupleHandOut;have M:IsZip (f.push {cls:=.type "tuple",data:=.seq #[x,y]}) z TI TO .ellipsis:=ZC _ p;refine ZA (wpAny_setField_rec M (by simp) λ h7 l s7=>?_);replace l:IsZip h7 z TI TO (rawInt f.objs.size):=l;refine wpAny_setField_rec l (by simp) λ n h s8=>?_;replace h:IsZip n z TI TO (rawInt f.objs.size):=h;have D:∀c o,c≠z->f.get? c=some o->n.get? c=some o:=λ c o i q=>s8.extBut _ _ i (s7.extBut _ _ i (ZC _ q));have Y:IsPair n f.objs.size x y:=s8.extBut _ _ (Nat.ne_of_gt u) (s7.extBut _ _ (Nat.ne_of_gt u) (ZD _ rfl));rw[sz]at h Y;refine ZB ⟨_,rfl,?_⟩;show Q (.ref f.objs.size) _;rw[sz];have u1:T1 (k+1) n:=F.frame _ _ _ O λ b a o q=>D b o (λ r=>Z.j (r▸a)) (s5.extBut b o (λ r=>Z.l (r▸a)) (s4.extBut b o (λ r=>Z.o (r▸a)) (s3.extBut b o (λ r=>Z.l (r▸a)) q)));have u2:T2 (k+1) n:=G.frame _ _ _ t λ b a o q=>D b o (λ r=>Z.k (r▸a)) (s5.extBut b o (λ r=>Z.m (r▸a)) q);exact hQ x y n R p1 p2 h (D _ _ Z.b C) u1 u2 Y λ c o i B H I q=>D c o i (k5 c o i B H I q)
theorem KZ{Q:PySem.Fin->%[|8]}(F:Draws prog w A i1 f1 n1 P1 T1)(M:Draws prog w A i2 f2 n2 P2 T2)(Z:Zd z TI TO i1 i2 f1 f2)(hz:IsZip s.heap z TI TO .none)(I:IsPair s.heap TI (.ref i1) (.ref i2))(J:IsPair s.heap TO va vb)(X:T1 k s.heap)(Y:T2 k s.heap)(V:k=n1∨(k<n1/\k=n2))
 (O:∀h' tk e,(∀c o,c≠z->c≠TO->c≠i1->c≠i2->s.heap.get? c=some o->h'.get? c=some o)->(∃o,h'.get? e=some o/\o.cls=.type "StopIteration")->E (.ref e) {s with heap:=h',toks:=tk}):
 wpAny (model prog w) A (Builtin.«zip.__next__» ⟨[.ref z],[]⟩) Q E s:=by
 obtain⟨hp,g,d,aa,os⟩:=s;refine ZA (m:=field (.ref z) 2) (wpAny_field hz rfl (x:=.bool false) rfl (ZA (m:=field (.ref z) 3) (wpAny_field hz rfl (x:=.ref TI) rfl (ZA (wpAny_seqItems I rfl ?_)))));refine ZA (m:=Builtin.SmallTypes.ownedTupleIsFree (.ref z)) ?_;unfold Builtin.SmallTypes.ownedTupleIsFree;refine ZA (wpAny_field hz rfl (x:=.none) rfl (ZB ?_));simp only[if_true];refine ZA (wpAny_rule (ZA (wpAny_field hz rfl (x:=.ref TO) rfl (ZA (wpAny_setField_rec hz (by simp) λ B f v=>?_)))));replace f:IsZip B z TI TO .ellipsis:=f;refine ZA ?_;simp only[List.zipIdx_cons,List.zipIdx_nil,List.forIn_cons,List.forIn_nil];refine ZA (ZA (wpAny_onRaise (ZA (m:=Builtin.SmallTypes.nextOf (.ref i1)) ?_)));have y:T1 k B:=F.frame _ _ _ X λ b r o e=>v.extBut b o (λ q=>Z.j (q▸r)) e;rcases V with rfl | ⟨W,rfl⟩
 . refine F.done _ _ _ y λ p e a i=>?_;obtain⟨K,h,n⟩:=i;replace a:Heap.ExtBut i1 B p:=a;have t:IsZip p z TI TO .ellipsis:=a _ _ Z.h.symm f;have H:e≠z:=λ q=>by subst q;rw[t]at h;cases h;simp at n
   exact wpAny_setField_rec t (by simp) λ C _ j=>O C _ e (λ c o l _ G _ q=>j.extBut _ _ l (a _ _ G (v.extBut _ _ l q))) ⟨K,j.extBut _ _ H h,n⟩
 . refine F.item k _ _ _ W y λ x p ab p1 _ a=>ZB ?_;replace a:Heap.SameBut i1 B p:=a;have P:IsPair p TO va vb:=a.extBut _ _ Z.f (v.extBut _ _ Z.b J);refine ZA (wpAny_seqItems P rfl (ZA (wpAny_updateSeq_pair P λ C o3 j=>ZA (wpAny_letGo (ZB ?_)))));refine ZA (ZA (wpAny_onRaise (ZA (m:=Builtin.SmallTypes.nextOf (.ref i2)) ?_)));have L:T2 k C:=M.frame _ _ _ Y λ b r o e=>j.extBut b o (λ q=>Z.m (q▸r)) (a.extBut b o (λ q=>Z.n (q▸r)) (v.extBut b o (λ q=>Z.k (q▸r)) e));refine M.done _ _ _ L λ N e D i=>?_;obtain⟨K,h,n⟩:=i;replace D:Heap.ExtBut i2 C N:=D;have u:IsZip N z TI TO .ellipsis:=D _ _ Z.i.symm (j.extBut _ _ Z.b.symm (a.extBut _ _ Z.h.symm f));have H:e≠z:=λ q=>by subst q;rw[u]at h;cases h;simp at n
   exact wpAny_setField_rec u (by simp) λ U _ R=>O U _ e (λ c o l S G T q=>R.extBut _ _ l (D _ _ T (j.extBut _ _ S (a.extBut _ _ G (v.extBut _ _ l q))))) ⟨K,R.extBut _ _ H h,n⟩
end
section
variable {P : Program} {w : World} {K : PySem.W.Frag}
def Itz(q r:SqKind P w K)(a b:Addr):It:=
 ⟨λ i H=>∃c d x y,q.Sq H a c/\r.Sq H b d/\c[i]? =some x/\d[i]? =some y,
  λ i H v e=>∃p x y,H p=none/\e=upd H p (.tup [x,y])/\v=.ref p/\(∀c,q.Sq H a c->c[i]? =some x)/\∀d,r.Sq H b d->d[i]? =some y,
  λ i H=>∃c d,q.Sq H a c/\r.Sq H b d/\i=min c.length d.length⟩
structure Zr(z TI TO i1 i2:Addr):Prop where
 a:TI≠z
 b:TO≠z
 c:TI≠TO
 d:TI≠i1
 e:TI≠i2
 f:TO≠i1
 g:TO≠i2
 h:i1≠z
 i:i2≠z
 j:i1≠i2
theorem Zr.zd(q r:SqKind P w K){X:Cx}{pins:Pins}{σ:St}{H:Hp}{s:Shared}{z g d e f a b:Addr}{xs ys:List V}(Z:Zr z g d e f)(k:X.K=K)(I:%[|5])(l:∀c∈[z,g,d,e,f],fB X pins H c)(m:q.Sq H a xs)(n:r.Sq H b ys):Zd z g d e f [e,a] [f,b]:=by have h:∀c∈[z,g,d,e,f],c≠a:=λ c j=>(q.far k I m (l c j)).symm;have i:∀c∈[z,g,d,e,f],c≠b:=λ c j=>(r.far k I n (l c j)).symm;refine⟨Z.a,Z.b,Z.c,Z.d,Z.e,Z.f,Z.g,Z.h,Z.i,?_,?_,?_,?_,?_,?_⟩;{simp[Z.h.symm,h z (by simp)]};{simp[Z.i.symm,i z (by simp)]};{simp[Z.f,h d (by simp)]};{simp[Z.g,i d (by simp)]};{simp[Z.j,i e (by simp)]};{simp[Z.j.symm,h f (by simp)]}
theorem Ny(q r:SqKind P w K){ab:List Expr}{k:Nat}{pos:Pos}(a b z L N m n:Addr)(Z:Zr z L N m n):Turn P w K (.Tuple ab k pos) (Itz q r a b) [z,L,N,m,n] z
 (λ i h=>IsZip h z L N .none/\IsPair h L (.ref m) (.ref n)/\(∃va vb,IsPair h N va vb)/\q.It h m a i/\r.It h n b i) where
 mem:=by simp
 obj:=λ i h st c M=>by obtain⟨C,f,⟨va,vb,g⟩,A,B⟩:=st;obtain⟨o,vs,h1,U⟩:=q.itObj A;obtain⟨o',am,O,af⟩:=r.itObj B;simp only[List.mem_cons,List.not_mem_nil,or_false]at M;rcases M with rfl | rfl | rfl | rfl | rfl;{exact⟨_,C,λ v z=>nomatch z⟩};{exact⟨_,f,λ v z=>nomatch z⟩};{exact⟨_,g,λ v z=>nomatch z⟩};{exact⟨o,h1,λ v z=>by rw[U]at z;cases z⟩};{exact⟨o',O,λ v z=>by rw[af]at z;cases z⟩}
 keep:=λ i h h' st k=>by obtain⟨C,f,⟨va,vb,g⟩,A,B⟩:=st;exact⟨k z (by simp) _ C,k L (by simp) _ f,⟨va,vb,k N (by simp) _ g⟩,q.itAt A λ o e=>k m (by simp) o e,r.itAt B λ o e=>k n (by simp) o e⟩
 item:=by
  intro X G J D M i t s σ H E I V st hg;obtain⟨xs,ys,x,y,W,Y,hx,hy⟩:=hg;obtain⟨j,rv,ob⟩:=q.get G J D I W;obtain⟨d,R,p⟩:=r.get G J D I Y;obtain⟨u,hu,ru⟩:=rv.get hx;obtain⟨u2,ae,al⟩:=R.get hy;obtain⟨C,f,⟨va,vb,g⟩,A,B⟩:=st;have ux:∀S,q.Sq H a S->S[i]? =some x:=λ S h=>by rw[q.inj G J D I h W];exact hx
  have uy:∀S,r.Sq H b S->S[i]? =some y:=λ S h=>by rw[r.inj G J D I h Y];exact hy
  have Z2:=Z.zd q r D I V W Y;have l1:i<j.toArray.size:=by simpa using(z0.mp hu).1
  have l2:i<d.toArray.size:=by simpa using(z0.mp ae).1
  subst G J;have hT:s.TypeIs (.ref z) "zip":=⟨_,C,rfl⟩;unfold pyNext;refine ZA (wpAny_attempt (wpAny_callSpecial?_slot (name:=Str.ofString "__next__") hT F.slot_zip_next (ZP F.slot_zip_next hT F.entry_zip_next ?_ (F.args_zip_next_1 _))));refine Uw (q.draws X.A.in1 (I.ok.hd M) m a (q.ne A ob) j.toArray) (r.draws X.A.in1 (I.ok.hd M) n b (r.ne B p) d.toArray) Z2 C f g ⟨A,ob⟩ ⟨B,p⟩ l1 l2 λ x' y' h' tk px py aj ad t1 t2 ah kp=>ZB ?_;have ex:x'=u:=by
   have e1:j.toArray[i]? =some u:=by simpa using hu
   rw[e1]at px;exact(Option.some.inj px).symm
  have ey:y'=u2:=by
   have e1:d.toArray[i]? =some u2:=by simpa using ae
   rw[e1]at py;exact(Option.some.inj py).symm
  subst ex;subst ey;refine⟨_,rfl,wpAny_letOwnedTupleGo_zip aj λ U ak sb=>?_⟩;have I1:Inv X t σ H {s with heap:=U,toks:=tk}:=nM (ch:=[z,L,N,m,n]) I V λ c o l Q=>(sb.2 c (λ z=>l (by simp[z]))).trans (kp c o (λ z=>l (by simp[z])) (λ z=>l (by simp[z])) (λ z=>l (by simp[z])) (λ z=>l (by simp[z])) Q);have hp:H s.heap.objs.size=none:=I.hok.fresh (x6 _);have aa:z<s.heap.objs.size:=ZE C;have ag:U.get? s.heap.objs.size=some {cls:=.type "tuple",data:=.seq #[x',y']}:=(sb.2 _ (Nat.ne_of_gt aa)).trans ah;have I2:Inv X t σ (upd H s.heap.objs.size (.tup [x,y])) {s with heap:=U,toks:=tk}:=pJ I I1 (x6 _) ⟨by show 2≤sizeLine;decide,[x',y'],.cons ru (.cons al .nil),_,ag,rfl,_,rfl⟩;have ac:IsPair U L (.ref m) (.ref n):=(sb.2 _ Z.a).trans (kp _ _ Z.a Z.c Z.d Z.e f);refine⟨.ref s.heap.objs.size,_,I2,rfl,⟨_,x,y,hp,rfl,rfl,ux,uy⟩,⟨ak,ac,⟨_,_,(sb.2 _ Z.b).trans ad⟩,q.itAt t1.1 λ o Q=>(sb.2 m Z.h).trans Q,r.itAt t2.1 λ o Q=>(sb.2 n Z.i).trans Q⟩,λ c l=>?_⟩;rw[ao (ZN ?_)];{exact(V c l).1};{obtain⟨o,vs,h1,_⟩:=q.itObj A;obtain⟨o',am,O,_⟩:=r.itObj B;simp only[List.mem_cons,List.not_mem_nil,or_false]at l;rcases l with rfl | rfl | rfl | rfl | rfl;{exact aa};{exact ZE f};{exact ZE g};{exact ZE h1};{exact ZE O}}
 done:=by
  intro X G J D M i t s σ H E I V st hg;obtain⟨xs,ys,W,Y,hn⟩:=hg;obtain⟨j,rv,ob⟩:=q.get G J D I W;obtain⟨d,R,p⟩:=r.get G J D I Y;obtain⟨C,f,⟨va,vb,g⟩,A,B⟩:=st;have Z2:=Z.zd q r D I V W Y;subst G J;have hT:s.TypeIs (.ref z) "zip":=⟨_,C,rfl⟩;have hk:i=j.toArray.size∨(i<j.toArray.size/\i=d.toArray.size):=by have e1:=rv.length;have e2:=R.length;simp only[x9];omega
  unfold pyNext;refine ZA (wpAny_attempt (wpAny_callSpecial?_slot (name:=Str.ofString "__next__") hT F.slot_zip_next (ZP F.slot_zip_next hT F.entry_zip_next ?_ (F.args_zip_next_1 _))));refine KZ (q.draws X.A.in1 (I.ok.hd M) m a (q.ne A ob) j.toArray) (r.draws X.A.in1 (I.ok.hd M) n b (r.ne B p) d.toArray) Z2 C f g ⟨A,ob⟩ ⟨B,p⟩ hk λ h' tk e kp ai=>?_;obtain⟨o,he,ce⟩:=ai;refine ZA (wpAny_isInstance (T:="StopIteration") (b:=true) ⟨o,he,ce⟩ isSubtype_stop (ZB ⟨rfl,?_⟩));exact nM (ch:=[z,L,N,m,n]) I V λ c o l Q=>kp c o (λ z=>l (by simp[z])) (λ z=>l (by simp[z])) (λ z=>l (by simp[z])) (λ z=>l (by simp[z])) Q
 self:=λ _ _ _ _ _ st h=>wpAny_pyIter_zip st.1 h
theorem rR(q r:SqKind P w K){O:Own}{H:Hp}{a b:Addr}{ds es:List D}(h:∀O' H',Conv O O' H H'->∃xs ys,q.Sq H' a xs/\Reps K O' H' xs ds/\r.Sq H' b ys/\Reps K O' H' ys es):iI K (Itz q r a b) O H (List.zipWith (λ x y=>.tup [x,y]) ds es):=by
 intro O' H' B I i;obtain⟨xs,ys,l,u,m,v⟩:=h O' H' B;refine⟨λ d c=>?_,λ C=>⟨xs,ys,l,m,by rw[C,u.length,v.length,List.length_zipWith]⟩⟩;rw[List.getElem?_zipWith]at c
 cases g:ds[i]? with
 | none=>rw[g]at c;cases c
 | some M=>
   cases k:es[i]? with
   | none=>rw[g,k]at c;cases c
   | some N=>rw[g,k]at c;cases c;obtain⟨J,e,n⟩:=u.get g;obtain⟨L,f,o⟩:=v.get k;refine⟨⟨xs,ys,J,L,l,m,e,f⟩,λ x A y=>?_⟩;obtain⟨p,Q,R,j,rfl,rfl,E,F⟩:=y;have s:=E xs l;have t:=F ys m;rw[e]at s;rw[f]at t;cases s;cases t;have G:¬O'.has p:=λ z=>I p z j;exact⟨cW.fresh j _,.tup ⟨G,aJ⟩ (.cons (n.mono (Step.fresh j _)) (.cons (o.mono (Step.fresh j _)) .nil))⟩
abbrev zh(h:Heap)(c1 c2:String)(l1 l2:Addr):Heap:=
 ((((h.push {cls:=.type c1,data:=.fields #[.ref l1,.int 0 0]}).push {cls:=.type c2,data:=.fields #[.ref l2,.int 0 0]}).push {cls:=.type "tuple",data:=.seq #[.ref h.objs.size,.ref (h.push {cls:=.type c1,data:=.fields #[.ref l1,.int 0 0]}).objs.size]}).push {cls:=.type "tuple",data:=.seq #[.none,.none]})
abbrev zhz(h:Heap)(c1 c2:String)(l1 l2:Addr):Heap:=
 (zh h c1 c2 l1 l2).push {cls:=.type "zip",data:=.fields #[.none,.bool false,.bool false,.ref ((h.push {cls:=.type c1,data:=.fields #[.ref l1,.int 0 0]}).push {cls:=.type c2,data:=.fields #[.ref l2,.int 0 0]}).objs.size,
  .ref (((h.push {cls:=.type c1,data:=.fields #[.ref l1,.int 0 0]}).push {cls:=.type c2,data:=.fields #[.ref l2,.int 0 0]}).push {cls:=.type "tuple",data:=.seq #[.ref h.objs.size,.ref (h.push {cls:=.type c1,data:=.fields #[.ref l1,.int 0 0]}).objs.size]}).objs.size]}
theorem JH(a b:Addr)(xs ys:Array Value):
 Meets (Builtin.«zip.__new__» ⟨[.type "zip",.ref a,.ref b],[]⟩) (λ _ R s=>s.heap.IsTuple a xs/\s.heap.IsTuple b ys/\
  R (.ok (.ret (.ref (zh s.heap "tuple_iterator" "tuple_iterator" a b).objs.size))) {s with heap:=zhz s.heap "tuple_iterator" "tuple_iterator" a b}):=
 .of_wp λ i w A R s h=>by obtain⟨c,g,d,j,f⟩:=s;obtain⟨k,l,h⟩:=h;have e:=sub_zip;have m:Heap.IsTuple (Shared.heap ⟨c,g,d,j,f⟩) a xs:=k;have n:Heap.IsTuple (Shared.heap ⟨c.push {cls:=.type "tuple_iterator",data:=.fields #[.ref a,.int 0 0]},g,d,j,f⟩) b ys:=Heap.IsTuple.push l _;wp_walk using wpAny_pyIter_tuple m,wpAny_pyIter_tuple n;exact⟨_,rfl,h⟩
end
section
variable {X : Cx} {Γ : Gam} {S : Store} {pos : Pos}
theorem zip_parts(h:Heap)(a d:String)(c f:Addr):(zh h a d c f).objs.size=h.objs.size+4/\IsZip (zhz h a d c f) (h.objs.size+4) (h.objs.size+2) (h.objs.size+3) .none/\IsPair (zhz h a d c f) (h.objs.size+2) (.ref h.objs.size) (.ref (h.objs.size+1))/\IsPair (zhz h a d c f) (h.objs.size+3) .none .none/\
 (zhz h a d c f).get? h.objs.size=some {cls:=.type a,data:=.fields #[.ref c,.int 0 0]}/\(zhz h a d c f).get? (h.objs.size+1)=some {cls:=.type d,data:=.fields #[.ref f,.int 0 0]}/\∀b o,h.get? b=some o->(zhz h a d c f).get? b=some o:=by
 have j:(h.push {cls:=.type a,data:=.fields #[.ref c,.int 0 0]}).objs.size=h.objs.size+1:=Heap.size_push ..;have g:((h.push {cls:=.type a,data:=.fields #[.ref c,.int 0 0]}).push {cls:=.type d,data:=.fields #[.ref f,.int 0 0]}).objs.size=h.objs.size+2:=by rw[Heap.size_push,j]
 have i:(((h.push {cls:=.type a,data:=.fields #[.ref c,.int 0 0]}).push {cls:=.type d,data:=.fields #[.ref f,.int 0 0]}).push {cls:=.type "tuple",data:=.seq #[.ref h.objs.size,.ref (h.push {cls:=.type a,data:=.fields #[.ref c,.int 0 0]}).objs.size]}).objs.size=h.objs.size+3:=by rw[Heap.size_push,g]
 have p:(zh h a d c f).objs.size=h.objs.size+4:=by rw[Heap.size_push,i]
 have n:=ZD (zh h a d c f) (o:={cls:=.type "zip",data:=.fields #[.none,.bool false,.bool false,.ref ((h.push {cls:=.type a,data:=.fields #[.ref c,.int 0 0]}).push {cls:=.type d,data:=.fields #[.ref f,.int 0 0]}).objs.size,
  .ref (((h.push {cls:=.type a,data:=.fields #[.ref c,.int 0 0]}).push {cls:=.type d,data:=.fields #[.ref f,.int 0 0]}).push {cls:=.type "tuple",data:=.seq #[.ref h.objs.size,.ref (h.push {cls:=.type a,data:=.fields #[.ref c,.int 0 0]}).objs.size]}).objs.size]}) rfl;have m:(zhz h a d c f).get? (((h.push {cls:=.type a,data:=.fields #[.ref c,.int 0 0]}).push {cls:=.type d,data:=.fields #[.ref f,.int 0 0]}).push {cls:=.type "tuple",data:=.seq #[.ref h.objs.size,.ref (h.push {cls:=.type a,data:=.fields #[.ref c,.int 0 0]}).objs.size]}).objs.size=some {cls:=.type "tuple",data:=.seq #[.none,.none]}:=ZC _ (ZD _ rfl);have l:(zhz h a d c f).get? ((h.push {cls:=.type a,data:=.fields #[.ref c,.int 0 0]}).push {cls:=.type d,data:=.fields #[.ref f,.int 0 0]}).objs.size=some {cls:=.type "tuple",data:=.seq #[.ref h.objs.size,.ref (h.push {cls:=.type a,data:=.fields #[.ref c,.int 0 0]}).objs.size]}:=ZC _ (ZC _ (ZD _ rfl));have k:(zhz h a d c f).get? (h.push {cls:=.type a,data:=.fields #[.ref c,.int 0 0]}).objs.size=some {cls:=.type d,data:=.fields #[.ref f,.int 0 0]}:=ZC _ (ZC _ (ZC _ (ZD _ rfl)));have q:(zhz h a d c f).get? h.objs.size=some {cls:=.type a,data:=.fields #[.ref c,.int 0 0]}:=ZC _ (ZC _ (ZC _ (ZC _ (ZD _ rfl))));rw[g,i,p]at n;rw[i]at m;rw[j,g]at l;rw[j]at k;refine⟨p,?_,l,m,q,k,λ b o e=>ZC _ (ZC _ (ZC _ (ZC _ (ZC _ e))))⟩;show(zhz h a d c f).get? _=_;unfold zhz;rw[g,i];exact n
theorem Jp{pins:Pins}{σ:St}{H:Hp}{s:Shared}{d:List Expr}{k:Nat}{p:Pos}{R:It->Hp->Prop}{E:%[|7]}{f g:String}{a c:Addr}(q r:SqKind X.prog X.w X.K)(I:%[|5])
 (hi:q.It (zhz s.heap f g a c) s.heap.objs.size a 0)(j:r.It (zhz s.heap f g a c) (s.heap.objs.size+1) c 0)(o:R (Itz q r a c) H):
 wpAny %[|6] X.A (pyIter (.ref (s.heap.objs.size+4))) (PIE X pins σ (.Tuple d k p) R) E {s with heap:=zhz s.heap f g a c}:=by
 obtain⟨_,i,m,n,_,_,l⟩:=zip_parts s.heap f g a c;refine wpAny_pyIter_zip i ?_;refine⟨s.heap.objs.size+4,[s.heap.objs.size+4,s.heap.objs.size+2,s.heap.objs.size+3,s.heap.objs.size,s.heap.objs.size+1],_,_,H,rfl,I.kept (t':=s.toks) l,Ny q r a c (s.heap.objs.size+4) (s.heap.objs.size+2) (s.heap.objs.size+3) s.heap.objs.size (s.heap.objs.size+1) ?_,⟨i,m,⟨_,_,n⟩,hi,j⟩,λ b h=>?_,o⟩;{constructor<;>exact λ z=>by have t:(_:Nat)=_:=z;omega}
 . have e:s.heap.objs.size≤b:=by simp only[List.mem_cons,List.not_mem_nil,or_false]at h;rcases h with rfl | rfl | rfl | rfl | rfl;{exact Nat.le_add_right _ _};{exact Nat.le_add_right _ _};{exact Nat.le_add_right _ _};{exact x6 _};{exact Nat.le_add_right _ _}
   exact I.fpOk e (I.hok.fresh e)
theorem NB{e c:Expr}{f:List Expr}{k:Nat}{tp p:Pos}{W:List D->%[|4]}(h:Ev X Γ S e λ d S1=>Ev X Γ S1 c λ d' S2=>∃ds es,d=.tup ds/\d'=.tup es/\W (List.zipWith (λ x y=>.tup [x,y]) ds es) S2)(Q:X.mg "zip"=none)(P:Gl X "zip":=by rfl)
 (K:starEach [e,c] X.env=(false,eval e X.env)::starEach [c] X.env:=by rfl)(g:starEach [c] X.env=[(false,eval c X.env)]:=by rfl):
 ItW X Γ S (.Tuple f k tp) (.Call (.Name "zip" p) [e,c] [] pos) W:=by
 intro j s σ H O I o st;have N:EvA X Γ S [e,c] λ G S2=>∃ds es,G=[.tup ds,.tup es]/\W (List.zipWith (λ x y=>.tup [x,y]) ds es) S2:=
  cB (h.mono λ d S1 m=>cB (m.mono λ d' S2 ⟨ds,es,a,b,w⟩=>gM ⟨ds,es,by rw[a,b],w⟩) g) K;refine Call_ (cI I P Q boot_zip (PyProof.Rows.callWith_type1 (thn (N pos j s σ H O I o st) λ us s1 q=>?_) K (by rw[g];rfl)));obtain⟨vs,H1,n,r1,L,G,S1,⟨ds,es,M,w⟩,E,v,B⟩:=q;subst M;cases B with| cons ra A=>cases A with| cons A rc=>cases rc;obtain⟨u,u2,rfl,ru,C⟩:=vals2 r1;cases ra with| @tup a xs _ m Z=>cases A with| @tup b ys _ J q2=>cases ru;cases C;obtain⟨r,rv,Y,hz⟩:=n.tuple m.sq;obtain⟨i,aa,z,R⟩:=n.tuple J.sq;obtain⟨z4,T,p2,p3,U,V,kp⟩:=zip_parts s1.heap "tuple_iterator" "tuple_iterator" a b;refine callType_new F.called_zip %[|3] (F.typeCall_zip_2 _ _) (F.newCall_zip_2 _ _) (λ t=>F.args_object_init_3 t _ _) F.entry_zip_new (JH a b r.toArray i.toArray) ⟨Y,z,?_⟩;show _/\_;rw[z4];refine⟨⟨_,T,rfl⟩,Jp (Hg X.prog X.w X.K) (Hg X.prog X.w X.K) n ⟨_,U,rfl,rfl⟩ ⟨_,V,rfl,rfl⟩ ⟨L,_,S1,w,E,v,rR _ _ λ O' H' l=>⟨xs,ys,(m.conv l).sq,Z.conv l,(J.conv l).sq,q2.conv l⟩⟩⟩
end
section
variable {X : Cx} {Γ : Gam} {S : Store} {e : Expr}
theorem Wz{W:Option Int->%[|4]}(h:Ev X Γ S e λ d S1=>∃i,d=.int i/\W (some i) S1):PoD X Γ S (some e) W:=h
theorem WT{W:Option Int->%[|4]}(h:W none S):PoD X Γ S none W:=h
theorem V0{c:Expr}{W:Bool->%[|4]}(h:Ts X Γ S c W):TsA X Γ S [c] W:=h
end
theorem aA{a:Type}{xs:List a}{i:Nat}{x:a}(h:xs[i]? =some x):xs.take (i+1)=xs.take i++[x]:=by rw[List.take_add_one,h];rfl
theorem Ad(d:D)(ds:List D):cutD (d::ds) (some 1) none=ds:=by
 unfold cutD;have a:HT.sIx (d::ds).length 0 (some 1)=1:=by have:=HT.sIx_nat (d::ds).length 0 1;simp only[List.length_cons]at this ⊢;have b:((1:Nat):Int)=1:=rfl;rw[b]at this;rw[this];omega
 rw[a,HT.sIx_none];simp
theorem iD{c:Type}{ds:List c}{v:Int}(b:0≤v)(h1:v<ds.length):∃x,atI ds v=some x/\ds[v.toNat]? =some x:=by
 have a:v.toNat<ds.length:=%[|0]
 refine⟨ds[v.toNat],?_,y4 a⟩;have q:=cL (xs:=ds) (j:=v.toNat) (y4 a);rwa[Int.toNat_of_nonneg b]at q
theorem Be{a:Type}(x:a)(xs:List a):atI (x::xs) 0=some x:=cL (xs:=x::xs) (j:=0) rfl
theorem set_get{S:Store}{k:Nat}{l l':List D}(h:S[k]? =some l):(S.set k l')[k]? =some l':=List.getElem?_set_self (z0.mp h).1
end DL
namespace RF
open PySem PySem.Spec L2 DL
open PyProof.Rows
open Builtin
theorem pZ:fillsNumberSlot (.type "tuple") "mul"=pure false:=
 PySem.fillsNumberSlot_seq (id:="tuple.__mul__") (r:=some (.builtin "tuple.__rmul__")) F.slot_tuple_mul.lookup (by decide+kernel) F.slot_tuple_rmul.lookup (by decide+kernel)
theorem yJ:seqRepeat? (.type "tuple")=pure (some (.builtin "tuple.__mul__")):=by unfold seqRepeat?;rw[PySem.seqSlot_of (T:="tuple") (name:="__mul__") (id:="tuple.__mul__") F.slot_tuple_mul.lookup (by decide+kernel),PySem.seqSlot_of (T:="tuple") (name:="__rmul__") (id:="tuple.__rmul__") F.slot_tuple_rmul.lookup (by decide+kernel)];rfl
theorem uM(a:Int)(t:Tok)(l:Addr)(items:Array Value)(n:Nat)(b:Option Addr)(e:Array (Option Value)):
 Meets (Builtin.«int.__rmul__» ⟨[.int a t,.ref l],[]⟩) (λ _ R s=>s.heap.get? l=some {cls:=.type "tuple",dict:=b,data:=.seq items n,slots:=e}/\R (.ok (.ret Value.notImplemented)) s):=
 .of_wp λ c w A R s h=>by obtain⟨i,g,d,k,j⟩:=s;obtain⟨f,h⟩:=h;wp_walk;exact⟨_,rfl,h⟩
theorem ul(l:Addr)(items:Array Value)(n:Nat)(a:Option Addr)(f:Array (Option Value))(x:Int)(u:Tok)(h1:¬(decide (x< -(2 ^ 63))||decide (x≥2 ^ 63))=true)(e:(items.isEmpty||x==1)=true):
 Meets (Builtin.«tuple.__mul__» ⟨[.ref l,.int x u],[]⟩) (λ _ R s=>s.heap.get? l=some {cls:=.type "tuple",dict:=a,data:=.seq items n,slots:=f}/\R (.ok (.ret (.ref l))) s):=
 .of_wp λ c w A R s h=>by
  obtain⟨i,g,d,k,j⟩:=s;obtain⟨b,h⟩:=h;unfold Builtin.«tuple.__mul__»;wp_walk;rw[if_neg h1];wp_walk using AutoSeq1.wpAny_loadPart' b;try rw[if_pos e]
  wp_walk using AutoSeq1.wpAny_loadPart' b;exact⟨_,rfl,h⟩
theorem tK(l:Addr)(items:Array Value)(n:Nat)(a:Option Addr)(f:Array (Option Value))(x:Int)(u:Tok)(h1:¬(decide (x< -(2 ^ 63))||decide (x≥2 ^ 63))=true)(e:¬(items.isEmpty||x==1)=true)(h2:(decide (x≤0)||items.isEmpty)=true):
 Meets (Builtin.«tuple.__mul__» ⟨[.ref l,.int x u],[]⟩) (λ _ R s=>s.heap.get? l=some {cls:=.type "tuple",dict:=a,data:=.seq items n,slots:=f}/\R (.ok (.ret (.ref s.heap.objs.size))) {s with heap:=s.heap.push {cls:=.type "tuple",data:=.seq #[]}}):=
 .of_wp λ c w A R s h=>by
  obtain⟨i,g,d,k,j⟩:=s;obtain⟨b,h⟩:=h;unfold Builtin.«tuple.__mul__»;wp_walk;rw[if_neg h1];wp_walk using AutoSeq1.wpAny_loadPart' b;try rw[if_neg e]
  wp_walk using AutoSeq1.wpAny_loadPart' b;try rw[if_pos h2]
  wp_walk using AutoSeq1.wpAny_loadPart' b;exact⟨_,rfl,h⟩
theorem um(l:Addr)(items:Array Value)(n:Nat)(b:Option Addr)(j:Array (Option Value))(x:Int)(u:Tok)(h1:¬(decide (x< -(2 ^ 63))||decide (x≥2 ^ 63))=true)(i:¬(items.isEmpty||x==1)=true)(h2:¬(decide (x≤0)||items.isEmpty)=true)
 (e:¬((items.size:Int)*x>(2 ^ 63-1)/8))(f:¬Builtin.Tuple.tupleTooMany ((items.size:Int)*x)=true)(k:((List.replicate x.toNat items).foldl (· ++·) #[]).size≤sizeLine):
 Meets (Builtin.«tuple.__mul__» ⟨[.ref l,.int x u],[]⟩) (λ _ R s=>s.heap.get? l=some {cls:=.type "tuple",dict:=b,data:=.seq items n,slots:=j}/\R (.ok (.ret (.ref s.heap.objs.size))) {s with heap:=s.heap.push {cls:=.type "tuple",data:=.seq ((List.replicate x.toNat items).foldl (· ++·) #[])}}):=
 .of_wp λ c w A R s h=>by
  obtain⟨m,g,d,p,o⟩:=s;obtain⟨a,h⟩:=h;unfold Builtin.«tuple.__mul__»;wp_walk;rw[if_neg h1];wp_walk using AutoSeq1.wpAny_loadPart' a;try rw[if_neg i]
  wp_walk using AutoSeq1.wpAny_loadPart' a;try rw[if_neg h2]
  wp_walk using AutoSeq1.wpAny_loadPart' a;try rw[if_neg e]
  wp_walk using AutoSeq1.wpAny_loadPart' a;try rw[if_neg f]
  wp_walk using AutoSeq1.wpAny_loadPart' a;exact⟨_,rfl,h⟩
theorem Reps.rep{K:PySem.W.Frag}{O:Own}{H:Hp}{a:List V}{ds:List D}(r:Reps K O H a ds):∀k:Nat,Reps K O H (List.replicate k a).flatten (List.replicate k ds).flatten
 | 0=>.nil
 | k+1=>by rw[List.replicate_succ,List.replicate_succ,List.flatten_cons,List.flatten_cons];exact r.append (Reps.rep r k)
theorem Rm{X:Cx}{S:Store}{W:WD}{ds:List D}{k:Int}(hk: -(2 ^ 63)≤k/\k<2 ^ 63)(hz:ds.length*k.toNat≤1000000)(w:W (.tup (List.replicate k.toNat ds).flatten) S):du X .Mult (.tup ds) (.int k) S W:=by
 intro i s Z H O v w' u u' I G L M N P
 cases L with
 | @tup a Y _ B l=>
   cases M;cases N;obtain⟨t,rfl⟩:=P;obtain⟨c,J,K,_⟩:=I.tuple B.sq;obtain⟨⟨cls,j,data,o⟩,d,C,n,E⟩:=id K;simp only at C E;subst C E;have r:c.length=ds.length:=by rw[←J.length,l.length]
   have q:¬(decide (k< -(2 ^ 63))||decide (k≥2 ^ 63))=true:=by rw[ZH %[|0],ZH %[|0]];decide
   have h:∀m:Nat,m=k.toNat->EP X i Z (QG X.K O H W) (.ref s.heap.objs.size) {s with heap:=s.heap.push {cls:=.type "tuple",data:=.seq (List.replicate m c).flatten.toArray}}:=by rintro m rfl;refine⟨.ref s.heap.objs.size,upd H s.heap.objs.size (.tup (List.replicate k.toNat Y).flatten),I.laid (t':=s.toks) (λ b u e=>ZC _ e) (x6 _) ?_,rfl,jA w G I.fresh (Reps.rep l _)⟩;exact⟨by rw[len_rep,l.length,Nat.mul_comm];exact small hz,_,J.rep _,⟨_,ZD _ rfl,rfl,_,rfl⟩⟩
   refine PySem.wpAny_binaryOp_repeat_ref (T:="tuple") (U:="int") %[|3] ⟨_,d,rfl⟩ (λ Q=>typeIs_int Q k t) pZ F.fills_int_mul F.slot_int_rmul yJ F.slot_int_index.lookup
    (call_meets F.slot_int_rmul (typeIs_int s k t) F.entry_int_rmul (F.args_int_rmul_2 _ _) (uM k t a c.toArray n j o) ⟨d,rfl,⟨_,d,rfl⟩,?_⟩);by_cases f:(c.toArray.isEmpty||k==1)=true
   . refine call_meets F.slot_tuple_mul ⟨_,d,rfl⟩ F.entry_tuple_mul (F.args_tuple_mul_2 _ _) (ul a c.toArray n j o k t q f) ⟨d,.ref a,H,I,rfl,?_⟩;have e:(List.replicate k.toNat ds).flatten=ds:=by
      rw[Bool.or_eq_true]at f;rcases f with z | z
      . have:c=[]:=by simpa using z
        have:ds=[]:=by rw[this]at r;simpa using r.symm
        subst this;simp
      {have:k=1:=ZI z;subst this;simp}
     rw[e]at w;exact Hh w G (.tup B l)
   . by_cases g:(decide (k≤0)||c.toArray.isEmpty)=true
     . refine call_meets F.slot_tuple_mul ⟨_,d,rfl⟩ F.entry_tuple_mul (F.args_tuple_mul_2 _ _) (tK a c.toArray n j o k t q f g) ⟨d,?_⟩;have A:k.toNat=0:=by rw[Bool.or_eq_true]at g;rcases g with z | z;{have:=ZF z;omega};{exact absurd (by rw[z];rfl) f}
       have:=h 0 A.symm;exact this
     . have A:0<k:=by
        cases z:decide (k≤0)with
        | true=>exact absurd (by rw[z];rfl) g
        | false=>have:=of_decide_eq_false z;omega
       have x:(c.toArray.size:Int)*k=((c.length*k.toNat:Nat):Int):=by rw[x9,Int.natCast_mul,Int.toNat_of_nonneg %[|0]]
       have y:List.foldl (λ R V=>R++V) #[] (List.replicate k.toNat c.toArray)=(List.replicate k.toNat c).flatten.toArray:=by have:=foldl_rep c k.toNat [];rw[List.nil_append]at this;exact this
       have p:c.length*k.toNat≤1000000:=by rw[r];exact hz
       refine call_meets F.slot_tuple_mul ⟨_,d,rfl⟩ F.entry_tuple_mul (F.args_tuple_mul_2 _ _) (um a c.toArray n j o k t q f g (by rw[x];omega) ?_ ?_) ⟨d,?_⟩
       . rw[x];have:(1000000:Nat)≤sizeLine:=%[|3]
         unfold Builtin.Tuple.tupleTooMany;rw[decide_eq_true_eq];omega
       {rw[y,x9,len_rep,Nat.mul_comm];exact small p};{rw[y];exact h _ rfl}
variable {W : WD}
set_option genInjectivity false in
structure Wd where
 P:Program
 w:World
 K:PySem.W.Frag
 mg:Str->Option Value
 base:Heap
 cd:Option (Value×Str):=none
abbrev Nm:=List (Str×NameKind)
structure At(Ω:Wd)(X:Cx)(r:Nat)(top:Bool)(N:%[|2])(nm:Nm):Prop where
 p:X.prog=Ω.P
 w:X.w=Ω.w
 k:X.K=Ω.K
 g:X.mg=Ω.mg
 b:X.base=Ω.base
 room:Room r X.A
 xe:X.xe=λ _ _=>False
 calm:X.calm=true
 n:X.N=N
 nd:N.Nodup
 kind:X.env.scope.kind=.function
 look:∀x k,nm.lookup x=some k->X.env.kindOf x=some k∨(k=.free/\X.env.kindOf x=some .cell)
 fn:∀x,nm.lookup x=some .cell->X.fn x=true
 cd:top=true->∀p,Ω.cd=some p->X.env.code=p.1/\X.env.qual=p.2
 fr:top=true->X.stack=X.env::X.outer/\X.env.frame=some X.env.locals/\X.ex=[]
def vis(nm:Nm)(x:Str):Bool:=match nm.lookup x with | some .local=>true | some .cell=>true | some .free=>true | _=>false
def lcl(top:Bool)(nm:Nm)(x:Str):Bool:=match nm.lookup x with | some .local=>true | some .cell=>true | _=>false
def glb(nm:Nm)(x:Str):Bool:=nm.lookup x==some .globalImplicit
def okN(x:Str):Bool:=!(x==("__debug__":Str))&&(!(x==("__classdict__":Str))&& !(x==("__name__":Str)))
def okE:Expr->Bool
 | .Starred .. =>false | .Set .. =>false | .Slice .. =>false | _=>true
def noC:Expr->Bool
 | .ListComp .. =>false | .SetComp .. =>false | .DictComp .. =>false | _=>true
def RB:Expr->Bool
 | .UnaryOp .. =>false | .BoolOp .. =>false | .IfExp .. =>false | .Compare .. =>false | _=>true
theorem aa{a b:Bool}(h:(a&&b)=true):a=true/\b=true:=by cases a<;>cases b<;>first | exact⟨rfl,rfl⟩ | exact(y9 h).elim
theorem nt{a:Bool}(h:(!a)=true):a=false:=by cases a<;>first | rfl | exact(y9 h).elim
theorem gZ{x:Str}(h:okN x=true):(x==("__debug__":Str))=false/\(x==("__classdict__":Str))=false/\x≠"__name__":=by obtain⟨c,a⟩:=aa h;obtain⟨a,b⟩:=aa a;exact⟨nt c,nt a,λ e=>by rw[e]at b;simp at b⟩
section
variable {Ω : Wd} {X : Cx} {r : Nat} {top : Bool} {N : %[|2]} {nm : Nm} {x : Str}
theorem At.vis(A:At Ω X r top N nm)(h:RF.vis nm x=true):Vis X.env.scope x:=by
 unfold RF.vis at h
 cases e:nm.lookup x with
 | none=>rw[e]at h;cases h
 | some k=>
   rw[e]at h;have q:=A.look x k e
   cases k with
   | «local»=>rcases q with q | ⟨q,_⟩;exact .inl q;exact nomatch q
   | cell=>rcases q with q | ⟨q,_⟩;exact .inr (.inl q);exact nomatch q
   | free=>rcases q with q | ⟨_,q⟩;exact .inr (.inr q);exact .inr (.inl q)
   | _=>exact(y9 h).elim
theorem At.lcl(A:At Ω X r top N nm)(h:RF.lcl top nm x=true):Loc X.env.scope x/\(X.fn x=true∨X.env.scope.names.lookup x=some .local):=by
 unfold RF.lcl at h
 cases e:nm.lookup x with
 | none=>rw[e]at h;cases h
 | some k=>
   rw[e]at h;have q:=A.look x k e
   cases k with
   | «local»=>rcases q with q | ⟨q,_⟩;exact⟨.inl q,.inr q⟩;exact nomatch q
   | cell=>rcases q with q | ⟨q,_⟩;exact⟨.inr q,.inl (A.fn x e)⟩;exact nomatch q
   | _=>exact(y9 h).elim
theorem At.glb(A:At Ω X r top N nm)(h:RF.glb nm x=true):Gl X x:=by have e:nm.lookup x=some .globalImplicit:=ZI h;rcases A.look x _ e with q | ⟨q,_⟩;{exact q};{exact nomatch q}
end
theorem aB{e:Expr}(h:okE e=true)(es:List Expr)(env:Env):starEach (e::es) env=(false,eval e env)::starEach es env:=by cases e<;>first | rfl | exact(y9 h).elim
theorem qW:∀{es:List Expr}(_:es.all okE=true)(pos:Pos)(env:Env),(backTo pos (starEach es env)).any (·.1)=false
 | [],_,_,_=>rfl
 | e::es,h,pos,env=>by rw[List.all_cons]at h;obtain⟨a,b⟩:=aa h;rw[aB a];show(false||(backTo pos (starEach es env)).any (·.1))=false;rw[qW b];rfl
theorem fJ{op:CmpOp}{e:Expr}(h:okE e=true):behindInMarks op e=false:=by cases e<;>first | rfl | exact(y9 h).elim
theorem zp{e:Expr}(h:okE e=true):Ea e:=by intro _ _;cases e<;>first | rfl | exact(y9 h).elim
theorem nT{e:Expr}(h:okE e=true)(env:Env):∀x,foldedSetIterable e env x=pure x:=by intro x;cases e<;>first | rfl | exact(y9 h).elim
theorem lu{e:Expr}(h:noC e=true)(t:Option Expr)(l:Nat)(env:Env):swapsWith e t l env=pure false:=by cases e<;>first | rfl | exact(y9 h).elim
theorem Rz{e:Expr}(h:RB e=true)(env:Env):∀whole,isTrue e env whole=(do let v ←whole;standAt e.pos;holding [v] (truthy v)):=by intro w;cases e<;>first | rfl | exact(y9 h).elim
section
variable {X : Cx} {Γ : Gam} {S : Store} {e : Expr} {es : List Expr}
theorem EvA.mono{W f:List D->%[|4]}(h:EvA X Γ S es W)(k:∀ds S',W ds S'->f ds S'):EvA X Γ S es f:=λ e a s m H O I b l=>
 thn (h e a s m H O I b l) λ _ _ c=>by obtain⟨v,g,i,r,j,d,S',w,q⟩:=c;exact⟨v,g,i,r,j,d,S',k d S' w,q⟩
theorem Ts.mono{W f:Bool->%[|4]}(h:Ts X Γ S e W)(k:∀c S',W c S'->f c S'):Ts X Γ S e f:=λ a s m H O I b l=>
 thn (h a s m H O I b l) λ _ _ d=>by obtain⟨g,i,j,S',w,q⟩:=d;exact⟨g,i,j,S',k _ S' w,q⟩
theorem BdW.mono{d:D}{W f:Gam->%[|4]}(h:BdW X e d Γ S W)(k:∀G S',W G S'->f G S'):BdW X e d Γ S f:=λ a s n H O v u I b m r l=>
 thn (h a s n H O v u I b m r l) λ _ _ q=>by obtain⟨c,g,i,j,G,S',w,q⟩:=q;exact⟨c,g,i,j,G,S',k G S' w,q⟩
theorem ItW.mono{d:Expr}{W c:List D->%[|4]}(h:ItW X Γ S d e W)(k:∀ds S',W ds S'->c ds S'):ItW X Γ S d e c:=λ a s u H O I b r=>
 thn (h a s u H O I b r) λ _ _ q=>thn q λ _ _ q=>by obtain⟨p,o,t,J,f,i,j,l,m,n,g,ds,S',w,z⟩:=q;exact⟨p,o,t,J,f,i,j,l,m,n,g,ds,S',k ds S' w,z⟩
theorem Rv{pins:Pins}{O:Own}{H:Hp}{W g:DL.Fin}(h1:∀G S,W.nx G S->g.nx G S)(h2:∀d S,W.rt d S->g.rt d S)(h:∀G S,W.bk G S->g.bk G S)(i:∀G S,W.ct G S->g.ct G S){f:Flow}{s':Shared}(q:SP X pins (ends X.K O H W) f s'):SP X pins (ends X.K O H g) f s':=by
 cases f with
 | next=>obtain⟨e,a,I,b,G,c,w,q⟩:=q;exact⟨e,a,I,b,G,c,h1 _ _ w,q⟩
 | brk=>obtain⟨e,a,I,b,G,c,w,q⟩:=q;exact⟨e,a,I,b,G,c,h _ _ w,q⟩
 | cont=>obtain⟨e,a,I,b,G,c,w,q⟩:=q;exact⟨e,a,I,b,G,c,i _ _ w,q⟩
 | ret u=>obtain⟨v,e,a,I,r,b,d,c,w,q⟩:=q;exact⟨v,e,a,I,r,b,d,c,h2 _ _ w,q⟩
theorem Rn.mono{st:Stmt}{W a:DL.Fin}(h:Rn X Γ S st W)(h1:∀G S,W.nx G S->a.nx G S)(h2:∀d S,W.rt d S->a.rt d S)(e:∀G S,W.bk G S->a.bk G S)(f:∀G S,W.ct G S->a.ct G S):Rn X Γ S st a:=λ b s i H O I c g=>
 thn (h b s i H O I c g) λ _ _ q=>Rv h1 h2 e f q
theorem IK{a b c:Expr}{op m:CmpOp}{pos:Pos}{W:Bool->%[|4]}(h:Ev X Γ S a λ x S1=>Ev X Γ S1 b λ y S2=>aY X op x y S2 (asB λ k S3=>(k=false->W false S3)/\(k=true->Ev X Γ S3 c λ t S4=>aY X m y t S4 (asB W))))
 (hm:lastMarks [op,m] [b,c]=false):Ts X Γ S (.Compare a [op,m] [b,c] pos) W:=by
 intro e s B H O I l st;refine isTrue_chain (rs:=[]) (thn (h e s B H O I l st) λ u s1 d=>?_) hm;obtain⟨v,Q,V,r1,O1,x,S1,hb,f,D,o⟩:=d;refine test_link (thn (hb e s1 B Q O1 V (l.mono f) D) λ P s2 d=>?_);obtain⟨w,R,Y,N,O2,y,S2,hw,g,E,j⟩:=d;refine thn (hw e s2 B R O2 v w u P Y E (o.mono g) j r1 N) λ _ s3 d=>?_;obtain⟨z,K,L,r3,M,d3,S3,⟨k,C,k1,k2⟩,i,n,p⟩:=d;subst C;cases p;cases r3;refine wpAny_truthy_bool ?_
 cases k with
 | false=>exact ite_ff ⟨K,L,M,S3,k1 rfl,(f.trans g).trans i,n⟩
 | true=>refine ite_tt (test_last (thn (k2 rfl e s3 B K M L (((l.mono f).mono g).mono i) n) λ u4 s4 d=>?_));obtain⟨w4,T,Z,r4,O4,t,S4,h4,A,F,q⟩:=d;refine thn (h4 e s4 B T O4 w w4 P u4 Z F ((j.mono i).mono A) q N r4) λ _ s5 d=>?_;obtain⟨z5,U,I5,r5,O5,d5,S5,⟨k,C,w5⟩,J,G,r⟩:=d;subst C;cases r;cases r5;exact wpAny_truthy_bool ⟨U,I5,O5,S5,w5,(((f.trans g).trans i).trans A).trans J,G⟩
end
def bII(x y:D)(k:Int->Int->Prop):Prop:=match x with
 | .int i=>(match y with
   | .int j=>k i j
   | _=>False)
 | _=>False
theorem dR{x y:D}{k:Int->Int->Prop}(h:bII x y k):∃i j,x=.int i/\y=.int j/\k i j:=by cases x<;>first | exact h.elim | (cases y<;>first | exact h.elim | exact⟨_,_,rfl,rfl,h⟩)
def bTu(x:D)(k:List D->Prop):Prop:=match x with
 | .tup a=>k a
 | _=>False
theorem uL{x:D}{k:List D->Prop}(h:bTu x k):∃a,x=.tup a/\k a:=by cases x<;>first | exact h.elim | exact⟨_,rfl,h⟩
def bLs(x:D)(k:List D->Prop):Prop:=match x with
 | .lst a=>k a
 | _=>False
theorem Fw{x:D}{k:List D->Prop}(h:bLs x k):∃a,x=.lst a/\k a:=by cases x<;>first | exact h.elim | exact⟨_,rfl,h⟩
def bIn(x:D)(k:Int->Prop):Prop:=match x with
 | .int a=>k a
 | _=>False
theorem PT{x:D}{k:Int->Prop}(h:bIn x k):∃a,x=.int a/\k a:=by cases x<;>first | exact h.elim | exact⟨_,rfl,h⟩
def KN(x:D)(a b c:Prop):Prop:=match x with
 | .int _=>a
 | .tup _=>b
 | _=>c
theorem zN{x:D}{a b c:Prop}(h:KN x a b c):a∨b∨c:=by cases x<;>first | exact .inl h | exact .inr (.inl h) | exact .inr (.inr h)
def Oe(op:Operator)(x y:D)(S:Store)(W:WD):Prop:=match op with
 | .Add=>KN x (bII x y λ i j=>W (.int (i+j)) S) (bTu x λ a=>bTu y λ b=>a.length+b.length≤1000000/\W (.tup (a++b)) S) (bLs x λ a=>bLs y λ b=>a.length+b.length≤1000000/\W (.lst (a++b)) S)
 | .Sub=>bII x y λ i j=>W (.int (i-j)) S
 | .Mult=>KN x (bII x y λ i j=>CMul i j/\W (.int (i*j)) S) (bTu x λ a=>bIn y λ n=>(-(2 ^ 63)≤n/\n<2 ^ 63)/\a.length*n.toNat≤1000000/\W (.tup (List.replicate n.toNat a).flatten) S) False
 | .Mod=>bII x y λ i j=>0<j/\W (.int (i % j)) S
 | .FloorDiv=>bII x y λ i j=>(0<j/\j<1073741824)/\W (.int (i/j)) S
 | .Pow=>bII x y λ i j=>CPow i j/\W (.int (i ^ j.toNat)) S
 | _=>False
theorem Ku{X:Cx}{op:Operator}{x y:D}{S:Store}(h:Oe op x y S W):du X op x y S W:=by
 cases op<;>first | exact(show False from h).elim | skip
 {rcases zN h with h | h | h;{obtain⟨i,j,rfl,rfl,h⟩:=dR h;exact Wj h};{obtain⟨a,rfl,c⟩:=uL h;obtain⟨b,rfl,h2⟩:=uL c;exact RK h2.1 h2.2};{obtain⟨a,rfl,c⟩:=Fw h;obtain⟨b,rfl,h2⟩:=Fw c;exact Uc h2.1 h2.2}};{obtain⟨i,j,rfl,rfl,h⟩:=dR h;exact Vt h};{rcases zN h with h | h | h;{obtain⟨i,j,rfl,rfl,h⟩:=dR h;exact Vm h.1 h.2};{obtain⟨a,rfl,c⟩:=uL h;obtain⟨b,rfl,h2⟩:=PT c;exact Rm h2.1 h2.2.1 h2.2.2};{exact h.elim}};all_goals obtain⟨i,j,rfl,rfl,h⟩:=dR h
 all_goals first | exact Wg h.1 h.2 | exact UJ h.1 h.2 | exact Vo h.1 h.2
def KD(x y:D)(S:Store)(W:WD):Prop:=match x,y with
 | .tup a,.int i=>∃d,atI a i=some d/\W d S
 | .lst a,.int i=>∃d,atI a i=some d/\W d S
 | .loc k,.int i=>∃a d,S[k]? =some a/\atI a i=some d/\W d S
 | _,_=>False
theorem QR{X:Cx}{a b:Expr}{x y:D}{S:Store}(h:KD x y S W):IxW X a b x y S W:=by unfold KD at h;split at h;{obtain⟨d,c,e⟩:=h;exact V4 c e};{obtain⟨d,c,e⟩:=h;exact VH c e};{obtain⟨g,d,c,e,f⟩:=h;exact Vb c e f};{exact h.elim}
def M4(x:D)(l h:Option Int)(S:Store)(W:WD):Prop:=match x with
 | .tup a=>W (.tup (cutD a l h)) S
 | .lst a=>W (.lst (cutD a l h)) S
 | .loc k=>∃a,S[k]? =some a/\W (.lst (cutD a l h)) S
 | _=>False
theorem Wh{X:Cx}{S:Store}{k:Nat}{ds:List D}{lo hi:Option Int}(d:S[k]? =some ds)(w:W (.lst (cutD ds lo hi)) S):SlW X (.loc k) lo hi S W:=by intro a s t H O v u o q n I b l m f h i;cases l with| @loc p _ c=>obtain⟨r,g,j⟩:=b.obj k p ds c d;exact Fg a s t H _ u o q lo hi n _ I m f h i ⟨p,r,rfl,SqL.of g,λ x e=>fU w b e (tH j lo hi)⟩
theorem O9{X:Cx}{x:D}{l r:Option Int}{S:Store}(h:M4 x l r S W):SlW X x l r S W:=by unfold M4 at h;split at h;{exact Wb h};{exact Ve h};{obtain⟨c,a,b⟩:=h;exact Wh a b};{exact h.elim}
inductive Ty where
 | int | bool | tuple | list | str
 deriving DecidableEq
def Ty.id:Ty->String
 | .int=>"int" | .bool=>"bool" | .tuple=>"tuple" | .list=>"list" | .str=>"str"
def Ty.nm:Ty->Str
 | .int=>"int" | .bool=>"bool" | .tuple=>"tuple" | .list=>"list" | .str=>"str"
def isD:Ty->D->Bool
 | .int,.int _=>true | .int,.bl _=>true | .bool,.bl _=>true | .tuple,.tup _=>true | .list,.lst _=>true | .list,.loc _=>true | .str,.str _=>true | _,_=>false
theorem Rr(T:Ty)(x:D):isi (tyD x) T.id=isD T x:=by cases T<;>cases x<;>rfl
theorem Ty.isT(T:Ty):DL.isT T.id=true:=by cases T<;>rfl
theorem Ty.boot(T:Ty):bootBuiltins T.nm=some (.type T.id):=by cases T<;>decide+kernel
theorem Ty.ok(T:Ty):(T.nm==("__debug__":Str))=false/\T.nm≠"__name__":=by cases T<;>decide+kernel
end RF
set_option maxHeartbeats 1000000
namespace RF
open PySem PySem.Spec L2 DL
open PyProof.Rows
variable {e : Expr}
def nameP(e:Expr):Option {x:Str×Pos // e=.Name x.1 x.2}:=match e with
 | .Name x p=>some ⟨(x,p),rfl⟩
 | _=>none
def nameV(e:Expr):Option Str:=(nameP e).map (·.1.1)
theorem iB{x:Str}(h:nameV e=some x):∃p,e=.Name x p:=by obtain⟨z,_,a⟩:=Option.map_eq_some_iff.mp h;exact⟨z.1.2,by rw[←a];exact z.2⟩
def N5(e:Expr):Option {x:Expr×List Expr×List Keyword×Pos // e=.Call x.1 x.2.1 x.2.2.1 x.2.2.2}:=match e with
 | .Call f es ks q=>some ⟨(f,es,ks,q),rfl⟩
 | _=>none
def anB{α:Type}(o:Option α)(k:α->Bool):Bool:=match o with
 | some a=>k a
 | none=>false
theorem aZ{b:Type}{o:Option b}{k:b->Bool}(h:anB o k=true):∃a,o=some a/\k a=true:=by
 cases o with
 | none=>cases h
 | some a=>exact⟨a,rfl,h⟩
def jO{α:Type}(l:List α)(b:Bool):Bool:=l.isEmpty&&b
theorem dW{a:Type}{l:List a}{b:Bool}(h:jO l b=true):l=[]/\b=true:=
 ⟨List.isEmpty_iff.mp (aa h).1,(aa h).2⟩
def cO(e:Expr)(k:Str->List Expr->Bool):Bool:=anB (N5 e) λ z=>jO z.1.2.2.1 (anB (nameV z.1.1) λ f=>k f z.1.2.1)
theorem bx{k:Str->List Expr->Bool}(h:cO e k=true):∃f p es pos,e=.Call (.Name f p) es [] pos/\k f es=true:=by obtain⟨z,_,a⟩:=aZ h;obtain⟨b,c⟩:=dW a;obtain⟨x,d,g⟩:=aZ c;obtain⟨p,i⟩:=iB d;exact⟨x,p,z.1.2.1,z.1.2.2.2,z.2.trans (by rw[b,i]),g⟩
def dq{α:Type}(l:List α)(k:α->Bool):Bool:=match l with
 | [a]=>k a
 | _=>false
theorem bG{b:Type}{l:List b}{k:b->Bool}(h:dq l k=true):∃a,l=[a]/\k a=true:=by
 cases l with
 | nil=>cases h
 | cons a l=>cases l with
   | nil=>exact⟨a,rfl,h⟩
   | cons=>cases h
def two2{α:Type}(l:List α)(k:α->α->Bool):Bool:=match l with
 | [a,b]=>k a b
 | _=>false
theorem two2_of{c:Type}{l:List c}{k:c->c->Bool}(h:two2 l k=true):∃a b,l=[a,b]/\k a b=true:=by
 cases l with
 | nil=>cases h
 | cons a l=>cases l with
   | nil=>cases h
   | cons b l=>cases l with
     | nil=>exact⟨a,b,rfl,h⟩
     | cons=>cases h
def GX{α:Type}(l:List α)(k:α->List α->Bool):Bool:=match l with
 | a::l=>k a l
 | []=>false
theorem uN{b:Type}{l:List b}{k:b->List b->Bool}(h:GX l k=true):∃a m,l=a::m/\k a m=true:=by
 cases l with
 | nil=>cases h
 | cons a l=>exact⟨a,l,rfl,h⟩
def tupP(e:Expr):Option {x:List Expr×Nat×Pos // e=.Tuple x.1 x.2.1 x.2.2}:=match e with
 | .Tuple a b c=>some ⟨(a,b,c),rfl⟩
 | _=>none
def sZ(e:Expr):Bool:=(tupP e).isSome
theorem jE(h:sZ e=true):∃es k p,e=.Tuple es k p:=by obtain⟨z,_⟩:=Option.isSome_iff_exists.mp h;exact⟨_,_,_,z.2⟩
def We(e:Expr):Option {x:Expr×Str×Pos // e=.Attribute x.1 x.2.1 x.2.2}:=match e with
 | .Attribute x m p=>some ⟨(x,m,p),rfl⟩
 | _=>none
def Ly(st:Stmt):Option {x:List Expr×Expr×Pos // st=.Assign x.1 x.2.1 x.2.2}:=match st with
 | .Assign a b c=>some ⟨(a,b,c),rfl⟩
 | _=>none
def TF(st:Stmt):Option (List Expr×Expr):=(Ly st).map λ x=>(x.1.1,x.1.2.1)
theorem Q7{st:Stmt}{a:List Expr}(h:TF st=some (a,e)):∃p,st=.Assign a e p:=by obtain⟨z,_,b⟩:=Option.map_eq_some_iff.mp h;have c:z.1.1=a:=congrArg Prod.fst b;have d:z.1.2.1=e:=congrArg Prod.snd b;exact⟨z.1.2.2,by rw[←c,←d];exact z.2⟩
def setB(st:Stmt)(k:Str->Expr->Bool):Bool:=anB (Ly st) λ z=>dq z.1.1 λ t=>anB (nameV t) λ x=>k x z.1.2.1
theorem Er{st:Stmt}{k:Str->Expr->Bool}(h:setB st k=true):∃x q e p,st=.Assign [.Name x q] e p/\k x e=true:=by obtain⟨z,_,c⟩:=aZ h;obtain⟨t,a,d⟩:=bG c;obtain⟨x,f,g⟩:=aZ d;obtain⟨q,b⟩:=iB f;exact⟨x,q,z.1.2.1,z.1.2.2,z.2.trans (by rw[a,b]),g⟩
def nD(e:Expr)(k:Expr->Str->Pos->List Expr->Pos->Bool):Bool:=anB (N5 e) λ z=>jO z.1.2.2.1 (anB (We z.1.1) λ a=>k a.1.1 a.1.2.1 a.1.2.2 z.1.2.1 z.1.2.2.2)
theorem fc{k:Expr->Str->Pos->List Expr->Pos->Bool}(h:nD e k=true):∃x m p es q,e=.Call (.Attribute x m p) es [] q/\k x m p es q=true:=by obtain⟨z,_,b⟩:=aZ h;obtain⟨c,d⟩:=dW b;obtain⟨a,_,f⟩:=aZ d;exact⟨a.1.1,a.1.2.1,a.1.2.2,z.1.2.1,z.1.2.2.2,z.2.trans (by rw[c];exact congrArg (Expr.Call · _ _ _) a.2),f⟩
def frP(st:Stmt):Option {x:Expr×Expr×List Stmt×List Stmt×Pos // st=.For x.1 x.2.1 x.2.2.1 x.2.2.2.1 x.2.2.2.2}:=match st with
 | .For t it b els p=>some ⟨(t,it,b,els,p),rfl⟩
 | _=>none
def frB(st:Stmt)(k:Expr->Expr->List Stmt->Bool):Bool:=anB (frP st) λ z=>jO z.1.2.2.2.1 (k z.1.1 z.1.2.1 z.1.2.2.1)
theorem nC{st:Stmt}{k:Expr->Expr->List Stmt->Bool}(h:frB st k=true):∃t it b p,st=.For t it b [] p/\k t it b=true:=by obtain⟨z,_,a⟩:=aZ h;obtain⟨c,d⟩:=dW a;exact⟨z.1.1,z.1.2.1,z.1.2.2.1,z.1.2.2.2.2,z.2.trans (by rw[c]),d⟩
def sbP(e:Expr):Option {x:Expr×Expr×Pos // e=.Subscript x.1 x.2.1 x.2.2}:=match e with
 | .Subscript x y p=>some ⟨(x,y,p),rfl⟩
 | _=>none
def Tw(e:Expr):Bool:=(sbP e).isSome
theorem Qm(h:Tw e=true):∃a b c,e=.Subscript a b c:=by obtain⟨z,_⟩:=Option.isSome_iff_exists.mp h;exact⟨_,_,_,z.2⟩
def W4(st:Stmt):Option {x:Expr×Operator×Expr×Pos // st=.AugAssign x.1 x.2.1 x.2.2.1 x.2.2.2}:=match st with
 | .AugAssign t o e p=>some ⟨(t,o,e,p),rfl⟩
 | _=>none
def Rp(st:Stmt):Option (Expr×Operator×Expr):=(W4 st).map λ x=>(x.1.1,x.1.2.1,x.1.2.2.1)
theorem Q4{st:Stmt}{t:Expr}{o:Operator}(h:Rp st=some (t,o,e)):∃p,st=.AugAssign t o e p:=by obtain⟨z,_,a⟩:=Option.map_eq_some_iff.mp h;have b:z.1.1=t:=congrArg Prod.fst a;have c:z.1.2.1=o:=congrArg (λ z=>z.2.1) a;have d:z.1.2.2.1=e:=congrArg (λ z=>z.2.2) a;exact⟨z.1.2.2.2,by rw[←b,←c,←d];exact z.2⟩
def dctP(e:Expr):Option {x:List (Option Expr)×List Expr×Pos // e=.Dict x.1 x.2.1 x.2.2}:=match e with
 | .Dict ks vs p=>some ⟨(ks,vs,p),rfl⟩
 | _=>none
def LR(e:Expr):Option (List (Option Expr)×List Expr):=(dctP e).map λ x=>(x.1.1,x.1.2.1)
theorem Ef{a:List (Option Expr)}{b:List Expr}(h:LR e=some (a,b)):∃p,e=.Dict a b p:=by obtain⟨z,_,c⟩:=Option.map_eq_some_iff.mp h;have d:z.1.1=a:=congrArg Prod.fst c;have f:z.1.2.1=b:=congrArg Prod.snd c;exact⟨z.1.2.2,by rw[←d,←f];exact z.2⟩
def ixB(st:Stmt)(k:Expr->Expr->Expr->Bool):Bool:=anB (Ly st) λ z=>dq z.1.1 λ t=>anB (sbP t) λ q=>k q.1.1 q.1.2.1 z.1.2.1
theorem Ij{st:Stmt}{k:Expr->Expr->Expr->Bool}(h:ixB st k=true):∃x y q e p,st=.Assign [.Subscript x y q] e p/\k x y e=true:=by obtain⟨z,_,g⟩:=aZ h;obtain⟨t,a,b⟩:=bG g;obtain⟨q,_,c⟩:=aZ b;exact⟨q.1.1,q.1.2.1,q.1.2.2,z.1.2.1,z.1.2.2,z.2.trans (by rw[a];exact congrArg (Stmt.Assign [·] _ _) q.2),c⟩
def cmP(e:Expr):Option {x:Expr×List CmpOp×List Expr×Pos // e=.Compare x.1 x.2.1 x.2.2.1 x.2.2.2}:=match e with
 | .Compare l os rs p=>some ⟨(l,os,rs,p),rfl⟩
 | _=>none
def cm1(e:Expr)(k:Expr->CmpOp->Expr->Bool):Bool:=anB (cmP e) λ z=>dq z.1.2.1 λ o=>dq z.1.2.2.1 λ r=>k z.1.1 o r
theorem qN{k:Expr->CmpOp->Expr->Bool}(h:cm1 e k=true):∃l o r p,e=.Compare l [o] [r] p/\k l o r=true:=by obtain⟨z,_,g⟩:=aZ h;obtain⟨o,a,c⟩:=bG g;obtain⟨r,b,d⟩:=bG c;exact⟨z.1.1,o,r,z.1.2.2.2,z.2.trans (by rw[a,b]),d⟩
def cm2(e:Expr)(k:Expr->CmpOp->CmpOp->Expr->Expr->Bool):Bool:=anB (cmP e) λ z=>two2 z.1.2.1 λ o p=>two2 z.1.2.2.1 λ m r=>k z.1.1 o p m r
theorem Jx{k:Expr->CmpOp->CmpOp->Expr->Expr->Bool}(h:cm2 e k=true):∃l o p m r q,e=.Compare l [o,p] [m,r] q/\k l o p m r=true:=by obtain⟨z,_,g⟩:=aZ h;obtain⟨o,p,a,c⟩:=two2_of g;obtain⟨m,r,b,d⟩:=two2_of c;exact⟨z.1.1,o,p,m,r,z.1.2.2.2,z.2.trans (by rw[a,b]),d⟩
end RF
set_option maxHeartbeats 4000000
namespace RF
open PySem PySem.Spec L2 DL
open PyProof.Rows
variable {ds : List D} {S : Store} {x y : D} {W : Bool -> Store -> Prop}
mutual
def eqD:D->D->Bool
 | .non,.non=>true
 | .bl a,.bl b=>a==b
 | .int a,.int b=>a==b
 | .bl a,.int b=>(if a then 1 else 0)==b
 | .int a,.bl b=>a==(if b then 1 else 0)
 | .str a,.str b=>a==b
 | .tup a,.tup b=>dY a b
 | .lst a,.lst b=>dY a b
 | .dic,.dic=>true
 | _,_=>false
def dY:List D->List D->Bool
 | [],[]=>true
 | a::as,b::bs=>eqD a b&&dY as bs
 | _,_=>false
end
mutual
def okD:D->Bool
 | .tup ds=>bW ds
 | .lst ds=>bW ds
 | .loc _=>false
 | .dic=>false
 | .dlo _=>false
 | _=>true
def bW:List D->Bool
 | []=>true
 | d::ds=>okD d&&bW ds
end
mutual
inductive Sn(K:PySem.W.Frag)(H:Hp):V->D->Prop
 | non:Sn K H .non .non
 | bl(b:Bool):Sn K H (.bl b) (.bl b)
 | int(i:Int):Sn K H (.int i) (.int i)
 | str(x:Str):Sn K H (.str x) (.str x)
 | tup{a:Addr}{xs:List V}{ds:List D}(h:SqT K H a xs)(r:Sns K H xs ds):Sn K H (.ref a) (.tup ds)
 | lst{a:Addr}{xs:List V}{ds:List D}(h:SqL K H a xs)(r:Sns K H xs ds):Sn K H (.ref a) (.lst ds)
inductive Sns(K:PySem.W.Frag)(H:Hp):List V->List D->Prop
 | nil:Sns K H [] []
 | cons{v:V}{d:D}{vs:List V}{ds:List D}(r:Sn K H v d)(t:Sns K H vs ds):Sns K H (v::vs) (d::ds)
end
section
variable {K : PySem.W.Frag} {H : Hp} {O : Own}
theorem Sns.ind{P:List V->List D->Prop}(n:P [] [])(c:∀{v:V}{d:D}{a:List V}{ds:List D},Sn K H v d->Sns K H a ds->P a ds->P (v::a) (d::ds)){a:List V}{ds:List D}(h:Sns K H a ds):P a ds:=
 Sns.rec (motive_1:=λ _ _ _=>True) (motive_2:=λ a ds _=>P a ds) trivial (λ _=>trivial) (λ _=>trivial) (λ _=>trivial) (λ _ _ _=>trivial) (λ _ _ _=>trivial) n (λ r t _ b=>c r t b) h
theorem Sns.length{a:List V}(h:Sns K H a ds):a.length=ds.length:=
 h.ind (P:=λ a ds=>a.length=ds.length) rfl λ _ _ i=>congrArg Nat.succ i
theorem Sns.get{a:List V}{i:Nat}{d:D}(h:Sns K H a ds)(e:ds[i]? =some d):∃v,a[i]? =some v/\Sn K H v d:=by
 revert i;refine h.ind (P:=λ a ds=>∀{i:Nat},ds[i]? =some d->∃v,a[i]? =some v/\Sn K H v d) (λ e=>by simp at e) λ r t b i e=>?_
 cases i with
 | zero=>exact⟨_,rfl,Option.some.inj e▸r⟩
 | succ i=>exact b e
theorem Bu{v:V}{d:D}(h:okD d=true)(r:Rep K O H v d):Sn K H v d:=
 Rep.rec (motive_1:=λ v d _=>okD d=true->Sn K H v d) (motive_2:=λ e c _=>bW c=true->Sns K H e c) (λ _=>.non) (λ b _=>.bl b) (λ i _=>.int i) (λ x _=>.str x) (λ a _ i h=>.tup a.sq (i h)) (λ a _ i h=>.lst a.sq (i h)) (λ _ h=>by cases h) (λ _ _ h=>by cases h) (λ _ _ h=>by cases h) (λ _=>.nil) (λ _ _ i j h=>.cons (i (aa h).1) (j (aa h).2)) r h
theorem Fv{a:List V}(h:bW ds=true)(r:Reps K O H a ds):Sns K H a ds:=
 r.ind (P:=λ a ds=>bW ds=true->Sns K H a ds) (λ _=>.nil) (λ r _ i h=>.cons (Bu (aa h).1 r) (i (aa h).2)) h
end
section
variable {X : Cx} {pins : Pins} {s : Shared} {σ : DL.St} {H : Hp}
mutual
theorem rJ(I:%[|5]){v:V}{x y:D}(a:Sn X.K H v x)(b:Sn X.K H v y):x=y:=by
 cases a with
 | non=>cases b;rfl
 | bl=>cases b;rfl
 | int=>cases b;rfl
 | str=>cases b;rfl
 | tup h r=>
   cases b with
   | tup h' r'=>have e:=I.tuple_inj h h';subst e;rw[tZ I r r']
   | lst h' r'=>exfalso;obtain⟨its,_,⟨o,h2,h3,_⟩,_⟩:=I.tuple h;obtain⟨its2,_,pl,_⟩:=I.list h';obtain⟨o',h2',h3',_⟩:=pl.isList;rw[h2]at h2';cases h2';rw[h3]at h3';exact absurd h3' %[|3]
 | lst h r=>
   cases b with
   | lst h' r'=>have e:=I.list_inj h h';subst e;rw[tZ I r r']
   | tup h' r'=>exfalso;obtain⟨its,_,⟨o,h2,h3,_⟩,_⟩:=I.tuple h';obtain⟨its2,_,pl,_⟩:=I.list h;obtain⟨o',h2',h3',_⟩:=pl.isList;rw[h2]at h2';cases h2';rw[h3]at h3';exact absurd h3' %[|3]
theorem tZ(I:%[|5]){vs:List V}{xs ys:List D}(a:Sns X.K H vs xs)(b:Sns X.K H vs ys):xs=ys:=by
 cases a with
 | nil=>cases b;rfl
 | cons r t=>cases b with| cons r' t'=>rw[rJ I r r',tZ I t t']
end
end
theorem Qw(a b:List D):eqD (.tup a) (.tup b)=dY a b:=rfl
theorem Ox(a b:List D):eqD (.lst a) (.lst b)=dY a b:=rfl
mutual
theorem ik:∀(x:D),ak x=true->eqD x x=true
 | .non,_=>rfl
 | .bl b,_=>beq_self_eq_true b
 | .int i,_=>beq_self_eq_true i
 | .str s,_=>beq_self_eq_true s
 | .tup ds,h=>my ds h
 | .lst ds,h=>my ds h
 | .loc _,h=>by cases h
 | .dlo _,h=>by cases h
 | .dic,_=>rfl
theorem my:∀(xs:List D),aj xs=true->dY xs xs=true
 | [],_=>rfl
 | d::ds,h=>by obtain⟨h1,h2⟩:=aa (show(ak d&&aj ds)=true from h);show(eqD d d&&dY ds ds)=true;rw[ik d h1,my ds h2];rfl
end
abbrev eqJ(ds es:List D)(j:Nat):Bool:=eqD (ds.getD j .non) (es.getD j .non)
theorem Kw(d e:D)(ds es:List D):(eqJ (d::ds) (e::es)) ∘ Nat.succ=eqJ ds es:=by funext j;simp[eqJ,List.getD]
theorem km:∀(ds es:List D),((List.range (min ds.length es.length)).all (eqJ ds es)&&ds.length==es.length)=dY ds es
 | [],[]=>by simp[dY]
 | [],e::es=>by simp[dY]
 | d::ds,[]=>by simp[dY]
 | d::ds,e::es=>by
   have f:=km ds es;have a:min (d::ds).length (e::es).length=min ds.length es.length+1:=by simp only[List.length_cons];omega
   rw[a,List.range_succ_eq_map,List.all_cons,List.all_map,Kw];have b:((d::ds).length==(e::es).length)=(ds.length==es.length):=by simp
   have c:eqJ (d::ds) (e::es) 0=eqD d e:=by simp[eqJ,List.getD]
   rw[b,c,Bool.and_assoc,f];simp only[dY]
theorem Kv{es:List D}(h:ds.length=es.length):(List.range ds.length).all (eqJ ds es)=dY ds es:=by rw[←km ds es,←h,Nat.min_self,beq_self_eq_true,Bool.and_true]
theorem PQ{es:List D}(h:ds.length≠es.length):dY ds es=false:=by
 rw[←km ds es];have:(ds.length==es.length)=false:=by simpa using h
 rw[this,Bool.and_false]
section
variable {X : Cx}
theorem nY{n:Nat}(ih:∀(x y:D),deep x≤n->∀{pins:Pins}{s:Shared}{σ:DL.St}{H:Hp}{v w:V}{u u':Value}{A:Around},%[|5]->Sn X.K H v x->Sn X.K H w y->RelV v u->RelV w u'->A.units+n<cLine->SeqAt.EqAt A s u u' (eqD x y))
 (x y:D)(T:deep x≤n+1){pins:Pins}{s:Shared}{σ:DL.St}{H:Hp}{v w:V}{u u':Value}{A:Around}(I:%[|5])(r1:Sn X.K H v x)(M:Sn X.K H w y)(N:RelV v u)(f:RelV w u')(hu:A.units+(n+1)<cLine):
 SeqAt.RcAt A s u u' (eqD x y)/\SeqAt.RcNeAt A s u u' (!eqD x y):=by
 have d:A.units<cLine:=%[|0]
 have B:∀{o r:List D}{Q R:List V}{l c:List Value},bJ o≤n->Sns X.K H Q o->Sns X.K H R r->Vals Q l->Vals R c->∀j(S:j<l.toArray.size)(m:j<c.toArray.size),SeqAt.EqAt A.in1 s l.toArray[j] c.toArray[j] (eqJ o r j):=by
  intro o r Q R l c L C p E q j j1 j2;have F:l.length=o.length:=by rw[←E.length,C.length]
  have K:c.length=r.length:=by rw[←q.length,p.length]
  have U:j<o.length:=by simpa[F]using j1
  have O:j<r.length:=by simpa[K]using j2
  obtain⟨z1,G,W⟩:=C.get (y4 U);obtain⟨z2,J,Y⟩:=p.get (y4 O);obtain⟨u1,Z,d1⟩:=E.get G;obtain⟨u2,c2,d2⟩:=q.get J;have e1:l.toArray[j]=u1:=by have:=(z0.mp Z).2;simpa using this
  have e2:c.toArray[j]=u2:=by have:=(z0.mp c2).2;simpa using this
  rw[e1,e2];have e3:eqJ o r j=eqD o[j] r[j]:=by simp[eqJ,List.getD,U,O]
  rw[e3];have aa:=dM (y4 U);exact ih o[j] r[j] %[|0] I W Y d1 d2 (by show A.units+1+n<cLine;omega)
 cases r1 with
 | non=>
   cases N
   cases M with
   | non=>cases f;exact⟨SeqAt.RcAt.none_none,SeqAt.RcNeAt.none_none⟩
   | bl b=>cases f;exact⟨SeqAt.RcAt.none_bool b,SeqAt.RcNeAt.none_bool b⟩
   | int i=>obtain⟨h,rfl⟩:=f;exact⟨SeqAt.RcAt.none_int i h,SeqAt.RcNeAt.none_int i h⟩
   | str i=>obtain⟨h,rfl⟩:=f;exact⟨SeqAt.RcAt.none_str i h,SeqAt.RcNeAt.none_str i h⟩
   | tup m p=>cases f;obtain⟨c,q,g,_⟩:=I.tuple m;exact⟨SeqAt.RcAt.none_tuple (show s.heap.IsTuple _ c.toArray from g) d,SeqAt.RcNeAt.none_tuple (show s.heap.IsTuple _ c.toArray from g) d⟩
   | lst m p=>cases f;obtain⟨c,q,g,_⟩:=I.list m;exact⟨SeqAt.RcAt.none_list g.isList d,SeqAt.RcNeAt.none_list g.isList d⟩
 | bl a=>
   cases N
   cases M with
   | non=>cases f;exact⟨SeqAt.RcAt.bool_none a,SeqAt.RcNeAt.bool_none a⟩
   | bl b=>cases f;exact⟨SeqAt.RcAt.bool_bool a b,SeqAt.RcNeAt.bool_bool a b⟩
   | int i=>obtain⟨h,rfl⟩:=f;exact⟨SeqAt.RcAt.bool_int a i h,SeqAt.RcNeAt.bool_int a i h⟩
   | str i=>obtain⟨h,rfl⟩:=f;exact⟨SeqAt.RcAt.bool_str a i h,SeqAt.RcNeAt.bool_str a i h⟩
   | tup m p=>cases f;obtain⟨c,q,g,_⟩:=I.tuple m;exact⟨SeqAt.RcAt.bool_tuple a (show s.heap.IsTuple _ c.toArray from g) d,SeqAt.RcNeAt.bool_tuple a (show s.heap.IsTuple _ c.toArray from g) d⟩
   | lst m p=>cases f;obtain⟨c,q,g,_⟩:=I.list m;exact⟨SeqAt.RcAt.bool_list a g.isList d,SeqAt.RcNeAt.bool_list a g.isList d⟩
 | int a=>
   obtain⟨t,rfl⟩:=N
   cases M with
   | non=>cases f;exact⟨SeqAt.RcAt.int_none a t,SeqAt.RcNeAt.int_none a t⟩
   | bl b=>cases f;exact⟨SeqAt.RcAt.int_bool a t b,SeqAt.RcNeAt.int_bool a t b⟩
   | int i=>obtain⟨h,rfl⟩:=f;exact⟨SeqAt.RcAt.int_int a t i h,SeqAt.RcNeAt.int_int a t i h⟩
   | str i=>obtain⟨h,rfl⟩:=f;exact⟨SeqAt.RcAt.int_str a t i h,SeqAt.RcNeAt.int_str a t i h⟩
   | tup m p=>cases f;obtain⟨c,q,g,_⟩:=I.tuple m;exact⟨SeqAt.RcAt.int_tuple a t (show s.heap.IsTuple _ c.toArray from g) d,SeqAt.RcNeAt.int_tuple a t (show s.heap.IsTuple _ c.toArray from g) d⟩
   | lst m p=>cases f;obtain⟨c,q,g,_⟩:=I.list m;exact⟨SeqAt.RcAt.int_list a t g.isList d,SeqAt.RcNeAt.int_list a t g.isList d⟩
 | str a=>
   obtain⟨t,rfl⟩:=N
   cases M with
   | non=>cases f;exact⟨SeqAt.RcAt.str_none a t,SeqAt.RcNeAt.str_none a t⟩
   | bl b=>cases f;exact⟨SeqAt.RcAt.str_bool a t b,SeqAt.RcNeAt.str_bool a t b⟩
   | int i=>obtain⟨h,rfl⟩:=f;exact⟨SeqAt.RcAt.str_int a t i h,SeqAt.RcNeAt.str_int a t i h⟩
   | str i=>obtain⟨h,rfl⟩:=f;exact⟨SeqAt.RcAt.str_str a t i h,SeqAt.RcNeAt.str_str a t i h⟩
   | tup m p=>cases f;obtain⟨c,q,g,_⟩:=I.tuple m;exact⟨SeqAt.RcAt.str_tuple a t (show s.heap.IsTuple _ c.toArray from g) d,SeqAt.RcNeAt.str_tuple a t (show s.heap.IsTuple _ c.toArray from g) d⟩
   | lst m p=>cases f;obtain⟨c,q,g,_⟩:=I.list m;exact⟨SeqAt.RcAt.str_list a t g.isList d,SeqAt.RcNeAt.str_list a t g.isList d⟩
 | @tup a Q o S C=>
   cases N;obtain⟨l,E,k,_⟩:=I.tuple S;have k:s.heap.IsTuple a l.toArray:=k
   cases M with
   | non=>cases f;exact⟨SeqAt.RcAt.tuple_none k d,SeqAt.RcNeAt.tuple_none k d⟩
   | bl b=>cases f;exact⟨SeqAt.RcAt.tuple_bool b k d,SeqAt.RcNeAt.tuple_bool b k d⟩
   | int i=>obtain⟨h,rfl⟩:=f;exact⟨SeqAt.RcAt.tuple_int i h k d,SeqAt.RcNeAt.tuple_int i h k d⟩
   | str i=>obtain⟨h,rfl⟩:=f;exact⟨SeqAt.RcAt.tuple_str i h k d,SeqAt.RcNeAt.tuple_str i h k d⟩
   | @tup b R r m p=>
     cases f;obtain⟨c,q,g,_⟩:=I.tuple m;have g:s.heap.IsTuple b c.toArray:=g;have F:l.toArray.size=o.length:=by rw[x9,←E.length,C.length]
     have K:c.toArray.size=r.length:=by rw[x9,←q.length,p.length]
     have L:bJ o≤n:=by simp[deep]at T;exact T
     have G:=SeqAt.RcAt.tuples (e:=eqJ o r) k g d (B L C p E q);have J:=SeqAt.RcNeAt.tuples (e:=eqJ o r) k g d (B L C p E q);rw[F,K,km]at G J;rw[Qw];exact⟨G,J⟩
   | lst m p=>cases f;obtain⟨c,q,g,_⟩:=I.list m;exact⟨SeqAt.RcAt.tuple_list k g.isList d,SeqAt.RcNeAt.tuple_list k g.isList d⟩
 | @lst a Q o S C=>
   cases N;obtain⟨l,E,k,_⟩:=I.list S;have k:=k.isList
   cases M with
   | non=>cases f;exact⟨SeqAt.RcAt.list_none k d,SeqAt.RcNeAt.list_none k d⟩
   | bl b=>cases f;exact⟨SeqAt.RcAt.list_bool b k d,SeqAt.RcNeAt.list_bool b k d⟩
   | int i=>obtain⟨h,rfl⟩:=f;exact⟨SeqAt.RcAt.list_int i h k d,SeqAt.RcNeAt.list_int i h k d⟩
   | str i=>obtain⟨h,rfl⟩:=f;exact⟨SeqAt.RcAt.list_str i h k d,SeqAt.RcNeAt.list_str i h k d⟩
   | tup m p=>cases f;obtain⟨c,q,g,_⟩:=I.tuple m;exact⟨SeqAt.RcAt.list_tuple k (show s.heap.IsTuple _ c.toArray from g) d,SeqAt.RcNeAt.list_tuple k (show s.heap.IsTuple _ c.toArray from g) d⟩
   | @lst b R r m p=>
     cases f;obtain⟨c,q,g,_⟩:=I.list m;have g:=g.isList;have F:l.toArray.size=o.length:=by rw[x9,←E.length,C.length]
     have K:c.toArray.size=r.length:=by rw[x9,←q.length,p.length]
     have L:bJ o≤n:=by simp[deep]at T;exact T
     rw[Ox];by_cases P:o.length=r.length;{have G:=SeqAt.RcAt.lists (e:=eqJ o r) k g (by rw[F,K,P]) d (B L C p E q);have J:=SeqAt.RcNeAt.lists (e:=eqJ o r) k g (by rw[F,K,P]) d (B L C p E q);rw[F,Kv P]at G J;exact⟨G,J⟩}
     . have z:(l.toArray.size !=c.toArray.size)=true:=by rw[F,K];simpa using P
       rw[PQ P];exact⟨SeqAt.RcAt.lists_lengths k g z d,SeqAt.RcNeAt.lists_lengths k g z d⟩
theorem yG:∀{K:PySem.W.Frag}{H:Hp}{v:V}{x:D},Sn K H v x->ak x=true:=by intro K H v x h;refine Sn.rec (motive_1:=λ v x _=>ak x=true) (motive_2:=λ j g _=>aj g=true) ?_ ?_ ?_ ?_ ?_ ?_ ?_ ?_ h;{simp[ak]};{intro b;simp[ak]};{intro b;simp[ak]};{intro b;simp[ak]};{intro a g i h r c;simpa[ak]using c};{intro a g i h r c;simpa[ak]using c};{simp[aj]};{intro v d j i r t e f;simp[aj,e,f]}
theorem BZ (n:Nat):∀(x y:D),deep x≤n->∀{pins:Pins}{s:Shared}{σ:DL.St}{H:Hp}{v w:V}{u u':Value}{A:Around},%[|5]->Sn X.K H v x->Sn X.K H w y->RelV v u->RelV w u'->A.units+n<cLine->SeqAt.EqAt A s u u' (eqD x y):=by
 induction n with
 | zero=>
   intro x y C pins s σ H v w u u' A I B l m c G
   cases B with
   | non=>
     cases m
     cases l with
     | non=>cases c;exact SeqAt.EqAt.same _
     | bl b=>cases c;exact SeqAt.EqAt.none_bool b
     | int i=>obtain⟨g,rfl⟩:=c;exact SeqAt.EqAt.none_int i g
     | str i=>obtain⟨g,rfl⟩:=c;exact SeqAt.EqAt.none_str i g
     | tup f k=>cases c;obtain⟨d,o,h,_⟩:=I.tuple f;exact SeqAt.EqAt.none_tuple (show s.heap.IsTuple _ d.toArray from h) %[|0]
     | lst f k=>cases c;obtain⟨d,o,h,_⟩:=I.list f;exact SeqAt.EqAt.none_list h.isList %[|0]
   | bl a=>
     cases m
     cases l with
     | non=>cases c;exact SeqAt.EqAt.bool_none a
     | bl b=>cases c;exact SeqAt.EqAt.bool_bool a b
     | int i=>obtain⟨g,rfl⟩:=c;exact SeqAt.EqAt.bool_int a i g
     | str i=>obtain⟨g,rfl⟩:=c;exact SeqAt.EqAt.bool_str a i g
     | tup f k=>cases c;obtain⟨d,o,h,_⟩:=I.tuple f;exact SeqAt.EqAt.bool_tuple a (show s.heap.IsTuple _ d.toArray from h) %[|0]
     | lst f k=>cases c;obtain⟨d,o,h,_⟩:=I.list f;exact SeqAt.EqAt.bool_list a h.isList %[|0]
   | int a=>
     obtain⟨t,rfl⟩:=m
     cases l with
     | non=>cases c;exact SeqAt.EqAt.int_none a t
     | bl b=>cases c;exact SeqAt.EqAt.int_bool a t b
     | int i=>obtain⟨g,rfl⟩:=c;exact SeqAt.EqAt.int_int a t i g
     | str i=>obtain⟨g,rfl⟩:=c;exact SeqAt.EqAt.int_str a t i g
     | tup f k=>cases c;obtain⟨d,o,h,_⟩:=I.tuple f;exact SeqAt.EqAt.int_tuple a t (show s.heap.IsTuple _ d.toArray from h) %[|0]
     | lst f k=>cases c;obtain⟨d,o,h,_⟩:=I.list f;exact SeqAt.EqAt.int_list a t h.isList %[|0]
   | str a=>
     obtain⟨t,rfl⟩:=m
     cases l with
     | non=>cases c;exact SeqAt.EqAt.str_none a t
     | bl b=>cases c;exact SeqAt.EqAt.str_bool a t b
     | int i=>obtain⟨g,rfl⟩:=c;exact SeqAt.EqAt.str_int a t i g
     | str i=>obtain⟨g,rfl⟩:=c;exact SeqAt.EqAt.str_str a t i g
     | tup f k=>cases c;obtain⟨d,o,h,_⟩:=I.tuple f;exact SeqAt.EqAt.str_tuple a t (show s.heap.IsTuple _ d.toArray from h) %[|0]
     | lst f k=>cases c;obtain⟨d,o,h,_⟩:=I.list f;exact SeqAt.EqAt.str_list a t h.isList %[|0]
   | tup _ _=>simp[deep]at C
   | lst _ _=>simp[deep]at C
 | succ n J=>
   intro x y C pins s σ H v w u u' A I B l m c G;by_cases q:deep x≤n;{exact J x y q I B l m c %[|0]}
   . have both:=nY J x y C I B l m c G
     cases B with
     | non=>simp[deep]at q
     | bl b=>simp[deep]at q
     | int b=>simp[deep]at q
     | str b=>simp[deep]at q
     | @tup a N L p z=>
       cases m;obtain⟨r,M,j,_⟩:=I.tuple p;have j:s.heap.IsTuple a r.toArray:=j
       cases l with
       | non=>cases c;exact SeqAt.EqAt.tuple_none j %[|0]
       | bl b=>cases c;exact SeqAt.EqAt.tuple_bool b j %[|0]
       | int i=>obtain⟨g,rfl⟩:=c;exact SeqAt.EqAt.tuple_int i g j %[|0]
       | str i=>obtain⟨g,rfl⟩:=c;exact SeqAt.EqAt.tuple_str i g j %[|0]
       | @tup b K F f k=>cases c;by_cases e:a=b;{subst e;have E:=rJ I (.tup p z) (.tup f k);rw[←E,ik _ (yG (.tup p z))];exact SeqAt.EqAt.same _};{exact SeqAt.EqAt.of_refs e both.1}
       | @lst b K F f k=>cases c;obtain⟨d,o,h,_⟩:=I.list f;exact SeqAt.EqAt.tuple_list j h.isList %[|0]
     | @lst a N L p z=>
       cases m;obtain⟨r,M,j,_⟩:=I.list p;have j:=j.isList
       cases l with
       | non=>cases c;exact SeqAt.EqAt.list_none j %[|0]
       | bl b=>cases c;exact SeqAt.EqAt.list_bool b j %[|0]
       | int i=>obtain⟨g,rfl⟩:=c;exact SeqAt.EqAt.list_int i g j %[|0]
       | str i=>obtain⟨g,rfl⟩:=c;exact SeqAt.EqAt.list_str i g j %[|0]
       | tup f k=>cases c;obtain⟨d,o,h,_⟩:=I.tuple f;exact SeqAt.EqAt.list_tuple j (show s.heap.IsTuple _ d.toArray from h) %[|0]
       | @lst b K F f k=>cases c;by_cases e:a=b;{subst e;have E:=rJ I (.lst p z) (.lst f k);rw[←E,ik _ (yG (.lst p z))];exact SeqAt.EqAt.same _};{exact SeqAt.EqAt.of_refs e both.1}
def vw(S:Store):D->D
 | .loc k=>match S[k]? with | some ds=>.lst ds | none=>.loc k
 | d=>d
def Hl(S:Store)(x y:D):Prop:=okD (vw S x)=true/\okD (vw S y)=true/\deep (vw S x)≤50
theorem iV{K:PySem.W.Frag}{O:Own}{H:Hp}{v:V}(st:StOk K O H S)(r:Rep K O H v x)(h:okD (vw S x)=true):Sn K H v (vw S x):=by
 cases r with
 | @loc a k e=>
   simp only[vw]at h ⊢;have f:k<S.length:=by rw[←st.len];exact(z0.mp e).1
   obtain⟨l,g,q⟩:=st.obj k a S[k] e (y4 f);rw[y4 f]at h ⊢;exact .lst (SqL.of g) (Fv (by simpa[okD]using h) q)
 | non=>exact .non
 | bl b=>exact .bl b
 | int i=>exact .int i
 | str i=>exact .str i
 | tup c d=>exact Bu h (.tup c d)
 | lst c d=>exact Bu h (.lst c d)
 | dic c j=>simp[vw,okD]at h
 | dlo c _=>simp[vw,okD]at h
theorem Vn(k:X.A.units+60<cLine)(h:Hl S x y)(w:W (eqD (vw S x) (vw S y)) S):aY X .Eq x y S (asB W):=by intro b s o H O v m u l I a e f g i;obtain⟨c,d,j⟩:=h;have:=(nY (n:=50) (A:=X.A) (BZ 50) (vw S x) (vw S y) %[|0] I (iV a e c) (iV a f d) g i %[|0]).1;exact this _ _ _ _ ⟨.bl _,H,I,rfl,Hh ⟨_,rfl,w⟩ a (.bl _)⟩
theorem Vj(k:X.A.units+60<cLine)(h:Hl S x y)(w:W (!eqD (vw S x) (vw S y)) S):aY X .NotEq x y S (asB W):=by intro b s o H O v m u l I a e f g i;obtain⟨c,d,j⟩:=h;have:=(nY (n:=50) (A:=X.A) (BZ 50) (vw S x) (vw S y) %[|0] I (iV a e c) (iV a f d) g i %[|0]).2;exact this _ _ _ _ ⟨.bl _,H,I,rfl,Hh ⟨_,rfl,w⟩ a (.bl _)⟩
theorem kj:∀{xs:List V}{its:List Value}{i:Nat}{v:V},Vals xs its->xs[i]? =some v->∃y,its[i]? =some y/\RelV v y
 | _,_,_,_,.nil,e=>by simp at e
 | _,_,0,_,.cons a _,e=>by simp at e;subst e;exact⟨_,rfl,a⟩
 | _,_,i+1,v,.cons _ t,e=>by obtain⟨y,b,c⟩:=kj (i:=i) (v:=v) t (by simpa using e);exact⟨y,by simpa using b,c⟩
theorem El{pins:Pins}{s:Shared}{σ:DL.St}{H:Hp}{v E:V}{u u':Value}(S:X.A.units+60<cLine)(I:%[|5])(P:Sn X.K H v x)(Q:Sn X.K H E (.lst ds))(N:RelV v u)(O:RelV E u')(G:bJ ds≤50):
 ∃(l:Addr) (its:List Value) (e:Value->Bool),u'=.ref l/\s.heap.IsList l its.toArray/\(∀y,y∈its.toArray->SeqAt.EqAt X.A.in1 s y u (e y))/\its.toArray.any e=ds.any λ d=>eqD d x:=by
 classical
 cases Q with
 | @lst a j _ F g=>
   cases O;obtain⟨its,h,M,T⟩:=I.list F;let e:Value->Bool:=λ y=>decide (∃(b:V) (d:D),RelV b y/\Sn X.K H b d/\eqD d x=true);have A:∀(y:Value)(b:V)(d:D),RelV b y->Sn X.K H b d->e y=eqD d x:=by
    intro y b d c f
    cases k:eqD d x with
    | true=>exact ZG ⟨b,d,c,f,k⟩
    | false=>refine ZH ?_;rintro⟨U,R,r,t,m⟩;have p:=r.inj c;subst p;have:=rJ I t f;subst this;rw[k]at m;cases m
   refine⟨a,its,e,rfl,M.isList,?_,?_⟩
   . intro y K;have z:y∈its:=by simpa using K
     obtain⟨i,B⟩:=ZR z;have q:i<j.length:=by rw[h.length];exact(z0.mp B).1
     obtain⟨d,k⟩:∃d,ds[i]? =some d:=⟨_,y4 (by rw[←g.length];exact q)⟩;obtain⟨b,w,f⟩:=g.get k;obtain⟨W,n,c⟩:=kj h w;rw[B]at n;cases n;rw[A y b d c f];exact BZ 50 d x (Nat.le_trans (dM k) G) I f P c N (by show X.A.units+1+50<cLine;omega)
   . have C:its.length=ds.length:=by rw[←h.length,g.length]
     have o:∀(j:List V)(its:List Value)(ds:List D),Vals j its->Sns X.K H j ds->its.any e=ds.any λ d=>eqD d x:=by
      intro j its ds h g
      induction h generalizing ds with
      | nil=>cases g;rfl
      | cons c _ L=>cases g with| cons f J=>rw[List.any_cons,List.any_cons,A _ _ _ c f,L _ J]
     rw[List.any_toArray];exact o j its ds h g
theorem Vs(k:X.A.units+60<cLine)(b:vw S y=.lst ds)(h1:okD (vw S x)=true)(h2:bW ds=true)(g:bJ ds≤50)(w:W (ds.any λ d=>eqD d (vw S x)) S):aY X .In x y S (asB W):=by intro c s z H O v t u r I a n o p q;have f:=iV a o (by rw[b];simpa[okD]using h2);rw[b]at f;obtain⟨l,m,e,rfl,j,i,h⟩:=El k I (iV a n h1) f p q g;refine SeqAt.in_listAt e j i ?_;rw[h];exact⟨.bl _,H,I,rfl,Hh ⟨_,rfl,w⟩ a (.bl _)⟩
theorem RD(k:X.A.units+60<cLine)(b:vw S y=.lst ds)(h1:okD (vw S x)=true)(h2:bW ds=true)(g:bJ ds≤50)(w:W (!(ds.any λ d=>eqD d (vw S x))) S):aY X .NotIn x y S (asB W):=by intro c s z H O v t u r I a n o p q;have f:=iV a o (by rw[b];simpa[okD]using h2);rw[b]at f;obtain⟨l,m,e,rfl,j,i,h⟩:=El k I (iV a n h1) f p q g;refine SeqAt.notIn_listAt e j i ?_;rw[h];exact⟨.bl _,H,I,rfl,Hh ⟨_,rfl,w⟩ a (.bl _)⟩
end
end RF
namespace RF
open PySem PySem.Spec L2 DL
open PyProof.Rows
variable {X : Cx}
def isN:D->Bool
 | .non=>true
 | _=>false
theorem U0{a b:Bool}{S:Store}{W:Bool->%[|4]}(w:W (a==b) S):aY X .Is (.bl a) (.bl b) S (asB W):=by
 intro c s l H O v k u j I i d f g h;cases d;cases f;cases g;cases h;refine wpAny_is_plain rfl ?_;have e:(Value.bool a==Value.bool b)=(a==b):=by cases a<;>cases b<;>rfl
 rw[e];exact⟨.bl _,H,I,rfl,Hh ⟨_,rfl,w⟩ i (.bl _)⟩
theorem Ig{a b:Bool}{S:Store}{W:Bool->%[|4]}(w:W (!(a==b)) S):aY X .IsNot (.bl a) (.bl b) S (asB W):=by
 intro c s l H O v k u j I i d f g h;cases d;cases f;cases g;cases h;refine wpAny_isNot_plain rfl ?_;have e:(Value.bool a==Value.bool b)=(a==b):=by cases a<;>cases b<;>rfl
 rw[e];exact⟨.bl _,H,I,rfl,Hh ⟨_,rfl,w⟩ i (.bl _)⟩
def bEq(x y:D)(ki:Int->Int->Prop)(kb:Bool->Bool->Prop)(g:Prop):Prop:=match x with
 | .int i=>(match y with
   | .int j=>ki i j
   | _=>g)
 | .bl i=>(match y with
   | .bl j=>kb i j
   | _=>g)
 | _=>g
theorem Ff{x y:D}{b:Int->Int->Prop}{a:Bool->Bool->Prop}{g:Prop}(h:bEq x y b a g):(∃i j,x=.int i/\y=.int j/\b i j)∨(∃i j,x=.bl i/\y=.bl j/\a i j)∨g:=by cases x<;>first | exact .inr (.inr h) | (cases y<;>first | exact .inr (.inr h) | exact .inl ⟨_,_,rfl,rfl,h⟩ | exact .inr (.inl ⟨_,_,rfl,rfl,h⟩))
def bIs(x y:D)(n:Prop)(kb:Bool->Bool->Prop):Prop:=match y with
 | .non=>n
 | .bl j=>(match x with
   | .bl i=>kb i j
   | _=>False)
 | _=>False
theorem Ga{x y:D}{n:Prop}{a:Bool->Bool->Prop}(h:bIs x y n a):(y=.non/\n)∨∃i j,x=.bl i/\y=.bl j/\a i j:=by cases y<;>first | exact h.elim | exact .inl ⟨rfl,h⟩ | (cases x<;>first | exact h.elim | exact .inr ⟨_,_,rfl,rfl,h⟩)
@[irreducible] noncomputable def bV(op:CmpOp)(x y:D)(S:Store)(W:Bool->%[|4]):Prop:=match op with
  | .Lt=>bII x y λ i j=>W (decide (i<j)) S
  | .LtE=>bII x y λ i j=>W (decide (i≤j)) S
  | .Gt=>bII x y λ i j=>W (decide (j<i)) S
  | .GtE=>bII x y λ i j=>W (decide (j≤i)) S
  | .Eq=>bEq x y (λ i j=>W (decide (i=j)) S) (λ i j=>W (i==j) S) (Hl S x y/\W (eqD (vw S x) (vw S y)) S)
  | .NotEq=>bEq x y (λ i j=>W (!decide (i=j)) S) (λ i j=>W (!(i==j)) S) ((Hl S x y/\W (!eqD (vw S x) (vw S y)) S)∨(x=y/\ak x=true/\deep x≤50/\W false S))
  | .Is=>bIs x y (W (isN x) S) λ i j=>W (i==j) S
  | .IsNot=>bIs x y (W (!isN x) S) λ i j=>W (!(i==j)) S
  | .In=>∃a,vw S y=.lst a/\okD (vw S x)=true/\bW a=true/\bJ a≤50/\W (a.any λ d=>eqD d (vw S x)) S
  | .NotIn=>∃a,vw S y=.lst a/\okD (vw S x)=true/\bW a=true/\bJ a≤50/\W (!(a.any λ d=>eqD d (vw S x))) S
theorem cz{op:CmpOp}{x y:D}{S:Store}{W:Bool->%[|4]}{b:Bool}(h:∀V:WD,V (.bl b) S->aY X op x y S V)(w:W b S):aY X op x y S (asB W):=h (asB W) ⟨b,rfl,w⟩
theorem eZ{op:CmpOp}{x y:D}{S:Store}{W:Bool->%[|4]}(d:X.A.units+60<cLine)(h:bV op x y S W):aY X op x y S (asB W):=by
 unfold bV at h
 cases op with
 | Lt=>obtain⟨i,j,rfl,rfl,h⟩:=dR h;exact cz (λ _=>WM) h
 | LtE=>obtain⟨i,j,rfl,rfl,h⟩:=dR h;exact cz (λ _=>Wo) h
 | Gt=>obtain⟨i,j,rfl,rfl,h⟩:=dR h;exact cz (λ _=>WQ) h
 | GtE=>obtain⟨i,j,rfl,rfl,h⟩:=dR h;exact cz (λ _=>Ww) h
 | Eq=>rcases Ff h with⟨i,j,rfl,rfl,h⟩ | ⟨i,j,rfl,rfl,h⟩ | h;{exact cz (λ _=>Vc) h};{exact cz (λ _=>Vk) h};{exact Vn d h.1 h.2}
 | NotEq=>rcases Ff h with⟨i,j,rfl,rfl,h⟩ | ⟨i,j,rfl,rfl,h⟩ | h | ⟨rfl,a,b,c⟩;{exact cz (λ _=>Va) h};{exact cz (λ _=>Vh) h};{exact Vj d h.1 h.2};{exact Lx d a b ⟨false,rfl,c⟩}
 | Is=>rcases Ga h with⟨rfl,h⟩ | ⟨i,j,rfl,rfl,h⟩;{exact cz (λ V w=>VG w) h};{exact U0 h}
 | IsNot=>rcases Ga h with⟨rfl,h⟩ | ⟨i,j,rfl,rfl,h⟩;{refine cz (λ V w=>Pj ?_) h;cases x<;>exact w};{exact Ig h}
 | In=>obtain⟨g,a,b,c,e,f⟩:=h;exact Vs d a b c e f
 | NotIn=>obtain⟨g,a,b,c,e,f⟩:=h;exact RD d a b c e f
section
variable {i j : Int} {a b : Bool} {x y : D} {S : Store} {W : Bool -> Store -> Prop}
theorem cLt(w:W (decide (i<j)) S):bV .Lt (.int i) (.int j) S W:=by unfold bV;exact w
theorem cLe(w:W (decide (i≤j)) S):bV .LtE (.int i) (.int j) S W:=by unfold bV;exact w
theorem cGt(w:W (decide (j<i)) S):bV .Gt (.int i) (.int j) S W:=by unfold bV;exact w
theorem cEqI(w:W (decide (i=j)) S):bV .Eq (.int i) (.int j) S W:=by unfold bV;exact w
theorem cNeI(w:W (!decide (i=j)) S):bV .NotEq (.int i) (.int j) S W:=by unfold bV;exact w
theorem cIsNot(w:W (!isN x) S):bV .IsNot x .non S W:=by unfold bV;cases x<;>exact w
end
set_option genInjectivity false in
structure Ex(Ω:Wd) where
 lev:Nat
 chk:Bool->%[|2]->Nm->Expr->Bool
 wp:Gam->Store->WD->Prop
 sound:∀{X:Cx}{r:Nat}{top:Bool}{N:%[|2]}{nm:Nm}{e:Expr}{Γ:Gam}{S:Store}{W:WD},At Ω X r top N nm->lev≤r->chk top N nm e=true->wp Γ S W->Ev X Γ S e W
set_option genInjectivity false in
structure Te(Ω:Wd) where
 lev:Nat
 chk:Bool->%[|2]->Nm->Expr->Bool
 wp:Gam->Store->(Bool->%[|4])->Prop
 sound:∀{X:Cx}{r:Nat}{top:Bool}{N:%[|2]}{nm:Nm}{e:Expr}{Γ:Gam}{S:Store}{W:Bool->%[|4]},At Ω X r top N nm->lev≤r->chk top N nm e=true->wp Γ S W->Ts X Γ S e W
set_option genInjectivity false in
structure Ar(Ω:Wd) where
 lev:Nat
 chk:Bool->%[|2]->Nm->List Expr->Bool
 wp:Gam->Store->(List D->%[|4])->Prop
 plain:∀{top:Bool}{N:%[|2]}{nm:Nm}{es:List Expr},chk top N nm es=true->es.all okE=true
 sound:∀{X:Cx}{r:Nat}{top:Bool}{N:%[|2]}{nm:Nm}{es:List Expr}{Γ:Gam}{S:Store}{W:List D->%[|4]},At Ω X r top N nm->lev≤r->chk top N nm es=true->wp Γ S W->EvA X Γ S es W
set_option genInjectivity false in
structure Bo(Ω:Wd) where
 lev:Nat
 chk:Bool->%[|2]->Nm->List Expr->Bool
 wpA:Gam->Store->WD->Prop
 wpO:Gam->Store->WD->Prop
 ne:∀{top:Bool}{N:%[|2]}{nm:Nm}{es:List Expr},chk top N nm es=true->∃b rest,es=b::rest
 soundA:∀{X:Cx}{r:Nat}{top:Bool}{N:%[|2]}{nm:Nm}{es:List Expr}{Γ:Gam}{S:Store}{W:WD}{pos:Pos},At Ω X r top N nm->lev≤r->chk top N nm es=true->wpA Γ S W->Ev X Γ S (.BoolOp .And es pos) W
 soundO:∀{X:Cx}{r:Nat}{top:Bool}{N:%[|2]}{nm:Nm}{es:List Expr}{Γ:Gam}{S:Store}{W:WD}{pos:Pos},At Ω X r top N nm->lev≤r->chk top N nm es=true->wpO Γ S W->Ev X Γ S (.BoolOp .Or es pos) W
set_option genInjectivity false in
structure Bt(Ω:Wd) where
 lev:Nat
 chk:Bool->%[|2]->Nm->List Expr->Bool
 wpA:Gam->Store->(Bool->%[|4])->Prop
 wpO:Gam->Store->(Bool->%[|4])->Prop
 ne:∀{top:Bool}{N:%[|2]}{nm:Nm}{es:List Expr},chk top N nm es=true->∃b rest,es=b::rest
 soundA:∀{X:Cx}{r:Nat}{top:Bool}{N:%[|2]}{nm:Nm}{es:List Expr}{Γ:Gam}{S:Store}{W:Bool->%[|4]}{pos:Pos},At Ω X r top N nm->lev≤r->chk top N nm es=true->wpA Γ S W->TsW X Γ S (.BoolOp .And es pos) W
 soundO:∀{X:Cx}{r:Nat}{top:Bool}{N:%[|2]}{nm:Nm}{es:List Expr}{Γ:Gam}{S:Store}{W:Bool->%[|4]}{pos:Pos},At Ω X r top N nm->lev≤r->chk top N nm es=true->wpO Γ S W->TsW X Γ S (.BoolOp .Or es pos) W
theorem At.hu{Ω:Wd}{r:Nat}{top:Bool}{N:%[|2]}{nm:Nm}(A:At Ω X r top N nm):X.A.units+60<cLine:=by have:=A.room.un;omega
theorem lv2{a b r:Nat}(h:max a b≤r):a≤r/\b≤r:=%[|0]
variable {Ω : Wd}
def b7(i:Nat):Ex Ω where
 lev:=0
 chk _ N j e:=match e with | .Name x _=>(N[i]? ==some x)&&(vis j x&&okN x) | _=>false
 wp g S W:=match g[i]? with | some (some d)=>W d S | _=>False
 sound:=by
  intro X r p N j e g S W A _ h b
  cases e with
  | Name x n=>
    obtain⟨c,f⟩:=aa h;obtain⟨f,m⟩:=aa f;obtain⟨k,l,_⟩:=gZ m;have c:N[i]? =some x:=ZI c
    cases a:g[i]? with
    | none=>rw[a]at b;exact b.elim
    | some o=>
      cases o with
      | none=>rw[a]at b;exact b.elim
      | some d=>rw[a]at b;exact Uk i a b (by rw[A.n];exact c) (A.vis f) k l
  | _=>exact fE h
def jl(i:Int):Ex Ω where
 lev:=0
 chk _ _ _ e:=match e with | .Constant (.int j) _ _=>j==i | _=>false
 wp _ S W:=W (.int i) S
 sound:=by
  intro X r f N g e h S W A _ a b
  cases e with
  | Constant c k d=>
    cases c with
    | int j=>have e:j=i:=ZI a;subst e;exact R4 b
    | _=>exact fE a
  | _=>exact fE a
def Ex.bl(i:Bool):Ex Ω where
 lev:=0
 chk _ _ _ e:=match e with | .Constant (.bool j) _ _=>j==i | _=>false
 wp _ S W:=W (.bl i) S
 sound:=by
  intro X r f N g e h S W A _ a b
  cases e with
  | Constant c k d=>
    cases c with
    | bool j=>have e:j=i:=ZI a;subst e;exact Vx b
    | _=>exact fE a
  | _=>exact fE a
def Ex.non:Ex Ω where
 lev:=0
 chk _ _ _ e:=match e with | .Constant .none _ _=>true | _=>false
 wp _ S W:=W .non S
 sound:=by
  intro X r f N g e h S W A _ a b
  cases e with
  | Constant c k d=>
    cases c with
    | none=>exact R1 b
    | _=>exact fE a
  | _=>exact fE a
def Yd{x:Str}{i:Int}(h:∃t,Ω.mg x=some (.int i t)):Ex Ω where
 lev:=0
 chk _ _ c e:=match e with | .Name y _=>(y==x)&&(glb c x&&okN x) | _=>false
 wp _ S W:=W (.int i) S
 sound:=by
  intro X r k N c e l S W A _ b g
  cases e with
  | Name y j=>obtain⟨d,a⟩:=aa b;obtain⟨a,f⟩:=aa a;have e:y=x:=ZI d;subst e;obtain⟨t,h⟩:=h;exact Ln (by rw[A.g];exact h) g (A.glb a) (gZ f).1
  | _=>exact fE b
def Hc(op:Operator)(a b:Ex Ω):Ex Ω where
 lev:=max a.lev b.lev
 chk c N f e:=match e with | .BinOp l o r _=>(o==op)&&(a.chk c N f l&&b.chk c N f r) | _=>false
 wp g S W:=a.wp g S λ x h=>b.wp g h λ y i=>Oe op x y i W
 sound:=by
  intro X r c N f e g S W A n j p;obtain⟨s,t⟩:=lv2 n
  cases e with
  | BinOp l o v u=>obtain⟨k,d⟩:=aa j;obtain⟨d,m⟩:=aa d;have e:o=op:=ZI k;subst e;exact rW ((a.sound A s d p).mono λ x h q=>(b.sound A t m q).mono λ y i q=>Ku q)
  | _=>exact fE j
def XQ(op:CmpOp)(a b:Ex Ω):Ex Ω where
 lev:=max a.lev b.lev
 chk f N i e:=cm1 e λ l o r=>(o==op)&&(okE r&&(a.chk f N i l&&b.chk f N i r))
 wp j S W:=a.wp j S λ x k=>b.wp j k λ y m=>bV op x y m λ c n=>W (.bl c) n
 sound:=by intro X r f N i e j S W A z p B;obtain⟨C,D⟩:=lv2 z;obtain⟨l,o,F,E,s,h⟩:=qN p;clear p;subst s;obtain⟨u,g⟩:=aa h;obtain⟨t,g⟩:=aa g;obtain⟨g,v⟩:=aa g;have e:o=op:=ZI u;subst e;exact SJ ((a.sound A C g B).mono λ x k q=>(b.sound A D v q).mono λ y m q=>(eZ A.hu q).mono λ d n ⟨c,e,w⟩=>by subst e;exact w) (fJ t)
def Xg(op:CmpOp)(a b:Ex Ω):Te Ω where
 lev:=max a.lev b.lev
 chk c N g e:=cm1 e λ l o r=>(o==op)&&(okE r&&(a.chk c N g l&&b.chk c N g r))
 wp h S W:=a.wp h S λ x i=>b.wp h i λ y j=>bV op x y j W
 sound:=by intro X r c N g e h S W A t k u;obtain⟨v,w⟩:=lv2 t;obtain⟨l,o,B,z,m,f⟩:=qN k;clear k;subst m;obtain⟨p,d⟩:=aa f;obtain⟨n,d⟩:=aa d;obtain⟨d,s⟩:=aa d;have e:o=op:=ZI p;subst e;exact yC ((a.sound A v d u).mono λ x i q=>(b.sound A w s q).mono λ y j q=>eZ A.hu q) (fJ n)
abbrev Oa(a:Ex Ω)(o1:CmpOp)(b:Ex Ω)(o2:CmpOp)(c:Ex Ω)(Γ:Gam)(S:Store)(W:Bool->%[|4]):Prop:=
 a.wp Γ S λ x e=>b.wp Γ e λ y f=>bV o1 x y f λ k d=>(k=false->W false d)/\(k=true->c.wp Γ d λ t g=>bV o2 y t g W)
def Ex.ch2(a:Ex Ω)(o1:CmpOp)(b:Ex Ω)(o2:CmpOp)(c:Ex Ω):Ex Ω where
 lev:=max (max a.lev b.lev) c.lev
 chk f N h e:=cm2 e λ l p s m r=>(p==o1)&&((s==o2)&&(okE r&&(a.chk f N h l&&(b.chk f N h m&&c.chk f N h r))))
 wp z S W:=Oa a o1 b o2 c z S λ k u=>W (.bl k) u
 sound:=by intro X r f N h e z S W A H v I;obtain⟨o,K⟩:=lv2 H;obtain⟨o,J⟩:=lv2 o;obtain⟨l,p,s,m,P,L,C,n⟩:=Jx v;clear v;subst C;obtain⟨E,i⟩:=aa n;obtain⟨i,g⟩:=aa i;obtain⟨D,g⟩:=aa g;obtain⟨g,j⟩:=aa g;obtain⟨j,F⟩:=aa j;have e:p=o1:=ZI E;subst e;have e:s=o2:=ZI i;subst e;refine M8 ((a.sound A o g I).mono λ x u q=>(b.sound A J j q).mono λ y M q=>(eZ A.hu q).mono λ d B ⟨k,e,w⟩=>⟨k,e,w.1,λ G=>(c.sound A K F (w.2 G)).mono λ t O q=>(eZ A.hu q).mono λ d B ⟨c,e,w⟩=>by subst e;exact w⟩) (fJ D)
def Te.ch2(a:Ex Ω)(o1:CmpOp)(b:Ex Ω)(o2:CmpOp)(c:Ex Ω):Te Ω where
 lev:=max (max a.lev b.lev) c.lev
 chk f N h e:=cm2 e λ l p s m r=>(p==o1)&&((s==o2)&&(okE r&&(a.chk f N h l&&(b.chk f N h m&&c.chk f N h r))))
 wp v S W:=Oa a o1 b o2 c v S W
 sound:=by intro X r f N h e v S W A F u G;obtain⟨o,I⟩:=lv2 F;obtain⟨o,H⟩:=lv2 o;obtain⟨l,p,s,m,P,J,z,n⟩:=Jx u;clear u;subst z;obtain⟨C,i⟩:=aa n;obtain⟨i,g⟩:=aa i;obtain⟨B,g⟩:=aa g;obtain⟨g,j⟩:=aa g;obtain⟨j,D⟩:=aa j;have e:p=o1:=ZI C;subst e;have e:s=o2:=ZI i;subst e;refine IK ((a.sound A o g G).mono λ x K q=>(b.sound A H j q).mono λ y L q=>(eZ A.hu q).mono λ d M ⟨k,e,w⟩=>⟨k,e,w.1,λ E=>(c.sound A I D (w.2 E)).mono λ t O q=>eZ A.hu q⟩) (fJ B)
def Xd(a:Ex Ω):Te Ω where
 lev:=a.lev
 chk b N g e:=RB e&&a.chk b N g e
 wp h S W:=a.wp h S λ d f=>match d with | .bl c=>W c f | _=>False
 sound:=by intro X r b N g e h S W A l k m;obtain⟨i,j⟩:=aa k;refine Ue ((a.sound A l j m).mono λ d f q=>?_) (Rz i _);cases d<;>first | exact⟨_,rfl,q⟩ | exact q.elim
def Xf(t:Te Ω):Te Ω where
 lev:=t.lev
 chk b N f e:=match e with | .UnaryOp .Not a _=>t.chk b N f a | _=>false
 wp g S W:=t.wp g S λ c h=>W (!c) h
 sound:=by
  intro X r b N f e g S W A i d j
  cases e with
  | UnaryOp o a k=>
    cases o with
    | Not=>exact RZ (t.sound A i d j)
    | _=>exact fE d
  | _=>exact fE d
def Xq(t:Te Ω):Bt Ω where
 lev:=t.lev
 chk b N f c:=match c with | [e]=>t.chk b N f e | _=>false
 wpA d S W:=t.wp d S W
 wpO d S W:=t.wp d S W
 ne:=by
  intro b N f c a;match c,a with
  | [e],_=>exact⟨_,_,rfl⟩
  | [],a=>exact fE a
  | _::_::_,a=>exact fE a
 soundA:=by
  intro X r b N f c d S W i A g a h;match c,a with
  | [e],a=>exact tw_and1 (t.sound A g a h)
  | [],a=>exact fE a
  | _::_::_,a=>exact fE a
 soundO:=by
  intro X r b N f c d S W i A g a h;match c,a with
  | [e],a=>exact tw_or1 (t.sound A g a h)
  | [],a=>exact fE a
  | _::_::_,a=>exact fE a
def Xk(t:Te Ω)(r:Bt Ω):Bt Ω where
 lev:=max t.lev r.lev
 chk f N j d:=match d with | e::d=>t.chk f N j e&&r.chk f N j d | _=>false
 wpA h S W:=t.wp h S λ c g=>(c=true->r.wpA h g W)/\(c=false->W false g)
 wpO h S W:=t.wp h S λ c g=>(c=true->W true g)/\(c=false->r.wpO h g W)
 ne:=by
  intro f N j d a;match d,a with
  | _::_,_=>exact⟨_,_,rfl⟩
  | [],a=>exact fE a
 soundA:=by
  intro X v f N j d h S W u A n a o;obtain⟨p,s⟩:=lv2 n;match d,a with
  | e::d,a=>obtain⟨l,i⟩:=aa a;obtain⟨b,k,rfl⟩:=r.ne i;exact tw_and (Ts.mono (t.sound A p l o) λ c g q=>⟨λ m=>r.soundA A s i (q.1 m),q.2⟩)
  | [],a=>exact fE a
 soundO:=by
  intro X v f N j d h S W u A n a o;obtain⟨p,s⟩:=lv2 n;match d,a with
  | e::d,a=>obtain⟨l,i⟩:=aa a;obtain⟨b,k,rfl⟩:=r.ne i;exact tw_or (Ts.mono (t.sound A p l o) λ c g q=>⟨q.1,λ m=>r.soundO A s i (q.2 m)⟩)
  | [],a=>exact fE a
def XD(l:Bt Ω):Te Ω where
 lev:=l.lev
 chk a N d e:=match e with | .BoolOp .And c _=>l.chk a N d c | _=>false
 wp f S W:=l.wpA f S W
 sound:=by
  intro X r a N d e f S W A g b h
  cases e with
  | BoolOp o c i=>
    cases o with
    | And=>exact(l.soundA A g b h).ts
    | _=>exact fE b
  | _=>exact fE b
def XH(l:Bt Ω):Te Ω where
 lev:=l.lev
 chk a N d e:=match e with | .BoolOp .Or c _=>l.chk a N d c | _=>false
 wp f S W:=l.wpO f S W
 sound:=by
  intro X r a N d e f S W A g b h
  cases e with
  | BoolOp o c i=>
    cases o with
    | Or=>exact(l.soundO A g b h).ts
    | _=>exact fE b
  | _=>exact fE b
def Xl(t:Ex Ω):Bo Ω where
 lev:=t.lev
 chk b N f c:=match c with | [e]=>t.chk b N f e | _=>false
 wpA d S W:=t.wp d S W
 wpO d S W:=t.wp d S W
 ne:=by
  intro b N f c a;match c,a with
  | [e],_=>exact⟨_,_,rfl⟩
  | [],a=>exact fE a
  | _::_::_,a=>exact fE a
 soundA:=by
  intro X r b N f c d S W i A g a h;match c,a with
  | [e],a=>exact Jg (t.sound A g a h)
  | [],a=>exact fE a
  | _::_::_,a=>exact fE a
 soundO:=by
  intro X r b N f c d S W i A g a h;match c,a with
  | [e],a=>exact Jg (t.sound A g a h)
  | [],a=>exact fE a
  | _::_::_,a=>exact fE a
def Xb(t:Ex Ω)(r:Bo Ω):Bo Ω where
 lev:=max t.lev r.lev
 chk g N k f:=match f with | e::f=>t.chk g N k e&&r.chk g N k f | _=>false
 wpA i S W:=t.wp i S λ d h=>match d with | .bl c=>(c=true->r.wpA i h W)/\(c=false->W (.bl false) h) | _=>False
 wpO i S W:=t.wp i S λ d h=>match d with | .bl c=>(c=true->W (.bl true) h)/\(c=false->r.wpO i h W) | _=>False
 ne:=by
  intro g N k f a;match f,a with
  | _::_,_=>exact⟨_,_,rfl⟩
  | [],a=>exact fE a
 soundA:=by
  intro X w g N k f i S W v A o a p;obtain⟨s,u⟩:=lv2 o;match f,a with
  | e::f,a=>obtain⟨m,j⟩:=aa a;obtain⟨b,l,rfl⟩:=r.ne j;refine T4 ((t.sound A s m p).mono λ d h q=>?_);cases d<;>first | exact⟨_,rfl,λ n=>r.soundA A u j (q.1 n),q.2⟩ | exact q.elim
  | [],a=>exact fE a
 soundO:=by
  intro X w g N k f i S W v A o a p;obtain⟨s,u⟩:=lv2 o;match f,a with
  | e::f,a=>obtain⟨m,j⟩:=aa a;obtain⟨b,l,rfl⟩:=r.ne j;refine Vr ((t.sound A s m p).mono λ d h q=>?_);cases d<;>first | exact⟨_,rfl,q.1,λ n=>r.soundO A u j (q.2 n)⟩ | exact q.elim
  | [],a=>exact fE a
def Xm(l:Bo Ω):Ex Ω where
 lev:=l.lev
 chk a N d e:=match e with | .BoolOp .And c _=>l.chk a N d c | _=>false
 wp f S W:=l.wpA f S W
 sound:=by
  intro X r a N d e f S W A g b h
  cases e with
  | BoolOp o c i=>
    cases o with
    | And=>exact l.soundA A g b h
    | _=>exact fE b
  | _=>exact fE b
def Yq(l:Bo Ω):Ex Ω where
 lev:=l.lev
 chk a N d e:=match e with | .BoolOp .Or c _=>l.chk a N d c | _=>false
 wp f S W:=l.wpO f S W
 sound:=by
  intro X r a N d e f S W A g b h
  cases e with
  | BoolOp o c i=>
    cases o with
    | Or=>exact l.soundO A g b h
    | _=>exact fE b
  | _=>exact fE b
def Yl(a:Ex Ω):Ex Ω where
 lev:=a.lev
 chk f N i e:=match e with | .UnaryOp .Not b _=>a.chk f N i b | _=>false
 wp j S W:=a.wp j S λ d h=>match d with | .bl c=>W (.bl (!c)) h | _=>False
 sound:=by
  intro X r f N i e j S W A k g l
  cases e with
  | UnaryOp o b m=>
    cases o with
    | Not=>refine Sx ((a.sound A k g l).mono λ d h q=>?_);cases d<;>first | exact⟨_,rfl,q⟩ | exact q.elim
    | _=>exact fE g
  | _=>exact fE g
def Xu(a:Ex Ω):Ex Ω where
 lev:=a.lev
 chk f N i e:=match e with | .UnaryOp .USub b _=>a.chk f N i b | _=>false
 wp j S W:=a.wp j S λ d h=>match d with | .int c=>W (.int (-c)) h | _=>False
 sound:=by
  intro X r f N i e j S W A k g l
  cases e with
  | UnaryOp o b m=>
    cases o with
    | USub=>refine Uz ((a.sound A k g l).mono λ d h q=>?_);cases d<;>first | exact⟨_,rfl,q⟩ | exact q.elim
    | _=>exact fE g
  | _=>exact fE g
def il:Ar Ω where
 lev:=0
 chk _ _ _ b:=match b with | []=>true | _=>false
 wp _ S W:=W [] S
 plain:=by
  intro c N e b a;match b,a with
  | [],_=>rfl
  | _::_,a=>exact fE a
 sound:=by
  intro X r c N e b f S W A _ a d;match b,a with
  | [],_=>exact gM d
  | _::_,a=>exact fE a
def eX(a:Ex Ω)(r:Ar Ω):Ar Ω where
 lev:=max a.lev r.lev
 chk f N h c:=match c with | e::c=>okE e&&(a.chk f N h e&&r.chk f N h c) | _=>false
 wp k S W:=a.wp k S λ d l=>r.wp k l λ n m=>W (d::n) m
 plain:=by
  intro f N h c b;match c,b with
  | e::c,b=>obtain⟨i,g⟩:=aa b;obtain⟨g,j⟩:=aa g;rw[List.all_cons,i,r.plain j];rfl
  | [],b=>exact fE b
 sound:=by
  intro X u f N h c k S W A o b p;obtain⟨s,t⟩:=lv2 o;match c,b with
  | e::c,b=>obtain⟨i,g⟩:=aa b;obtain⟨g,j⟩:=aa g;exact cB ((a.sound A s g p).mono λ d l q=>r.sound A t j q) (aB i _ _)
  | [],b=>exact fE b
def W7(as:Ar Ω):Ex Ω where
 lev:=as.lev
 chk a N f e:=match e with | .Tuple c _ _=>as.chk a N f c | _=>false
 wp g S W:=as.wp g S λ b h=>b.length≤1000000/\W (.tup b) h
 sound:=by
  intro X r a N f e g S W A i d j
  cases e with
  | Tuple c k l=>exact Tc (as.sound A i d j)
  | _=>exact fE d
def Xh(as:Ar Ω):Ex Ω where
 lev:=as.lev
 chk a N f e:=match e with | .List c _=>as.chk a N f c | _=>false
 wp g S W:=as.wp g S λ b h=>b.length≤1000000/\W (.lst b) h
 sound:=by
  intro X r a N f e g S W A i d j
  cases e with
  | List c k=>exact Ur (as.sound A i d j)
  | _=>exact fE d
def Ex.own(as:Ar Ω):Ex Ω where
 lev:=as.lev
 chk a N g e:=match e with | .List d _=>as.chk a N g d | _=>false
 wp h S W:=as.wp h S λ c b=>c.length≤1000000/\W (.loc b.length) (b++[c])
 sound:=by
  intro X r a N g e h S W A i f j
  cases e with
  | List d k=>exact Rf (as.sound A i f j)
  | _=>exact fE f
def Ac(a b:Ex Ω):Ex Ω where
 lev:=max a.lev b.lev
 chk c N f e:=match e with | .Subscript l r _=>okE r&&(a.chk c N f l&&b.chk c N f r) | _=>false
 wp g S W:=a.wp g S λ x h=>b.wp g h λ y i=>KD x y i W
 sound:=by
  intro X r c N f e g S W A n j o;obtain⟨p,s⟩:=lv2 n
  cases e with
  | Subscript l u t=>obtain⟨k,d⟩:=aa j;obtain⟨d,m⟩:=aa d;exact Vz ((a.sound A p d o).mono λ x h q=>(b.sound A s m q).mono λ y i q=>QR q) (zp k)
  | _=>exact fE j
set_option genInjectivity false in
structure Po(Ω:Wd) where
 lev:Nat
 chk:Bool->%[|2]->Nm->Option Expr->Bool
 wp:Gam->Store->(Option Int->%[|4])->Prop
 sound:∀{X:Cx}{r:Nat}{top:Bool}{N:%[|2]}{nm:Nm}{e:Option Expr}{Γ:Gam}{S:Store}{W:Option Int->%[|4]},At Ω X r top N nm->lev≤r->chk top N nm e=true->wp Γ S W->PoD X Γ S e W
def Po.no:Po Ω where
 lev:=0
 chk _ _ _ e:=match e with | none=>true | _=>false
 wp _ S W:=W none S
 sound:=by
  intro X r c N f e g S W A d a b
  cases e with
  | none=>exact WT b
  | some e=>exact fE a
def Po.so(a:Ex Ω):Po Ω where
 lev:=a.lev
 chk b N g e:=match e with | some e=>a.chk b N g e | _=>false
 wp h S W:=a.wp h S λ d c=>match d with | .int i=>W (some i) c | _=>False
 sound:=by
  intro X r b N g e h S W A j f k
  cases e with
  | some e=>refine Wz ((a.sound A j f k).mono λ d c q=>?_);cases d<;>first | exact⟨_,rfl,q⟩ | exact q.elim
  | none=>exact fE f
theorem PoD.mono{b:Gam}{S:Store}{e:Option Expr}{W a:Option Int->%[|4]}(h:PoD X b S e W)(k:∀c S',W c S'->a c S'):PoD X b S e a:=by
 cases e with
 | none=>exact k _ _ h
 | some e=>exact Ev.mono h λ d f ⟨i,e,w⟩=>⟨i,e,k _ _ w⟩
def Yb(a:Ex Ω)(lo hi:Po Ω):Ex Ω where
 lev:=max a.lev (max lo.lev hi.lev)
 chk b N d e:=match e with | .Subscript l (.Slice x y none _) _=>a.chk b N d l&&(lo.chk b N d x&&hi.chk b N d y) | _=>false
 wp f S W:=a.wp f S λ x j=>lo.wp f j λ l k=>hi.wp f k λ h m=>M4 x l h m W
 sound:=by
  intro X r b N d e f S W A p c s;obtain⟨t,i⟩:=lv2 p;obtain⟨i,u⟩:=lv2 i
  cases e with
  | Subscript l w v=>
    cases w with
    | Slice x y z B=>
      cases z with
      | none=>obtain⟨n,g⟩:=aa c;obtain⟨g,o⟩:=aa g;exact Mi ((a.sound A t n s).mono λ x j q=>PoD.mono (lo.sound A i g q) λ l k q=>PoD.mono (hi.sound A u o q) λ h m q=>O9 q)
      | some _=>exact fE c
    | _=>exact fE c
  | _=>exact fE c
def j5{x:Str}{k n:Nat}{F:Ct}(C:Callee Ω.P Ω.w Ω.K Ω.mg Ω.base x k n F)(as:Ar Ω):Ex Ω where
 lev:=max k as.lev
 chk d N j e:=cO e λ y b=>GX b λ a m=>(y==x)&&(glb j x&&(okN x&&as.chk d N j (a::m)))
 wp t S W:=as.wp t S λ l v=>l.length=n/\F l v W
 sound:=by
  intro X r d N j e t S W A z q B;obtain⟨D,E⟩:=lv2 z;obtain⟨y,p,b,I,f,c⟩:=bx q;clear q;subst f;obtain⟨a,m,f,i⟩:=uN c;clear c;subst f;obtain⟨w,g⟩:=aa i;obtain⟨g,h⟩:=aa g;obtain⟨h,o⟩:=aa h;have e:y=x:=ZI w;subst e;have s:=as.plain o;rw[List.all_cons]at s;obtain⟨G,H⟩:=aa s;have u:Callee X.prog X.w X.K X.mg X.base y k n F:=by rw[A.p,A.w,A.k,A.g,A.b];exact C
  exact Qk u (A.room.mono D) (as.sound A E o B) (A.glb g) (gZ h).1 (aB G _ _) (qW H _ _)
set_option genInjectivity false in
structure Bf where
 x:Str
 id:String
 boot:bootBuiltins x=some (.builtin id)
 wp:List D->Store->WD->Prop
 sound:∀{X:Cx}{ds:List D}{S:Store}{W:WD},X.calm=true->Room 0 X.A->wp ds S W->cX X (.builtin id) ds S W
def S9(b:Bf)(hm:Ω.mg b.x=none)(as:Ar Ω):Ex Ω where
 lev:=as.lev
 chk f N k e:=cO e λ y c=>GX c λ a n=>(y==b.x)&&(glb k b.x&&(okN b.x&&as.chk f N k (a::n)))
 wp u S W:=as.wp u S λ m l=>b.wp m l W
 sound:=by intro X r f N k e u S W A w s x;obtain⟨y,p,c,C,h,d⟩:=bx s;clear s;subst h;obtain⟨a,n,h,j⟩:=uN d;clear d;subst h;obtain⟨v,i⟩:=aa j;obtain⟨i,g⟩:=aa i;obtain⟨g,o⟩:=aa g;have e:y=b.x:=ZI v;subst e;have t:=as.plain o;rw[List.all_cons]at t;obtain⟨z,B⟩:=aa t;exact Mv (EvA.mono (as.sound A w o x) λ m l q=>b.sound A.calm (A.room.mono (Nat.zero_le _)) q) (by rw[A.g];exact hm) b.boot (A.glb i) (gZ g).2.2 (gZ g).1 (aB z _ _) (qW B _ _)
set_option genInjectivity false in
structure Bc where
 x:Str
 id:String
 boot:bootBuiltins x=some (.type id)
 wp:List D->Store->WD->Prop
 sound:∀{X:Cx}{ds:List D}{S:Store}{W:WD},X.calm=true->Room 0 X.A->wp ds S W->cX X (.type id) ds S W
def Xa(b:Bc)(hm:Ω.mg b.x=none)(as:Ar Ω):Ex Ω where
 lev:=as.lev
 chk f N k e:=cO e λ y c=>GX c λ a n=>(y==b.x)&&(glb k b.x&&(okN b.x&&as.chk f N k (a::n)))
 wp u S W:=as.wp u S λ m l=>b.wp m l W
 sound:=by intro X r f N k e u S W A w s x;obtain⟨y,p,c,C,h,d⟩:=bx s;clear s;subst h;obtain⟨a,n,h,j⟩:=uN d;clear d;subst h;obtain⟨v,i⟩:=aa j;obtain⟨i,g⟩:=aa i;obtain⟨g,o⟩:=aa g;have e:y=b.x:=ZI v;subst e;have t:=as.plain o;rw[List.all_cons]at t;obtain⟨z,B⟩:=aa t;exact MJ (EvA.mono (as.sound A w o x) λ m l q=>b.sound A.calm (A.room.mono (Nat.zero_le _)) q) (by rw[A.g];exact hm) b.boot (A.glb i) (gZ g).2.2 (gZ g).1 (aB z _ _) (qW B _ _)
def Xr(hm:Ω.mg "isinstance"=none)(a:Ex Ω)(T:Ty)(hT:Ω.mg T.nm=none):Ex Ω where
 lev:=a.lev
 chk i N j e:=cO e λ y m=>two2 m λ b c=>anB (nameV c) λ t=>(y==("isinstance":Str))&&(glb j "isinstance"&&((t==T.nm)&&(glb j T.nm&&(okE b&&a.chk i N j b))))
 wp n S W:=a.wp n S λ d l=>W (.bl (isD T d)) l
 sound:=by intro X r i N j e n S W A E k G;obtain⟨y,p,m,H,rfl,f⟩:=bx k;obtain⟨b,c,rfl,g⟩:=two2_of f;obtain⟨t,F,h⟩:=aZ g;obtain⟨q,rfl⟩:=iB F;have k:=h;{skip;obtain⟨w,o⟩:=aa k;obtain⟨x,s⟩:=aa o;obtain⟨z,u⟩:=aa s;obtain⟨B,v⟩:=aa u;obtain⟨C,D⟩:=aa v;have e:y="isinstance":=ZI w;subst e;have e:t=T.nm:=ZI z;subst e;exact Ru (Tn:=T.id) ((a.sound A E D G).mono λ d l q=>by rw[Rr];exact q) T.isT T.boot (by rw[A.g];exact hm) (by rw[A.g];exact hT) (A.glb x) (A.glb B) T.ok.2 T.ok.1 (aB C _ _) (aB (e:=.Name T.nm q) rfl [] _)}
end RF
namespace RF
open PySem PySem.Spec L2 DL
open PyProof.Rows
variable {Γ : Gam}
inductive Tg where
 | nm(i:Nat) | tup(is:List Nat)
def setAll:Gam->List Nat->List D->Gam
 | Γ,i::is,d::ds=>setAll (Γ.set i (some d)) is ds
 | Γ,_,_=>Γ
def Tg.wp:Tg->D->Gam->(Gam->Prop)->Prop
 | .nm i,d,Γ,W=>W (Γ.set i (some d))
 | .tup is,.tup ds,Γ,W=>ds.length=is.length/\W (setAll Γ is ds)
 | .tup _,_,_,_=>False
def Tg.slots:Tg->List Nat
 | .nm i=>[i]
 | .tup is=>is
def xq(top:Bool)(N:%[|2])(nm:Nm)(i:Nat)(e:Expr):Bool:=match e with | .Name x _=>(N[i]? ==some x)&&lcl top nm x | _=>false
def fW(top:Bool)(N:%[|2])(nm:Nm):List Nat->List Expr->Bool
 | [],[]=>true
 | i::is,e::es=>xq top N nm i e&&fW top N nm is es
 | _,_=>false
def Tg.chk(t:Tg)(top:Bool)(N:%[|2])(nm:Nm)(e:Expr):Bool:=match t with
 | .nm i=>xq top N nm i e
 | .tup is=>match e with | .Tuple es _ _=>fW top N nm is es | _=>false
section
variable {Ω : Wd} {X : Cx} {r : Nat} {top : Bool} {N : %[|2]} {nm : Nm}
theorem Ih(A:At Ω X r top N nm){i:Nat}{e:Expr}{d:D}{c:Gam}{S:Store}{W:Gam->%[|4]}(b:xq top N nm i e=true)(hw:W (c.set i (some d)) S):BdW X e d c S W:=by
 cases e with
 | Name x j=>obtain⟨a,f⟩:=aa b;have a:N[i]? =some x:=ZI a;obtain⟨g,h⟩:=A.lcl f;exact OD i hw (by rw[A.n];exact A.nd) (by rw[A.n];exact a) g h
 | _=>exact fE b
theorem ym{i:Nat}{is:List Nat}{es:List Expr}(h:fW top N nm (i::is) es=true):∃x p es',es=.Name x p::es'/\xq top N nm i (.Name x p)=true/\fW top N nm is es'=true:=by
 cases es with
 | nil=>exact(y9 h).elim
 | cons e es=>
   obtain⟨a,b⟩:=aa h
   cases e with
   | Name x p=>exact⟨x,p,es,rfl,a,b⟩
   | _=>exact(y9 a).elim
theorem Fi{es:List Expr}(h:fW top N nm [] es=true):es=[]:=by
 cases es with
 | nil=>rfl
 | cons e es=>exact(y9 h).elim
theorem JP(A:At Ω X r top N nm){S:Store}{W:Gam->%[|4]}:∀{is:List Nat}{es:List Expr}{ds:List D}{a:Gam},fW top N nm is es=true->ds.length=is.length->W (setAll a is ds) S->zU X es ds a S W
 | [],es,ds,a,hc,hl,hw=>by
   have e:=Fi hc;subst e;have e:ds=[]:=by simpa using hl
   subst e;exact PX hw
 | i::is,es,ds,a,hc,hl,hw=>by
   obtain⟨x,p,b,rfl,c,f⟩:=ym hc
   cases ds with
   | nil=>simp at hl
   | cons d ds=>exact KH (Ih A c (JP A f (by simpa using hl) hw)) rfl
theorem Ez:∀{is:List Nat}{es:List Expr},fW top N nm is es=true->∀env:Env,(assignEach es env).length=is.length/\(assignEach es env).findIdx? (·.1)=none
 | [],es,hc,env=>by have e:=Fi hc;subst e;exact⟨rfl,rfl⟩
 | i::is,es,hc,env=>by obtain⟨x,p,c,rfl,f,d⟩:=ym hc;obtain⟨a,b⟩:=Ez d env;have e:assignEach (.Name x p::c) env=(false,assign (.Name x p) env)::assignEach c env:=rfl;rw[e];refine⟨by simp[a],?_⟩;rw[List.findIdx?_cons,b];rfl
theorem Tg.sound(A:At Ω X r top N nm){t:Tg}{e:Expr}{d:D}{g:Gam}{S:Store}{W:Gam->%[|4]}(c:t.chk top N nm e=true)(hw:t.wp d g λ Γ'=>W Γ' S):BdW X e d g S W:=by
 cases t with
 | nm i=>exact Ih A c hw
 | tup f=>
   cases e with
   | Tuple l k m=>
     have c:fW top N nm f l=true:=c
     cases d with
     | tup h=>obtain⟨j,hw⟩:h.length=f.length/\W (setAll g f h) S:=hw;obtain⟨a,b⟩:=Ez c X.env;exact RM (JP A c j hw) A.calm (a.trans j.symm) b
     | _=>exact hw.elim
   | _=>exact fE c
end
theorem Sub.setAll{a:Gam}:∀{is:List Nat}{ds:List D}{Γ':Gam},Sub a Γ'->(∀i∈is,a[i]? =some none)->Sub a (RF.setAll Γ' is ds)
 | [],ds,Γ',h,_=>by cases ds<;>exact h
 | i::is,[],Γ',h,_=>h
 | i::is,d::ds,Γ',h,hi=>show Sub a (RF.setAll (Γ'.set i (some d)) is ds)from Sub.setAll (Γ':=Γ'.set i (some d)) (h.set i (some d) (hi i w9)) λ j b=>hi j (x8 _ b)
theorem Kg{a:List (Option Nat)}{i:Nat}(h:a[i]? =some none):(capt a Γ)[i]? =some none:=by unfold capt;rw[x5,h];rfl
set_option genInjectivity false in
structure Itb(Ω:Wd) where
 lev:Nat
 chk:Bool->%[|2]->Nm->Expr->Expr->Bool
 wp:Gam->Store->(List D->%[|4])->Prop
 sound:∀{X:Cx}{r:Nat}{top:Bool}{N:%[|2]}{nm:Nm}{tg e:Expr}{Γ:Gam}{S:Store}{W:List D->%[|4]},At Ω X r top N nm->lev≤r->chk top N nm tg e=true->wp Γ S W->ItW X Γ S tg e W
theorem RC{X:Cx}{S:Store}{C e:Expr}{W:List D->%[|4]}(h:Ev X Γ S e λ d S1=>match d with | .lst ds=>W ds S1 | .tup ds=>W ds S1 | _=>False):ItW X Γ S C e W:=by
 intro j s F H O I l B;refine thn (h j s F H O I l B) λ u s1 n=>?_;obtain⟨v,t,c,y,x,d,S1,w,k,i,r⟩:=n
 cases r with
 | @lst a E ds f q=>
   cases y;obtain⟨g,A,p,z⟩:=c.list f.sq;refine wpAny_pyIter_list p.isList ?_;refine⟨s1.heap.objs.size,[s1.heap.objs.size],_,_,t,rfl,c.kept (t':=s1.toks) λ b o e=>ZC _ e,mD a _,⟨_,ZD _ rfl,rfl,rfl⟩,λ b m=>?_,x,ds,S1,w,k,i,pF f q⟩;have e:b=s1.heap.objs.size:=by simpa using m
   subst e;exact c.fpOk (x6 _) (c.hok.fresh (x6 _))
 | @tup a E ds f q=>
   cases y;obtain⟨g,A,p,z⟩:=c.tuple f.sq;refine wpAny_pyIter_tuple (show s1.heap.IsTuple a g.toArray from p) ?_;refine⟨s1.heap.objs.size,[s1.heap.objs.size],_,_,t,rfl,c.kept (t':=s1.toks) λ b o e=>ZC _ e,qZ a _,⟨_,ZD _ rfl,rfl,rfl⟩,λ b m=>?_,x,ds,S1,w,k,i,su f q⟩;have e:b=s1.heap.objs.size:=by simpa using m
   subst e;exact c.fpOk (x6 _) (c.hok.fresh (x6 _))
 | _=>exact w.elim
variable {Ω : Wd}
def Xc(a:Ex Ω):Itb Ω where
 lev:=a.lev
 chk b N f _ e:=a.chk b N f e
 wp g S W:=a.wp g S λ d c=>match d with | .lst ds=>W ds c | .tup ds=>W ds c | _=>False
 sound:=by intro X r b N f k e g S W A i h j;exact RC (a.sound A i h j)
def Xi(hm:Ω.mg "range"=none)(a:Ex Ω):Itb Ω where
 lev:=a.lev
 chk g N i _ e:=cO e λ y l=>dq l λ b=>(y==("range":Str))&&(glb i "range"&&(okE b&&a.chk g N i b))
 wp m S W:=a.wp m S λ d k=>match d with | .int j=>(-(2 ^ 62)≤j/\j<2 ^ 62)/\W (upTo 0 j.toNat) k | _=>False
 sound:=by intro X r g N i B e m S W A w h x;obtain⟨y,p,l,z,rfl,c⟩:=bx h;obtain⟨b,rfl,f⟩:=bG c;have h:=f;{skip;obtain⟨s,n⟩:=aa h;obtain⟨t,o⟩:=aa n;obtain⟨u,v⟩:=aa o;have e:y="range":=ZI s;subst e;refine Jc ((a.sound A w v x).mono λ d k q=>?_) (by rw[A.g];exact hm) (A.glb t) (aB u [] _);cases d<;>first | exact⟨_,rfl,q.1.1,q.1.2,q.2⟩ | exact q.elim}
def XS(hm:Ω.mg "range"=none)(a b:Ex Ω):Itb Ω where
 lev:=max a.lev b.lev
 chk c N h _ e:=cO e λ y t=>two2 t λ l r=>(y==("range":Str))&&(glb h "range"&&((okE l&&okE r)&&(a.chk c N h l&&b.chk c N h r)))
 wp n S W:=a.wp n S λ d o=>b.wp n o λ k s=>match d,k with | .int i,.int j=>(-(2 ^ 62)≤i/\i<2 ^ 62/\ -(2 ^ 62)≤j/\j<2 ^ 62)/\W (upTo i (j-i).toNat) s | _,_=>False
 sound:=by intro X r c N h M e n S W A G m H;obtain⟨I,J⟩:=lv2 G;obtain⟨y,p,t,K,rfl,f⟩:=bx m;obtain⟨l,L,rfl,g⟩:=two2_of f;have m:=g;{skip;obtain⟨x,v⟩:=aa m;obtain⟨z,w⟩:=aa v;obtain⟨B,C⟩:=aa w;obtain⟨D,u⟩:=aa B;obtain⟨E,F⟩:=aa C;have e:y="range":=ZI x;subst e;refine JM ((a.sound A I E H).mono λ d o q=>(b.sound A J F q).mono λ k s q=>?_) (by rw[A.g];exact hm) (A.glb z) (by rw[aB D,aB u];rfl) (aB u [] _);cases d<;>first | exact q.elim | (cases k<;>first | exact⟨_,_,rfl,rfl,q.1,q.2⟩ | exact q.elim)}
set_option genInjectivity false in
structure Cd(Ω:Wd) where
 lev:Nat
 chk:Bool->%[|2]->Nm->List Expr->Bool
 wp:Gam->Store->(Bool->%[|4])->Prop
 sound:∀{X:Cx}{r:Nat}{top:Bool}{N:%[|2]}{nm:Nm}{es:List Expr}{Γ:Gam}{S:Store}{W:Bool->%[|4]},At Ω X r top N nm->lev≤r->chk top N nm es=true->wp Γ S W->TsA X Γ S es W
def W9:Cd Ω where
 lev:=0
 chk _ _ _ a:=match a with | []=>true | _=>false
 wp _ S W:=W true S
 sound:=by
  intro X r d N f a g S W A e b c;match a,b with
  | [],_=>exact c
  | _::_,b=>exact fE b
def Cd.so(t:Te Ω):Cd Ω where
 lev:=t.lev
 chk b N d c:=match c with | [e]=>t.chk b N d e | _=>false
 wp f S W:=t.wp f S W
 sound:=by
  intro X r b N d c f S W A g a h;match c,a with
  | [e],a=>exact V0 (t.sound A g a h)
  | [],a=>exact fE a
  | _::_::_,a=>exact fE a
@[irreducible] noncomputable def nU(cap:List (Option Nat))(Γ:Gam)(elt:Ex Ω)(tg:Tg)(cd:Cd Ω)(W:WD)(ds:List D)(C0:%[|4])(S1:Store):Prop:=
  ds.length≤1000000/\∃c:Nat->List D->%[|4],c 0 [] S1/\(∀i a b,c i a b->C0 b)/\
   (∀i d a b,ds[i]? =some d->c i a b->tg.wp d (capt cap Γ) λ e=>cd.wp e b λ g f=>(g=true->elt.wp e f λ y h=>c (i+1) (a++[y]) h)/\(g=false->c (i+1) a f))/\
   ∀a b,c ds.length a b->W (.lst a) b∨W (.loc b.length) (b++[a])
abbrev nZ(cap:List (Option Nat))(Γ:Gam)(elt:Ex Ω)(tg:Tg)(cd:Cd Ω)(W:WD)(ds:List D)(S1:Store):Prop:=nU cap Γ elt tg cd W ds (λ _=>True) S1
theorem pH{a:List (Option Nat)}{b:Ex Ω}{e:Tg}{cd:Cd Ω}{W:WD}{ds:List D}{C0:%[|4]}{c:Store}(h:ds.length≤1000000/\∃Pv:Nat->List D->%[|4],Pv 0 [] c/\(∀i acc S',Pv i acc S'->C0 S')/\
 (∀i d acc S',ds[i]? =some d->Pv i acc S'->e.wp d (capt a Γ) λ Γ2=>cd.wp Γ2 S' λ ok S3=>(ok=true->b.wp Γ2 S3 λ y S4=>Pv (i+1) (acc++[y]) S4)/\(ok=false->Pv (i+1) acc S3))/\
 ∀acc S',Pv ds.length acc S'->W (.lst acc) S'∨W (.loc S'.length) (S'++[acc])):nU a Γ b e cd W ds C0 c:=by unfold nU;exact h
theorem gD{a:List (Option Nat)}{b:Ex Ω}{e:Tg}{cd:Cd Ω}{W:WD}{ds:List D}{c:Store}(h:ds.length≤1000000/\∃Pv:Nat->List D->%[|4],Pv 0 [] c/\
 (∀i d acc S',ds[i]? =some d->Pv i acc S'->e.wp d (capt a Γ) λ Γ2=>cd.wp Γ2 S' λ ok S3=>(ok=true->b.wp Γ2 S3 λ y S4=>Pv (i+1) (acc++[y]) S4)/\(ok=false->Pv (i+1) acc S3))/\
 ∀acc S',Pv ds.length acc S'->W (.lst acc) S'):nZ a Γ b e cd W ds c:=by obtain⟨f,Pv,g,k,j⟩:=h;exact pH ⟨f,Pv,g,λ _ _ _ _=>trivial,k,λ acc S' q=>.inl (j acc S' q)⟩
def oA(N':%[|2])(cap:List (Option Nat))(elt:Ex Ω)(tg:Tg)(it:Itb Ω)(cd:Cd Ω)(top:Bool)(N:%[|2])(nm:Nm)(e:Expr):Bool:=match e with
 | .ListComp x [⟨t,i,cs,0⟩] sc _=>(sc.kind==.function)&&(yR sc.names&&(freeOk nm sc.names&&((sc.names.all λ y=>!(y.2==.local)||(sc.names.lookup y.1==some .local))&&(bw N nm N' sc.names cap N'&&
  (okE i&&((tg.slots.all λ j=>cap[j]? ==some none)&&(decide N'.Nodup&&(it.chk top N nm t i&&(tg.chk false N' sc.names t&&(cd.chk false N' sc.names cs&&elt.chk false N' sc.names x))))))))))
 | _=>false
section
variable {X : Cx} {r : Nat} {top : Bool} {N : %[|2]} {nm : Nm}
theorem vR(A:At Ω X r top N nm){x:Str}(h:nm.lookup x=some .cell∨nm.lookup x=some .free):X.env.scope.names.lookup x=some .cell∨X.env.scope.names.lookup x=some .free:=by rcases h with h | h;{rcases A.look x _ h with q | ⟨q,_⟩;{exact .inl q};{exact nomatch q}};{rcases A.look x _ h with q | ⟨_,q⟩;{exact .inr q};{exact .inl q}}
theorem vI(A:At Ω X r top N nm){names:Nm}(h:freeOk nm names=true):freeOk X.env.scope.names names=true:=by unfold freeOk;refine List.all_eq_true.mpr λ y a=>?_;by_cases e:y.2=.free;{have:=vR A (ni h y a e);rcases this with q | q<;>simp[q]};{simp[e]}
theorem lg(A:At Ω X r top N nm){c:%[|2]}{a:Nm}:∀{b:List (Option Nat)}{t:%[|2]},bw N nm c a b t=true->bw X.N X.env.scope.names c a b t=true
 | [],[],_=>rfl
 | [],_::_,h=>by simp[bw]at h
 | none::_,[],h=>by simp[bw]at h
 | some _::_,[],h=>by simp[bw]at h
 | none::r,_::t,h=>by simp only[bw]at h ⊢;exact lg A h
 | some j::r,x::t,h=>by simp only[bw,Bool.and_eq_true,Bool.or_eq_true,beq_iff_eq]at h ⊢;exact⟨⟨⟨by rw[A.n];exact h.1.1.1,vR A h.1.1.2⟩,h.1.2⟩,lg A h.2⟩
theorem Tz(A:At Ω X r top N nm){a:Scope}{c:%[|2]}{C:Addr}{s:Shared}{H:Hp}{ex:List Addr}{cl:List (Str×Addr)}(d:a.kind=.function)(nd:c.Nodup):At Ω (fL X a c C s H ex cl) r false c a.names where
 cd:=λ h=>nomatch h
 fr:=λ h=>nomatch h
 p:=A.p
 w:=A.w
 k:=A.k
 g:=A.g
 b:=A.b
 room:=A.room
 xe:=A.xe
 calm:=A.calm
 n:=rfl
 nd:=nd
 kind:=d
 look:=by intro x k h;show(relabel a X.env).names.lookup x=some k∨_;rw[j7,d8,h];rcases qx X.env x k with q | ⟨e,f⟩;{exact .inl (congrArg some q)};{refine .inr ⟨e,?_⟩;show(relabel a X.env).names.lookup x=some .cell;rw[j7,d8,h];exact congrArg some f}
 fn:=λ x h=>by show(a.names.lookup x==some .cell)=true;rw[h];rfl
theorem qC(A:At Ω X r top N nm){m:Scope}{g:%[|2]}{f:List (Option Nat)}{e:Ex Ω}{u:Tg}{cd:Cd Ω}{x t:Expr}{cs:List Expr}{v:Gam}{W:WD}{ds:List D}{C0:%[|4]}{F:Store}(le:e.lev≤r)(S:cd.lev≤r)(p:m.kind=.function)(nd:g.Nodup)(P:(u.slots.all λ j=>f[j]? ==some none)=true)
 (Q:u.chk false g m.names t=true)(E:cd.chk false g m.names cs=true)(I:e.chk false g m.names x=true)(h:nU f v e u cd W ds C0 F):xg X m g f v x t cs W ds C0 F:=by
 unfold nU at h;obtain⟨R,n,T,U,Y,V⟩:=h;refine⟨R,n,T,U,λ i d b w L O C s H ex cl=>?_,V⟩;have B:=Tz A (C:=C) (s:=s) (H:=H) (ex:=ex) (cl:=cl) p nd;have J:∀j∈u.slots,(capt f v)[j]? =some none:=λ j M=>Kg (by have:=List.all_eq_true.mp P j M;exact ZI this);have base:=Y i d b w L O;have G:∀a,(cd.wp a w λ l k=>(l=true->e.wp a k λ y o=>n (i+1) (b++[y]) o)/\(l=false->n (i+1) b k))->
  TsA (fL X m g C s H ex cl) a w cs λ l k=>(l=true->Ev (fL X m g C s H ex cl) a k x λ y o=>n (i+1) (b++[y]) o)/\(l=false->n (i+1) b k):=by
  intro a q;have:=cd.sound B S E q;match cs,this with
  | [],this=>exact⟨λ p=>e.sound B le I (this.1 p),this.2⟩
  | [c],this=>exact Ts.mono this λ l k z=>⟨λ p=>e.sound B le I (z.1 p),z.2⟩
  | _::_::_,this=>exact this.elim
 refine Tg.sound B (W:=λ a K=>Sub (capt f v) a/\TsA (fL X m g C s H ex cl) a K cs λ l k=>(l=true->Ev (fL X m g C s H ex cl) a k x λ y o=>n (i+1) (b++[y]) o)/\(l=false->n (i+1) b k)) Q ?_
 cases u with
 | nm j=>exact⟨(Sub.refl _).set j _ (J j (by simp[Tg.slots])),G _ base⟩
 | tup is=>
   cases d with
   | tup Z=>exact⟨base.1,Sub.setAll (Sub.refl _) J,G _ base.2⟩
   | _=>exact base.elim
end
def W6(N':%[|2])(cap:List (Option Nat))(elt:Ex Ω)(tg:Tg)(it:Itb Ω)(cd:Cd Ω):Ex Ω where
 lev:=max elt.lev (max it.lev cd.lev)
 chk b N m e:=oA N' cap elt tg it cd b N m e
 wp h S W:=it.wp h S λ k j=>nZ cap h elt tg cd W k j
 sound:=by intro X r b N m e h S W A C a D;obtain⟨F,g⟩:=lv2 C;obtain⟨g,G⟩:=lv2 g;unfold oA at a;split at a;{rename_i x t i J I H;obtain⟨n,a⟩:=aa a;obtain⟨o,a⟩:=aa a;obtain⟨p,a⟩:=aa a;obtain⟨s,a⟩:=aa a;obtain⟨u,a⟩:=aa a;obtain⟨v,a⟩:=aa a;obtain⟨w,a⟩:=aa a;obtain⟨z,a⟩:=aa a;obtain⟨B,a⟩:=aa a;obtain⟨c,a⟩:=aa a;obtain⟨d,f⟩:=aa a;have l:I.kind=.function:=ZI n;refine Pz N' cap (X4 (ItW.mono (it.sound A g B D) λ k j q=>qC A F G l (ZF z) w c d f q)) A.xe A.calm l o (vI A p) (λ y E e=>?_) (lg A u) (nT v _);{have:=List.all_eq_true.mp s y E;simpa[e]using this}};{exact fE a}
end RF
namespace RF
open PySem PySem.Spec L2 DL
open PyProof.Rows
variable {Ω : Wd}
theorem vg{e:Expr}(h:noC e=true)(t:Expr)(l:Nat)(env:Env):swapsWithSole [t] e l env=pure false:=by unfold swapsWithSole;exact lu h (some t) l env
set_option genInjectivity false in
structure Sm(Ω:Wd) where
 lev:Nat
 chk:Bool->%[|2]->Nm->Stmt->Bool
 wp:Gam->Store->DL.Fin->Prop
 sound:∀{X:Cx}{r:Nat}{top:Bool}{N:%[|2]}{nm:Nm}{st:Stmt}{Γ:Gam}{S:Store}{W:DL.Fin},At Ω X r top N nm->lev≤r->chk top N nm st=true->wp Γ S W->Rn X Γ S st W
set_option genInjectivity false in
structure Bl(Ω:Wd) where
 lev:Nat
 chk:Bool->%[|2]->Nm->List Stmt->Bool
 wp:Gam->Store->DL.Fin->Prop
 sound:∀{X:Cx}{r:Nat}{top:Bool}{N:%[|2]}{nm:Nm}{sts:List Stmt}{Γ:Gam}{S:Store}{W:DL.Fin},At Ω X r top N nm->lev≤r->chk top N nm sts=true->wp Γ S W->Rns X Γ S sts W
def j4:Bl Ω where
 lev:=0
 chk _ _ _ a:=match a with | []=>true | _=>false
 wp c S W:=W.nx c S
 sound:=by
  intro X r e N g a c S W A f b d;match a,b with
  | [],_=>exact R5 d
  | _::_,b=>exact fE b
def eY(s:Sm Ω)(b:Bl Ω):Bl Ω where
 lev:=max s.lev b.lev
 chk c N e a:=match a with | st::a=>s.chk c N e st&&b.chk c N e a | _=>false
 wp h S W:=s.wp h S {W with nx:=λ f g=>b.wp f g W}
 sound:=by
  intro X r c N e a h S W A k d l;obtain⟨m,n⟩:=lv2 k;match a,d with
  | st::a,d=>obtain⟨i,j⟩:=aa d;exact Qx (Rn.mono (s.sound A m i l) (λ G g q=>b.sound A n j q) (λ _ _ q=>q) (λ _ _ q=>q) λ _ _ q=>q)
  | [],d=>exact fE d
def yD(a:Ex Ω):Sm Ω where
 lev:=a.lev
 chk b N f d:=match d with | .Return (some e) _=>a.chk b N f e | _=>false
 wp g S W:=a.wp g S W.rt
 sound:=by
  intro X r b N f d g S W A h c i
  cases d with
  | Return o j=>
    cases o with
    | some e=>exact VR (a.sound A h c i)
    | none=>exact fE c
  | _=>exact fE c
def Xj(a:Ex Ω):Sm Ω where
 lev:=a.lev
 chk b N g c:=match c with | .Expr e _=>noC e&&a.chk b N g e | _=>false
 wp d S W:=a.wp d S λ _ h=>W.nx d h
 sound:=by
  intro X r b N g c d S W A k f l
  cases c with
  | Expr e m=>obtain⟨i,j⟩:=aa f;exact Ti (a.sound A k j l) (lu i _ _ _)
  | _=>exact fE f
def W8(c:Te Ω)(a b:Bl Ω):Sm Ω where
 lev:=max c.lev (max a.lev b.lev)
 chk d N e l:=match l with | .If t n o _=>c.chk d N e t&&(a.chk d N e n&&b.chk d N e o) | _=>false
 wp f S W:=c.wp f S λ k g=>(k=true->a.wp f g W)/\(k=false->b.wp f g W)
 sound:=by
  intro X r d N e l f S W A u m v;obtain⟨w,j⟩:=lv2 u;obtain⟨j,x⟩:=lv2 j
  cases l with
  | If t n o y=>obtain⟨p,h⟩:=aa m;obtain⟨h,s⟩:=aa h;exact Wy (Ts.mono (c.sound A w p v) λ k g q=>⟨λ i=>a.sound A j h (q.1 i),λ i=>b.sound A x s (q.2 i)⟩)
  | _=>exact fE m
def sy(i:Nat)(a:Ex Ω):Sm Ω where
 lev:=a.lev
 chk b N j l:=setB l λ x e=>(N[i]? ==some x)&&(lcl b j x&&(noC e&&a.chk b N j e))
 wp k S W:=a.wp k S λ d m=>W.nx (k.set i (some d)) m
 sound:=by intro X r b N j l k S W A p h q;obtain⟨x,v,e,u,rfl,c⟩:=Er h;have h:=c;{obtain⟨n,f⟩:=aa h;obtain⟨f,g⟩:=aa f;obtain⟨g,o⟩:=aa g;obtain⟨s,t⟩:=A.lcl f;exact N8 i (a.sound A p o q) (by rw[A.n];exact A.nd) (by rw[A.n];exact ZI n) s (lu g _ _ _) t}
def X5(i:Nat)(N':%[|2])(cap:List (Option Nat))(elt:Ex Ω)(tg:Tg)(it:Itb Ω)(cd:Cd Ω):Sm Ω where
 lev:=max elt.lev (max it.lev cd.lev)
 chk f N w L:=setB L λ x e=>(N[i]? ==some x)&&(lcl f w x&&(f&&(oA N' cap elt tg it cd f N w e)))
 wp l S W:=it.wp l S λ C B=>nZ cap l elt tg cd (λ d M=>W.nx (l.set i (some d)) M) C B
 sound := by
  intro X r f N w L l S W A F a G;obtain⟨x,p,e,K,O,h⟩:=Er a;clear a;have a:=h;clear h;subst O
  . obtain⟨k1,q1⟩:=aa a;obtain⟨k2,q2⟩:=aa q1;obtain⟨k0,b⟩:=aa q2;obtain⟨H,I⟩:=A.lcl k2;have D:X.N[i]? =some x:=by rw[A.n];exact ZI k1
    have J:X.N.Nodup:=by rw[A.n];exact A.nd
    have c:=b;obtain⟨le,l3⟩:=lv2 F;obtain⟨li,lc⟩:=lv2 l3;unfold oA at c;split at c;{rename_i z t v m g pos;obtain⟨P,a⟩:=aa c;obtain⟨Q,a⟩:=aa a;obtain⟨R,a⟩:=aa a;obtain⟨T,a⟩:=aa a;obtain⟨U,a⟩:=aa a;obtain⟨V,a⟩:=aa a;obtain⟨Y,a⟩:=aa a;obtain⟨Z,a⟩:=aa a;obtain⟨h9,a⟩:=aa a;obtain⟨o,a⟩:=aa a;obtain⟨s,u⟩:=aa a;have E:g.kind=.function:=ZI P;by_cases j:(X.env.blockKind==.function&&X.env.kindOf x==some .local&&p.line==(Expr.ListComp z [⟨t,v,m,0⟩] g pos).pos.line&& !(g.names.any λ(n,k)=>n==x&&(k==.local||k==.cell)))=true;{refine J8 i N' cap (X4 (ItW.mono (it.sound A li h9 G) λ C B q=>qC A le lc E (ZF Z) Y o s u q)) J D H ?_ I A.xe A.calm E Q (vI A R) (λ y hy e=>?_) (lg A U) (nT V _);{show(pure (X.env.blockKind==.function&&X.env.kindOf x==some .local&&p.line==(Expr.ListComp z [⟨t,v,m,0⟩] g pos).pos.line&& !(g.names.any λ(n,k)=>n==x&&(k==.local||k==.cell))):Sem Bool)=pure true;rw[j]};{have:=List.all_eq_true.mp T y hy;simpa[e]using this}};{have j:_=false:=Bool.eq_false_iff.mpr j;refine N8 i ((W6 N' cap elt tg it cd).sound A F b G) J D H ?_ I;show(pure (X.env.blockKind==.function&&X.env.kindOf x==some .local&&p.line==(Expr.ListComp z [⟨t,v,m,0⟩] g pos).pos.line&& !(g.names.any λ(n,k)=>n==x&&(k==.local||k==.cell))):Sem Bool)=pure false;rw[j]}};{exact(y9 c).elim}
def Xz(o i a:Ex Ω):Sm Ω where
 lev:=max a.lev (max o.lev i.lev)
 chk g N s C:=ixB C λ x y e=>noC e&&(okE y&&(a.chk g N s e&&(o.chk g N s x&&i.chk g N s y)))
 wp m S W:=a.wp m S λ d w=>o.wp m w λ x z=>i.wp m z λ y t=>match x,y with | .loc k,.int n=>∃h j,t[k]? =some h/\ixN h.length n=some j/\W.nx m (t.set k (h.set j d)) | _,_=>False
 sound:=by intro X r g N s C m S W A J f K;obtain⟨L,u⟩:=lv2 J;obtain⟨u,M⟩:=lv2 u;obtain⟨x,y,p,e,B,D,l⟩:=Ij f;clear f;have f:=l;clear l;subst D;{obtain⟨E,f⟩:=aa f;obtain⟨F,f⟩:=aa f;obtain⟨G,f⟩:=aa f;obtain⟨H,I⟩:=aa f;refine P0 ((a.sound A L G K).mono λ d w q=>(o.sound A u H q).mono λ x z q=>(i.sound A M I q).mono λ y t q=>?_) ?_ (vg E _ _ _) ?_ rfl;{cases x<;>first | exact q.elim | (cases y<;>first | exact q.elim | (obtain⟨h,j,a,b,c⟩:=q;exact⟨_,_,h,j,rfl,rfl,a,b,c⟩))};{intro v;cases y<;>first | rfl | exact(y9 F).elim};{rfl}}
theorem MN{X:Cx}{k:Gam}{S:Store}{b e:Expr}{pos:Pos}{W:DL.Fin}(h:Ev X k S e λ d S1=>BdW X b d k S1 W.nx)(p:swapsWithSole [b] e pos.line X.env=pure false)(hw:swappedStores [b] e X.env=pure none)(h1:(assignEach [b] X.env).map (·.2)=[assign b X.env]):Rn X k S (.Assign [b] e pos) W:=by intro a s l H O I c r;refine wpAny_Assign_stores (thn (h a s l H O I c r) λ u w i=>?_) p hw;obtain⟨v,m,n,t,o,d,S1,x,g,j,f⟩:=i;rw[h1];show wpAny _ _ (assign b X.env u) _ _ _;refine thn (x a w l m o v u n (c.mono g) j f t) λ _ y ⟨σ',H',I',q⟩=>⟨σ',H',I',QN.pre g q⟩
def Vu:Expr->Bool
 | .Tuple .. =>false
 | e=>noC e
def XF(t:List Nat)(a:Ex Ω):Sm Ω where
 lev:=a.lev
 chk c N l v:=anB (TF v) λ z=>dq z.1 λ i=>sZ i&&(Vu z.2&&((Tg.tup t).chk c N l i&&a.chk c N l z.2))
 wp m S W:=a.wp m S λ d o=>(Tg.tup t).wp d m λ n=>W.nx n o
 sound:=by
  intro X r c N l v m S W A y f C;obtain⟨⟨D,e⟩,b,g⟩:=aZ f;clear f;obtain⟨u,b⟩:=Q7 b;subst b;obtain⟨i,b,h⟩:=bG g;clear g;have b:D=[i]:=b;subst b;obtain⟨B,f⟩:=aa h;clear h;obtain⟨E,k,p,b⟩:=jE B;subst b
  . obtain⟨s,f⟩:=aa f;obtain⟨w,x⟩:=aa f;have j:noC e=true:=by cases e<;>first | rfl | exact(y9 s).elim
    refine MN ((a.sound A y x C).mono λ d o q=>Tg.sound A (W:=W.nx) w q) (vg j _ _ _) ?_ rfl;cases e<;>first | rfl | exact(y9 s).elim
@[irreducible] noncomputable def iw(Γ:Gam)(tg:Tg)(body:Bl Ω)(W:DL.Fin)(ds:List D)(S1:Store):Prop:=
  ∃b:Nat->Gam->%[|4],b 0 Γ S1/\(∀i d a c,ds[i]? =some d->b i a c->tg.wp d a λ e=>body.wp e c {W with nx:=b (i+1),ct:=b (i+1),bk:=W.nx})/\(∀a c,b ds.length a c->W.nx a c)
theorem cF{e:Gam}{c:Tg}{a:Bl Ω}{W:DL.Fin}{ds:List D}{b:Store}(h:∃Pv:Nat->Gam->%[|4],Pv 0 e b/\(∀i d Γ' S',ds[i]? =some d->Pv i Γ' S'->c.wp d Γ' λ Γ2=>a.wp Γ2 S' {W with nx:=Pv (i+1),ct:=Pv (i+1),bk:=W.nx})/\(∀Γ' S',Pv ds.length Γ' S'->W.nx Γ' S')):iw e c a W ds b:=by unfold iw;exact h
def Xp(tg:Tg)(it:Itb Ω)(body:Bl Ω):Sm Ω where
 lev:=max it.lev body.lev
 chk a N g o:=frB o λ t i b=>okE i&&(tg.chk a N g t&&(it.chk a N g t i&&body.chk a N g b))
 wp j S W:=it.wp j S λ n l=>iw j tg body W n l
 sound:=by intro X r a N g o j S W A z c C;obtain⟨D,E⟩:=lv2 z;obtain⟨t,i,b,H,s,e⟩:=nC c;clear c;have c:=e;clear e;subst s;{obtain⟨u,c⟩:=aa c;obtain⟨v,c⟩:=aa c;obtain⟨w,x⟩:=aa c;refine VP (ItW.mono (it.sound A D w C) λ n l q=>?_) (by rw[A.xe];exact PassesOwn.never) A.calm (nT u _);unfold iw at q;obtain⟨h,F,I,G⟩:=q;refine⟨h,F,λ i d k p y B=>BdW.mono (Tg.sound A (W:=λ f m=>body.wp f m {W with nx:=h (i+1),ct:=h (i+1),bk:=W.nx}) v (I i d k p y B)) λ f m q=>body.sound A E x q,G⟩}
def V7(N ps:%[|2])(sm:Stmt)(k:Nat)(body:Bl Ω):Bool:=
 ((aN sm).kind==.function)&&(!(aN sm).isCoroutine&&(!(aN sm).isGenerator&&(decide N.Nodup&&(decide (N.take ps.length=ps)&&((ps.all λ x=>(aN sm).names.lookup x==some .local||(aN sm).names.lookup x==some .cell)&&
   (((aN sm).names.all λ y=>!(y.2==.free))&&(Nat.ble body.lev k&&body.chk true N (aN sm).names (cJ sm))))))))
theorem au(o:Ω.cd=none){x d:Str}{g:Stmt}{f:Addr}{j:FuncData}{N c:%[|2]}{k:Nat}{F:Ct}(n:Fun Ω.K x d g f j)(b:Bl Ω)(a:V7 N c g k b=true)
 (P:∀(ds:List D)(S:Store)(W:WD),F ds S W->ds.length=c.length->b.wp (ds.map some++List.replicate (N.length-ds.length) none) S {nx:=λ _ S1=>W .non S1,rt:=W}):FnOk Ω.P Ω.w Ω.K Ω.mg Ω.base CX0 (k+1) f j c (spC Ω.K c.length F):=by obtain⟨u,a⟩:=aa a;obtain⟨v,a⟩:=aa a;obtain⟨w,a⟩:=aa a;obtain⟨z,a⟩:=aa a;obtain⟨B,a⟩:=aa a;obtain⟨C,a⟩:=aa a;obtain⟨G,a⟩:=aa a;obtain⟨I,J⟩:=aa a;have l:N.Nodup:=ZF z;have m:FnScope N c (aN g):=⟨ZI u,nt v,nt w,l,ZF B,λ x M=>by have:=List.all_eq_true.mp C x M;simpa using this,λ y O e=>by have:=List.all_eq_true.mp G y O;simp[e]at this⟩;refine Vl n m λ t A i s H E ds S W _ L K h=>?_;refine b.sound (r:=k) (top:=true) (N:=N) (nm:=(aN g).names) ⟨rfl,rfl,rfl,rfl,rfl,L,rfl,rfl,rfl,l,m.kind,λ x Q h=>.inl h,λ _ _=>rfl,λ _ p q=>(nomatch (o.symm.trans q)),λ _=>⟨rfl,rfl,rfl⟩⟩ (Nat.le_of_ble_eq_true I) J (P ds S W h K)
theorem callee{x a:Str}{i:Stmt}{f:Addr}{c:FuncData}{d:%[|2]}{k n:Nat}{F:Ct}(e:Fun Ω.K x a i f c)(h:FnOk Ω.P Ω.w Ω.K Ω.mg Ω.base CX0 k f c d (spC Ω.K n F))(g:Ω.mg x=some (.ref f))(b:Binds Ω.K c d []):Callee Ω.P Ω.w Ω.K Ω.mg Ω.base x k n F:=⟨f,c,d,h,g,e.kp,b⟩
end RF
namespace RF
open PySem PySem.Spec L2 DL
open PyProof.Rows
def dG:Bf where
 x:="len"
 id:="len"
 boot:=by decide+kernel
 wp a S W:=match a with
  | [.tup a]=>W (.int a.length) S
  | [.lst a]=>W (.int a.length) S
  | [.loc k]=>∃a,S[k]? =some a/\W (.int a.length) S
  | _=>False
 sound:=by intro X a S W d e h;split at h;{exact Sh h};{exact Rt h};{obtain⟨a,b,c⟩:=h;exact Uy b c};{exact h.elim}
def gh:Bf where
 x:="all"
 id:="all"
 boot:=by decide+kernel
 wp a S W:=match a with
  | [.lst a]=>∃b:List Bool,a=b.map .bl/\W (.bl (b.all id)) S
  | _=>False
 sound:=by intro X a S W c d h;split at h;{obtain⟨b,rfl,h⟩:=h;exact k_all h c};{exact h.elim}
def Sg:Bf where
 x:="abs"
 id:="abs"
 boot:=by decide+kernel
 wp a S W:=match a with
  | [.int i]=>W (.int (if i<0 then-i else i)) S
  | _=>False
 sound:=by intro X a S W d e h;split at h;{refine cg Nv λ O H f c r=>?_;obtain⟨v,rfl,b⟩:=cC r;cases b;exact⟨_,rfl,Hh h c (.int _)⟩};{exact h.elim}
theorem Oc{K:PySem.W.Frag}{O:Own}{H:Hp}{c:List V}{d e:D}(r:Reps K O H c [d,e]):∃v w,c=[v,w]/\Rep K O H v d/\Rep K O H w e:=by cases r with| cons a t=>cases t with| cons b t=>cases t;exact⟨_,_,rfl,a,b⟩
def Wn:Bf where
 x:="min"
 id:="min"
 boot:=by decide+kernel
 wp a S W:=match a with
  | [.int i,.int j]=>W (.int (if j<i then j else i)) S
  | _=>False
 sound:=by intro X a S W b f h;split at h;{refine cg (Iz b) λ O H g e r=>?_;obtain⟨v,w,rfl,c,d⟩:=Oc r;cases c;cases d;exact⟨_,_,rfl,Hh h e (.int _)⟩};{exact h.elim}
def WR:Bf where
 x:="max"
 id:="max"
 boot:=by decide+kernel
 wp a S W:=match a with
  | [.int i,.int j]=>W (.int (if j>i then j else i)) S
  | _=>False
 sound:=by intro X a S W b f h;split at h;{refine cg (JX b) λ O H g e r=>?_;obtain⟨v,w,rfl,c,d⟩:=Oc r;cases c;cases d;exact⟨_,_,rfl,Hh h e (.int _)⟩};{exact h.elim}
def bu:Bc where
 x:="tuple"
 id:="tuple"
 boot:=by decide+kernel
 wp a S W:=match a with
  | [.lst a]=>W (.tup a) S
  | [.loc k]=>∃a,S[k]? =some a/\W (.tup a) S
  | _=>False
 sound:=by intro X a S W d e h;split at h;{exact UV h};{obtain⟨a,b,c⟩:=h;exact TJ b c};{exact h.elim}
def Vi:Bc where
 x:="list"
 id:="list"
 boot:=by decide+kernel
 wp a S W:=match a with
  | [.tup a]=>W (.lst a) S
  | [.lst a]=>W (.lst a) S
  | _=>False
 sound:=by intro X a S W b c h;split at h;{exact SX h};{exact UT h};{exact h.elim}
def WK:Bc where
 x:="int"
 id:="int"
 boot:=by decide+kernel
 wp c S W:=match c with
  | [.int i]=>W (.int i) S
  | [.bl k]=>W (.int (if k then 1 else 0)) S
  | _=>False
 sound:=by intro X c S W e f h;split at h;{refine cg vP λ O H d b r=>?_;obtain⟨v,rfl,a⟩:=cC r;cases a;exact .inl ⟨_,rfl,Hh h b (.int _)⟩};{refine cg vP λ O H d b r=>?_;obtain⟨v,rfl,a⟩:=cC r;cases a;exact .inr ⟨_,rfl,Hh h b (.int _)⟩};{exact h.elim}
section
variable {X : Cx} {Γ : Gam} {S : Store} {e : Expr} {pos : Pos}
theorem QD{l:List Expr}{k:Nat}{tp p:Pos}{W:List D->%[|4]}(h:Ev X Γ S e λ d S1=>match d with | .lst ds=>W (ds.mapIdx λ i d=>.tup [.int i,d]) S1 | .tup ds=>W (ds.mapIdx λ i d=>.tup [.int i,d]) S1 | _=>False)(hm:X.mg "enumerate"=none)(hg:Gl X "enumerate")(U:starEach [e] X.env=[(false,eval e X.env)]):
 ItW X Γ S (.Tuple l k tp) (.Call (.Name "enumerate" p) [e] [] pos) W:=by
 intro t s σ H O I E st;refine Call_ (cI I hg hm boot_enumerate (PyProof.Rows.callWith_type1 (thn (gH h.pe rY U pos t s σ H (λ Y y=>∃v,Y=[v]/\QG X.K O H (λ d S1=>match d with | .lst ds=>W (ds.mapIdx λ i d=>.tup [.int i,d]) S1 | .tup ds=>W (ds.mapIdx λ i d=>.tup [.int i,d]) S1 | _=>False) v y) I ⟨O,E,st,λ v y q=>⟨v,rfl,q⟩⟩) λ us f L=>?_) U rfl));obtain⟨Y,H1,z,r1,v,ev,T,d,S1,w,x,r,Q⟩:=L;subst ev;obtain⟨u,rfl,V⟩:=vals1 r1
 cases Q with
 | @lst a R ds m P=>cases V;obtain⟨g,rv,N,B⟩:=z.list m.sq;refine call_enumerate_list N.isList λ h' A K _ kp=>Eg (Ol X.prog X.w X.K) z A K kp ⟨T,_,S1,w,x,r,pq _ λ Z y j=>⟨R,(m.conv j).sq,P.conv j⟩⟩
 | @tup a R ds m P=>
   cases V;obtain⟨g,rv,N,B⟩:=z.tuple m.sq;obtain⟨⟨c,C,dt,sl⟩,hl,G,n,J⟩:=N;replace G:c=.type "tuple":=G;replace J:dt=.seq g.toArray n:=J;subst G J;refine callType_new F.called_enumerate %[|3] (F.typeCall_enumerate_1 _) (F.newCall_enumerate_1 _) (λ M=>F.args_object_init_2 M _) F.entry_enumerate_new (Kp a g.toArray n C sl) ⟨hl,?_⟩;have B:(f.heap.push {cls:=.type "tuple_iterator",data:=.fields #[.ref a,.int 0 0]}).objs.size=f.heap.objs.size+1:=Heap.size_push ..;show _/\_;rw[B];have A:IsEnum ((f.heap.push {cls:=.type "tuple_iterator",data:=.fields #[.ref a,.int 0 0]}).push {cls:=.type "enumerate",data:=.fields #[.none,.bool false,.ref f.heap.objs.size,rawInt 0,.none,.none]}) (f.heap.objs.size+1) f.heap.objs.size 0 .none:=by have:=ZD (f.heap.push {cls:=.type "tuple_iterator",data:=.fields #[.ref a,.int 0 0]}) (o:={cls:=.type "enumerate",data:=.fields #[.none,.bool false,.ref f.heap.objs.size,rawInt 0,.none,.none]}) rfl;rw[B]at this;exact this
   have K:Heap.IsTupleIter ((f.heap.push {cls:=.type "tuple_iterator",data:=.fields #[.ref a,.int 0 0]}).push {cls:=.type "enumerate",data:=.fields #[.none,.bool false,.ref f.heap.objs.size,rawInt 0,.none,.none]}) f.heap.objs.size a 0:=
    ⟨_,ZC _ (ZD _ rfl),rfl,rfl⟩;exact⟨⟨_,A,rfl⟩,Eg (Hg X.prog X.w X.K) z A K (λ b o e=>ZC _ (ZC _ e)) ⟨T,_,S1,w,x,r,pq _ λ Z y j=>⟨R,(m.conv j).sq,P.conv j⟩⟩⟩
 | _=>exact w.elim
end
variable {Ω : Wd}
def X6(hm:Ω.mg "enumerate"=none)(a:Ex Ω):Itb Ω where
 lev:=a.lev
 chk h N n s e:=sZ s&&cO e λ y q=>dq q λ b=>(y==("enumerate":Str))&&(glb n "enumerate"&&(okE b&&a.chk h N n b))
 wp t S W:=a.wp t S λ d o=>match d with | .lst ds=>W (ds.mapIdx λ i d=>.tup [.int i,d]) o | .tup ds=>W (ds.mapIdx λ i d=>.tup [.int i,d]) o | _=>False
 sound:=by intro X r h N n s e t S W A x m z;obtain⟨u,c⟩:=aa m;obtain⟨D,k,C,rfl⟩:=jE u;obtain⟨y,p,q,B,rfl,f⟩:=bx c;obtain⟨b,rfl,g⟩:=bG f;have m:=g;{obtain⟨v,j⟩:=aa m;obtain⟨j,l⟩:=aa j;obtain⟨l,w⟩:=aa l;have e:=ZI v;subst e;exact QD (a.sound A x w z) (by rw[A.g];exact hm) (A.glb j) (aB l [] _)}
def Ye(hm:Ω.mg "zip"=none)(a b:Ex Ω):Itb Ω where
 lev:=max a.lev b.lev
 chk c N j w e:=sZ w&&cO e λ y i=>two2 i λ l r=>(y==("zip":Str))&&(glb j "zip"&&((okE l&&okE r)&&(a.chk c N j l&&b.chk c N j r)))
 wp t S W:=a.wp t S λ d u=>b.wp t u λ m v=>match d,m with | .tup ds,.tup i=>W (List.zipWith (λ x y=>.tup [x,y]) ds i) v | _,_=>False
 sound:=by intro X r c N j w e t S W A H s I;obtain⟨J,K⟩:=lv2 H;obtain⟨z,f⟩:=aa s;obtain⟨Q,k,P,rfl⟩:=jE z;obtain⟨y,p,i,L,rfl,g⟩:=bx f;obtain⟨M,O,rfl,h⟩:=two2_of g;have s:=h;{obtain⟨B,n⟩:=aa s;obtain⟨n,o⟩:=aa n;obtain⟨o,C⟩:=aa o;obtain⟨D,E⟩:=aa o;obtain⟨F,G⟩:=aa C;have e:=ZI B;subst e;refine NB ((a.sound A J F I).mono λ d u q=>(b.sound A K G q).mono λ m v q=>?_) (by rw[A.g];exact hm) (A.glb n) (aB D _ _) (aB E [] _);cases d<;>first | exact q.elim | (cases m<;>first | exact⟨_,_,rfl,rfl,q⟩ | exact q.elim)}
end RF
namespace RF
theorem ff{P:Prop}(h:false=true):P:=(y9 h).elim
theorem tf{P:Prop}(h:true=false):P:=(y9 h.symm).elim
open PySem PySem.Spec L2 DL
open PyProof.Rows
abbrev Cal(Ω:Wd)(x:Str)(k n:Nat)(F:Ct):Prop:=Callee Ω.P Ω.w Ω.K Ω.mg Ω.base x k n F
abbrev Ok(Ω:Wd)(k:Nat)(f:Addr)(fd:FuncData)(ps:%[|2])(F:Ct):Prop:=FnOk Ω.P Ω.w Ω.K Ω.mg Ω.base CX0 k f fd ps (spC Ω.K ps.length F)
def nR:Ct:=λ c S W=>∃a,c=[.lst (List.map .int a)]/\a.length≤63/\(∀b,W (.bl true) b)/\S=[]
theorem RL{K:PySem.W.Frag}{H:Hp}{a:Addr}{ns:%[|1]}{E:XK}(f:ns.length≤63)(c:SqL K H a (ns.map V.int)):spC K 1 nR [.ref a] H (λ v _=>v=.bl true) E:=by refine⟨⟨[],[]⟩,[.lst (ns.map .int)],[],λ d _=>d=.bl true,rfl,.cons (.lst (xs:=ns.map V.int) ?_ (Xx ns)) .nil,?_,⟨ns,rfl,f,λ _=>rfl,rfl⟩,λ v g q=>?_⟩;{rcases c with h | h;{exact .inl ⟨λ z=>by rcases z with z | z<;>exact absurd (show a∈([]:List Addr)from z) (by simp),h⟩};{exact .inr (.inr h)}};{exact⟨List.nodup_nil,rfl,λ k a b e=>by simp at e,λ k a b e=>by simp at e,λ a h=>absurd (show a∈([]:List Addr)from h) (by simp),λ a h=>absurd (show a∈([]:List Addr)from h) (by simp)⟩};{obtain⟨i,d,j,w,_,_,r⟩:=q;subst w;cases r;rfl}
theorem walk{lev:Nat}{x:Str}{l:PySem.W.OpenLaw}{q:Program}{b:%[|2]}{g:(Str->Option Value)->Heap->Prop}{e:World->Heap->Prop}{d:DefRec}{K:Params->PySem.W.Frag}(o:l.most=some 63)(c:d.params.defaults=[])(p:Room lev callerA)
 (j:∀(w:World)(h:Heap),e w h->(K w.params).In h)
 (F:∀(w:World)(mg:Str->Option Value)(fa:Addr)(h:Heap),(K w.params).In h->h.Ns mainGlobals mg->mg d.name=some (.ref fa)->
  ∃fd:FuncData,(∀(s:Shared)(u:Value),BindsTo s fd ⟨[u],[]⟩ [(x,u)])/\∀base:Heap,(K w.params).In base->base.Ns mainGlobals mg->FnOk l.prog w (K w.params) mg base CX0 lev fa fd [x] (spC (K w.params) 1 nR)):
 PySem.W.WalkO q b g e l.row.toRowW d [] (λ f vs=>PySem.call f vs):=
 L2.walk_of (n:=63) (k:=lev) (x:=x) (CX:=λ _=>CX0) (sp:=λ w=>spC (K w.params) 1 nR) o %[|3] c p j F (λ _ _ a r m _ i=>RL m i) λ _ _ _ _ _ z=>z
theorem Tg.mono{t:Tg}{d:D}{b:Gam}{W a:Gam->Prop}(h:t.wp d b W)(k:∀G,W G->a G):t.wp d b a:=by
 cases t with
 | nm i=>exact k _ h
 | tup e=>
   cases d with
   | tup c=>exact⟨h.1,k _ h.2⟩
   | _=>exact h.elim
section
variable {Ω : Wd} {cap : List (Option Nat)} {Γ : Gam} {elt : Ex Ω} {tg : Tg} {cd : Cd Ω} {W : WD} {ds : List D} {S1 : Store}
theorem dH(f:D->D)(hz:ds.length≤1000000)(h:∀(i:Nat)(d:D),ds[i]? =some d->∀Q:WD,Q (f d) S1->tg.wp d (capt cap Γ) λ Γ2=>elt.wp Γ2 S1 Q)(w:W (.lst (ds.map f)) S1):nZ cap Γ elt tg (W9 (Ω:=Ω)) W ds S1:=by refine gD ⟨hz,λ i a b=>a=(ds.take i).map f/\b=S1,⟨rfl,rfl⟩,?_,?_⟩;{rintro i d a b c ⟨rfl,rfl⟩;refine Tg.mono (h i d c (λ y e=>(ds.take i).map f++[y]=(ds.take (i+1)).map f/\e=b) ⟨?_,rfl⟩) λ G q=>⟨λ _=>q,λ z=>tf z⟩;rw[aA c,List.map_append];rfl};{rintro a b ⟨rfl,rfl⟩;rw[List.take_length];exact w}
theorem mz(P:Nat->D->Prop)(Q:%[|4])(hz:ds.length≤1000000)(m:Q S1)(h:∀(i:Nat)(d:D)(S':Store),ds[i]? =some d->Q S'->∀R:WD,(∀y S4,P i y->Q S4->R y S4)->tg.wp d (capt cap Γ) λ Γ2=>elt.wp Γ2 S' R)
 (w:∀(ys:List D)(S':Store),ys.length=ds.length->(∀i y,ys[i]? =some y->P i y)->Q S'->W (.lst ys) S'):nZ cap Γ elt tg (W9 (Ω:=Ω)) W ds S1:=by
 refine gD ⟨hz,λ i a S'=>(a.length=i/\∀j y,a[j]? =some y->P j y)/\Q S',⟨⟨rfl,λ j y e=>by simp at e⟩,m⟩,?_,λ a S' h=>w a S' h.1.1 h.1.2 h.2⟩;rintro i d a S' f ⟨⟨k,c⟩,q⟩;refine Tg.mono (h i d S' f q (λ y S4=>((a++[y]).length=i+1/\∀j b,(a++[y])[j]? =some b->P j b)/\Q S4) λ y S4 l n=>⟨⟨by simp[k],λ j b e=>?_⟩,n⟩) λ G q=>⟨λ _=>q,λ z=>tf z⟩;by_cases g:j<a.length;{rw[List.getElem?_append_left g]at e;exact c j b e}
 . rw[List.getElem?_append_right %[|0]]at e;have:j-a.length=0:=by have:=(z0.mp e).1;simp at this;omega
   rw[this]at e;simp at e;subst e;have:j=i:=%[|0]
   rw[this];exact l
end
theorem bT{A B:Prop}(h:A):(true=true->A)/\(true=false->B):=⟨λ _=>h,λ z=>tf z⟩
theorem bF{A B:Prop}(h:B):(false=true->A)/\(false=false->B):=⟨λ z=>ff z,λ _=>h⟩
theorem dT{A B:Prop}(h:B):(true=false->A)/\(true=true->B):=⟨λ z=>tf z,λ _=>h⟩
variable {K : PySem.W.Frag} {O O' : Own} {H : Hp} {ds : List D} {W : WD} {S : Store} {i : Int}
theorem cu(h:∀a,¬O.has a->¬O'.has a){v:V}{d:D}(n:ak d=true)(r:Rep K O H v d):Rep K O' H v d:=
 Rep.rec (motive_1:=λ v d _=>ak d=true->Rep K O' H v d) (motive_2:=λ g f _=>aj f=true->Reps K O' H g f) (λ _=>.non) (λ b _=>.bl b) (λ i _=>.int i) (λ x _=>.str x) (λ h1 _ c n=>.tup ⟨h _ h1.1,h1.2⟩ (c n)) (λ h1 _ c n=>.lst (h1.imp (λ q=>⟨h _ q.1,q.2⟩) id) (c n)) (λ _ n=>by cases n) (λ _ _ n=>by cases n) (λ h1 e _=>.dic (h _ h1) e) (λ _=>.nil) (λ _ _ i j n=>.cons (i (aa n).1) (j (aa n).2)) r n
theorem dX(h:∀a,¬O.has a->¬O'.has a){b:List V}{ds:List D}(n:aj ds=true)(r:Reps K O H b ds):Reps K O' H b ds:=
 r.ind (P:=λ b ds=>aj ds=true->Reps K O' H b ds) (λ _=>.nil) (λ r _ i n=>.cons (cu h (aa n).1 r) (i (aa n).2)) n
theorem LC(h:∀a,¬O.has a->¬O'.has a){b:List (List Key×V)}{ds:List D}(n:aj ds=true)(r:Kps K O H b ds):Kps K O' H b ds:=by
 revert n
 induction r with
 | nil=>exact λ _=>.nil
 | cons r t c=>intro n;simp only[aj,ak,Bool.and_eq_true]at n;exact .cons (cu h n.1.2.1 r) (c n.2)
theorem yg(h:∀a,¬O.has a->¬O'.has a){b:Cy}{ds:List D}(n:aj ds=true)(r:Kcs K O H b ds):Kcs K O' H b ds:=by
 revert n
 induction r with
 | nil=>exact λ _=>.nil
 | cons e d f r t c=>intro n;simp only[aj,ak,Bool.and_eq_true]at n;exact .cons e (cu h n.1.1 d) f (cu h n.1.2.1 r) (c n.2)
theorem K9(h:∀a,¬O.has a->¬O'.has a){b:Oy}{ds:List D}(n:aj ds=true)(r:Kos K O H b ds):Kos K O' H b ds:=by
 revert n
 induction r with
 | nil=>exact λ _=>.nil
 | cons e d r t c=>intro n;simp only[aj,ak,Bool.and_eq_true]at n;exact .cons e d (cu h n.1.2.1 r) (c n.2)
theorem qi{a:Addr}(h:∀a,¬O.has a->¬O'.has a)(n:aj ds=true)(b:DOb K O H a ds):DOb K O' H a ds:=by
 cases b with
 | t i e r=>exact .t i e (LC h n r)
 | c d z e r=>exact .c d z e (yg h n r)
 | o d z e r=>exact .o d z e (K9 h n r)
 | m d j f e r=>subst f;exact .m d j rfl e (yg h (by simpa[aj,ak]using n) r)
 | p s z b l c y q k e f g=>exact .p s z b l c y q k e f (g.imp id λ⟨g1,x,g2,g3,g4⟩=>⟨g1,x,g2,h _ g3,g4⟩)
def flat(S:Store):Prop:=∀l∈S,aj l=true
theorem ir{A:List (Addr×Bool)}{n:Nat}{a:Addr}(h:a∈adr (A.take n)):a∈adr A:=by obtain⟨x,b,rfl⟩:=ZO.mp h;exact ZO.mpr ⟨x,List.mem_of_mem_take b,rfl⟩
theorem dJ{l:Hp}{S':Store}{J:List (List D)}(st:Step O O' H l)(ok:StOk K O' l (S'++J))(E:O.A.length≤S'.length)(p:flat S'):
 Step O ⟨O'.A.take S'.length,O'.B⟩ H l/\StOk K ⟨O'.A.take S'.length,O'.B⟩ l S'/\(∀b,¬O'.has b->¬(⟨O'.A.take S'.length,O'.B⟩:Own).has b)/\∀j a,S'.length≤j->∀{q:Bool},O'.A[j]? =some (a,q)->¬(⟨O'.A.take S'.length,O'.B⟩:Own).has a:=by
 obtain⟨N,s,t⟩:=st.ext;have o:O'.A.length=S'.length+J.length:=by have:=ok.len;simpa using this
 have e:∀b,¬O'.has b->¬(⟨O'.A.take S'.length,O'.B⟩:Own).has b:=λ b g z=>g (z.imp ir id);have x:(adr (O'.A.take S'.length)).Nodup:=by show(List.map _ (List.take _ _)).Nodup;rw[List.map_take];exact ok.nd.sublist (List.take_sublist _ _)
 refine⟨⟨st.kept,st.dom,⟨N.take (S'.length-O.A.length),by show O'.A.take S'.length=_;rw[s,List.take_append,List.take_of_length_le %[|0]],λ b g=>t b (ir g)⟩,st.hid⟩,⟨x,by simp[o],λ k b f n d=>?_,λ k b f n d=>?_,λ b g=>ok.apart b (ir g),ok.hidden⟩,e,λ j a C q r z=>?_⟩;{have h:k<S'.length:=(z0.mp d).1;have c:(O'.A.take S'.length)[k]? =some (b,false):=n;rw[List.getElem?_take,if_pos h]at c;obtain⟨A,w,y⟩:=ok.obj k b f c (by rw[List.getElem?_append_left h];exact d);exact⟨A,w,dX e (p f (y8 d)) y⟩};{have h:k<S'.length:=(z0.mp d).1;have c:(O'.A.take S'.length)[k]? =some (b,true):=n;rw[List.getElem?_take,if_pos h]at c;exact qi e (p f (y8 d)) (ok.dob k b f c (by rw[List.getElem?_append_left h];exact d))};{rcases z with z | z;{obtain⟨⟨B,F⟩,v,rfl⟩:=ZO.mp z;obtain⟨i,m⟩:=ZR v;rw[List.getElem?_take]at m;split at m;{rename_i u;exact sV ok.nd m r %[|0] rfl};{cases m}};{exact ok.apart a (bU r) z}}
def Frz(n:Nat)(W:WD):WD:=λ d c=>W d c∨∃b a,d=.loc a.length/\c=a++[b]/\n≤a.length/\aj b=true/\flat a/\W (.lst b) a
theorem QG.frz{g:Hp}{v:V}{n:Nat}(y:O.A.length=n)(q:QG K O H (Frz n W) v g):QG K O H W v g:=by obtain⟨l,d,m,w,k,b,r⟩:=q;rcases w with w | ⟨i,h,rfl,rfl,x,p,o,w⟩;{exact⟨l,d,m,w,k,b,r⟩};{obtain⟨e,c,f,t⟩:=dJ k b %[|0] o;cases r with| @loc a _ j=>obtain⟨z,s,u⟩:=b.obj h.length a i j (by simp);exact⟨_,.lst i,h,w,e,c,.lst (.inl ⟨t _ a (x6 _) j,.inl s⟩) (dX f p u)⟩}
theorem PL{X:Cx}{g:Gam}{b:List Stmt}{W:DL.Fin}(h:Rns X g S b {W with rt:=Frz S.length W.rt}):Rns X g S b W:=λ a s k H O I c e=>
 thn (h a s k H O I c e) λ f l q=>by
  cases f with
  | next=>exact q
  | brk=>exact q
  | cont=>exact q
  | ret u=>obtain⟨v,d,i,j,r,q⟩:=q;exact⟨v,d,i,j,r,QG.frz e.len q⟩
variable {Ω : Wd}
def Bl.frz(b:Bl Ω):Bl Ω where
 lev:=b.lev
 chk:=b.chk
 wp a S W:=b.wp a S {W with rt:=Frz S.length W.rt}
 sound:=by intro X r g N h f a S W A d c e;exact PL (b.sound A d c e)
def hand(W:WD)(ds:List D)(S:Store):Prop:=W (.lst ds) S∨W (.loc S.length) (S++[ds])
theorem pL(h:hand W ds S)(b:aj ds=true)(a:flat S):Frz S.length W (.loc S.length) (S++[ds]):=by rcases h with h | h;{exact .inr ⟨ds,S,rfl,rfl,x6 _,b,a,h⟩};{exact .inl h}
theorem vo{X:Cx}{j:Gam}{o e:Expr}{f g:Pos}(h:Ev X j S o λ x S1=>∃k,x=.loc k/\Ev X j S1 e λ d S2=>∃ds,S2[k]? =some ds/\ds.length<1000000/\W .non (S2.set k (ds++[d])))
 (m:attributeBase o "append" X.env (eval o X.env)=eval o X.env)(L:starEach [e] X.env=[(false,eval e X.env)])(n:(f.endLine==g.line)=true):Ev X j S (.Call (.Attribute o "append" f) [e] [] g) W:=by
 intro b s E H O I c R;have M:∀(p:Own)(x:D)(v:V)(l:Hp)(S1:Store),(∃k,x=.loc k)->StOk X.K p l S1->Rep X.K p l v x->tyV X.K "list" v l:=by
  rintro p x v l S1 ⟨k,rfl⟩ Y r
  cases r with
  | @loc a _ t=>
    have hl:k<S1.length:=by rw[←Y.len];exact(z0.mp t).1
    obtain⟨U,N,_⟩:=Y.obj k a S1[k] t (y4 hl);exact .inl ⟨rfl,U,SqL.of N⟩
 have hA:PA X [e] (λ E H Q=>∃O j S G,EnvOk X.K O H E j/\StOk X.K O H S/\Ev X j S e G/\∀v F,QG X.K O H G v F->Q [v] F):=by rintro P b s E H Q I ⟨O,j,S,G,c,R,J,k⟩;rw[L];show wpAny _ _ (spliced ((false,eval e X.env)::backTo P (starEach [] X.env))) _ _ s;refine Calls.spliced_cons (thn (J b s E H O I c R) λ u s1 K=>?_);obtain⟨v,l,I1,r1,q⟩:=K;exact Calls.spliced_nil ⟨[v],l,I1,.cons r1 .nil,k v l q⟩
 refine Oj (T:="list") PySem.F.plainAttrs_list PySem.F.slot_list_append PySem.F.type_list_append vQ (h.pe) hA m (by rw[L];rfl) n L rfl b s E H _ I ⟨O,c,R,λ v F q=>?_⟩;obtain⟨p,x,S1,⟨k,rfl,J⟩,B,y,i⟩:=q;refine⟨M p _ v F S1 ⟨k,rfl⟩ y i,p,j,S1,_,c.mono B,y,J,λ v2 H2 q2=>?_⟩;obtain⟨O2,d,S2,⟨ds,hk,hz,w⟩,C,z,A⟩:=q2;have r:=i.mono C;cases r with| @loc a _ t=>obtain⟨U,N,Z⟩:=z.obj k a ds t hk;exact⟨a,U,v2,rfl,rfl,N,by rw[Z.length];exact ZM hz %[|3],O2,.non,_,w,(B.trans C).trans (Step.put (bU t) _),z.put t (Z.append (.cons A .nil)),.non⟩
def nameE:Expr->Bool
 | .Name .. =>true
 | _=>false
def Xe(o a:Ex Ω):Ex Ω where
 lev:=max o.lev a.lev
 chk b N j e:=nD e λ x m p t q=>dq t λ y=>(m==("append":Str))&&(nameE x&&((p.endLine==q.line)&&(okE y&&(o.chk b N j x&&a.chk b N j y))))
 wp l S W:=o.wp l S λ x n=>match x with | .loc k=>a.wp l n λ d s=>∃h,s[k]? =some h/\h.length<1000000/\W .non (s.set k (h++[d])) | _=>False
 sound:=by intro X r b N j e l S W A D f E;obtain⟨F,G⟩:=lv2 D;obtain⟨x,m,p,t,q,i,c⟩:=fc f;clear f;subst i;obtain⟨y,i,f⟩:=bG c;clear c;subst i;obtain⟨u,g⟩:=aa f;obtain⟨v,g⟩:=aa g;obtain⟨w,g⟩:=aa g;obtain⟨z,g⟩:=aa g;obtain⟨B,C⟩:=aa g;have e:=ZI u;subst e;refine vo ((o.sound A F B E).mono λ x n q=>?_) ?_ (aB z [] _) w;{cases x<;>first | exact q.elim | exact⟨_,rfl,a.sound A G C q⟩};{cases x<;>first | rfl | exact ff v}
def Sm.never:Sm Ω where
 lev:=0
 chk _ _ _ st:=match st with | .Raise _ _ _=>true | _=>false
 wp _ _ _:=False
 sound:=λ _ _ _ h=>h.elim
theorem bC(S:Store)(x:List D):(S++[x])[S.length]? =some x:=by simp
theorem cP(S:Store)(x y:List D):(S++[x]).set S.length y=S++[y]:=by simp
theorem aR{b c:Type}{xs:List b}{f:b->c}{i:Nat}{e:c}(h:(xs.map f)[i]? =some e):∃x,xs[i]? =some x/\e=f x:=by
 rw[x5]at h
 cases a:xs[i]? with
 | none=>rw[a]at h;cases h
 | some x=>rw[a]at h;cases h;exact⟨x,rfl,rfl⟩
theorem Pk{b c:Type}{xs:List b}{f:Nat->b->c}{i:Nat}{e:c}(h:(xs.mapIdx f)[i]? =some e):∃x,xs[i]? =some x/\e=f i x:=by
 rw[List.getElem?_mapIdx]at h
 cases a:xs[i]? with
 | none=>rw[a]at h;cases h
 | some x=>rw[a]at h;cases h;exact⟨x,rfl,rfl⟩
theorem jx{c:List (Option Nat)}{m:Gam}{e:Ex Ω}{l:Tg}{b:Store}{j:Type}{xs:List j}{enc:j->D}(f:j->D)(hz:xs.length≤1000000)(h:∀(i:Nat)(x:j),xs[i]? =some x->∀Q:WD,Q (f x) b->l.wp (enc x) (capt c m) λ Γ2=>e.wp Γ2 b Q)
 (w:W (.lst (xs.map f)) b):nZ c m e l (W9 (Ω:=Ω)) W (xs.map enc) b:=by refine gD ⟨by rw[x4];exact hz,λ i a g=>a=(xs.take i).map f/\g=b,⟨rfl,rfl⟩,?_,?_⟩;{rintro i d a g o ⟨rfl,rfl⟩;obtain⟨x,k,rfl⟩:=aR o;refine Tg.mono (h i x k (λ y n=>(xs.take i).map f++[y]=(xs.take (i+1)).map f/\n=g) ⟨?_,rfl⟩) λ G q=>⟨λ _=>q,λ z=>tf z⟩;rw[aA k,List.map_append];rfl};{rintro a g ⟨rfl,rfl⟩;rw[x4,List.take_length];exact w}
theorem wM1{j:Int}{P:Prop}(h:L2.CMul i j)(p:P):L2.CMul i j/\P:=⟨h,p⟩
theorem wM2{j:Int}{P:Prop}(h:L2.CPow i j)(p:P):L2.CPow i j/\P:=⟨h,p⟩
theorem wM3{j:Int}{P:Prop}(h:0<i/\i<j)(p:P):(0<i/\i<j)/\P:=⟨h,p⟩
theorem wM4{P:Prop}(h:0<i)(p:P):0<i/\P:=⟨h,p⟩
theorem wM5{a:Type}{l:List a}{P:Prop}(h:l.length≤1000000)(p:P):l.length≤1000000/\P:=⟨h,p⟩
theorem wM7{k j:Nat}{n:Int}{Q:List D->Nat->Prop}(h:S[k]? =some ds)(g:L2.ixN ds.length n=some j)(q:Q ds j):∃ds j,S[k]? =some ds/\L2.ixN ds.length n=some j/\Q ds j:=⟨ds,j,h,g,q⟩
theorem wM8{k:Nat}{n:Int}{d:D}{Q:List D->D->Prop}(h:S[k]? =some ds)(g:L2.atI ds n=some d)(q:Q ds d):∃ds d,S[k]? =some ds/\L2.atI ds n=some d/\Q ds d:=⟨ds,d,h,g,q⟩
theorem wM9{n:Int}{d:D}{Q:D->Prop}(g:L2.atI ds n=some d)(q:Q d):∃d,L2.atI ds n=some d/\Q d:=⟨d,g,q⟩
end RF
namespace RF
open PySem PySem.Spec L2 DL
open PyProof.Rows
section
variable {prog : Program} {w : World} {A : Around} {E : Value -> Shared -> Prop} {s : Shared}
def ltF(fin:Bool):%[|1]->%[|1]->Bool
 | x::xs,y::ys=>if x=y then ltF fin xs ys else decide (x<y)
 | _,_=>fin
def ltI(xs ys:%[|1]):Bool:=ltF (decide (xs.length<ys.length)) xs ys
theorem Qg{c:Bool}{a b:Int}{t u:Tok}{Q:Bool->%[|8]}(h:Q (decide (a<b)) s):wpAny (model prog w) A (oneLt' c (.int a t) (.int b u)) Q E s:=by
 cases c with
 | true=>exact oneLt_int h
 | false=>exact PySem.W.kat_one _ _ (wpAny_lt_int h)
def eO(h:Heap)(v:Value)(ns:%[|1]):Prop:=∃b o a k,v=.ref b/\h.get? b=some o/\o.cls=.type "tuple"/\o.data=.seq a k/\IntsAre a.toList ns
end
def ud(k:Nat)(ds:List D):Option D->Option D
 | some (.loc j)=>if j=k then some (.lst ds)else some (.loc j)
 | o=>o
def atTop(Γ:Gam):Prop:=∀(i:Nat)(d:D),Γ[i]? =some (some d)->ak d=true∨∃j,d=.loc j
def RJ(n:Nat)(W:Gam->%[|4]):Gam->%[|4]:=λ c d=>W c d∨∃b a,d=a++[b]/\n≤a.length/\aj b=true/\flat a/\atTop c/\W (c.map (ud a.length b)) a
theorem QN.frz {K:PySem.W.Frag}{O:Own}{H u:Hp}{W:Gam->%[|4]}{σ:DL.St}{n:Nat}(P:O.A.length=n)(q:QN K O H (RJ n W) σ u):QN K O H W σ u:=by
 obtain⟨b,C,D,w,B,m,r⟩:=q;rcases w with w | ⟨x,c,rfl,N,F,E,G,w⟩;{exact⟨b,C,D,w,B,m,r⟩}
 . obtain ⟨t,s,g,L⟩:=dJ B m %[|0] E;have J:b.A.length=c.length+1:=by have:=m.len;simpa using this
   refine⟨⟨b.A.take c.length,b.B⟩,_,c,w,t,s,⟨by rw[x4];exact r.len,λ i d e=>?_⟩⟩
   . rw [x5] at e
     cases k:C[i]? with
     | none=>rw[k]at e;cases e
     | some o=>
       rw[k]at e
       cases o with
       | none=>cases e
       | some h=>
         obtain⟨v,p,A⟩:=r.at_ i h k;rcases G i h k with z | ⟨j,rfl⟩
         . have f:h=d:=by
            cases h with
            | loc j=>simp[ak]at z
            | _=>simpa[ud]using e
           subst f;exact⟨v,p,cu g z A⟩
         . cases A with
           | @loc a _ l=>
             by_cases y:j=c.length
             . subst y;have f:d=.lst x:=by simpa[ud]using e.symm
               subst f;obtain⟨Q,I,M⟩:=m.obj c.length a x l (by simp);exact⟨_,p,.lst (.inl ⟨L _ a (x6 _) l,.inl I⟩) (dX g F M)⟩
             . have f:d=.loc j:=by simpa[ud,y]using e.symm
               subst f;refine⟨_,p,.loc ?_⟩;have:j<b.A.length:=(z0.mp l).1;show(b.A.take c.length)[j]? =some (a,false);rw[List.getElem?_take,if_pos %[|0]];exact l
section
variable {Ω : Wd}
def Ym(b:Bl Ω):Bl Ω where
 lev:=b.lev
 chk:=b.chk
 wp g S W:=b.wp g S {W with nx:=RJ S.length W.nx}
 sound:=by
  intro X r m N n l g S W A j i k a s d H O I c e;refine thn (b.sound A j i k a s d H O I c e) λ f o q=>?_
  cases f with
  | next=>obtain⟨d,h,I,q⟩:=q;exact⟨d,h,I,QN.frz e.len q⟩
  | brk=>exact q
  | cont=>exact q
  | ret u=>exact q
end
variable {Γ : Gam}
theorem Gj{K:PySem.W.Frag}{O:Own}{H:Hp}{a:Addr}{k:Nat}{ds:List D}(h:O.A[k]? =some (a,false)):gK K (Itl K a) O H (λ S=>S[k]? =some ds) ds:=by intro l g w u s n i;have m:l.A[k]? =some (a,false):=u.lc k _ h;obtain⟨b,q,r⟩:=s.obj k a ds m n;have c:SqL K g a b:=SqL.of q;refine⟨λ d o=>?_,λ p=>⟨b,c,by rw[r.length];exact Nat.le_of_eq p.symm⟩⟩;obtain⟨v,f,t⟩:=r.get o;refine⟨⟨b,v,c,f⟩,λ x j y=>?_⟩;obtain⟨e,y⟩:=y;subst e;have e:=y b c;rw[f]at e;cases e;exact⟨cW.refl _,t⟩
abbrev itC(W:List D->%[|4]->%[|4]):WD:=λ d b=>match d with
 | .lst a=>W a (λ _=>True) b
 | .tup a=>W a (λ _=>True) b
 | .loc k=>∃a,b[k]? =some a/\W a (λ S=>S[k]? =some a) b
 | _=>False
theorem Ub{X:Cx}{S:Store}{L e:Expr}{W:List D->%[|4]->%[|4]}(h:Ev X Γ S e (itC W)):ItC X Γ S L e W:=by
 intro n s M H O I y K;refine thn (h n s M H O I y K) λ u s1 z=>?_;obtain⟨v,r,c,A,t,d,x,w,j,f,B⟩:=z
 cases B with
 | @lst a F l g q=>
   cases A;obtain⟨i,E,p,C⟩:=c.list g.sq;refine wpAny_pyIter_list p.isList ?_;refine⟨s1.heap.objs.size,[s1.heap.objs.size],_,_,r,rfl,c.kept (t':=s1.toks) λ b o e=>ZC _ e,mD a _,⟨_,ZD _ rfl,rfl,rfl⟩,λ b m=>?_,t,l,_,x,w,j,f,qd (pF g q)⟩;have e:b=s1.heap.objs.size:=by simpa using m
   subst e;exact c.fpOk (x6 _) (c.hok.fresh (x6 _))
 | @tup a F l g q=>
   cases A;obtain⟨i,E,p,C⟩:=c.tuple g.sq;refine wpAny_pyIter_tuple (show s1.heap.IsTuple a i.toArray from p) ?_;refine⟨s1.heap.objs.size,[s1.heap.objs.size],_,_,r,rfl,c.kept (t':=s1.toks) λ b o e=>ZC _ e,qZ a _,⟨_,ZD _ rfl,rfl,rfl⟩,λ b m=>?_,t,l,_,x,w,j,f,qd (su g q)⟩;have e:b=s1.heap.objs.size:=by simpa using m
   subst e;exact c.fpOk (x6 _) (c.hok.fresh (x6 _))
 | @loc a k g=>
   cases A;obtain⟨l,G,w⟩:=w;obtain⟨F,J,q⟩:=f.obj k a l g G;obtain⟨i,E,p,C⟩:=c.list (SqL.of J);refine wpAny_pyIter_list p.isList ?_;refine⟨s1.heap.objs.size,[s1.heap.objs.size],_,_,r,rfl,c.kept (t':=s1.toks) λ b o e=>ZC _ e,mD a _,⟨_,ZD _ rfl,rfl,rfl⟩,λ b m=>?_,t,l,_,x,w,j,f,Gj g⟩;have e:b=s1.heap.objs.size:=by simpa using m
   subst e;exact c.fpOk (x6 _) (c.hok.fresh (x6 _))
 | _=>exact w.elim
theorem rM{X:Cx}{S:Store}{W:DL.Fin}{pos:Pos}{M iter:Expr}{j:List Stmt}(h:ItC X Γ S M iter λ ds C S1=>∃Pv:Nat->Gam->%[|4],Pv 0 Γ S1/\(∀i Γ' S',Pv i Γ' S'->C S')/\
 (∀i d Γ' S',ds[i]? =some d->Pv i Γ' S'->BdW X M d Γ' S' λ Γ2 S2=>Rns X Γ2 S2 j {W with nx:=Pv (i+1),ct:=Pv (i+1),bk:=W.nx})/\(∀Γ' S',Pv ds.length Γ' S'->W.nx Γ' S'))
 (hp:PassesOwn %[|6] X.A X.env X.xe)(hc:X.calm=true)(hs:∀x,foldedSetIterable iter X.env x=pure x):Rn X Γ S (.For M iter j [] pos) W:=by
 intro g s n H O I l ok;let WI:List D->%[|4]->%[|4]:=λ ds C S1=>∃Pv:Nat->Gam->%[|4],Pv 0 Γ S1/\(∀i Γ' S',Pv i Γ' S'->C S')/\
     (∀i d Γ' S',ds[i]? =some d->Pv i Γ' S'->BdW X M d Γ' S' λ Γ2 S2=>Rns X Γ2 S2 j {W with nx:=Pv (i+1),ct:=Pv (i+1),bk:=W.nx})/\(∀Γ' S',Pv ds.length Γ' S'->W.nx Γ' S');have hI:PI X M iter (λ n H R=>∃O,EnvOk X.K O H n Γ/\StOk X.K O H S/\∀J c,QIc X.K O H WI J c->R J c):=λ g s n H R I T=>by obtain⟨O,l,U,k⟩:=T;refine thn (h g s n H O I l U) λ _ _ q=>thn q λ _ _ q2=>?_;obtain⟨it,fp,tn,J,c,e1,e2,e3,e4,e5,e6⟩:=q2;exact⟨it,fp,tn,J,c,e1,e2,e3,e4,e5,k J c e6⟩
 have hG:PG X M (λ v n H Q=>∃O d Γ S p,EnvOk X.K O H n Γ/\StOk X.K O H S/\Rep X.K O H v d/\BdW X M d Γ S p/\∀a c,QN X.K O H p a c->Q a c):=λ g s n H v u Q I ru T=>by obtain⟨O,d,Γ,S,p,l,U,r,b,k⟩:=T;refine thn (b g s n H O v u I l U r ru) λ _ _ q2=>?_;obtain⟨a,c,t,q⟩:=q2;exact⟨a,c,t,k a c q⟩
 have hB:PSs X j (λ D n H=>∃O Γ S p,EnvOk X.K O H n Γ/\StOk X.K O H S/\Rns X Γ S j p/\(∀a c,QN X.K O H p.nx a c->D.nx a c)/\(∀v c,QG X.K O H p.rt v c->D.rt v c)/\(∀a c,QN X.K O H p.bk a c->D.bk a c)/\∀a c,QN X.K O H p.ct a c->D.ct a c):=
  λ g s n H D I T=>by
   obtain⟨O,Γ,S,p,l,U,b,k1,k2,k3,k4⟩:=T;refine thn (b g s n H O I l U) λ f s' q=>?_
   cases f with
   | next=>obtain⟨a,c,t,q⟩:=q;exact⟨a,c,t,k1 a c q⟩
   | brk=>obtain⟨a,c,t,q⟩:=q;exact⟨a,c,t,k3 a c q⟩
   | cont=>obtain⟨a,c,t,q⟩:=q;exact⟨a,c,t,k4 a c q⟩
   | ret u=>obtain⟨v,a,c,t,r,q⟩:=q;exact⟨v,a,c,t,r,k2 v c q⟩
 refine Ka hp hc hI hG hB hs g s n H _ I ⟨O,l,ok,λ J H1 q=>?_⟩;obtain⟨Y,ds,C,S1,⟨Pv,p0,pC,pt,pe⟩,z,aa,yl⟩:=q;refine⟨λ i m a c=>m=ds.length-i/\i≤ds.length/\∃E Γ' S',Pv i Γ' S'/\Step Y E H1 c/\StOk X.K E c S'/\EnvOk X.K E c a Γ',⟨ds.length,by simp,Nat.zero_le _,Y,Γ,S1,p0,Step.refl _ _,aa,l.mono z⟩,?_⟩;rintro i m af H2 ⟨rfl,hi,O2,Γ2,S2,p2,K,F,B⟩;obtain⟨y1,y2⟩:=yl O2 H2 S2 K.conv F (pC _ _ _ p2) i;by_cases w:i<ds.length;{obtain⟨go,yy⟩:=y1 ds[i] (y4 w);refine .inr ⟨go,λ a c=>i+1≤ds.length/\∃E Γ' S',Pv (i+1) Γ' S'/\Step Y E H1 c/\StOk X.K E c S'/\EnvOk X.K E c a Γ',λ a c q=>⟨ds.length-(i+1),%[|0],rfl,q.1,q.2⟩,λ x H3 y=>?_⟩;obtain⟨sm,rx⟩:=yy x H3 y;have V:=Step.same (O:=O2) sm;refine⟨O2,ds[i],Γ2,S2,_,B.mono V,F.same sm,rx,pt i ds[i] Γ2 S2 (y4 w) p2,λ ag H4 q4=>?_⟩;obtain⟨O4,ad,S4,w4,ac,ab,P⟩:=q4;have A:=(K.trans V).trans ac;refine⟨O4,ad,S4,_,P,ab,w4,?_,?_,?_,?_⟩;{rintro ae H5 ⟨Z,N,S5,w5,L,G,o⟩;exact⟨w,Z,N,S5,w5,A.trans L,G,o⟩};{exact λ v c q=>QG.pre (z.trans A) q};{exact λ a c q=>QN.pre (z.trans A) q};{rintro ae H5 ⟨Z,N,S5,w5,L,G,o⟩;exact⟨w,Z,N,S5,w5,A.trans L,G,o⟩}}
 . have e:i=ds.length:=%[|0]
   subst e;exact .inl ⟨y2 rfl,O2,Γ2,S2,pe Γ2 S2 p2,z.trans K,F,B⟩
section
variable {Ω : Wd}
@[irreducible] noncomputable def G3(Γ:Gam)(tg:Tg)(body:Bl Ω)(W:DL.Fin)(k:Nat)(ds:List D)(S1:Store):Prop:=
  ∃c:Nat->Gam->%[|4],c 0 Γ S1/\(∀i a b,c i a b->b[k]? =some ds)/\(∀i d a b,ds[i]? =some d->c i a b->tg.wp d a λ e=>body.wp e b {W with nx:=c (i+1),ct:=c (i+1),bk:=W.nx})/\(∀a b,c ds.length a b->W.nx a b)
theorem QS{c:Tg}{a:Bl Ω}{W:DL.Fin}{k:Nat}{ds:List D}{b:Store}(h:∃Pv:Nat->Gam->%[|4],Pv 0 Γ b/\(∀i Γ' S',Pv i Γ' S'->S'[k]? =some ds)/\(∀i d Γ' S',ds[i]? =some d->Pv i Γ' S'->c.wp d Γ' λ Γ2=>a.wp Γ2 S' {W with nx:=Pv (i+1),ct:=Pv (i+1),bk:=W.nx})/\(∀Γ' S',Pv ds.length Γ' S'->W.nx Γ' S')):G3 Γ c a W k ds b:=by unfold G3;exact h
def Xn(tg:Tg)(it:Ex Ω)(body:Bl Ω):Sm Ω where
 lev:=max it.lev body.lev
 chk h N w x:=frB x λ t i b=>okE i&&(tg.chk h N w t&&(it.chk h N w i&&body.chk h N w b))
 wp o S W:=it.wp o S λ d m=>match d with
  | .lst a=>iw o tg body W a m
  | .tup a=>iw o tg body W a m
  | .loc k=>∃a,m[k]? =some a/\G3 o tg body W k a m
  | _=>False
 sound:=by
  intro X r h N w x o S W A H j J;obtain⟨K,L⟩:=lv2 H;obtain⟨t,i,b,O,y,p⟩:=nC j;clear j;have j:=p;clear p;subst y
  . obtain⟨z,j⟩:=aa j;obtain⟨B,j⟩:=aa j;obtain⟨C,E⟩:=aa j;have g:∀(c:Nat->Gam->%[|4])(a:List D),(∀i d e l,a[i]? =some d->c i e l->tg.wp d e λ f=>body.wp f l {W with nx:=c (i+1),ct:=c (i+1),bk:=W.nx})->∀i d e l,a[i]? =some d->c i e l->BdW X t d e l λ f v=>Rns X f v b {W with nx:=c (i+1),ct:=c (i+1),bk:=W.nx}:=
     λ c a n i d e l F I=>BdW.mono (Tg.sound A (W:=λ f v=>body.wp f v {W with nx:=c (i+1),ct:=c (i+1),bk:=W.nx}) B (n i d e l F I)) λ f v q=>body.sound A L E q;refine rM (Ub (Ev.mono (it.sound A K C J) λ d m q=>?_)) (by rw[A.xe];exact PassesOwn.never) A.calm (nT z _)
    cases d with
    | lst a=>have q:iw o tg body W a m:=q;unfold iw at q;obtain⟨c,s,n,u⟩:=q;exact⟨c,s,λ _ _ _ _=>trivial,g c a n,u⟩
    | tup a=>have q:iw o tg body W a m:=q;unfold iw at q;obtain⟨c,s,n,u⟩:=q;exact⟨c,s,λ _ _ _ _=>trivial,g c a n,u⟩
    | loc k=>obtain⟨a,G,q⟩:=q;unfold G3 at q;obtain⟨c,s,M,n,u⟩:=q;exact⟨a,G,c,s,M,g c a n,u⟩
    | _=>exact(show False from q).elim
end
theorem Pb{Ω:Wd}{e:List (Option Nat)}{g:Ex Ω}{l:Tg}{W:WD}{b:Store}{C0:%[|4]}{j:Type}{xs:List j}{enc:j->D}(f:j->D)(hz:xs.length≤1000000)(n:C0 b)(h:∀(i:Nat)(x:j),xs[i]? =some x->∀Q:WD,Q (f x) b->l.wp (enc x) (capt e Γ) λ Γ2=>g.wp Γ2 b Q)
 (w:W (.lst (xs.map f)) b∨W (.loc b.length) (b++[xs.map f])):nU e Γ g l (W9 (Ω:=Ω)) W (xs.map enc) C0 b:=by refine pH ⟨by rw[x4];exact hz,λ i a c=>a=(xs.take i).map f/\c=b,⟨rfl,rfl⟩,λ i a c q=>by rw[q.2];exact n,?_,?_⟩;{rintro i d a c o ⟨rfl,rfl⟩;obtain⟨x,k,rfl⟩:=aR o;refine Tg.mono (h i x k (λ y m=>(xs.take i).map f++[y]=(xs.take (i+1)).map f/\m=c) ⟨?_,rfl⟩) λ G q=>⟨λ _=>q,λ z=>tf z⟩;rw[aA k,List.map_append];rfl};{rintro a c ⟨rfl,rfl⟩;rw[x4,List.take_length];exact w}
end RF
namespace RF
open PySem PySem.Spec L2 DL
open PyProof.Rows
variable {ds : List D}
def jg(S:Store):D->Option (List D)
 | .lst ds=>some ds
 | .loc k=>S[k]?
 | _=>none
def putL(own:Bool)(W:WD)(ds:List D)(S:Store):Prop:=match own with
 | true=>W (.loc S.length) (S++[ds])
 | false=>W (.lst ds) S
section
variable {X : Cx} {S : Store} {W : WD}
theorem xr{pins:Pins}{s:Shared}{σ:DL.St}{H:Hp}{O:Own}{v:V}{d:D}(st:StOk X.K O H S)(r:Rep X.K O H v d)(h:jg S d=some ds):∃a xs,v=.ref a/\SqL X.K H a xs/\Reps X.K O H xs ds:=by
 cases r with
 | @lst a xs _ b c=>cases h;exact⟨a,xs,rfl,b.sq,c⟩
 | @loc a k b=>obtain⟨xs,e,c⟩:=st.obj k a ds b h;exact⟨a,xs,rfl,SqL.of e,c⟩
 | _=>cases h
theorem Ia{a:Bool}{K:PySem.W.Frag}{O:Own}{H:Hp}{p:Addr}{xs:List V}(w:putL a W ds S)(st:StOk K O H S)(h:H p=none)(r:Reps K O H xs ds):QG K O H W (.ref p) (upd H p (.lst xs)):=by
 cases a with
 | true=>exact yt w st h r
 | false=>exact fU w st h r
theorem Rx{j:Bool}{x y:D}{es:List D}(N:jg S x=some ds)(P:jg S y=some es)(hz:ds.length+es.length≤1000000)(w:putL j W (ds++es) S):du X .Add x y S W:=by
 intro pins s σ H O v w' u u' I o U V Y Z;obtain⟨a,xs,rfl,K,k⟩:=xr (pins:=pins) (s:=s) (σ:=σ) o U N;obtain⟨b,ys,rfl,L,l⟩:=xr (pins:=pins) (s:=s) (σ:=σ) o V P;cases Y;cases Z;obtain⟨d,C,R,_⟩:=I.list K;obtain⟨c,E,T,_⟩:=I.list L;obtain⟨⟨F,G,q,sl⟩,n,B,r,M,t⟩:=id R;obtain⟨⟨p,i,h,m⟩,Q,g,e,A,f⟩:=id T;simp only at r t e f;subst r t e f;have z:d.length+c.length≤sizeLine:=by rw[←C.length,←E.length,k.length,l.length];exact small hz
 refine concat_meets ⟨_,B,rfl⟩ ⟨_,g,rfl⟩ noFill_list_add seq_list_add PySem.F.slot_list_add PySem.F.entry_list_add (PySem.F.args_list_add_2 _ _)
  (list_addW a b d.toArray c.toArray n Q G i sl m (by simpa using z)) ⟨B,g,?_⟩;have J:d.toArray++c.toArray=(d++c).toArray:=by simp
 rw[J];exact⟨.ref s.heap.objs.size,_,I.lnew (t':=s.toks) (C.append E) (by rw[v3,k.length,l.length];exact small hz),rfl,Ia w o I.fresh (k.append l)⟩
theorem R0{d:Bool}{x:D}{k:Int}(J:jg S x=some ds)(V: -(2 ^ 63)≤k/\k<2 ^ 63)(hz:ds.length*k.toNat≤1000000)(w:putL d W (List.replicate k.toNat ds).flatten S):du X .Mult x (.int k) S W:=by
 intro pins s σ H O v w' u Z I q M N P Q;obtain⟨a,xs,rfl,E,f⟩:=xr (pins:=pins) (s:=s) (σ:=σ) q M J;cases N;cases P;obtain⟨t,rfl⟩:=Q;obtain⟨b,r,L,_⟩:=I.list E;obtain⟨⟨A,j,i,p⟩,n,c,l,G,o⟩:=id L;simp only at l o;subst l o;have K:b.length=ds.length:=by rw[←r.length,f.length]
 have y:b.length*k.toNat≤1000000:=by rw[K];exact hz
 have Y:(1000000:Nat)≤sizeLine:=%[|3]
 refine PySem.wpAny_binaryOp_repeat_ref (T:="list") (U:="int") %[|3] ⟨_,c,rfl⟩ (λ R=>typeIs_int R k t) PySem.noFill_list_mul F.fills_int_mul F.slot_int_rmul PySem.repeat_list F.slot_int_index.lookup
  (call_meets F.slot_int_rmul (typeIs_int s k t) F.entry_int_rmul (F.args_int_rmul_2 _ _) (PySem.lm_int_rmul_list_any k t a b.toArray n j p) ⟨c,rfl,⟨_,c,rfl⟩,?_⟩);refine call_meets F.slot_list_mul ⟨_,c,rfl⟩ F.entry_list_mul (F.args_list_mul_2 _ _) (PySem.lm_list_mul_any a b.toArray n j p k t ?_ ?_ ?_) ⟨c,?_⟩
 . have z:Builtin.List.listFitsIndex k=true:=by unfold Builtin.List.listFitsIndex;rw[ZG %[|0],ZG %[|0]];rfl
   rw[z];decide
 {rw[x9];omega};{rw[x9];unfold Builtin.List.listTooLong;rw[decide_eq_true_eq];omega}
 . have B:(List.replicate (if b.toArray.isEmpty=true then 0 else k.toNat) b.toArray).foldl (λ g h=>g++h) #[]=(List.replicate k.toNat b).flatten.toArray:=by
    have C:∀m:Nat,(List.replicate m b.toArray).foldl (λ g h=>g++h) #[]=(List.replicate m b).flatten.toArray:=λ m=>by have:=foldl_rep b m [];rw[List.nil_append]at this;exact this
    rw[C];by_cases e:b=[];{subst e;simp}
    . have:b.toArray.isEmpty=false:=by simpa using e
      rw[this];rfl
   rw[B];exact⟨.ref s.heap.objs.size,_,I.lnew (t':=s.toks) (r.rep _) (by rw[len_rep,f.length,Nat.mul_comm];exact small hz),rfl,Ia w q I.fresh (Reps.rep f _)⟩
theorem U4{ns:%[|1]}(w:W (.int ns.sum) S)(p:X.calm=true):cX X (.builtin "sum") [.tup (ns.map .int)] S W:=by
 intro l s Q H O N M I E r C;obtain⟨v,rfl,B⟩:=cC r;obtain⟨u,rfl,i⟩:=vals1 C
 cases B with
 | @tup a P _ n y=>
   cases i;obtain⟨g,D,x,J⟩:=I.tuple n.sq;have m:=y.ints;subst m;have k:IntsAre g ns:=intsAre_of D;obtain⟨c,j⟩:=k.allInts.items;have h:s.heap.IsTuple a g.toArray:=x;rw[j]at h;have f:a<s.heap.objs.size:=by obtain⟨_,e,_⟩:=h;exact ZE e
   refine call_sum_walkG (wpAny_pyIter_tuple h ?_);refine⟨_,_,_,_,_,_,numAt c,rfl,Walks.tuple (A:=X.A.in1) (I.ok.hd p) _ a (ZN f) (intItems c),⟨⟨_,ZD _ rfl,rfl,rfl⟩,h.push _⟩,(λ b d=>?_),(λ _ _=>intItems_at),λ G L K t=>?_⟩;{show b<(s.heap.push _).objs.size;rw[Heap.size_push];rcases ZJ.mp d with rfl | d;{exact Nat.lt_succ_self _};{rcases ZJ.mp d with rfl | d;{exact Nat.lt_succ_of_lt f};{cases d}}}
   . have e:preSum (numAt c) (intItems c).size=ns.sum:=by rw[show(intItems c).size=c.size by simp[intItems],preSum_eq,List.take_of_length_le (by simp),←nums_intItems,←j];exact congrArg List.sum k.numsOf
     rw[e];refine⟨.int _,H,I.kept (λ b o q=>t b o (λ z=>?_) (ZC _ q)),⟨_,rfl⟩,Hh w E (.int _)⟩;have F:b=s.heap.objs.size:=by simpa using z
     exact absurd (ZE q) (by rw[F];exact Nat.lt_irrefl _)
end
def xf:Bf where
 x:="sum"
 id:="sum"
 boot:=by decide+kernel
 wp a S W:=match a with
  | [.lst a]=>∃b:%[|1],a=b.map .int/\W (.int b.sum) S
  | [.tup a]=>∃b:%[|1],a=b.map .int/\W (.int b.sum) S
  | _=>False
 sound:=by intro X a S W c e h;split at h;{obtain⟨d,rfl,h⟩:=h;exact Wc h c};{obtain⟨d,rfl,h⟩:=h;exact U4 h c};{exact h.elim}
def Ag(own:Bool)(op:Operator)(x y:D)(S:Store)(W:WD):Prop:=match op with
 | .Add=>∃a b,jg S x=some a/\jg S y=some b/\a.length+b.length≤1000000/\putL own W (a++b) S
 | .Mult=>∃a k,jg S x=some a/\y=.int k/\(-(2 ^ 63)≤k/\k<2 ^ 63)/\a.length*k.toNat≤1000000/\putL own W (List.replicate k.toNat a).flatten S
 | _=>False
theorem Il{X:Cx}{d:Bool}{op:Operator}{x y:D}{S:Store}{W:WD}(h:Ag d op x y S W):du X op x y S W:=by unfold Ag at h;split at h;{obtain⟨e,i,a,f,b,c⟩:=h;exact Rx a f b c};{obtain⟨e,k,a,rfl,b,c,g⟩:=h;exact R0 a b c g};{exact h.elim}
section
variable {Ω : Wd}
def Xo(own:Bool)(op:Operator)(a b:Ex Ω):Ex Ω where
 lev:=max a.lev b.lev
 chk c N f e:=match e with | .BinOp l o r _=>(o==op)&&(a.chk c N f l&&b.chk c N f r) | _=>false
 wp g S W:=a.wp g S λ x h=>b.wp g h λ y i=>Ag own op x y i W
 sound:=by
  intro X r c N f e g S W A n j p;obtain⟨s,t⟩:=lv2 n
  cases e with
  | BinOp l o v u=>obtain⟨k,d⟩:=aa j;obtain⟨d,m⟩:=aa d;have e:o=op:=ZI k;subst e;exact rW ((a.sound A s d p).mono λ x h q=>(b.sound A t m q).mono λ y i q=>Il q)
  | _=>exact fE j
def XJ(a b:Ex Ω):Ex Ω where
 lev:=max a.lev b.lev
 chk c N h e:=match e with | .BinOp l o r _=>(o==.FloorDiv)&&(a.chk c N h l&&b.chk c N h r) | _=>false
 wp k S W:=a.wp k S λ x m=>b.wp k m λ y n=>match x,y with
  | .int i,.int j=>(0<j/\j<1000000000000000000000000000000000000000000000000000000000000)/\W (.int (i/j)) n
  | _,_=>False
 sound:=by
  intro X r c N h e k S W A s hc t;obtain⟨u,v⟩:=lv2 s
  cases e with
  | BinOp l o z w=>
    obtain⟨p,d⟩:=aa hc;obtain⟨d,f⟩:=aa d;have e:o=.FloorDiv:=ZI p;subst e;refine rW ((a.sound A u d t).mono λ x m q=>(b.sound A v f q).mono λ y n q=>?_);split at q
    . rename_i i j;refine gJ (C:=λ _ j=>0<j/\j<1000000000000000000000000000000000000000000000000000000000000) (g:=λ i j=>i/j) (opI λ i j _ _ _ _ _ hc q=>?_) q.1 q.2;have p:(0:Int)<j:=hc.1;have d:j<1000000000000000000000000000000000000000000000000000000000000:=hc.2;refine floordiv_int %[|0] (by rw[Int.fdiv_eq_ediv_of_nonneg i %[|0]];exact q) (.inl (PyProof.noPylong_of_log2 ?_));have f:j.natAbs<2 ^ 200:=%[|0]
      have:j.natAbs.log2<200:=(Nat.log2_lt %[|0]).mpr f;omega
    {exact q.elim}
  | _=>exact fE hc
end
end RF
namespace RF
open PySem PySem.Spec L2 DL
open PyProof.Rows
def jk(n:Nat)(J:List (List D)):Option D->Option D
 | some (.loc j)=>if j<n then some (.loc j)else(J[j-n]?).map .lst
 | o=>o
def xV(n:Nat)(W:Gam->%[|4]):Gam->%[|4]:=λ b c=>W b c∨∃J a,c=a++J/\n≤a.length/\flat J/\flat a/\atTop b/\W (b.map (jk a.length J)) a
theorem Yg{K:PySem.W.Frag}{O:Own}{H y:Hp}{W:Gam->%[|4]}{σ:DL.St}{n:Nat}(Q:O.A.length=n)(q:QN K O H (xV n W) σ y):QN K O H W σ y:=by
 obtain⟨z,D,E,w,C,t,r⟩:=q;rcases w with w | ⟨J,f,rfl,P,G,F,I,w⟩;{exact⟨z,D,E,w,C,t,r⟩}
 . obtain ⟨x,u,c,M⟩:=dJ C t %[|0] F;refine⟨_,_,f,w,x,u,⟨by rw[x4];exact r.len,λ i d e=>?_⟩⟩;rw[x5]at e
   cases h:D[i]? with
   | none=>rw[h]at e;cases e
   | some o=>
     rw[h]at e
     cases o with
     | none=>cases e
     | some g =>
       obtain⟨v,s,B⟩:=r.at_ i g h;rcases I i g h with A | ⟨j,rfl⟩
       . have b:g=d:=by
          cases g with
          | loc j=>simp[ak]at A
          | _=>simpa[jk]using e
         subst b;exact⟨v,s,cu c A B⟩
       . cases B with
         | @loc a _ p=>
           by_cases l:j<f.length
           . have b:d=.loc j:=by simpa[jk,l]using e.symm
             subst b;refine⟨_,s,.loc ?_⟩;show(z.A.take f.length)[j]? =some (a,false);rw[List.getElem?_take,if_pos l];exact p
           . cases k:J[j-f.length]? with
             | none=>simp[jk,l,k]at e
             | some m=>
               have b:d=.lst m:=by simpa[jk,l,k]using e.symm
               subst b;obtain⟨R,L,N⟩:=t.obj j a m p (by rw[List.getElem?_append_right %[|0]];exact k);exact⟨_,s,.lst (.inl ⟨M j a %[|0] p,.inl L⟩) (dX c (G m (y8 k)) N)⟩
def Drp(n:Nat)(W:WD):WD:=λ d b=>W d b∨∃J a,b=a++J/\n≤a.length/\ak d=true/\flat a/\W d a
theorem QG.drp{K:PySem.W.Frag}{O:Own}{H e:Hp}{W:WD}{v:V}{n:Nat}(o:O.A.length=n)(q:QG K O H (Drp n W) v e):QG K O H W v e:=by obtain⟨h,d,j,w,g,f,r⟩:=q;rcases w with w | ⟨J,i,rfl,m,l,k,w⟩;{exact⟨h,d,j,w,g,f,r⟩};{obtain⟨b,a,c,p⟩:=dJ g f %[|0] k;exact⟨_,d,i,w,b,a,cu c l r⟩}
section
variable {Ω : Wd}
def Bl.fza(b:Bl Ω):Bl Ω where
 lev:=b.lev
 chk:=b.chk
 wp g S W:=b.wp g S {W with nx:=xV S.length W.nx}
 sound:=by
  intro X r m N n l g S W A j i k a s d H O I c e;refine thn (b.sound A j i k a s d H O I c e) λ f o q=>?_
  cases f with
  | next=>obtain⟨d,h,I,q⟩:=q;exact⟨d,h,I,Yg e.len q⟩
  | brk=>exact q
  | cont=>exact q
  | ret u=>exact q
def Bl.drp(b:Bl Ω):Bl Ω where
 lev:=b.lev
 chk:=b.chk
 wp g S W:=b.wp g S {W with rt:=Drp S.length W.rt}
 sound:=by
  intro X r n N p m g S W A k j l a s o H O I c e;refine thn (b.sound A k j l a s o H O I c e) λ f t q=>?_
  cases f with
  | next=>exact q
  | brk=>exact q
  | cont=>exact q
  | ret u=>obtain⟨v,d,h,i,r,q⟩:=q;exact⟨v,d,h,i,r,QG.drp e.len q⟩
end
def Oi(op:Operator)(n:Int)(d:D)(k:Int->Prop):Prop:=match op,d with
 | .Add,.int m=>k (n+m)
 | .Sub,.int m=>k (n-m)
 | .Mult,.int m=>CMul n m/\k (n*m)
 | _,_=>False
theorem V3{X:Cx}{o:Gam}{S:Store}{W:DL.Fin}{pos m:Pos}{op:Operator}{e:Expr}(B:(op==.Add||(op==.Sub||op==.Mult))=true)(i:Nat){x:Str}{n:Int}(D:o[i]? =some (some (.int n)))(h:Ev X o S e λ d S1=>Oi op n d λ z=>W.nx (o.set i (some (.int z))) S1)(u:X.N.Nodup)(hi:X.N[i]? =some x)(C:Loc X.env.scope x)
 (A:X.fn x=true∨X.env.scope.names.lookup x=some .local):Rn X o S (.AugAssign (.Name x m) op e pos) W:=by
 intro f s p H O I c E;obtain⟨v,t,r⟩:=c.at_ i (.int n) D;cases r;have l:∀(k:Own)(S1:Store)(j:Hp)(z:Int),Step O k H j->StOk X.K k j S1->W.nx (o.set i (some (.int z))) S1->QN X.K O H W.nx (p.set i (some (.int z))) j:=λ k S1 j z a b w=>⟨k,_,S1,w,a,b,(c.mono a).set (.int z) i⟩
 cases op with
 | Add=>
   refine zF u hi C h.pe Rc A f s p H _ I ⟨.int n,t,O,c,E,λ y j q=>?_⟩;obtain⟨k,d,S1,w,a,b,g⟩:=q;cases g<;>first | exact(show False from w).elim | skip
   exact⟨n,_,rfl,rfl,l k S1 j _ a b w⟩
 | Sub=>
   refine zF u hi C h.pe Q6 A f s p H _ I ⟨.int n,t,O,c,E,λ y j q=>?_⟩;obtain⟨k,d,S1,w,a,b,g⟩:=q;cases g<;>first | exact(show False from w).elim | skip
   exact⟨n,_,rfl,rfl,l k S1 j _ a b w⟩
 | Mult=>
   refine zF u hi C h.pe QM A f s p H _ I ⟨.int n,t,O,c,E,λ y j q=>?_⟩;obtain⟨k,d,S1,w,a,b,g⟩:=q;cases g<;>first | exact(show False from w).elim | skip
   exact⟨n,_,rfl,rfl,w.1,l k S1 j _ a b w.2⟩
 | _=>exact absurd B %[|3]
section
variable {Ω : Wd}
def Yn(i:Nat)(op:Operator)(a:Ex Ω):Sm Ω where
 lev:=a.lev
 chk f N m s:=anB (Rp s) λ z=>anB (nameV z.1) λ x=>(z.2.1==op)&&((z.2.1==.Add||(z.2.1==.Sub||z.2.1==.Mult))&&((N[i]? ==some x)&&(lcl f m x&&a.chk f N m z.2.2)))
 wp h S W:=match h[i]? with
  | some (some (.int n))=>a.wp h S λ d u=>Oi op n d λ z=>W.nx (h.set i (some (.int z))) u
  | _=>False
 sound:=by intro X r f N m s h S W A C b k;obtain⟨⟨t,o,e⟩,c,g⟩:=aZ b;clear b;obtain⟨q,c⟩:=Q4 c;subst c;obtain⟨x,c,b⟩:=aZ g;clear g;obtain⟨p,c⟩:=iB c;have c:t=.Name x p:=c;subst c;{obtain⟨v,b⟩:=aa b;obtain⟨j,b⟩:=aa b;obtain⟨w,b⟩:=aa b;obtain⟨y,B⟩:=aa b;obtain⟨D,E⟩:=A.lcl y;have e:=ZI v;subst e;split at k;{rename_i n l;exact V3 j i l (a.sound A C B k) (by rw[A.n];exact A.nd) (by rw[A.n];exact ZI w) D E};{exact k.elim}}
end
variable {v : Value} {c : Int × %[|1]} {b : Addr} {ns : %[|1]} {n : Nat} {Q : Bool -> Shared -> Prop}
def bh(h:Heap)(v:Value)(c:Int×%[|1]):Prop:=
 ∃b o k a u,v=.ref b/\h.get? b=some o/\o.cls=.type "tuple"/\o.data=.seq #[.int c.1 a,u] k/\eO h u c.2
theorem bh.keep{h h':Heap}(k:∀b o,h.get? b=some o->o.cls=.type "tuple"->h'.get? b=some o)(q:bh h v c):bh h' v c:=by obtain⟨b,o,n,t,u,f,g,a,i,e,s,w,r,j,l,d,m,p⟩:=q;exact⟨b,o,n,t,u,f,k _ _ g a,a,i,e,s,w,r,j,k _ _ l d,d,m,p⟩
section
variable {prog : Program} {w : World} {A : Around} {E : Value -> Shared -> Prop} {s : Shared}
theorem lE:∀{a:List Value}{ns:%[|1]},IntsAre a ns->ItemsAre (intKind prog w) ns a
 | _,_,.nil=>.nil
 | _,_,.cons n t r=>.cons (intKind_is _ _ _ _) (lE r)
theorem yp{h:Heap}(g:eO h (.ref b) ns):IsTupleKey (intKind prog w) h ns b:=by obtain⟨j,o,i,k,e,a,c,d,f⟩:=g;cases e;exact⟨o,i,k,a,c,d,lE f⟩
theorem Dk:∀{b:List Value}{ns a:%[|1]},IntsAre b ns->IntsAre b a->ns=a:=by
 intro b ns a h
 induction h generalizing a with
 | nil=>intro q;cases q;rfl
 | cons _ _ r c=>intro q;cases q with| cons _ _ d=>rw[c d]
theorem xU{h:Heap}{g:%[|1]}(x:eO h v ns)(y:eO h v g):ns=g:=by obtain⟨b,o,t,k,rfl,i,r,l,m⟩:=x;obtain⟨q,n,p,s,e,a,j,c,d⟩:=y;cases e;obtain rfl:o=n:=Option.some.inj (i.symm.trans a);have f:=l.symm.trans c;injection f with f _;subst f;exact Dk m d
def hC(prog:Program)(w:World)(c:Int×%[|1]):Int:=reduceHash (Builtin.Tuple.tupleHashOf [(intKind prog w).hash c.1,tupleKeyHash (intKind prog w) c.2])
theorem vf{Q:Int->%[|8]}(y:A.units+5<cLine)(q:bh s.heap v c)(h:Q (hC prog w c) {s with toks:=s.toks+(c.2.length+3)}):wpAny (model prog w) A (pyHash v) Q E s:=by
 obtain⟨a,o,n,t,u,rfl,p,j,r,g⟩:=q;have i:s.TypeIs (.ref a) "tuple":=⟨o,p,j⟩;have k:∀b,u=.ref b->IsTupleKey (intKind prog w) s.heap c.2 b:=λ b e=>yp (e▸g);obtain⟨b,_,_,_,rfl,_⟩:=id g;have k:=k b rfl;unfold pyHash;first | unfold pyHashByItsType | skip
 first | refine ZA (wpAny_cRoomFor_or (.inr %[|0]) ?_) | skip
 refine ZA (wpAny_specialOf i F.slot_tuple_hash.lookup ?_);show wpAny _ _ (if(some (Value.builtin "tuple.__hash__")==some Value.none)=true then _ else _) Q E s;rw[if_neg (by rw[beq_builtin_none];exact y9)];refine ZA (wpAny_specialOf i F.slot_tuple_hash.lookup ?_);show wpAny _ _ (callSpecialIfBoundUnlessNone? (.ref a) "__hash__" _>>=_) Q E s;refine ZA (wpAny_callSpecialIfBoundUnlessNone?_slot i F.slot_tuple_hash (ZP F.slot_tuple_hash i F.entry_tuple_hash ?_ (F.args_tuple_hash_1 _)));show wpAny _ _ (Builtin.Tuple.tupleItemsOf (.ref a)>>=_) _ _ s;refine ZA (wpAny_tupleItemsOf p r ?_);refine ZA ?_;rw[←Array.forIn_toList];refine wpAny_forIn_list _
  (λ d (f:Array Int) m=>∃n,m={s with toks:=s.toks+n}/\((d=[.int c.1 t,.ref b]/\f=#[]/\n=0)∨(d=[.ref b]/\f=#[(intKind prog w).hash c.1]/\n=1)∨(d=[]/\n=c.2.length+2/\f=#[(intKind prog w).hash c.1,tupleKeyHash (intKind prog w) c.2])))
  _ ?_ ?_ _ _ ⟨0,rfl,.inl ⟨rfl,rfl,rfl⟩⟩
 . rintro x d f m ⟨n,rfl,⟨e,rfl,rfl⟩ | ⟨e,rfl,rfl⟩ | ⟨e,rfl,rfl⟩⟩
   . cases e;refine ZA ((intKind prog w).pyHash (intKind_is _ _ _ _) ?_);first
      | exact ZB ⟨1,rfl,.inr (.inl ⟨rfl,rfl,rfl⟩)⟩
      | exact ZA (ZB (ZB ⟨1,rfl,.inr (.inl ⟨rfl,rfl,rfl⟩)⟩))
   . cases e;refine ZA (wpAny_pyHash_tuple (knd:=intKind prog w) ?_ k ?_);{show A.units+1<cLine;omega}
     . first
       | exact ZB ⟨1+(c.2.length+1),by simp[Nat.add_assoc],.inr (.inr ⟨rfl,%[|0],rfl⟩)⟩
       | exact ZA (ZB (ZB ⟨1+(c.2.length+1),by simp[Nat.add_assoc],.inr (.inr ⟨rfl,%[|0],rfl⟩)⟩))
   {cases e}
 {rintro f m ⟨n,rfl,⟨e,rfl,rfl⟩ | ⟨e,rfl,rfl⟩ | ⟨e,rfl,rfl⟩⟩;{cases e};{cases e};show wpAny _ _ (retInt (Builtin.Tuple.tupleHashOf [(intKind prog w).hash c.1,tupleKeyHash (intKind prog w) c.2])) _ _ _;refine wpAny_ret_mkInt ?_;show wpAny _ _ (if(decide (-(2:Int) ^ 63≤Builtin.Tuple.tupleHashOf _)&&decide (Builtin.Tuple.tupleHashOf _<2 ^ 63))=true then _ else _) Q E _;unfold hC reduceHash at h;split;{rename_i l;rw[if_pos l]at h;exact ZB h};{rename_i l;rw[if_neg l]at h;exact ZA (wpAny_rule (ZB h))}}
theorem LQ{Q:Int->%[|8]}(b:A.units+5<cLine)(a:bh s.heap v c)(h:∀n,Q (hC prog w c) {s with toks:=s.toks+n}):wpAny (model prog w) A (pyHash v) Q E s:=vf b a (h _)
theorem mZ{h:Heap}(j:eO h (.ref b) ns):∃o xs k,h.get? b=some o/\o.cls=.type "tuple"/\o.data=.seq xs k/\∀v∈xs.toList,∃i t,v=Value.int i t:=by obtain⟨m,o,xs,k,e,a,c,d,f⟩:=j;cases e;refine⟨o,xs,k,a,c,d,λ v l=>?_⟩;obtain⟨i,g⟩:=ZR l;obtain⟨t,e⟩:=IntsAre.int_at f i v g;exact⟨_,t,e⟩
theorem Jf(q:eO s.heap (.ref b) ns)(h:Q true s):wpAny (model prog w) A (eqIsQuiet (n+1) (.ref b)) Q E s:=by obtain⟨o,x,k,j,l,m,p⟩:=mZ q;have g:s.TypeIs (.ref b) "tuple":=⟨o,j,l⟩;unfold eqIsQuiet;refine ZA (wpAny_specialOf g F.slot_tuple_eq.lookup ?_);show wpAny _ _ (isInstance (.ref b) (.type "tuple")>>=_) _ _ s;refine ZA (wpAny_isInstance g isSubtype_tuple_tuple ?_);simp only[Bool.not_true,Bool.false_eq_true,if_false];refine ZA (wpAny_seqItems j m ?_);refine ZA ?_;show wpAny _ _ (forIn x _ _) _ _ s;rw[←Array.forIn_toList];refine wpAny_forIn_list _ (λ c r f=>r.1=none/\f=s/\∀v∈c,∃i t,v=Value.int i t) _ ?_ ?_ _ _ ⟨rfl,rfl,p⟩;{rintro v c r f ⟨d,rfl,a⟩;obtain⟨i,t,rfl⟩:=a v w9;rw[eqIsQuiet_byValue _ (by rfl)];refine ZA (ZB ?_);simp only[Bool.not_true,Bool.false_eq_true,if_false];exact ZB ⟨rfl,rfl,λ u e=>a u (x8 _ e)⟩};{rintro⟨y,z⟩ f ⟨d,rfl,_⟩;simp only at d;subst d;exact ZB h}
theorem mC(y:bh s.heap (.ref b) c)(h:Q true s):wpAny (model prog w) A (eqIsQuiet (n+2) (.ref b)) Q E s:=by obtain⟨a,o,k,q,u,e,p,t,x,d⟩:=y;cases e;obtain⟨l,_,_,_,rfl,_⟩:=id d;have m:s.TypeIs (.ref b) "tuple":=⟨o,p,t⟩;unfold eqIsQuiet;refine ZA (wpAny_specialOf m F.slot_tuple_eq.lookup ?_);show wpAny _ _ (isInstance (.ref b) (.type "tuple")>>=_) _ _ s;refine ZA (wpAny_isInstance m isSubtype_tuple_tuple ?_);simp only[Bool.not_true,Bool.false_eq_true,if_false];refine ZA (wpAny_seqItems p x ?_);refine ZA ?_;show wpAny _ _ (forIn #[Value.int c.1 q,.ref l] _ _) _ _ s;rw[←Array.forIn_toList];refine wpAny_forIn_list _ (λ g r j=>r.1=none/\j=s/\∀v∈g,v=Value.int c.1 q∨v=.ref l) _ ?_ ?_ _ _ ⟨rfl,rfl,by simp⟩;{rintro v g r j ⟨i,rfl,f⟩;rcases f v w9 with rfl | rfl;{rw[eqIsQuiet_byValue _ (by rfl)];refine ZA (ZB ?_);simp only[Bool.not_true,Bool.false_eq_true,if_false];exact ZB ⟨rfl,rfl,λ u d=>f u (x8 _ d)⟩};{refine ZA (Jf d ?_);simp only[Bool.not_true,Bool.false_eq_true,if_false];exact ZB ⟨rfl,rfl,λ u d=>f u (x8 _ d)⟩}};{rintro⟨z,B⟩ j ⟨i,rfl,_⟩;simp only at i;subst i;exact ZB h}
theorem FT(n:Nat)(i:Int)(t:Tok):hashByValue n (.int i t)=pure true:=by cases n<;>rfl
theorem Py(q:eO s.heap (.ref b) ns)(h:Q true s):wpAny (model prog w) A (hashByValue (n+1) (.ref b)) Q E s:=by obtain⟨o,x,k,g,l,m,p⟩:=mZ q;have j:s.TypeIs (.ref b) "tuple":=⟨o,g,l⟩;unfold hashByValue;refine ZA (wpAny_specialOf j F.slot_tuple_hash.lookup ?_);show wpAny _ _ (seqItems? (.ref b)>>=_) _ _ s;refine ZA (wpAny_seqItems g m ?_);refine ZA ?_;show wpAny _ _ (forIn x _ _) _ _ s;rw[←Array.forIn_toList];refine wpAny_forIn_list _ (λ c r f=>r.1=none/\f=s/\∀v∈c,∃i t,v=Value.int i t) _ ?_ ?_ _ _ ⟨rfl,rfl,p⟩;{rintro v c r f ⟨d,rfl,a⟩;obtain⟨i,t,rfl⟩:=a v w9;rw[FT];refine ZA (ZB ?_);simp only[Bool.not_true,Bool.false_eq_true,if_false];exact ZB ⟨rfl,rfl,λ u e=>a u (x8 _ e)⟩};{rintro⟨y,z⟩ f ⟨d,rfl,_⟩;simp only at d;subst d;exact ZB h}
theorem Rk(y:bh s.heap (.ref b) c)(h:Q true s):wpAny (model prog w) A (hashByValue (n+2) (.ref b)) Q E s:=by obtain⟨a,o,k,p,u,e,m,t,x,d⟩:=y;cases e;obtain⟨l,_,_,_,rfl,_⟩:=id d;have q:s.TypeIs (.ref b) "tuple":=⟨o,m,t⟩;unfold hashByValue;refine ZA (wpAny_specialOf q F.slot_tuple_hash.lookup ?_);show wpAny _ _ (seqItems? (.ref b)>>=_) _ _ s;refine ZA (wpAny_seqItems m x ?_);refine ZA ?_;show wpAny _ _ (forIn #[Value.int c.1 p,.ref l] _ _) _ _ s;rw[←Array.forIn_toList];refine wpAny_forIn_list _ (λ g r j=>r.1=none/\j=s/\∀v∈g,v=Value.int c.1 p∨v=.ref l) _ ?_ ?_ _ _ ⟨rfl,rfl,by simp⟩;{rintro v g r j ⟨i,rfl,f⟩;rcases f v w9 with rfl | rfl;{rw[FT];refine ZA (ZB ?_);simp only[Bool.not_true,Bool.false_eq_true,if_false];exact ZB ⟨rfl,rfl,λ u d=>f u (x8 _ d)⟩};{refine ZA (Py d ?_);simp only[Bool.not_true,Bool.false_eq_true,if_false];exact ZB ⟨rfl,rfl,λ u d=>f u (x8 _ d)⟩}};{rintro⟨z,B⟩ j ⟨i,rfl,_⟩;simp only at i;subst i;exact ZB h}
theorem Fo(n:Nat)(i:Int)(t:Tok):ofAClassStatement n (.int i t)=pure false:=by cases n<;>rfl
theorem QJ(q:eO s.heap (.ref b) ns)(h:Q false s):wpAny (model prog w) A (ofAClassStatement (n+1) (.ref b)) Q E s:=by obtain⟨o,x,k,g,l,m,p⟩:=mZ q;have j:s.TypeIs (.ref b) "tuple":=⟨o,g,l⟩;unfold ofAClassStatement;refine ZA (wpAny_typeOf j ?_);show wpAny _ _ ((pure true:Sem Bool)>>=_) _ _ s;refine ZA (ZB ?_);simp only[Bool.not_true,Bool.false_eq_true,if_false];refine ZA (wpAny_seqItems g m ?_);refine ZA ?_;show wpAny _ _ (forIn x _ _) _ _ s;rw[←Array.forIn_toList];refine wpAny_forIn_list _ (λ c r f=>r.1=none/\f=s/\∀v∈c,∃i t,v=Value.int i t) _ ?_ ?_ _ _ ⟨rfl,rfl,p⟩;{rintro v c r f ⟨d,rfl,a⟩;obtain⟨i,t,rfl⟩:=a v w9;rw[Fo];refine ZA (ZB ?_);simp only[Bool.false_eq_true,if_false];exact ZB ⟨rfl,rfl,λ u e=>a u (x8 _ e)⟩};{rintro⟨y,z⟩ f ⟨d,rfl,_⟩;simp only at d;subst d;exact ZB h}
theorem Ep(y:bh s.heap (.ref b) c)(h:Q false s):wpAny (model prog w) A (ofAClassStatement (n+2) (.ref b)) Q E s:=by obtain⟨a,o,k,p,u,e,m,t,x,d⟩:=y;cases e;obtain⟨l,_,_,_,rfl,_⟩:=id d;have q:s.TypeIs (.ref b) "tuple":=⟨o,m,t⟩;unfold ofAClassStatement;refine ZA (wpAny_typeOf q ?_);show wpAny _ _ ((pure true:Sem Bool)>>=_) _ _ s;refine ZA (ZB ?_);simp only[Bool.not_true,Bool.false_eq_true,if_false];refine ZA (wpAny_seqItems m x ?_);refine ZA ?_;show wpAny _ _ (forIn #[Value.int c.1 p,.ref l] _ _) _ _ s;rw[←Array.forIn_toList];refine wpAny_forIn_list _ (λ g r j=>r.1=none/\j=s/\∀v∈g,v=Value.int c.1 p∨v=.ref l) _ ?_ ?_ _ _ ⟨rfl,rfl,by simp⟩;{rintro v g r j ⟨i,rfl,f⟩;rcases f v w9 with rfl | rfl;{rw[Fo];refine ZA (ZB ?_);simp only[Bool.false_eq_true,if_false];exact ZB ⟨rfl,rfl,λ u d=>f u (x8 _ d)⟩};{refine ZA (QJ d ?_);simp only[Bool.false_eq_true,if_false];exact ZB ⟨rfl,rfl,λ u d=>f u (x8 _ d)⟩}};{rintro⟨z,B⟩ j ⟨i,rfl,_⟩;simp only at i;subst i;exact ZB h}
theorem My{x:Value}{ys:List Value}(n:bh s.heap x c)(p:∀y∈ys,∃d,bh s.heap y d)(h:Q false s):wpAny (model prog w) A (searchCouldBeSeen x ys) Q E s:=by have i:=n;obtain⟨a,_,_,_,_,rfl,_⟩:=n;unfold searchCouldBeSeen;refine ZA ?_;refine wpAny_forIn_list _ (λ e r j=>r.1=none/\j=s/\∀v∈e,∃d,bh s.heap v d) _ ?_ ?_ _ _ ⟨rfl,rfl,p⟩;{rintro v e r j ⟨k,rfl,f⟩;obtain⟨d,m⟩:=f v w9;have g:=m;obtain⟨b,_,_,_,_,rfl,_⟩:=m;have o:∀v∈e,∃d,bh j.heap v d:=λ u l=>f u (x8 _ l);dsimp only;split;{exact ZB ⟨rfl,rfl,o⟩};{refine ZA (mC i ?_);simp only[Bool.not_true,Bool.false_eq_true,if_false];refine ZA (mC g ?_);simp only[Bool.not_true,Bool.false_eq_true,if_false];refine ZA (Ep i ?_);simp only[Bool.false_eq_true,if_false];refine ZA (Ep g ?_);simp only[Bool.false_eq_true,if_false];exact ZB ⟨rfl,rfl,o⟩}};{rintro⟨q,t⟩ j ⟨k,rfl,_⟩;simp only at k;subst k;exact ZB h}
theorem Bq{u:Value}{f:%[|1]}(g:A.units<cLine)(d:eO s.heap u ns)(e:eO s.heap v f):SeqAt.EqAt A s u v (decide (ns=f)):=by intro c w E Q h;obtain⟨a,_,_,_,rfl,_⟩:=id d;obtain⟨b,_,_,_,rfl,_⟩:=id e;exact wpAny_eqBool_tuple (knd:=intKind c w) g (yp d) (yp e) h
theorem zE{u:Value}{d:Int×%[|1]}(J:A.units+2<cLine)(G:bh s.heap u c)(H:bh s.heap v d):SeqAt.EqAt A s u v (decide (c=d)):=by
 obtain⟨a,o,k,n,u,rfl,y,F,x,g⟩:=G;obtain⟨B,z,I,f,w,rfl,i,t,h,l⟩:=H;by_cases e:a=B;{subst e;obtain rfl:o=z:=Option.some.inj (y.symm.trans i);have p:=x.symm.trans h;injection p with p _;have q:[Value.int c.1 n,u]=[Value.int d.1 f,w]:=congrArg Array.toList p;injection q with e3 e4;injection e3 with e3 _;injection e4 with e4 _;subst e4;obtain⟨b,_,_,_,rfl,_⟩:=id g;have C:c.2=d.2:=xU g l;have D:c=d:=Prod.ext e3 C;rw[ZG D];exact SeqAt.EqAt.same _}
 . have m:=SeqAt.RcAt.tuples (A:=A) (s:=s) (e:=λ j=>if j=0 then decide (c.1=d.1)else decide (c.2=d.2)) ⟨o,y,F,k,x⟩ ⟨z,i,t,I,h⟩ %[|0] (λ j r E=>by
    match j,r,E with
    | 0,_,_=>have:=SeqAt.EqAt.int_int (A:=A.in1) (s:=s) c.1 n d.1 f;rw[show(c.1==d.1)=decide (c.1=d.1)from by rw[Bool.eq_iff_iff];simp]at this;exact this
    | 1,_,_=>exact Bq (by show A.units+1<_;omega) g l
    | j+2,r,_=>exact absurd r (by simp));have q:((List.range (min #[Value.int c.1 n,u].size #[Value.int d.1 f,w].size)).all (λ j=>if j=0 then decide (c.1=d.1)else decide (c.2=d.2))&&#[Value.int c.1 n,u].size==#[Value.int d.1 f,w].size)=decide (c=d):=by rw[Bool.eq_iff_iff];simp[List.range_succ,Prod.ext_iff]
   rw[q]at m;exact SeqAt.EqAt.of_refs e m
end
end RF
namespace RF
open PySem PySem.Spec L2 DL
open PyProof.Rows
abbrev tbl(led:Bool)(ps:List Nat):SetTable:={mask:=7,place:=ps.toArray,dummies:=#[],finger:=0,led:=led,moves:=0,plain:=true}
theorem yS(fin:Bool):∀ns:%[|1],ltF fin ns ns=fin
 | []=>rfl
 | n::ns=>by unfold ltF;rw[if_pos rfl];exact yS fin ns
theorem BV(ns:%[|1]):ltI ns ns=false:=by unfold ltI;rw[yS];simp
def ltC(c d:Int×%[|1]):Bool:=if c.1=d.1 then ltI c.2 d.2 else decide (c.1<d.1)
section
variable {prog : Program} {w : World} {A : Around} {E : Value -> Shared -> Prop} {s : Shared}
theorem Oq{a b:Addr}{ns m:%[|1]}{P:PySem.Fin->%[|8]}(T:eO s.heap (.ref a) ns)(U:eO s.heap (.ref b) m)(h:P (.done (.ret (.bool (ltI ns m)))) s):
 wpAny (model prog w) A (Builtin.«tuple.__lt__» ⟨[.ref a,.ref b],[]⟩) P E s:=by
 obtain⟨Y,oa,B,na,e,J,S,G,p⟩:=T;cases e;obtain⟨Z,X,C,nb,e,t,F,H,q⟩:=U;cases e;have D:s.TypeIs (.ref b) "tuple":=⟨X,t,F⟩;show wpAny _ _ (isInstance (.ref b) (.type "tuple")>>=_) _ _ s;refine ZA (wpAny_isInstance D isSubtype_tuple_tuple ?_);simp only[Bool.not_true,Bool.false_eq_true,if_false];refine ZA (wpAny_tupleItemsOf J G ?_);refine ZA (wpAny_tupleItemsOf t H ?_);refine ZA ?_;have V:B.size=ns.length:=by rw[←Array.length_toList];exact p.length
 have W:C.size=m.length:=by rw[←Array.length_toList];exact q.length
 refine wpAny_forIn_list _
  (λ j r z=>r.1=none/\z=s/\∃f d g i,j=List.zip g i/\IntsAre g f/\IntsAre i d/\ltF (decide (ns.length<m.length)) f d=ltI ns m)
  _ ?_ ?_ _ _ ⟨rfl,rfl,ns,m,B.toList,C.toList,rfl,p,q,rfl⟩
 . rintro⟨u,v⟩ j r z ⟨K,rfl,f,d,g,i,n,k,l,c⟩
   cases k with
   | nil=>simp at n
   | @cons L t1 Q O x=>
     cases l with
     | nil=>simp at n
     | @cons M t2 R N y=>simp only[List.zip_cons_cons,List.cons.injEq,Prod.mk.injEq]at n;obtain⟨⟨rfl,rfl⟩,rfl⟩:=n;refine ZA (wpAny_eqBool_int ?_);unfold ltF at c;by_cases I:L=M;{subst I;rw[beq_self_eq_true];simp only[Bool.not_true,Bool.false_eq_true,if_false];rw[if_pos rfl]at c;exact ZB ⟨rfl,rfl,_,_,_,_,rfl,x,y,c⟩};{rw[if_neg I]at c;rw[show(L==M)=false from by simpa using I];simp only[Bool.not_false,if_true];rw[←c]at h;refine ZA (wpAny_rule ?_);refine ZA (show wpAny _ _ (compareOp .Lt _ _) _ _ _ from wpAny_lt_int ?_);exact ZA (ZB (ZB (ZB h)))}
 . rintro⟨r1,r2⟩ z ⟨K,rfl,f,d,g,i,n,k,l,c⟩;simp only at K;subst K;refine ZB ?_;have o:decide (B.size<C.size)=ltI ns m:=by
    rw[←c,V,W]
    cases k with
    | nil=>rfl
    | cons _ _ _=>
      cases l with
      | nil=>rfl
      | cons _ _ _=>simp at n
   show P (.done (.ret (.bool (decide (B.size<C.size))))) z;rw[o];exact h
theorem Gu{u v:Value}{ns k:%[|1]}{Q:%[|7]}(m:A.units<cLine)(i:eO s.heap u ns)(j:eO s.heap v k)(h:Q (.bool (ltI ns k)) s):wpAny (model prog w) A (compareOp .Lt u v) Q E s:=by
 obtain⟨a,l,_,_,rfl,d,c,_⟩:=id i;obtain⟨b,n,_,_,rfl,g,f,_⟩:=id j;exact wpAny_richCompare_same_room (op:=.Lt) ⟨l,d,c⟩ ⟨n,g,f⟩ F.slot_tuple_lt
  (ZP F.slot_tuple_lt ⟨l,d,c⟩ F.entry_tuple_lt (Oq i j ⟨_,rfl,(λ e=>nomatch e),h⟩) (F.args_tuple_lt_2 _ _)) m
theorem Tt{b:Bool}{v u:Value}{c d:Int×%[|1]}{Q:Bool->%[|8]}(C:A.units+2<cLine)(r:bh s.heap v c)(hw:bh s.heap u d)(h:Q (ltC c d) s):wpAny (model prog w) A (keyLt' (tuples' b) v u) Q E s:=by obtain⟨a,o,k,t,x,rfl,q,B,p,m⟩:=r;obtain⟨z,F,D,l,y,rfl,j,n,i,f⟩:=hw;refine PySem.W.kat_lt q p j i ?_;show PySem.W.KatLex prog w A b _ Q [(Value.int c.1 t,Value.int d.1 l),(x,y)] 0 s;refine PySem.W.kat_cons (wpAny_eqBool_int ?_);unfold ltC at h;by_cases e:c.1=d.1;{rw[e,beq_self_eq_true];rw[if_pos e]at h;refine PySem.W.kat_yes (PySem.W.kat_cons (Bq %[|0] m f prog w _ _ ?_));by_cases g:c.2=d.2;{rw[ZG g];refine PySem.W.kat_yes (PySem.W.kat_nil ?_);rw[g,BV]at h;exact h};{rw[ZH g];refine PySem.W.kat_no ?_;rw[show(b&&0+1==0)=false from by cases b<;>rfl];exact PySem.W.kat_one _ _ (Gu %[|0] m f h)}};{rw[show(c.1==d.1)=false from by simpa using e];rw[if_neg e]at h;exact PySem.W.kat_no (Qg h)}
end
theorem uW{f g:Bool}(a:f=true->g=false):∀{ns b:%[|1]},ltF f ns b=true->ltF g b ns=false
 | [],[],h=>by unfold ltF at h ⊢;exact a h
 | [],_::_,h=>by unfold ltF at h ⊢;exact a h
 | _::_,[],h=>by unfold ltF at h ⊢;exact a h
 | n ::ns,m::b,h=>by unfold ltF at h ⊢;by_cases e:n=m;{rw[if_pos e]at h;rw[if_pos e.symm];exact uW a h};{rw[if_neg e]at h;rw[if_neg (λ z=>e z.symm)];have:=ZF h;exact ZH %[|0]}
theorem Kr{ns a:%[|1]}(h:ltI ns a=true):ltI a ns=false:=by unfold ltI at h ⊢;exact uW (λ b=>ZH (by have:=ZF b;omega)) h
theorem JG{f g:Bool}:∀{ns c:%[|1]},(ns.length<c.length->f=true)->(c.length<ns.length->g=true)->ltF f ns c=false->ltF g c ns=false->ns=c:=by
 intro ns
 induction ns with
 | nil=>
   intro c j k h d
   cases c with
   | nil=>rfl
   | cons=>unfold ltF at h;rw[j (by simp)]at h;cases h
 | cons n ns l=>
   intro c j k i d
   cases c with
   | nil=>unfold ltF at d;rw[k (by simp)]at d;cases d
   | cons m c=>unfold ltF at i d;by_cases e:n=m;{rw[if_pos e]at i;rw[if_pos e.symm]at d;rw[e,l (λ z=>j (by simpa using z)) (λ z=>k (by simpa using z)) i d]};{rw[if_neg e]at i;rw[if_neg (λ z=>e z.symm)]at d;have a:=of_decide_eq_false i;have b:=of_decide_eq_false d;omega}
theorem Ji{ns a:%[|1]}(h1:ltI ns a=false)(h2:ltI a ns=false):ns=a:=by unfold ltI at h1 h2;exact JG (λ h=>ZG h) (λ h=>ZG h) h1 h2
theorem Kf{c d:Int×%[|1]}(h:ltC c d=true):ltC d c=false:=by unfold ltC at h ⊢;by_cases e:c.1=d.1;{rw[if_pos e]at h;rw[if_pos e.symm];exact Kr h};{rw[if_neg e]at h;rw[if_neg (λ z=>e z.symm)];have:=ZF h;exact ZH %[|0]}
def cD(c:Int×%[|1]):D:=.tup [.int c.1,.tup (c.2.map .int)]
section
variable {X : Cx}
theorem jy {pins:List (Addr×Obj)}{σ:DL.St}{H:Hp}{s:Shared}{O:Own}(I:%[|5]){y:V}{u:Value}{c:Int×%[|1]}(r:Rep X.K O H y (cD c))(E:RelV y u):bh s.heap u c:=by unfold cD at r;cases r with| @tup a Q _ p B=>cases E;obtain⟨P,F,⟨o,x,z,n,A⟩,N⟩:=I.tuple p.sq;cases B with| cons C G=>cases G with| cons D J=>cases J;cases F with| cons i k=>cases k with| cons j l=>cases l;cases C;obtain⟨K,rfl⟩:=i;cases D with| @tup M L _ b g=>cases j;obtain⟨t,h,⟨w,d,e,v,f⟩,q⟩:=I.tuple b.sq;have m:=g.ints;subst m;exact⟨a,o,n,K,_,rfl,x,z,A,_,w,_,v,rfl,d,e,f,intsAre_of h⟩
end
variable {S : Store}
mutual
def vwD(S:Store):D->D
 | .loc k=>match S[k]? with | some ds=>.lst ds | none=>.loc k
 | .tup ds=>.tup (bD S ds)
 | .lst ds=>.lst (bD S ds)
 | d=>d
def bD(S:Store):List D->List D
 | []=>[]
 | d::ds=>vwD S d::bD S ds
end
def vwT(S:Store):D->D
 | .loc k=>match S[k]? with | some ds=>.lst (bD S ds) | none=>.loc k
 | d=>vwD S d
theorem dg{K:PySem.W.Frag}{O:Own}{H:Hp}(st:StOk K O H S){v:V}{x:D}(r:Rep K O H v x)(h:okD (vwD S x)=true):Sn K H v (vwD S x):=by
 revert h;refine Rep.rec (motive_1:=λ v x _=>okD (vwD S x)=true->Sn K H v (vwD S x)) (motive_2:=λ o f _=>bW (bD S f)=true->Sns K H o (bD S f)) ?_ (λ b _=>?_) (λ i _=>?_) (λ i _=>?_) (λ c n d h=>?_) (λ c n d h=>?_) (λ{a k} g h=>?_) (λ c _ h=>?_) (λ c p h=>?_) (λ _=>?_) (λ r t i j h=>?_) r;{intro _;simp only[vwD];exact .non};{simp only[vwD];exact .bl b};{simp only[vwD];exact .int i};{simp only[vwD];exact .str i};{simp only[vwD,okD]at h ⊢;exact .tup c.sq (d h)};{simp only[vwD,okD]at h ⊢;exact .lst c.sq (d h)}
 . have l:k<S.length:=by rw[←st.len];exact(z0.mp g).1
   obtain⟨f,m,q⟩:=st.obj k a S[k] g (y4 l);have e:vwD S (.loc k)=.lst S[k]:=by simp only[vwD];rw[y4 l]
   rw[e]at h ⊢;exact .lst (SqL.of m) (Fv (by simpa[okD]using h) q)
 {simp[vwD,okD]at h};{simp[vwD,okD]at h};{simp only[bD];exact .nil};{simp only[bD,bW,Bool.and_eq_true]at h ⊢;exact .cons (i h.1) (j h.2)}
theorem Qd{K:PySem.W.Frag}{O:Own}{H:Hp}(st:StOk K O H S){a:List V}{xs:List D}(r:Reps K O H a xs)(h:bW (bD S xs)=true):Sns K H a (bD S xs):=by revert h;refine r.ind (P:=λ a xs=>bW (bD S xs)=true->Sns K H a (bD S xs)) (λ _=>?_) λ r t i h=>?_;{simp only[bD];exact .nil};{simp only[bD,bW,Bool.and_eq_true]at h ⊢;exact .cons (dg st r h.1) (i h.2)}
theorem JT{K:PySem.W.Frag}{O:Own}{H:Hp}{v:V}{x:D}(st:StOk K O H S)(r:Rep K O H v x)(h:okD (vwT S x)=true):Sn K H v (vwT S x):=by
 cases r with
 | @loc a k f=>
   have g:k<S.length:=by rw[←st.len];exact(z0.mp f).1
   obtain⟨n,l,q⟩:=st.obj k a S[k] f (y4 g);have e:vwT S (.loc k)=.lst (bD S S[k]):=by simp only[vwT];rw[y4 g]
   rw[e]at h ⊢;exact .lst (SqL.of l) (Qd st q (by simpa[okD]using h))
 | non=>exact dg st .non h
 | bl b=>exact dg st (.bl b) h
 | int i=>exact dg st (.int i) h
 | str i=>exact dg st (.str i) h
 | tup c d=>exact dg st (.tup c d) h
 | lst c d=>exact dg st (.lst c d) h
 | dic c j=>exact dg st (.dic c j) h
 | dlo c m=>exact dg st (.dlo c m) h
theorem Vy{X:Cx}{x y:D}{W:Bool->%[|4]}(h:X.A.units+60<cLine)(h1:okD (vwT S x)=true)(h2:okD (vwT S y)=true)(g:deep (vwT S x)≤50)(w:W (!eqD (vwT S x) (vwT S y)) S):aY X .NotEq x y S (asB W):=by intro b s k H O v j u i I a c d e f;have:=(nY (n:=50) (A:=X.A) (BZ 50) (vwT S x) (vwT S y) %[|0] I (JT a c h1) (JT a d h2) e f %[|0]).2;exact this _ _ _ _ ⟨.bl _,H,I,rfl,Hh ⟨_,rfl,w⟩ a (.bl _)⟩
section
variable {Ω : Wd}
def Yo(a b:Ex Ω):Te Ω where
 lev:=max a.lev b.lev
 chk d N h e:=cm1 e λ l o r=>(o==CmpOp.NotEq)&&(okE r&&(a.chk d N h l&&b.chk d N h r))
 wp i S W:=a.wp i S λ x j=>b.wp i j λ y c=>okD (vwT c x)=true/\okD (vwT c y)=true/\deep (vwT c x)≤50/\W (!eqD (vwT c x) (vwT c y)) c
 sound:=by intro X r d N h e i S W A t k u;obtain⟨v,w⟩:=lv2 t;obtain⟨l,o,B,z,m,g⟩:=qN k;clear k;subst m;obtain⟨p,f⟩:=aa g;obtain⟨n,f⟩:=aa f;obtain⟨f,s⟩:=aa f;have e:o=.NotEq:=ZI p;subst e;exact yC ((a.sound A v f u).mono λ x j q=>(b.sound A w s q).mono λ y c q=>Vy A.hu q.1 q.2.1 q.2.2.1 q.2.2.2) (fJ n)
end
end RF
namespace RF
open PySem PySem.Spec L2 DL
open PyProof.Rows
def tV:V->List V->Hp->VK->Prop:=λ x b H Q=>∃l a i y,x=.ref l/\b=[.int i,y]/\H l=some (.lst a)/\0≤i/\i<2 ^ 62/\a.length<sizeLine/\Q .non (upd H l (.lst (a.take i.toNat++y::a.drop i.toNat)))
section
variable {X : Cx}
theorem Jt{xs:List V}{b:List Value}(r:Vals xs b)(n:Nat):Vals (xs.take n) (b.take n):=by
 induction r generalizing n with
 | nil=>simp;exact .nil
 | cons a _ c=>cases n with
   | zero=>simp;exact .nil
   | succ n=>exact .cons a (c n)
theorem JZ{xs:List V}{b:List Value}(r:Vals xs b)(n:Nat):Vals (xs.drop n) (b.drop n):=by
 induction r generalizing n with
 | nil=>simp;exact .nil
 | cons a t c=>cases n with
   | zero=>exact .cons a t
   | succ n=>exact c n
theorem Km:MtM X "list.insert" tV:=by
 intro d s K H x G v E Q I p o h;obtain⟨l,J,i,y,rfl,rfl,c,A,B,D,q⟩:=h;cases p
 cases o with
 | cons f t=>
   cases t with
   | cons g t=>
     cases t;obtain⟨w,rfl⟩:=f;obtain⟨z,a,n,r,C,e⟩:=I.lstM c;rename_i u;refine call_meets F.slot_list_insert ⟨_,e,rfl⟩ F.entry_list_insert (F.args_list_insert_3 _ _ _) (AutoSeq1.list_insert_list_int_val_1 l a.toArray n i w u (by rw[fitsIndex_both %[|0] %[|0]];decide) (by rw[x9];omega)) ⟨e,?_⟩;refine⟨.non,_,I.lset (its':=a.take i.toNat++u::a.drop i.toNat) c e ?_ ((Jt r _).append (.cons g (JZ r _))) ?_,rfl,q⟩
     . apply Array.toList_inj.mp;simp only[if_neg (show ¬i<0 by omega)];by_cases b:i.toNat≤a.length;{simp[Nat.min_eq_left b];exact List.take_of_length_le (by simp)}
       . have j:min i.toNat a.length=a.length:=%[|0]
         have k:a.take i.toNat=a:=List.take_of_length_le %[|0];have m:a.drop i.toNat=[]:=List.drop_eq_nil_of_le %[|0];simp[j,k,m]
     {rw[v3,List.length_cons,List.length_take,List.length_drop];omega}
theorem Ie{K:PySem.W.Frag}{O:Own}{H:Hp}{a:List V}{ds:List D}(r:Reps K O H a ds)(n:Nat):Reps K O H (a.take n) (ds.take n):=r.take n
theorem Ip{K:PySem.W.Frag}{O:Own}{H:Hp}{a:List V}{ds:List D}(r:Reps K O H a ds)(n:Nat):Reps K O H (a.drop n) (ds.drop n):=r.drop n
theorem UG{l:Gam}{S:Store}{o e:Expr}{es:List Expr}{name:Str}{id:String}{r:V->List V->Hp->VK->Prop}{i b:Pos}{W:WD}(slot:Slot "list" name id)(M:typeOf (.builtin id)=pure (.type "method_descriptor"))(hm:MtM X id r)(L:∀{x:V}{c:List V}{H:Hp}{Q U:VK},r x c H Q->(∀v H',Q v H'->U v H')->r x c H U)
 (h:Ev X l S o λ x S1=>∃k,x=.loc k/\EvA X l S1 (e::es) λ ds S2=>∃ds0,S2[k]? =some ds0/\∀(O:Own)(H:Hp)(a:Addr)(xs c:List V),O.A[k]? =some (a,false)->H a=some (.lst xs)->Reps X.K O H xs ds0->Reps X.K O H c ds->StOk X.K O H S2->r (.ref a) c H (QG X.K O H W))
 (n:attributeBase o name X.env (eval o X.env)=eval o X.env)
 (y:((backTo b (starEach (e::es) X.env)).all (λ x=>!x.1)&&(backToKw b (keywordEach [] X.env)).all (λ x=>x.1.isSome)
  &&decide ((e::es).length+([]:List Keyword).length+(if([]:List Keyword).isEmpty then 0 else 1)<30))=true)
 (p:(i.endLine==b.line)=true)(hs:starEach (e::es) X.env=(false,eval e X.env)::starEach es X.env)(g:(backTo b (starEach es X.env)).any (·.1)=false):Ev X l S (.Call (.Attribute o name i) (e::es) [] b) W:=by
 intro d s G H O I f R;have z:∀(t:Own)(x:D)(v:V)(m:Hp)(S1:Store),(∃k,x=.loc k)->StOk X.K t m S1->Rep X.K t m v x->tyV X.K "list" v m:=by
  rintro t x v m S1 ⟨k,rfl⟩ Y r
  cases r with
  | @loc a _ u=>
    have hl:k<S1.length:=by rw[←Y.len];exact(z0.mp u).1
    obtain⟨xs,N,_⟩:=Y.obj k a S1[k] u (y4 hl);exact .inl ⟨rfl,xs,SqL.of N⟩
 have hA:PA X (e::es) (λ G H Q=>∃O l S J,EnvOk X.K O H G l/\StOk X.K O H S/\EvA X l S (e::es) J/\∀c H',QA X.K O H J c H'->Q c H'):=by rintro P d s G H Q I ⟨O,l,S,J,f,R,K,k⟩;exact thn (K P d s G H O I f R) λ us s1 ⟨c,m,I1,r1,q⟩=>⟨c,m,I1,r1,k c m q⟩
 refine Oj (T:="list") PySem.F.plainAttrs_list slot M hm (h.pe) hA n y p hs g d s G H _ I ⟨O,f,R,λ v H' q=>?_⟩;obtain⟨t,x,S1,⟨k,rfl,K⟩,E,A,j⟩:=q;refine⟨z t _ v H' S1 ⟨k,rfl⟩ A j,t,l,S1,_,f.mono E,A,K,λ c Z q2=>?_⟩;obtain⟨O2,ds,S2,⟨ds0,hk,w⟩,F,B,C⟩:=q2;have r':=j.mono F;cases r' with| @loc a _ u=>obtain⟨xs,N,q1⟩:=B.obj k a ds0 u hk;exact L (w O2 Z a xs c u N q1 C B) λ v' H3 q3=>q3.pre (E.trans F)
theorem xX{x:V}{b:List V}{H:Hp}{Q a:VK}(h:tV x b H Q)(k:∀v H',Q v H'->a v H'):tV x b H a:=by obtain⟨l,m,i,y,c,d,e,f,g,j,q⟩:=h;exact⟨l,m,i,y,c,d,e,f,g,j,k _ _ q⟩
end
section
variable {Ω : Wd}
theorem Wu{e f:Expr}{env:Env}{a:Pos}(h:okE e=true)(h':okE f=true):((backTo a (starEach [e,f] env)).all (λ x=>!x.1)&&(backToKw a (keywordEach [] env)).all (λ x=>x.1.isSome)
 &&decide ([e,f].length+([]:List Keyword).length+(if([]:List Keyword).isEmpty then 0 else 1)<30))=true:=by rw[aB h [f] env,aB h' [] env];rfl
def X3(o a b:Ex Ω):Ex Ω where
 lev:=max o.lev (max a.lev b.lev)
 chk c N l e:=nD e λ x m p K q=>two2 K λ y z=>(m==("insert":Str))&&(nameE x&&((p.endLine==q.line)&&(okE y&&(okE z&&(o.chk c N l x&&(a.chk c N l y&&b.chk c N l z))))))
 wp n S W:=o.wp n S λ x G=>match x with | .loc k=>a.wp n G λ d I=>b.wp n I λ J s=>∃(i:Nat) (f:List D),d=.int i/\s[k]? =some f/\i≤f.length/\f.length<1000000/\W .non (s.set k (f.take i++J::f.drop i)) | _=>False
 sound := by
  intro X r c N l e n S W A Y j Z;obtain⟨l1,C⟩:=lv2 Y;obtain⟨C,l3⟩:=lv2 C;obtain⟨x,m,p,K,q,u,h⟩:=fc j;clear j;subst u;obtain⟨y,z,u,j⟩:=two2_of h;clear h;subst u
  . obtain⟨M,g⟩:=aa j;obtain⟨P,g⟩:=aa g;obtain⟨Q,g⟩:=aa g;obtain⟨v,g⟩:=aa g;obtain⟨B,g⟩:=aa g;obtain⟨R,g⟩:=aa g;obtain⟨T,U⟩:=aa g;have e:=ZI M;subst e;refine UG F.slot_list_insert F.type_list_insert Km xX ((o.sound A l1 R Z).mono λ x G q=>?_) ?_ (Wu v B) Q (aB v _ _) (by rw[aB B [] _];rfl)
    . cases x<;>first | exact q.elim | skip
      refine⟨_,rfl,cB ((a.sound A C T q).mono λ d I q=>cB ((b.sound A l3 U q).mono λ J s q=>gM ?_) (aB B _ _)) (aB v _ _)⟩;obtain⟨i,f,rfl,V,hi,hz,w⟩:=q;refine⟨f,V,λ O H a xs vs L hx E rv st=>?_⟩;cases rv with| cons r1 t=>cases t with| cons r2 t=>cases t;cases r1;refine⟨a,xs,_,_,rfl,rfl,hx,%[|0],%[|0],by rw[E.length];exact ZM hz %[|3],O,.non,_,w,Step.put (bU L) _,?_,.non⟩;rw[Int.toNat_natCast];exact st.put L ((Ie E i).append (.cons r2 (Ip E i)))
    {cases x<;>first | rfl | exact ff P}
end
section
variable {Ω : Wd}
def XX(o a:Ex Ω):Ex Ω where
 lev:=max o.lev a.lev
 chk b N l e:=nD e λ x m p u q=>dq u λ y=>Tw x&&((m==("append":Str))&&((p.endLine==q.line)&&(okE y&&(o.chk b N l x&&a.chk b N l y))))
 wp n S W:=o.wp n S λ x s=>match x with | .loc k=>a.wp n s λ d t=>∃j,t[k]? =some j/\j.length<1000000/\W .non (t.set k (j++[d])) | _=>False
 sound:=by intro X r b N l e n S W A D i E;obtain⟨G,H⟩:=lv2 D;obtain⟨x,m,p,u,q,c,f⟩:=fc i;clear i;subst c;obtain⟨y,c,h⟩:=bG f;clear f;subst c;obtain⟨F,i⟩:=aa h;clear h;obtain⟨I,J,K,c⟩:=Qm F;subst c;{obtain⟨v,g⟩:=aa i;obtain⟨w,g⟩:=aa g;obtain⟨z,g⟩:=aa g;obtain⟨B,C⟩:=aa g;have e:=ZI v;subst e;refine vo ((o.sound A G B E).mono λ x s q=>?_) rfl (aB z [] _) w;cases x<;>first | exact q.elim | exact⟨_,rfl,a.sound A H C q⟩}
end
end RF
namespace XE
open PySem PySem.Spec L2 DL RF
open PyProof.Rows
abbrev WX:=Str->%[|4]
variable {Ω : Wd}
end XE
set_option maxHeartbeats 400000
set_option maxHeartbeats 1000000
namespace XE
open PySem PySem.Spec L2 DL RF
open PyProof.Rows
variable {Ω : Wd}
end XE
namespace RF
open PySem PySem.Spec L2 DL
open PyProof.Rows
section
variable {Ω : Wd}
def unl(ns:%[|1]):Nat:=(firstMet (λ i=>ns.getD i 0) ns.length).length
theorem yf{X:Cx}{ns:%[|1]}{S:Store}{W:WD}{d:D}(C:X.calm=true)(m:ns.length+1<scanBound)(p:jg S d=some (ns.map .int))(w:W (.int (unl ns)) S)
 {pins:Pins}{s:Shared}{σ:DL.St}{H:Hp}{O:Own}{v:V}{u:Value}(I:%[|5])(st:StOk X.K O H S)(M:Rep X.K O H v d)(h:RelV v u):
 wpAny %[|6] X.A (call (.type "set") [u]) (λ u1 s1=>wpAny %[|6] X.A (call (.builtin "len") [u1]) (EP X pins σ (QG X.K O H W)) X.xe s1) X.xe s:=by
 obtain⟨a,Q,rfl,y,x⟩:=xr (pins:=pins) (s:=s) (σ:=σ) (X:=X) st M p;cases h;obtain⟨its,i,z,K⟩:=I.list y;have j:Q=ns.map V.int:=x.ints;have q:IntsAre its ns:=by
  rw[j]at i;clear z K y x j w m p
  induction ns generalizing its with
  | nil=>cases i;exact .nil
  | cons n ns L=>cases i with| cons N P=>obtain⟨t,rfl⟩:=N;constructor;exact L _ P
 have r:its.length=ns.length:=IntsAre.length q;refine call_set_list (items:=its.toArray) (ns:=ns) (I.ok.hd C) z.isList (by simpa using q) (by rw[x9,r];exact m) λ k tk l F=>?_;have B:its.toArray.size=ns.length:=by rw[x9,r]
 rw[B]at l;obtain⟨o,T,R,t,J,f,c,_,_,g,E,G⟩:=l;have A:Inv X pins σ H {s with heap:=k,toks:=tk}:=I.kept (t':=tk) λ b o e=>F b o (ZE e) e;refine call_len_set (s:={s with heap:=k,toks:=tk}) J f c E (by unfold scanBound at g;omega) ?_;rw[G];exact⟨.int _,H,A.tok _,⟨_,rfl⟩,Hh w st (.int _)⟩
def Ex.lset(hm:Ω.mg "len"=none)(hm2:Ω.mg "set"=none)(a:Ex Ω):Ex Ω where
 lev:=a.lev
 chk m N n e:=cO e λ y G=>dq G λ c=>cO c λ z F=>dq F λ b=>(y=="len")&&((z=="set")&&(glb n "len"&&(glb n "set"&&(okE b&&a.chk m N n b))))
 wp K S W:=a.wp K S λ d t=>∃o:%[|1],jg t d=some (o.map .int)/\o.length+1<scanBound/\W (.int (unl o)) t
 sound:=by intro X r m N n e K S W A hl f hw;obtain⟨y,p,G,D,rfl,g⟩:=bx f;obtain⟨c,rfl,h⟩:=bG g;obtain⟨z,p',F,k,rfl,i⟩:=bx h;obtain⟨b,rfl,f⟩:=bG i;obtain⟨U,f⟩:=aa f;obtain⟨V,f⟩:=aa f;obtain⟨Y,f⟩:=aa f;obtain⟨Z,f⟩:=aa f;obtain⟨J,h6⟩:=aa f;have R:=ZI U;have T:=ZI V;subst R T;intro j s σ H O I w st;refine wpAny_Call_Name_kw (cI I (A.glb Y) (by rw[A.g];exact hm) (show bootBuiltins "len"=some (.builtin "len")from by decide+kernel) ?_ %[|3] %[|3]);refine PyProof.Rows.callWith_builtin1 ?_ rfl rfl;show wpAny _ _ (spliced ((false,eval _ X.env)::backTo D (starEach [] X.env))) _ _ s;refine Calls.spliced_cons ?_;refine wpAny_Call_Name_kw (cI I (A.glb Z) (by rw[A.g];exact hm2) (show bootBuiltins "set"=some (.type "set")from by decide+kernel) ?_ %[|3] %[|3]);refine PyProof.Rows.callWith_type1 ?_ (aB J _ _) rfl;rw[aB J [] X.env];show wpAny _ _ (spliced ((false,eval b X.env)::backTo k (starEach [] X.env))) _ _ s;refine Calls.spliced_cons (thn (a.sound A hl h6 hw j s σ H O I w st) λ u s1 B=>?_);obtain⟨v,H1,L,r1,O1,x,t,hb,E,C,l⟩:=B;obtain⟨o,M,P,Q⟩:=hb;refine Calls.spliced_nil ?_;refine thn (yf A.calm P M Q L C l r1) λ u2 s2 q=>?_;refine Calls.spliced_nil ?_;exact thn q λ _ _ q=>eE E q
end
end RF
namespace XE
open PySem PySem.Spec L2 DL RF
open PyProof.Rows
variable {Ω : Wd}
end XE
namespace RF
open PySem PySem.Spec L2 DL
open PyProof.Rows
variable {Ω : Wd}
end RF
namespace RF
open PySem PySem.Spec L2 DL
open PyProof.Rows
variable {Ω : Wd}
theorem Ib(a b:Addr)(xs ys:Array Value):
 Meets (Builtin.«zip.__new__» ⟨[.type "zip",.ref a,.ref b],[]⟩) (λ _ R s=>s.heap.IsTuple a xs/\s.heap.IsList b ys/\
  R (.ok (.ret (.ref (zh s.heap "tuple_iterator" "list_iterator" a b).objs.size))) {s with heap:=zhz s.heap "tuple_iterator" "list_iterator" a b}):=
 .of_wp λ i w A R s h=>by obtain⟨c,g,d,j,f⟩:=s;obtain⟨k,l,h⟩:=h;have e:=sub_zip;have m:Heap.IsTuple (Shared.heap ⟨c,g,d,j,f⟩) a xs:=k;have n:Heap.IsList (Shared.heap ⟨c.push {cls:=.type "tuple_iterator",data:=.fields #[.ref a,.int 0 0]},g,d,j,f⟩) b ys:=Heap.IsList.push l _;wp_walk using wpAny_pyIter_tuple m,wpAny_pyIter_list n;exact⟨_,rfl,h⟩
theorem Ma{X:Cx}{n:Gam}{S:Store}{pos:Pos}{e c:Expr}{f:List Expr}{k:Nat}{tp p:Pos}{W:List D->%[|4]}(h:Ev X n S e λ d S1=>Ev X n S1 c λ d' S2=>∃ds es,d=.tup ds/\d'=.lst es/\W (List.zipWith (λ x y=>.tup [x,y]) ds es) S2)(R:X.mg "zip"=none)(Q:Gl X "zip")
 (L:starEach [e,c] X.env=(false,eval e X.env)::starEach [c] X.env)(g:starEach [c] X.env=[(false,eval c X.env)]):
 ItW X n S (.Tuple f k tp) (.Call (.Name "zip" p) [e,c] [] pos) W:=by
 intro j s σ H O I q st;have P:EvA X n S [e,c] λ J S2=>∃ds es,J=[.tup ds,.lst es]/\W (List.zipWith (λ x y=>.tup [x,y]) ds es) S2:=
  cB (h.mono λ d S1 m=>cB (m.mono λ d' S2 ⟨ds,es,a,b,w⟩=>gM ⟨ds,es,by rw[a,b],w⟩) g) L;refine Call_ (cI I Q R boot_zip (PyProof.Rows.callWith_type1 (thn (P pos j s σ H O I q st) λ us s1 r=>?_) L (by rw[g];rfl)));obtain⟨vs,H1,o,r1,M,J,S1,⟨ds,es,N,w⟩,G,z,C⟩:=r;subst N;cases C with| cons ra B=>cases B with| cons B rc=>cases rc;obtain⟨u,u2,rfl,ru,E⟩:=vals2 r1;cases ra with| @tup a xs _ m q1=>cases B with| @lst b ys _ K q2=>cases ru;cases E;obtain⟨t,rv,Z,hz⟩:=o.tuple m.sq;obtain⟨i,aa,A,T⟩:=o.list K.sq;obtain⟨z4,U,p2,p3,V,Y,kp⟩:=zip_parts s1.heap "tuple_iterator" "list_iterator" a b;refine callType_new F.called_zip %[|3] (F.typeCall_zip_2 _ _) (F.newCall_zip_2 _ _) (λ v=>F.args_object_init_3 v _ _) F.entry_zip_new (Ib a b t.toArray i.toArray) ⟨Z,A.isList,?_⟩;show _/\_;rw[z4];refine⟨⟨_,U,rfl⟩,Jp (Hg X.prog X.w X.K) (Ol X.prog X.w X.K) o ⟨_,V,rfl,rfl⟩ ⟨_,Y,rfl,rfl⟩ ⟨M,_,S1,w,G,z,rR _ _ λ O' H' l=>⟨xs,ys,(m.conv l).sq,q1.conv l,(K.conv l).sq,q2.conv l⟩⟩⟩
def Yc(hm:Ω.mg "zip"=none)(a b:Ex Ω):Itb Ω where
 lev:=max a.lev b.lev
 chk c N k w e:=sZ w&&cO e λ y g=>two2 g λ l r=>(y==("zip":Str))&&(glb k "zip"&&((okE l&&okE r)&&(a.chk c N k l&&b.chk c N k r)))
 wp t S W:=a.wp t S λ d u=>b.wp t u λ m v=>match d,m with | .tup ds,.lst g=>W (List.zipWith (λ x y=>.tup [x,y]) ds g) v | _,_=>False
 sound:=by intro X r c N k w e t S W A G j I;obtain⟨J,K⟩:=lv2 G;obtain⟨H,h⟩:=aa j;clear j;obtain⟨g,n,O,f⟩:=jE H;subst f;obtain⟨y,p,g,L,f,i⟩:=bx h;clear h;subst f;obtain⟨l,M,f,j⟩:=two2_of i;clear i;subst f;{obtain⟨z,o⟩:=aa j;obtain⟨o,s⟩:=aa o;obtain⟨s,B⟩:=aa s;obtain⟨C,D⟩:=aa s;obtain⟨E,F⟩:=aa B;have e:=ZI z;subst e;refine Ma ((a.sound A J E I).mono λ d u q=>(b.sound A K F q).mono λ m v q=>?_) (by rw[A.g];exact hm) (A.glb o) (aB C _ _) (aB D [] _);cases d<;>first | exact q.elim | (cases m<;>first | exact⟨_,_,rfl,rfl,q⟩ | exact q.elim)}
end RF
namespace RF
open PySem PySem.Spec L2 DL
open PyProof.Rows
variable {Ω : Wd}
end RF
namespace RF
open PySem PySem.Spec L2 DL
open PyProof.Rows
variable {Ω : Wd}
end RF
namespace RF
open PySem PySem.Spec L2 DL
open PyProof.Rows
def aD{α:Type}[DecidableEq α](kvs:List (α×D))(ns:α):Option D:=(kvs.find? λ kv=>decide (kv.1=ns)).map (·.2)
def putD{α:Type}[DecidableEq α](kvs:List (α×D))(ns:α)(d:D):List (α×D):=if(kvs.any λ kv=>decide (kv.1=ns))=true then kvs.map λ kv=>if kv.1=ns then(kv.1,d)else kv else kvs++[(ns,d)]
theorem pA:∀{a b:%[|1]},a.map D.int=b.map D.int->a=b
 | [],[],_=>rfl
 | [],_::_,h=>by cases h
 | _::_,[],h=>by cases h
 | x::a,y::b,h=>by have h:=List.cons.inj h;rw[D.int.inj h.1,pA h.2]
theorem _root_.DL.DOb.typ{X:Cx}{pins:Pins}{σ:DL.St}{H:Hp}{s:Shared}{O:Own}{a:Addr}{ds:List D}(b:DOb X.K O H a ds)(k:Abv X.K a)(I:%[|5]):
 s.TypeIs (.ref a) "dict"/\(∀b,Value.ref a=.ref b->∃ob,s.heap.get? b=some ob/\ob.dict=none)/\(a==sysModules)=false:=by
 cases b with
 | t h e r=>exact Rw I (.inr ⟨h,.inl e⟩)
 | c g n e r=>obtain⟨⟨_,f,_,o,i,j,d,h4,_⟩,_,_⟩:=(show az X.prog X.w H s.heap a (.ext (Mz a g))from I.hok a _ e);refine⟨⟨o,d,h4.1⟩,λ b q=>?_,f⟩;cases q;exact⟨o,d,h4.2.1⟩
 | o g n e r=>obtain⟨⟨_,f,_,o,i,j,d,h4,_⟩,_,_⟩:=(show az X.prog X.w H s.heap a (.ext (Nf a g))from I.hok a _ e);refine⟨⟨o,d,h4.1⟩,λ b q=>?_,f⟩;cases q;exact⟨o,d,h4.2.1⟩
 | m g l f e r=>obtain⟨⟨_,f,_,o,i,d,h4,_⟩,_,_⟩:=(show az X.prog X.w H s.heap a (.ext (aM a g))from I.hok a _ e);refine⟨⟨o,d,h4.1⟩,λ b q=>?_,f⟩;cases q;exact⟨o,d,h4.2.1⟩
 | p _ n=>exact absurd k n
abbrev Kc:=List ((Int×%[|1])×D)
def encC(kv:(Int×%[|1])×D):D:=.tup [cD kv.1,kv.2]
theorem Ro{c d:Int×%[|1]}(h:cD c=cD d):c=d:=by unfold cD at h;have h:=D.tup.inj h;have a:=D.int.inj (List.cons.inj h).1;have b:=D.tup.inj (List.cons.inj (List.cons.inj h).2).1;exact Prod.ext a (pA b)
theorem zG{h:Heap}{v:Value}{c d:Int×%[|1]}(x:bh h v c)(y:bh h v d):c=d:=by obtain⟨b,o,k,s,u,rfl,p,z,n,q⟩:=x;obtain⟨w,r,A,j,t,e,g,m,f,i⟩:=y;cases e;obtain rfl:o=r:=Option.some.inj (p.symm.trans g);have a:=n.symm.trans f;injection a with a _;have l:[Value.int c.1 s,u]=[Value.int d.1 j,t]:=congrArg Array.toList a;injection l with e3 e4;injection e3 with e3 _;injection e4 with e4 _;subst e4;exact Prod.ext e3 (xU q i)
theorem Gh{h h':Heap}{v:Value}{c:Int×%[|1]}{d:Addr}{o:Obj}{es ep}(x:bh h v c)(z:h.get? d=some o)(y:o.data=.dict es ep)(hs:Heap.SameBut d h h'):bh h' v c:=by
 obtain⟨b,a,n,C,u,m,p,q,f,l,B,e,A,r,s,t,g,w⟩:=x;have k:∀(b:Addr)(a:Obj)(e:Array Value)(n:Nat),h.get? b=some a->a.data=.seq e n->h'.get? b=some a:=λ b a e n i j=>by refine(hs.2 b ?_).trans i;rintro rfl;obtain rfl:a=o:=Option.some.inj (i.symm.trans z);rw[y]at j;exact nomatch j
 exact⟨b,a,n,C,u,m,k _ _ _ _ p f,q,f,l,B,e,A,r,k _ _ _ _ s g,t,g,w⟩
def aV(prog:Program)(w:World):HeapKind prog w (Int×%[|1]) where
 is h c a:=bh h (.ref a) c
 hash:=hC0
 draws c:=c.2.length+3
 room A:=A.units+5<cLine
 inj d e:=zG d e
 keeps x ho hd hs:=Gh x ho hd hs
 pyHash f hk h:=vf f hk h
 eqBool:=λ{A E s x y a b Q} f d e h=>zE %[|0] d e prog w E Q h
 quiet hk h:=mC (n:=6) hk h
section
variable {K : PySem.W.Frag} {O : Own} {H : Hp}
theorem _root_.DL.Kcs.inv{ys:Cy}{kv:(Int×%[|1])×D}{kcs:Kc}(r:Kcs K O H ys ((kv::kcs).map encC)):∃b u v ys',ys=(kv.1,b,u)::ys'/\Rep K O H (.ref b) (cD kv.1)/\RelV v u/\Rep K O H v kv.2/\Kcs K O H ys' (kcs.map encC):=by have r:Kcs K O H ys (.tup [cD kv.1,kv.2]::kcs.map encC):=r;generalize hx:cD kv.1=x at r;cases r with| @cons c b u v _ _ ys' _ e f g a t=>subst hx;have e:=Ro (d:=c) e;subst e;exact⟨b,u,v,ys',rfl,f,g,a,t⟩
theorem _root_.DL.Kcs.length{ys:Cy}{kcs:Kc}(r:Kcs K O H ys (kcs.map encC)):ys.length=kcs.length:=by
 induction kcs generalizing ys with
 | nil=>cases r;rfl
 | cons d kcs a=>obtain⟨b,u,v,c,rfl,_,_,_,t⟩:=r.inv;rw[List.length_cons,List.length_cons,a t]
theorem _root_.DL.Kcs.look{ys:Cy}{kcs:Kc}(r:Kcs K O H ys (kcs.map encC))(c:Int×%[|1]):(aD kcs c=none/\atKey ys c=none)∨∃d b u v,aD kcs c=some d/\atKey ys c=some (b,u)/\RelV v u/\Rep K O H v d:=by
 induction kcs generalizing ys with
 | nil=>cases r;exact .inl ⟨rfl,rfl⟩
 | cons kv kcs h=>
   obtain⟨b,u,v,a,rfl,k,j,i,t⟩:=r.inv;by_cases e:kv.1=c;{exact .inr ⟨kv.2,b,u,v,by simp[aD,e],by simp[atKey,e],j,i⟩}
   . have f:aD (kv::kcs) c=aD kcs c:=by simp[aD,List.find?_cons,e]
     have g:atKey ((kv.1,b,u)::a) c=atKey a c:=by simp[atKey,List.find?_cons,e]
     rw[f,g];exact h t
theorem Mt{b:Type}[DecidableEq b](kcs:List (b×D))(c:b):(kcs.any λ kv=>decide (kv.1=c))=(aD kcs c).isSome:=by
 induction kcs with
 | nil=>rfl
 | cons a l d=>unfold aD at d ⊢;rw[List.any_cons,List.find?_cons,d];cases decide (a.1=c)<;>rfl
theorem _root_.DL.Kcs.put{ys:Cy}{kcs:Kc}(r:Kcs K O H ys (kcs.map encC)){c:Int×%[|1]}{b:Addr}{u:Value}{v:V}{d:D}(q:Rep K O H (.ref b) (cD c))(p:RelV v u)(o:Rep K O H v d):Kcs K O H (storedH ys c b u) ((putD kcs c d).map encC):=by
 have e:(kcs.any λ kv=>decide (kv.1=c))=(atKey ys c).isSome:=by rw[Mt];rcases r.look c with⟨h,n⟩ | ⟨d,b,u,v,h,n,_⟩<;>rw[h,n]<;>rfl
 unfold putD storedH;rw[e];split
 . rename_i l;clear e l
   induction kcs generalizing ys with
   | nil=>cases r;exact .nil
   | cons kv kcs j=>
     obtain⟨i,k,s,m,rfl,a,g,f,t⟩:=r.inv;rw[List.map_cons,List.map_cons,List.map_cons];by_cases e:kv.1=c
     . have h:putAt c u (kv.1,i,k)=(kv.1,i,u):=by unfold putAt;rw[if_pos e]
       rw[h,if_pos e];exact .cons rfl a p o (j t)
     . have h:putAt c u (kv.1,i,k)=(kv.1,i,k):=by unfold putAt;rw[if_neg e]
       rw[h,if_neg e];exact .cons rfl a g f (j t)
 . rename_i l;clear e l
   induction kcs generalizing ys with
   | nil=>cases r;exact .cons rfl q p o .nil
   | cons kv kcs j=>obtain⟨i,k,s,m,rfl,a,g,f,t⟩:=r.inv;exact .cons rfl a g f (j t)
theorem Q3{X:Cx}{pins:Pins}{σ:DL.St}{s:Shared}(I:%[|5]){ys:Cy}{kcs:Kc}(r:Kcs X.K O H ys (kcs.map encC)):∀x∈ys,bh s.heap (.ref x.2.1) x.1:=by
 induction kcs generalizing ys with
 | nil=>cases r;intro x a;cases a
 | cons f kcs c=>obtain⟨b,u,v,e,rfl,d,h,g,t⟩:=r.inv;intro x a;rcases ZJ.mp a with rfl | a;{exact jy I d rfl};{exact c t x a}
theorem nW{v:V}{ds:List D}(r:Rep K O H v (.tup ds)):∃b,v=.ref b:=by cases r;exact⟨_,rfl⟩
theorem Hq(ys:Cy)(c:Int×%[|1])(b:Addr)(u:Value):(storedH ys c b u).length≤ys.length+1:=by unfold storedH;split<;>simp
end
theorem fV:∀{a:List Value}{ns:%[|1]},IntsAre a ns->Vals (ns.map V.int) a
 | _,_,.nil=>.nil
 | _,_,.cons n t r=>.cons ⟨t,rfl⟩ (fV r)
theorem Fx:∀(l:List Value)(ns:%[|1]),l.length=ns.length->(∀(j:Nat)(v:Value),l[j]? =some v->∃(n:Int) (t:Tok),ns[j]? =some n/\v=Value.int n t)->IntsAre l ns
 | [],[],_,_=>.nil
 | [],_::_,h,_=>nomatch h
 | _::_,[],h,_=>nomatch h
 | v::l,n::ns,h,k=>by obtain⟨m,t,e,rfl⟩:=k 0 v rfl;cases e;exact .cons n t (Fx l ns (Nat.succ.inj h) λ j v e=>k (j+1) v e)
def upI(n:Nat):%[|1]:=(List.range n).map λ(i:Nat)=>(0:Int)+(i:Int)
theorem Vp(n:Nat):DL.upTo 0 n=(upI n).map D.int:=by unfold DL.upTo upI;rw[List.map_map];rfl
theorem vN(j:Int)(h:0≤j):Builtin.Range.rangeSize 0 j 1=(j.toNat:Nat):=by rw[rangeSize_one];split<;>omega
theorem Hk{j:Int}(h:0≤j)(h':j<1000000):Builtin.Range.small 0 j 1=true:=by
 unfold Builtin.Range.small;rw[vN j h];by_cases a:j≤0
 . have:j=0:=%[|0]
   subst this;rfl
 {simp only[Builtin.Range.rangeFitsLong,Bool.and_eq_true,Bool.or_eq_true,decide_eq_true_eq,beq_iff_eq,a,if_false,show((1:Int)>0)from %[|3],if_true];omega}
section
variable {X : Cx} {Γ : Gam} {S : Store} {W : WD} {pos : Pos}
theorem QB{a:Expr}{p p2 f:Pos}(A:X.calm=true)(h:Ev X Γ S a λ d S1=>∃j:Int,d=.int j/\0≤j/\j<1000000/\(W (.lst (DL.upTo 0 j.toNat)) S1∨W (.loc S1.length) (S1++[DL.upTo 0 j.toNat])))(hm:X.mg "range"=none)(C:X.mg "list"=none)(hg:Gl X "range")(B:Gl X "list")(M:starEach [a] X.env=[(false,eval a X.env)])
 (l:starEach [.Call (.Name "range" p) [a] [] pos] X.env=[(false,eval (.Call (.Name "range" p) [a] [] pos) X.env)]):Ev X Γ S (.Call (.Name "list" p2) [.Call (.Name "range" p) [a] [] pos] [] f) W:=by
 intro c s P H O I y st;refine Call_ (cI I B C (show bootBuiltins "list"=some (.type "list")from by decide+kernel) (PyProof.Rows.callWith_type1 ?_ l rfl));rw[show backTo f (starEach [.Call (.Name "range" p) [a] [] pos] X.env)=[(false,eval (.Call (.Name "range" p) [a] [] pos) X.env)]from by rw[l];rfl];refine Calls.spliced_cons ?_;have Y:EvA X Γ S [a] λ J S1=>∃j:Int,J=[.int j]/\0≤j/\j<1000000/\(W (.lst (DL.upTo 0 j.toNat)) S1∨W (.loc S1.length) (S1++[DL.upTo 0 j.toNat])):=
  cB (h.mono λ d S1 ⟨j,e,u,z,w⟩=>gM ⟨j,by rw[e],u,z,w⟩) M;refine Call_ (cI I hg hm boot_range (PyProof.Rows.callWith_type1 (thn (Y pos c s P H O I y st) λ us n D=>?_) M rfl));obtain⟨vs,G,Q,r1,q1⟩:=D;obtain⟨T,J,S1,⟨j,rfl,u,z,w⟩,F,m,E⟩:=q1
 cases E with
 | cons ra rb=>
   cases rb;cases ra
   cases r1 with
   | cons r rr=>
     cases rr;obtain⟨t,rfl⟩:=r;refine call_range_1 (Calls.spliced_nil ?_);have x:Inv X c P G {n with heap:=n.heap.push {cls:=.type "range",data:=.fields #[.int 0 n.toks,.int j t,.int 1 (n.toks+1)]},toks:=n.toks+1+1}:=Q.kept λ b o e=>ZC _ e;refine call_list_range (x.ok.hd A) (IsRange.new ..) (Hk u z) (vN j u) %[|0] λ h' tk g U kp k its=>?_;have L:=x.hok.fresh (x6 _);have Z:IntsAre g.toList (upI j.toNat):=Fx _ _ (by have:=its.1;simp[upI];exact this) λ i v e=>by
      have K:g[i]? =some v:=by simpa using e
      obtain⟨t,rfl⟩:=its.2 i v K;have hi:i<j.toNat:=by rw[←its.1];exact(Array.getElem?_eq_some_iff.mp K).1
      exact⟨_,t,by unfold upI;rw[x5,List.getElem?_range hi];rfl,by rw[Int.mul_one]⟩
     have zl:((upI j.toNat).map V.int).length≤sizeLine:=by simp[upI,sizeLine_eq];omega
     have R:=x.laid (t':=tk) (o:=.lst ((upI j.toNat).map V.int)) (λ b ob q=>kp b ob q) (x6 _) ⟨zl,g.toList,U,fV Z,by simpa using k⟩;have N:Reps X.K T G ((upI j.toNat).map V.int) (DL.upTo 0 j.toNat):=by rw[Vp];exact Xx _
     refine eE F ⟨.ref _,_,R,rfl,?_⟩;rcases w with w | w;{exact fU w m L N};{exact yt w m L N}
end
section
variable {Ω : Wd}
def Yh(hm:Ω.mg "range"=none)(hm2:Ω.mg "list"=none)(a:Ex Ω):Ex Ω where
 lev:=a.lev
 chk l N o e:=cO e λ z v=>(z==("list":Str))&&dq v λ u=>cO u λ y f=>(y==("range":Str))&&dq f λ b=>(glb o "list"&&(glb o "range"&&(okE b&&a.chk l N o b)))
 wp x S W:=a.wp x S λ d m=>match d with | .int j=>(0≤j/\j<1000000)/\(W (.lst (DL.upTo 0 j.toNat)) m∨W (.loc m.length) (m++[DL.upTo 0 j.toNat])) | _=>False
 sound:=by intro X r l N o e x S W A I n J;obtain⟨z,L,v,K,c,g⟩:=bx n;clear n;subst c;obtain⟨D,h⟩:=aa g;clear g;obtain⟨u,c,i⟩:=bG h;clear h;subst c;obtain⟨y,p,f,w,c,k⟩:=bx i;clear i;subst c;obtain⟨E,n⟩:=aa k;clear k;obtain⟨b,c,s⟩:=bG n;subst c;obtain⟨t,s⟩:=aa s;obtain⟨F,C⟩:=aa s;obtain⟨G,H⟩:=aa C;have e:=ZI D;subst e;have B:=ZI E;subst B;refine QB A.calm ((a.sound A I H J).mono λ d m q=>?_) (by rw[A.g];exact hm) (by rw[A.g];exact hm2) (A.glb F) (A.glb t) (aB G [] _) rfl;cases d<;>first | exact⟨_,rfl,q.1.1,q.1.2,q.2⟩ | exact q.elim
end
def lq:Bool->Nat->D
 | true,k=>.dlo k
 | false,k=>.loc k
def OwQ(n:Nat)(W:WD):WD:=λ d b=>W d b∨∃(q:Bool) (J:List (List D)) (a:Store) (k:Nat) (c:List D),d=lq q k/\b=a++J/\n≤a.length/\a.length≤k/\b[k]? =some c/\aj c=true/\flat a/\W (lq q a.length) (a++[c])
theorem QG.owq{K:PySem.W.Frag}{O:Own}{H S:Hp}{W:WD}{v:V}{n:Nat}(hn:O.A.length=n)(q:QG K O H (OwQ n W) v S):QG K O H W v S:=by
 obtain⟨f,d,Y,w,R,o,r⟩:=q;rcases w with w | ⟨q,J,c,k,E,rfl,rfl,hl,hk,U,T,L,w⟩;{exact⟨f,d,Y,w,R,o,r⟩}
 . obtain⟨a,rfl,u,hq⟩:∃a,v=.ref a/\f.A[k]? =some (a,q)/\(q=true->Abv K a):=by cases q;{cases r;exact⟨_,rfl,by assumption,λ z=>nomatch z⟩};{cases r;exact⟨_,rfl,by assumption,λ _=>by assumption⟩}
   . obtain⟨s,_,_,na⟩:=dJ R o %[|0] L;have M:=na k a %[|0] u;have X:(f.A.take c.length).length=c.length:=by have:=o.len;simp at this ⊢;omega
     have t:∀b,¬f.has b->¬(⟨f.A.take c.length++[(a,q)],f.B⟩:Own).has b:=λ b i z=>i (z.imp (λ z=>by rw[bR]at z;rcases ZK.mp z with z | z;{exact ir z};{rw[show b=a from by simpa using z];exact bU u}) id);have B:∀(j:Nat),j<c.length->(f.A.take c.length++[(a,q)])[j]? =f.A[j]?:=λ j A=>by rw[List.getElem?_append_left %[|0],List.getElem?_take,if_pos A]
     have m:(f.A.take c.length++[(a,q)])[c.length]? =some (a,q):=by rw[List.getElem?_append_right %[|0],X];simp
     have C:∀(j:Nat)(l:List D),(c++[E])[j]? =some l->(j<c.length/\c[j]? =some l)∨(j=c.length/\l=E):=λ j l e=>by rcases Nat.lt_trichotomy j c.length with h | h | h;{rw[List.getElem?_append_left h]at e;exact .inl ⟨h,e⟩};{subst h;rw[List.getElem?_append_right (x6 _)]at e;simp at e;exact .inr ⟨rfl,e.symm⟩};{rw[List.getElem?_eq_none (by simp;omega)]at e;cases e}
     refine⟨⟨f.A.take c.length++[(a,q)],f.B⟩,lq q c.length,c++[E],w,⟨s.kept,s.dom,?_,s.hid⟩,⟨?_,by simp[X],λ j b l g p=>?_,λ j b l g p=>?_,λ b i=>?_,o.hidden⟩,by cases q with | false=>exact .loc m | true=>exact .dlo m (hq rfl)⟩;{obtain⟨N,F,Z⟩:=s.ext;obtain⟨N',G,I⟩:=R.ext;have F:f.A.take c.length=O.A++N:=F;refine⟨N++[(a,q)],by show f.A.take c.length++[(a,q)]=_;rw[F,List.append_assoc],λ b i=>?_⟩;rw[bR]at i;rcases ZK.mp i with i | i;{exact Z b i};{rw[show b=a from by simpa using i];rw[G,List.getElem?_append_right %[|0]]at u;exact I a (bU u)}};{show(adr (f.A.take c.length++[(a,q)])).Nodup;rw[bR,List.nodup_append];refine⟨?_,by simp[adr],λ x P y Q=>?_⟩;{show(List.map _ (List.take _ _)).Nodup;rw[List.map_take];exact o.nd.sublist (List.take_sublist _ _)};{rw[show y=a from by simpa using Q];exact λ z=>M (.inl (z▸P))}};{rcases C j l p with⟨A,p⟩ | ⟨rfl,rfl⟩;{have g:(f.A.take c.length++[(a,q)])[j]? =some (b,false):=g;rw[B j A]at g;obtain⟨ys,Q,r'⟩:=o.obj j b l g (by rw[List.getElem?_append_left A];exact p);exact⟨ys,Q,dX t (L l (y8 p)) r'⟩};{have g:(f.A.take c.length++[(a,q)])[c.length]? =some (b,false):=g;rw[m]at g;cases g;obtain⟨xs,P,q1⟩:=o.obj k a l u U;exact⟨xs,P,dX t T q1⟩}};{rcases C j l p with⟨A,p⟩ | ⟨rfl,rfl⟩;{have g:(f.A.take c.length++[(a,q)])[j]? =some (b,true):=g;rw[B j A]at g;exact qi t (L l (y8 p)) (o.dob j b l g (by rw[List.getElem?_append_left A];exact p))};{have g:(f.A.take c.length++[(a,q)])[c.length]? =some (b,true):=g;rw[m]at g;cases g;exact qi t T (o.dob k a l u U)}};{have i:b∈adr (f.A.take c.length++[(a,q)]):=i;rw[bR]at i;rcases ZK.mp i with i | i;{exact o.apart b (ir i)};{rw[show b=a from by simpa using i];exact o.apart a (bU u)}}
section
variable {Ω : Wd}
def Bl.owq(b:Bl Ω):Bl Ω where
 lev:=b.lev
 chk:=b.chk
 wp g S W:=b.wp g S {W with rt:=OwQ S.length W.rt}
 sound:=by
  intro X r n N p m g S W A k j l a s o H O I c e;refine thn (b.sound A k j l a s o H O I c e) λ f t q=>?_
  cases f with
  | next=>exact q
  | brk=>exact q
  | cont=>exact q
  | ret u=>obtain⟨v,d,h,i,r,q⟩:=q;exact⟨v,d,h,i,r,QG.owq e.len q⟩
end
mutual
inductive Rsv(n:Nat)(S:Store):D->D->Prop
 | ok{d:D}(h:ak d=true):Rsv n S d d
 | loc{k:Nat}{xs rs:List D}(h:n≤k)(g:S[k]? =some xs)(r:Rsvs n S xs rs):Rsv n S (.loc k) (.lst rs)
 | lst{xs rs:List D}(r:Rsvs n S xs rs):Rsv n S (.lst xs) (.lst rs)
 | tup{xs rs:List D}(r:Rsvs n S xs rs):Rsv n S (.tup xs) (.tup rs)
inductive Rsvs(n:Nat)(S:Store):List D->List D->Prop
 | nil:Rsvs n S [] []
 | cons{x r:D}{xs rs:List D}(h:Rsv n S x r)(t:Rsvs n S xs rs):Rsvs n S (x::xs) (r::rs)
end
theorem QH{K:PySem.W.Frag}{O c:Own}{H:Hp}{S:Store}{n:Nat}(sub:∀b,¬O.has b->¬c.has b)(o:∀j a,n≤j->O.A[j]? =some (a,false)->¬c.has a)(ok:StOk K O H S){v:V}{d r:D}(h:Rsv n S d r)(q:Rep K O H v d):Rep K c H v r:=by refine Rsv.rec (motive_1:=λ d r _=>∀v:V,Rep K O H v d->Rep K c H v r) (motive_2:=λ l s _=>∀f:List V,Reps K O H f l->Reps K c H f s) ?_ ?_ ?_ ?_ ?_ ?_ h v q;{exact λ h v q=>cu sub h q};{intro _ _ _ h g r e v q;cases q with| loc k=>obtain⟨u,m,p⟩:=ok.obj _ _ _ k g;exact .lst (.inl ⟨o _ _ h k,.inl m⟩) (e _ p)};{intro _ _ r e v q;cases q with| lst h q=>exact .lst (h.imp (λ q=>⟨sub _ q.1,q.2⟩) id) (e _ q)};{intro _ _ r e v q;cases q with| tup h q=>exact .tup ⟨sub _ h.1,h.2⟩ (e _ q)};{intro f q;cases q;exact .nil};{intro _ _ _ _ h t i j f q;cases q with| cons a b=>exact .cons (i _ a) (j _ b)}
def FrG(n:Nat)(W:WD):WD:=λ d b=>W d b∨∃(r:D) (G a:Store),b=a++G/\n≤a.length/\flat a/\Rsv a.length b d r/\W r a
theorem QG.frg{K:PySem.W.Frag}{O:Own}{H k:Hp}{W:WD}{v:V}{n:Nat}(y:O.A.length=n)(q:QG K O H (FrG n W) v k):QG K O H W v k:=by obtain⟨m,d,p,w,l,b,r⟩:=q;rcases w with w | ⟨e,G,o,rfl,x,s,t,w⟩;{exact⟨m,d,p,w,l,b,r⟩};{obtain⟨f,c,i,u⟩:=dJ l b %[|0] s;exact⟨_,e,o,w,f,c,QH i (λ j a h g=>u j a h g) b t r⟩}
section
variable {Ω : Wd}
def Bl.frg(b:Bl Ω):Bl Ω where
 lev:=b.lev
 chk:=b.chk
 wp g S W:=b.wp g S {W with rt:=FrG S.length W.rt}
 sound:=by
  intro X r n N p m g S W A k j l a s o H O I c e;refine thn (b.sound A k j l a s o H O I c e) λ f t q=>?_
  cases f with
  | next=>exact q
  | brk=>exact q
  | cont=>exact q
  | ret u=>obtain⟨v,d,h,i,r,q⟩:=q;exact⟨v,d,h,i,r,QG.frg e.len q⟩
end
end RF
namespace RF
open PySem PySem.W PyProof.Rows
section
variable {N : Nat} {lt : Nat -> Nat -> Bool}
structure LtOk(N:Nat)(lt:Nat->Nat->Bool):Prop where
 tot:∀i j,i<N->j<N->i≠j->lt i j=false->lt j i=true
 tr:∀i j k,i<N->j<N->k<N->lt i j=true->lt j k=true->lt i k=true
end
end RF
namespace XE
open PySem PySem.Spec L2 DL RF
open PyProof.Rows
variable {Ω : Wd}
end XE
set_option maxHeartbeats 4000000
namespace XE
open PySem PySem.Spec L2 DL RF
open PyProof.Rows
variable {Ω : Wd}
end XE
namespace RF
open PySem PySem.Spec L2 DL
open PyProof.Rows
section
variable {P : Program} {w : World} {A : Around} {E : Value -> Shared -> Prop} {s : Shared} {d a : Addr} {ys : Cy} {c : Int × %[|1]}
def eV(P:Program)(w:World)(h:Heap)(d:Addr)(ys:Cy):Prop:=∃o a,h.get? d=some o/\o.ExactDict/\o.data=.dict a ys.length/\a.toList=ys.map (entryOfKey (aV P w))/\(∀x∈ys,bh h (.ref x.2.1) x.1)/\(ys.map (·.1)).Nodup
theorem eV.of{h:Heap}(x:eV P w h d ys):h.DictOfH (aV P w) d ys:=by obtain⟨o,a,b,c,e,f,g,i⟩:=x;exact⟨o,a,_,b,c,e,f,g,i⟩
theorem FQ{v:Value}{Q:Unit->%[|8]}(K:A.units+5<cLine)(q:bh s.heap (.ref a) c)(J:eV P w s.heap d ys)(hz:ys.length≤sizeLine)
 (t:∀h' tk,eV P w h' d (storedH ys c a v)->Heap.SameBut d s.heap h'->Q () {s with heap:=h',toks:=tk}):wpAny (model P w) A (dictSet d (.ref a) v) Q E s:=by
 obtain⟨o,H,h,C,f,r,I,n⟩:=J;have room:(aV P w).room A:=K;have k:(aV P w).is s.heap c a:=q;have i:∀x∈ys,(aV P w).is s.heap x.1 x.2.1:=I;unfold dictSet;try with_reducible refine ZQ ?_
 refine ZA ((aV P w).pyHash room k ?_);unfold dictSetHashed;try with_reducible refine ZQ ?_
 refine ZA (wpAny_dictFind_heap (knd:=aV P w) (s:={s with toks:=s.toks+(aV P w).draws c}) room k h f r i n (λ b=>?_) λ j p m=>?_)
 . have G:=atKey_none_of_get b;have B:storedH ys c a v=ys++[(c,a,v)]:=storedH_new G a v;have F:c∉ys.map (·.1):=not_mem_keys_of_get b;rw[B]at t;have z:(ys++[(c,a,v)]).length=ys.length+1:=by simp
   refine ZA (wpAny_rule (wpAny_updateDictKeys (hz:=by have e:=size_of_entries r;omega) (s:={s with toks:=s.toks+(aV P w).draws c}) h f (t _ _ ⟨_,_,Heap.get?_update_self _ h (Obj.isFreed_of_dict (Obj.data_mapDictKeys f _)),C.mapDictKeys _,by rw[z];exact Obj.data_mapDictKeys f _,?_,λ x g=>?_,?_⟩ (Heap.SameBut.update ..))));{simp[r,entryOfKey]};{rcases ZK.mp g with g | g;{exact(aV P w).keeps (i x g) h f (Heap.SameBut.update ..)};{rw[ZL.mp g];exact(aV P w).keeps k h f (Heap.SameBut.update ..)}};{rw[List.map_append,List.nodup_append];refine⟨n,by simp,λ x g y u e=>?_⟩;rw[List.map_cons,List.map_nil,List.mem_singleton]at u;rw[e,u]at g;exact F g}
 . have D:=atKey_of_get n m;have B:storedH ys c a v=ys.map (putAt c v):=storedH_old D a v;rw[B]at t;have z:(ys.map (putAt c v)).length=ys.length:=by simp
   refine ZA (wpAny_rule (ZA (wpAny_updateDict (s:={s with toks:=s.toks+(aV P w).draws c}) h f (wpAny_point (t _ _ ⟨_,_,Heap.get?_update_self _ h (Obj.isFreed_of_dict (Obj.data_mapDict f _)),C.mapDict _,by rw[z];exact Obj.data_mapDict f _,?_,λ x g=>?_,?_⟩ (Heap.SameBut.update ..))))));{have:=modify_map_putAt (entryOfKey (aV P w)) (λ e:DictEntry=>{e with val:=v}) c v (λ _ _=>rfl) n m;rw[←r]at this;obtain⟨l⟩:=H;simpa using this};{obtain⟨y,u,rfl⟩:=ZO.mp g;unfold putAt;split<;>exact(aV P w).keeps (i y u) h f (Heap.SameBut.update ..)};{rw[keys_map_putAt];exact n}
theorem PP{v:Value}{Q:Unit->%[|8]}(g:A.in1.units+5<cLine)(b:bh s.heap (.ref a) c)(e:eV P w s.heap d ys)(hz:ys.length≤sizeLine)
 (f:∀h' tk,eV P w h' d (storedH ys c a v)->Heap.SameBut d s.heap h'->Q () {s with heap:=h',toks:=tk}):wpAny (model P w) A (setItem (.ref d) (.ref a) v) Q E s:=by
 have T:=e.of.typeIs;unfold setItem;try with_reducible refine ZQ ?_
 refine ZA (wpAny_sequenceKey T %[|3] (ZA (wpAny_callSpecial?_slot (name:=Str.ofString "__setitem__") T slot_dict_setitem (ZP slot_dict_setitem T entry_dict_setitem ?_ (args_dict_setitem _ _ _)))));show wpAny _ _ (Builtin.Dict.notOrdered "__setitem__" ⟨[.ref d,.ref a,v],[]⟩>>=_) _ _ s;refine ZA (wpAny_notOrdered_dict T ?_);show wpAny _ _ (dictSet d (.ref a) v>>=_) _ _ s;exact ZA (FQ g b e hz λ h' tk x y=>ZB ⟨.none,rfl,ZB (f h' tk x y)⟩)
variable {it : Addr} {i ep : Nat} {ok ov : Value} {es : Array DictEntry} {od : Obj} {e : DictEntry}
theorem PN{Q:Option Value->%[|8]}(q:s.heap.get? d=some od)(p:od.data=.dict es ep)(c:IsItemIter s.heap it d i es.size ep ok ov)(J:es[i]? =some e)
 (M:∀h',IsItemIterOut h' it d (i+1) es.size ep e.key e.val s.heap.objs.size->h'.get? s.heap.objs.size=some {cls:=.type "tuple",data:=.seq #[e.key,e.val]}->h'.objs.size=s.heap.objs.size+1->
  (∀b o,b≠it->s.heap.get? b=some o->h'.get? b=some o)->Q (some (.ref s.heap.objs.size)) {s with heap:=h'}):
 wpAny (model P w) A (pyNext (.ref it)) Q E s:=by
 obtain⟨a,g,j,l,k⟩:=s;have T:Shared.TypeIs ⟨a,g,j,l,k⟩ (.ref it) "dict_itemiterator":=⟨_,c,rfl⟩;have N:i<es.size:=(Array.getElem?_eq_some_iff.mp J).1;have r:Builtin.Dict_items.ownsTuple "dict_itemiterator"=true:=%[|3]
 unfold pyNext;refine ZA (wpAny_attempt (wpAny_callSpecial?_slot (name:=Str.ofString "__next__") T F.slot_dict_itemiterator_next (ZP F.slot_dict_itemiterator_next T F.entry_dict_itemiterator_next ?_ (F.args_dict_itemiterator_next_1 _))));refine ZA (ZB (ZA (ZA ?_)));first | refine ZA (wpAny_typeNameOfWhole_itemiter T (ZB (ZA (wpAny_fieldsOf c rfl ?_)))) | refine ZA (wpAny_typeNameOf_itemiter T (ZB (ZA (wpAny_fieldsOf c rfl ?_))))
 simp only[r,if_true];show wpAny _ _ (if(Value.ref d==Value.none)=true then _ else _) _ _ ⟨a,g,j,l,k⟩;rw[if_neg (show ¬((Value.ref d==Value.none)=true)from y9)];refine ZA (ZB (ZA (wpAny_dictEntries q p ?_)));rw[if_neg (by simp)];refine ZA (ZB (ZA (wpAny_dictEpoch q p ?_)));rw[if_neg (by simp)];refine ZB ?_;simp only[show ¬((i:Int)<0)from %[|0],if_false,Int.toNat_natCast,J];refine ZA ?_;first | refine ZA (wpAny_typeNameOfWhole_itemiter T (ZB (ZA (wpAny_isOneOf_itemiter T ?_)))) | refine ZA (wpAny_typeNameOf_itemiter T (ZB (ZA (wpAny_isOneOf_itemiter T ?_))))
 show wpAny _ _ (setField (.ref it) 3 (rawInt ((i:Int)+1))>>=_) _ _ ⟨a,g,j,l,k⟩;refine ZA (wpAny_setField_rec c (by simp) λ h t s1=>?_);have s1:Heap.SameBut it a h:=s1;have t:IsItemIter h it d (i+1) es.size ep ok ov:=by
  have L:((i+1:Nat):Int)=(i:Int)+1:=%[|0]
  unfold IsItemIter;rw[L];simpa[rawInt]using t
 have I:Shared.TypeIs ⟨h,g,j,l,k⟩ (.ref it) "dict_itemiterator":=⟨_,t,rfl⟩;refine ZA (ZQ (ZA (wpAny_isOneOf_itemiter I (ZA (wpAny_isOneOf_itemiter I ?_)))));show wpAny _ _ (Builtin.Dict_items.pairFromOwner (.ref it) 6 e.key e.val) _ _ ⟨h,g,j,l,k⟩;unfold Builtin.Dict_items.pairFromOwner;refine ZA (wpAny_newTuple ?_);have m:IsItemIter (h.push {cls:=.type "tuple",data:=.seq #[e.key,e.val]}) it d (i+1) es.size ep ok ov:=ZC _ t;generalize q2:h.push {cls:=.type "tuple",data:=.seq #[e.key,e.val]}=h2 at m;have H:h.objs.size=a.objs.size:=s1.1;have G:it<a.objs.size:=ZE c;have R:h2.get? a.objs.size=some {cls:=.type "tuple",data:=.seq #[e.key,e.val]}:=by rw[←q2,←H];exact ZD _ rfl
 have S:h2.objs.size=a.objs.size+1:=by rw[←q2,Heap.size_push,H]
 have O:∀b o,b≠it->a.get? b=some o->h2.get? b=some o:=λ b o f x=>by rw[←q2];exact ZC _ (s1.extBut b o f x)
 show wpAny _ _ (Builtin.Dict_items.ownedTupleIsFree (.ref it)>>=_) _ _ ⟨h2,g,j,l,k⟩;rw[H];unfold Builtin.Dict_items.ownedTupleIsFree;refine ZA (ZA (wpAny_field m rfl (x:=.none) rfl (ZB ?_)));simp only[if_true];refine ZA (wpAny_field m rfl (x:=ok) rfl (ZA (wpAny_field m rfl (x:=ov) rfl ?_)));refine ZA (wpAny_setField_rec m (by simp) λ B u s3=>?_);have s3:Heap.SameBut it h2 B:=s3;have u:IsItemIter B it d (i+1) es.size ep e.key ov:=u;refine ZA (wpAny_setField_rec u (by simp) λ C v s4=>?_);have s4:Heap.SameBut it B C:=s4;have v:IsItemIter C it d (i+1) es.size ep e.key e.val:=v;refine ZA (wpAny_setField_rec v (by simp) λ D y s5=>?_);have s5:Heap.SameBut it C D:=s5;have y:IsItemIterOut D it d (i+1) es.size ep e.key e.val a.objs.size:=y;refine ZA (wpAny_setField_rec y (by simp) λ n z s6=>?_);have s6:Heap.SameBut it D n:=s6;have z:IsItemIterOut n it d (i+1) es.size ep e.key e.val a.objs.size:=z;have K:∀b o,b≠it->h2.get? b=some o->n.get? b=some o:=λ b o f x=>s6.extBut b o f (s5.extBut b o f (s4.extBut b o f (s3.extBut b o f x)));refine ZA (wpAny_letGo (ZB (ZB ⟨_,rfl,ZB (M n z (K _ _ (Nat.ne_of_gt G) R) ?_ λ b o f x=>K b o f (O b o f x))⟩)));show n.objs.size=a.objs.size+1;rw[s6.1,s5.1,s4.1,s3.1,S]
theorem RV{Q:Option Value->%[|8]}(hh:A.handled=none)(f:s.heap.get? d=some od)(e:od.data=.dict es ep)(c:IsItemIter s.heap it d i es.size ep ok ov)(j:es.size≤i)
 (h:∀h',Heap.ExtBut it s.heap h'->Q none {s with heap:=h'}):wpAny (model P w) A (pyNext (.ref it)) Q E s:=by
 have T:s.TypeIs (.ref it) "dict_itemiterator":=⟨_,c,rfl⟩;have g:Builtin.Dict_items.ownsTuple "dict_itemiterator"=true:=%[|3]
 unfold pyNext;refine ZA (wpAny_attempt (wpAny_callSpecial?_slot (name:=Str.ofString "__next__") T F.slot_dict_itemiterator_next (ZP F.slot_dict_itemiterator_next T F.entry_dict_itemiterator_next ?_ (F.args_dict_itemiterator_next_1 _))));refine ZA (ZB (ZA (ZA ?_)));first | refine ZA (wpAny_typeNameOfWhole_itemiter T (ZB (ZA (wpAny_fieldsOf c rfl ?_)))) | refine ZA (wpAny_typeNameOf_itemiter T (ZB (ZA (wpAny_fieldsOf c rfl ?_))))
 simp only[g,if_true];show wpAny _ _ (if(Value.ref d==Value.none)=true then _ else _) _ _ s;rw[if_neg (show ¬((Value.ref d==Value.none)=true)from y9)];refine ZA (ZB (ZA (wpAny_dictEntries f e ?_)));rw[if_neg (by simp)];refine ZA (ZB (ZA (wpAny_dictEpoch f e ?_)));rw[if_neg (by simp)];refine ZB ?_;simp only[show ¬((i:Int)<0)from %[|0],if_false,Int.toNat_natCast,Array.getElem?_eq_none j];refine ZA ?_;first | refine ZA (wpAny_typeNameOfWhole_itemiter T (ZB ?_)) | refine ZA (wpAny_typeNameOf_itemiter T (ZB ?_))
 show wpAny _ _ (setField (.ref it) 2 .none>>=_) _ _ s;refine ZA (wpAny_setField c rfl (by simp) ?_);show wpAny _ _ (newExc (.type "StopIteration") []>>=_) _ _ _;refine ZA ?_;simp only[newExc,newTuple];refine ZA (wpAny_newObj_type (ZA (m:=firstArgMember _ _) (wpAny_of_eq (a:=Value.none) (by first | rfl | (simp only[firstArgMember];rfl)) (wpAny_newObj_type ?_ (by size_fits)))) (by size_fits));simp only[raiseNew];refine ZA (wpAny_handled ?_);rw[show A.in1.handled=none from hh];refine ZA (ZB (wpAny_throw ?_));refine ZA (wpAny_isInstance (T:="StopIteration") (b:=true) ⟨_,ZD _ rfl,rfl⟩ isSubtype_stop ?_);exact ZB (h _ (((Heap.SameBut.update ..).extBut.push _).push _))
end
variable {o : Expr}
theorem uv:entryFor table "dict_itemiterator.__iter__"=some Builtin.«dict_keyiterator.__iter__»:=entryFor_alias (id':="dict_keyiterator.__iter__") (by kernel_rfl) rfl (by decide+kernel) (by kernel_rfl)
def bkV:Value->V
 | .bool b=>.bl b
 | .int i _=>.int i
 | .str x _=>.str x
 | .bytes b _=>.byt b
 | .float b _=>.flt b
 | .ref a=>.ref a
 | .type n=>.ty n
 | _=>.non
theorem Ec{v:V}{u:Value}(h:L2.RelV v u):v=bkV u:=by cases v<;>first | (have h:u=_:=h;subst h;rfl) | (obtain⟨t,rfl⟩:=h;rfl)
theorem Af{v a:V}{u:Value}(h:L2.RelV v u)(h':L2.RelV a u):v=a:=(Ec h).trans (Ec h').symm
section
variable {P : Program} {w : World} {A : Around} {E : Value -> Shared -> Prop} {s : Shared} {d v : Addr} {ep : Nat} {es : Array DictEntry} {od : Obj}
theorem DG(a:(d==sysModules)=false):MeetsIn P w (Builtin.«dict.items» ⟨[.ref d],[]⟩) (λ _ R s=>s.TypeIs (.ref d) "dict"/\R (.ok (.ret (.ref s.heap.objs.size))) {s with heap:=s.heap.push {cls:=.type "dict_items",data:=.fields #[.ref d]}}):=
 .of_wp λ A R s ⟨T,h⟩=>by unfold Builtin.«dict.items»;refine ZA ?_;unfold Builtin.Dict.noArgs;refine ZA (wpAny_notOrdered_dict T ?_);show wpAny _ _ (pure d) _ _ s;refine ZB ?_;show wpAny _ _ (Builtin.Dict.showsAll d>>=_) _ _ s;unfold Builtin.Dict.showsAll;rw[if_neg (by rw[a];exact y9)];exact ZA (ZB (ZA (wpAny_newObj_type (ZB ⟨_,rfl,h⟩))))
theorem Gz{Q:%[|7]}(g:s.heap.IsItemsView v d)(b:s.heap.get? d=some od)(a:od.data=.dict es ep)
 (h:Q (.ref s.heap.objs.size) {s with heap:=s.heap.push {cls:=.type "dict_itemiterator",data:=.fields #[.none,.bool false,.ref d,.int 0 0,.int es.size 0,.int ep 0,.none,.none]}}):
 wpAny (model P w) A (pyIter (.ref v)) Q E s:=by
 obtain⟨j,f,i,e⟩:=id g;have c:Builtin.Dict_items.ownsTuple "dict_itemiterator"=true:=%[|3]
 refine wpAny_pyIter_slot g.typeIs F.slot_dict_items_iter (ZP F.slot_dict_items_iter g.typeIs F.entry_dict_items_iter ?_ (F.args_dict_items_iter_1 _));unfold Builtin.«dict_items.__iter__»;refine ZA (ZB (ZA ?_));unfold Builtin.Dict_items.dictOf;refine ZA (wpAny_field f e (x:=.ref d) rfl (ZB (ZA ?_)));unfold Builtin.Dict_items.newIterator;refine ZA (wpAny_dictEntries b a (ZA (wpAny_dictEpoch b a ?_)));simp only[c,if_true];refine wpAny_newObj_type (ZB ⟨_,rfl,"dict_itemiterator",_,⟨_,ZD _ rfl,rfl⟩,F.slot_dict_itemiterator_next.lookup,?_⟩) (by simp only[sizeOk,Builtin.Dict_items.ownedTupleFields,x9,v3,List.length_cons,List.length_nil,sizeLine_eq];omega);simpa[rawInt,Builtin.Dict_items.ownedTupleFields]using h
end
section
variable {P : Program} {w : World} {K : PySem.W.Frag}
def Itm(a:Addr)(n:Nat):It:=
 ⟨λ i H=>∃d c b u v,H a=some (.ext (aM a d))/\d.length=n/\d[i]? =some (c,b,u)/\RelV v u,
  λ i H x e=>∃p b u v,H p=none/\(∀d,H a=some (.ext (aM a d))->∃c,d[i]? =some (c,b,u))/\RelV v u/\e=upd H p (.tup [.ref b,v])/\x=.ref p,
  λ i H=>∃d,H a=some (.ext (aM a d))/\d.length=n/\n≤i⟩
theorem GJ{A:List Expr}{k:Nat}{pos:Pos}(a l:Addr)(n:Nat):Turn P w K (.Tuple A k pos) (Itm a n) [l] l (λ i h=>∃ok ov,IsItemIter h l a i n n ok ov) where
 mem:=by simp
 obj:=λ i h m b p=>by obtain⟨ok,ov,V⟩:=m;rw[ZL.mp p];exact⟨_,V,λ v z=>nomatch z⟩
 keep:=λ i h h' m k=>let ⟨ok,ov,V⟩:=m;⟨ok,ov,k l (by simp) _ V⟩
 item:=by
  intro X S Z hK hc i g s σ H E I M m W;obtain⟨ys,c,b,u,v,Q,D,Y,ru⟩:=W;obtain⟨⟨_,_,_,o,G,J,B,r,L⟩,_,_⟩:=(show az X.prog X.w H s.heap a (.ext (aM a ys))from I.hok a _ Q);obtain⟨ok,ov,d⟩:=m;have f:G.size=n:=by rw[←Array.length_toList,L,x4,D]
  have q:G[i]? =some ⟨hC0 c,.ref b,u⟩:=by rw[←Array.getElem?_toList,L,x5,Y];rfl
  have uq:∀j,H a=some (.ext (aM a j))->∃O,j[i]? =some (O,b,u):=λ j R=>by
   obtain⟨⟨_,_,_,o',aa,k1,_,N,k4⟩,_,_⟩:=(show az X.prog X.w H s.heap a (.ext (aM a j))from I.hok a _ R);obtain rfl:o=o':=Option.some.inj (J.symm.trans k1);rw[r]at N;injection N with N _;subst N;rw[←Array.getElem?_toList,k4,x5]at q
   cases e:j[i]? with
   | none=>rw[e]at q;cases q
   | some y=>rw[e]at q;obtain⟨O,b',u'⟩:=y;have q:=Option.some.inj q;injection q with _ hx1 hx2;injection hx1 with hx1;subst hx1 hx2;exact⟨O,rfl⟩
  rw[D]at r;subst S Z;refine PN (ok:=ok) (ov:=ov) J r (by rw[f];exact d) q λ h' ho hT hz hk=>⟨_,rfl,wpAny_letOwnedTupleGo_items ho λ B C sb=>?_⟩;have I1:Inv X g σ H {s with heap:=B}:=nM (ch:=[l]) (t:=s.toks) I M λ b o p q'=>(sb.2 b (λ z=>p (by simp[z]))).trans (hk b o (λ z=>p (by simp[z])) q');have hp:H s.heap.objs.size=none:=I.hok.fresh (x6 _);have x:l<s.heap.objs.size:=ZE d;have U:B.get? s.heap.objs.size=some {cls:=.type "tuple",data:=.seq #[.ref b,u]}:=(sb.2 _ (Nat.ne_of_gt x)).trans hT;have I2:Inv X g σ (upd H s.heap.objs.size (.tup [.ref b,v])) {s with heap:=B}:=pJ I I1 (x6 _) ⟨by show 2≤sizeLine;decide,[.ref b,u],.cons rfl (.cons ru .nil),_,U,rfl,_,rfl⟩;refine⟨.ref s.heap.objs.size,_,I2,rfl,⟨_,b,u,v,hp,uq,ru,rfl,rfl⟩,⟨_,_,by rw[f]at C;exact C⟩,λ b' p=>?_⟩;rw[ZL.mp p,ao (ZN x)];exact(M l (by simp)).1
 done:=by
  intro X S Z hK hc i g s σ H E I M m W;obtain⟨ys,Q,D,Y⟩:=W;obtain⟨⟨_,_,_,o,G,J,B,r,L⟩,_,_⟩:=(show az X.prog X.w H s.heap a (.ext (aM a ys))from I.hok a _ Q);obtain⟨ok,ov,d⟩:=m;have f:G.size=n:=by rw[←Array.length_toList,L,x4,D]
  rw[D]at r;subst S Z;obtain⟨f0,f1,f2,f3,f4,f5⟩:=M l (by simp);exact RV (ok:=ok) (ov:=ov) (I.ok.hd hc) J r (by rw[f];exact d) (by rw[f];exact Y) λ h' ext=>⟨rfl,I.turned (t':=s.toks) (λ b o p e=>ext b o p e) f0 f1 f3 f4 f5⟩
 self:=λ _ _ _ _ _ m h=>by obtain⟨ok,ov,d⟩:=m;have T:Shared.TypeIs _ (.ref l) "dict_itemiterator":=⟨_,d,rfl⟩;refine wpAny_pyIter_slot T F.slot_dict_itemiterator_iter (ZP F.slot_dict_itemiterator_iter T uv ?_ (F.args_dict_itemiterator_iter_1 _));show wpAny _ _ (ret (.ref l)) _ _ _;exact ZB ⟨_,rfl,"dict_itemiterator",_,T,F.slot_dict_itemiterator_next.lookup,h⟩
end
section
variable {K : PySem.W.Frag} {O : Own} {H : Hp}
theorem cZ{X:Cx}{pins:Pins}{σ:DL.St}{s:Shared}(I:%[|5]){a:Addr}{kcs:Kc}(b:DOb X.K O H a (.non::kcs.map encC)):
 (a==sysModules)=false/\Mut (H a)/\∃ys,H a=some (.ext (aM a ys))/\Kcs X.K O H ys (kcs.map encC)/\eV X.prog X.w s.heap a ys/\ys.length≤sizeLine:=by
 cases b with
 | t x e r=>cases r
 | c ys n e r=>cases r
 | o ys n e r=>cases r
 | m ys y d e r=>obtain⟨_,rfl⟩:=List.cons.inj d;obtain⟨⟨w,d,v,o,f,h,i,j,u⟩,_,_⟩:=(show az X.prog X.w H s.heap a (.ext (aM a ys))from I.hok a _ e);exact⟨d,by rw[e];trivial,ys,e,r,⟨o,f,h,i,j,u,Q3 I r,v⟩,w⟩
 | p A n b l c z q k e d g=>cases d
theorem oE{P:Program}{w:World}{H:Hp}{h:Heap}{a:Addr}{ys:Cy}(d:aM a ys h):az P w H h a (.ext (aM a ys)):=by refine⟨d,?_,λ c f q k=>?_⟩;{obtain⟨_,_,_,o,_,e,_⟩:=d;exact⟨o,e⟩};{obtain⟨z,y,n,o,b,e,r⟩:=q;exact⟨z,y,n,o,b,k o e,r⟩}
theorem yE{a:Addr}{k:Nat}{kcs:Kc}(h:O.A[k]? =some (a,true)):gK K (Itm a kcs.length) O H (λ S=>S[k]? =some (.non::kcs.map encC)) (kcs.map encC):=by
 intro j s S' P M T i;have R:j.A[k]? =some (a,true):=P.lc k _ h;have U:=M.dob k a _ R T;obtain⟨f,e,r⟩:∃f,s a=some (.ext (aM a f))/\Kcs K j s f (kcs.map encC):=by
  cases U with
  | t Y e r=>cases r
  | c f n e r=>cases r
  | o f n e r=>cases r
  | m f d' w e r=>obtain⟨_,rfl⟩:=List.cons.inj w;exact⟨f,e,r⟩
  | p ps n b l c z q k e w g=>cases w
 have J:=r.length;have C:∀(kcs:Kc)(f:Cy),Kcs K j s f (kcs.map encC)->∀(i:Nat)(kv:(Int×%[|1])×D),kcs[i]? =some kv->∃b u v,f[i]? =some (kv.1,b,u)/\Rep K j s (.ref b) (cD kv.1)/\RelV v u/\Rep K j s v kv.2:=by
  intro kcs
  induction kcs with
  | nil=>intro f r i kv h;simp at h
  | cons X kcs W=>
    intro f r i kv h;obtain⟨b,u,v,G,rfl,rk,rv,rd,t⟩:=r.inv
    cases i with
    | zero=>cases h;exact⟨b,u,v,rfl,rk,rv,rd⟩
    | succ i=>obtain⟨b,u,v,A,E⟩:=W G t i kv (by simpa using h);exact⟨b,u,v,by simpa using A,E⟩
 refine⟨λ d w=>?_,λ V=>⟨f,e,J,by rw[V,x4];exact x6 _⟩⟩;obtain⟨kv,F,rfl⟩:=aR w;obtain⟨b,u,v,A,E,I,Q⟩:=C kcs f r i kv F;refine⟨⟨f,kv.1,b,u,v,e,J,A,I⟩,λ x N y=>?_⟩;obtain⟨p,b2,u2,v2,B,uq,r2,rfl,rfl⟩:=y;obtain⟨c2,L⟩:=uq f e;rw[A]at L;cases L;obtain rfl:=Af I r2;have Z:¬j.has p:=λ z=>M.tracked z B;exact⟨cW.fresh B _,.tup ⟨Z,aJ⟩ (.cons (E.mono (Step.fresh B _)) (.cons (Q.mono (Step.fresh B _)) .nil))⟩
end
section
variable {X : Cx} {Γ : Gam} {S : Store} {W : WD} {pos : Pos}
theorem Lh{e f:Expr}{r t:Pos}(hu:X.A.units+60<cLine)(m:M2 X o "get" r e f t)
 (h:Ev X Γ S o λ x S1=>∃k,x=.dlo k/\k<S1.length/\Ev X Γ S1 e λ y S2=>Ev X Γ S2 f λ z S3=>∃c kvs,y=cD c/\S3[k]? =some (.non::List.map encC kvs)/\W ((aD kvs c).getD z) S3):Ev X Γ S (.Call (.Attribute o "get" r) [e,f] [] t) W:=by intro j s Q H O I A st;refine wpAny_Call_method m.base m.few m.line PySem.F.plainAttrs_dict PySem.F.slot_dict_get PySem.F.type_dict_get (thn (h j s Q H O I A st) λ u s1 i=>?_);obtain⟨x,Y,T,rx,q⟩:=i;obtain⟨O1,xd,S1,⟨k,rfl,hk,he⟩,l,C,D⟩:=q;cases D with| @dlo a _ V N=>obtain rfl:u=Value.ref a:=rx;obtain⟨t1,t2,_⟩:=(C.dob k a S1[k] V (y4 hk)).typ N T;refine⟨t1,t2,?_⟩;rw[m.trees];refine Calls.callWith_builtin rfl (Calls.evalArgs_plain (Calls.spliced_cons (thn (he j s1 Q Y O1 T (A.mono l) C) λ iv s2 i=>?_)));obtain⟨y,Z,I2,ry,q2⟩:=i;obtain⟨O2,yd,S2,M,n,P,g⟩:=q2;refine Calls.spliced_cons (thn (M j s2 Q Z O2 I2 ((A.mono l).mono n) P) λ fv s3 i=>Calls.spliced_nil ?_);obtain⟨z,R,F,rz,q3⟩:=i;obtain⟨G,zd,S3,⟨c,kvs,rfl,hs,w⟩,p,B,E⟩:=q3;have L:G.A[k]? =some (a,true):=p.conv.lc k _ (n.conv.lc k _ V);obtain⟨hd,mu,ys,_,kc,dm,hz⟩:=cZ F (B.dob k a _ L hs);have U:=dm.of;have g:=g.mono p;obtain⟨b,rfl⟩:=nW g;obtain rfl:iv=Value.ref b:=ry;refine call_meetsIn PySem.F.slot_dict_get U.typeIs PySem.F.entry_dict_get (PySem.F.args_dict_get_3 _ _ _) (meetsH_dict_get_default (aV X.prog X.w) a b hd fv) ⟨by show X.A.units+1+5<cLine;omega,c,ys,jy F g rfl,U,?_⟩;rcases kc.look c with⟨J,K⟩ | ⟨d,b',u',v,J,K,rv,rd⟩;{rw[J]at w;rw[K];exact⟨z,R,F.tok _,rz,G,zd,S3,w,(l.trans n).trans p,B,E⟩};{rw[J]at w;rw[K];exact⟨v,R,F.tok _,rv,G,d,S3,w,(l.trans n).trans p,B,rd⟩}
theorem U3{e:Expr}(hu:X.A.units+60<cLine)(B:TX e)
 (h:Ev X Γ S o λ x S1=>∃k,x=.dlo k/\Ev X Γ S1 e λ y S2=>∃c kvs d,y=cD c/\S2[k]? =some (.non::List.map encC kvs)/\aD kvs c=some d/\W d S2):Ev X Γ S (.Subscript o e pos) W:=by intro f s G H O I j st;refine Ou PySem.F.slot_dict_getitem.lookup B (thn (h f s G H O I j st) λ u s1 i=>?_);obtain⟨x,J,L,rx,q⟩:=i;obtain⟨M,xd,S1,⟨k,rfl,R⟩,n,C,m⟩:=q;cases m with| @dlo a _ P=>obtain rfl:u=Value.ref a:=rx;refine thn (R f s1 G J M L (j.mono n) C) λ T s2 i=>?_;obtain⟨y,K,t,ry,V⟩:=i;obtain⟨D,yd,S2,⟨c,kvs,d,rfl,B,r,w⟩,p,l,g⟩:=V;have A:D.A[k]? =some (a,true):=p.conv.lc k _ P;obtain⟨Q,mu,ys,_,U,N,hz⟩:=cZ t (l.dob k a _ A B);have E:=N.of;obtain⟨b,rfl⟩:=nW g;obtain rfl:T=Value.ref b:=ry;rcases U.look c with⟨z,F⟩ | ⟨d',b',u',v,z,F,Z,Y⟩;{rw[z]at r;cases r};{rw[z]at r;cases r;exact⟨E.typeIs,wpAny_getItem_heap (by show X.A.units+1+5<cLine;omega) (jy t g rfl) E F ⟨v,K,t.tok _,Z,D,_,S2,w,n.trans p,l,Y⟩⟩}
theorem Su{i e:Expr}{z:Pos}{W:DL.Fin}(hu:X.A.units+60<cLine)(hs:swapsWith e (some (.Subscript o i z)) pos.line X.env=pure false)
 (h:Ev X Γ S e λ d S1=>Ev X Γ S1 o λ x S2=>Ev X Γ S2 i λ y S3=>∃k c kvs,x=.dlo k/\y=cD c/\S3[k]? =some (.non::List.map encC kvs)/\kvs.length<1000000/\W.nx Γ (S3.set k (.non::(putD kvs c d).map encC))):Rn X Γ S (.Assign [.Subscript o i z] e pos) W:=by intro g s E H O I l st;refine wpAny_Assign_Subscript (thn (h g s E H O I l st) λ r s1 f=>?_) hs;obtain⟨v,V,Z,rv,q⟩:=f;obtain⟨O1,d,S1,h1,n,M,B⟩:=q;refine thn (h1 g s1 E V O1 Z (l.mono n) M) λ u s2 f=>?_;obtain⟨x,Y,I2,rx,q⟩:=f;obtain⟨O2,dx,S2,h2,p,N,C⟩:=q;refine thn (h2 g s2 E Y O2 I2 ((l.mono n).mono p) N) λ iv s3 f=>?_;obtain⟨y,H3,F,ry,q⟩:=f;obtain⟨O3,dy,S3,⟨k,c,kvs,rfl,rfl,hk,hz,w⟩,t,A,j⟩:=q;have P:=C.mono t;cases P with| @dlo a _ J=>obtain rfl:u=Value.ref a:=rx;obtain⟨b,rfl⟩:=nW j;obtain rfl:iv=Value.ref b:=ry;obtain⟨hd,mu,D,_,U,R,L⟩:=cZ F (A.dob k a _ J hk);have dd:=R.of;have rd:=(B.mono p).mono t;have hl:=Hq D c b r;have aa:=U.length;refine PP (by show X.A.units+1+5<cLine;omega) (jy F j rfl) R L λ h' tk G K=>?_;obtain⟨q,es,T,g2,g3,g4,_,g5⟩:=G;have cd:aM a (storedH D c b r) h':=⟨by rw[sizeLine_eq];omega,hd,g5,q,es,T,g2,g3,g4⟩;have Q:=Step.put (O:=O3) (H:=H3) (bU J) (.ext (aM a (storedH D c b r)));refine⟨E,upd H3 a (.ext (aM a (storedH D c b r))),uR F mu K ⟨q,T⟩ (oE cd),O3,Γ,_,w,((n.trans p).trans t).trans Q,A.putO J (.m _ _ rfl aJ ((U.put j rv rd).conv Q.conv)),(((l.mono n).mono p).mono t).mono Q⟩
end
section
variable {Ω : Wd}
def Cg(y:D)(S:Store)(k:Nat)(W:Kc->Int×%[|1]->Prop):Prop:=∃c a,y=cD c/\S[k]? =some (.non::List.map encC a)/\W a c
def Xy(o a:Ex Ω):Ex Ω where
 lev:=max o.lev a.lev
 chk f N i e:=match e with | .Subscript l r _=>okE r&&(o.chk f N i l&&a.chk f N i r) | _=>false
 wp j S W:=o.wp j S λ x m=>match x with | .dlo k=>a.wp j m λ y g=>Cg y g k λ b c=>∃d,aD b c=some d/\W d g | _=>False
 sound:=by
  intro X r f N i e j S W A t n u;obtain⟨v,z⟩:=lv2 t
  cases e with
  | Subscript l C B=>
    obtain⟨p,h⟩:=aa n;obtain⟨h,s⟩:=aa h;refine U3 A.hu (zp p) ((o.sound A v h u).mono λ x m q=>?_)
    cases x with
    | dlo k=>exact⟨k,rfl,(a.sound A z s q).mono λ y g ⟨ns,b,e1,e2,d,e3,w⟩=>⟨ns,b,d,e1,e2,e3,w⟩⟩
    | _=>exact(show False from q).elim
  | _=>exact fE n
def Xv(o i a:Ex Ω):Sm Ω where
 lev:=max a.lev (max o.lev i.lev)
 chk g N l v:=ixB v λ x y e=>noC e&&(okE y&&(a.chk g N l e&&(o.chk g N l x&&i.chk g N l y)))
 wp j S W:=a.wp j S λ d s=>o.wp j s λ x t=>i.wp j t λ y m=>match x with | .dlo k=>Cg y m k λ f c=>f.length<1000000/\W.nx j (m.set k (.non::(putD f c d).map encC)) | _=>False
 sound:=by
  intro X r g N l v j S W A I b J;obtain⟨K,n⟩:=lv2 I;obtain⟨n,L⟩:=lv2 n;obtain⟨x,y,p,e,u,D,h⟩:=Ij b;clear b;have b:=h;clear h;subst D
  . obtain⟨E,b⟩:=aa b;obtain⟨O,b⟩:=aa b;obtain⟨F,b⟩:=aa b;obtain⟨G,H⟩:=aa b;refine Su A.hu ?_ ((a.sound A K F J).mono λ d s q=>(o.sound A n G q).mono λ x t q=>(i.sound A L H q).mono λ y m q=>?_);{exact lu E _ _ _}
    . cases x with
      | dlo k=>obtain⟨M,f,z,B,C,w⟩:=q;exact⟨k,M,f,rfl,z,B,C,w⟩
      | _=>exact(show False from q).elim
def XC(o a b:Ex Ω):Ex Ω where
 lev:=max o.lev (max a.lev b.lev)
 chk d N l e:=nD e λ x m p D q=>two2 D λ y z=>(m==("get":Str))&&(nameE x&&((p.endLine==q.line)&&(okE y&&(okE z&&(o.chk d N l x&&(a.chk d N l y&&b.chk d N l z))))))
 wp n S W:=o.wp n S λ x s=>match x with | .dlo k=>k<s.length/\a.wp n s λ y C=>b.wp n C λ z t=>Cg y t k λ f c=>W ((aD f c).getD z) t | _=>False
 sound:=by
  intro X r d N l e n S W A M j O;obtain⟨P,B⟩:=lv2 M;obtain⟨B,Q⟩:=lv2 B;obtain⟨x,m,p,D,q,u,h⟩:=fc j;clear j;subst u;obtain⟨y,z,u,j⟩:=two2_of h;clear h;subst u
  . obtain⟨F,g⟩:=aa j;obtain⟨G,g⟩:=aa g;obtain⟨H,g⟩:=aa g;obtain⟨I,g⟩:=aa g;obtain⟨v,g⟩:=aa g;obtain⟨J,g⟩:=aa g;obtain⟨K,L⟩:=aa g;have e:=ZI F;subst e;have E:=aB I;have i:=aB v;refine Lh A.hu ⟨?_,by rw[E,i];rfl,H,by rw[E,i];rfl⟩ ((o.sound A P J O).mono λ x s q=>?_);{cases x<;>first | rfl | exact ff G}
    . cases x with
      | dlo k=>exact⟨k,rfl,q.1,(a.sound A B K q.2).mono λ y C q=>(b.sound A Q L q).mono λ z t ⟨ns,f,e1,e2,w⟩=>⟨ns,f,e1,e2,w⟩⟩
      | _=>exact(show False from q).elim
end
theorem Uh{K:PySem.W.Frag}{O:Own}{H:Hp}{S:Store}(s:StOk K O H S){p:Addr}(h:H p=none){o:HO}{ds:List D}(r:DOb K (O.more p true) (upd H p o) p ds):
 StOk K (O.more p true) (upd H p o) (S++[ds]):=by have i:=Step.own (O:=O) h o true;have l:=s.fresh_not h;refine⟨Br s.nd λ z=>l (.inl z),by simp[s.len],λ k a f c d=>?_,λ k a f c d=>?_,λ a j=>?_,λ b m=>i.dom b (s.hidden b m)⟩;{rcases jM c with c | ⟨rfl,e⟩;{have g:=(z0.mp c).1;rw[List.getElem?_append_left (by rw[←s.len];exact g)]at d;obtain⟨t,q,n⟩:=s.obj k a f c d;exact⟨t,by rw[ao (aC q h)];exact q,n.mono i⟩};{cases e}};{rcases jM c with c | ⟨rfl,e⟩;{have g:=(z0.mp c).1;rw[List.getElem?_append_left (by rw[←s.len];exact g)]at d;exact(s.dob k a f c d).move i.conv λ o q=>by rw[ao (aC q h)];exact q};{cases e;rw[List.getElem?_append_right (by rw[s.len];exact x6 _),s.len,Nat.sub_self]at d;cases d;exact r}};{rw[bR]at j;rcases ZK.mp j with z | z;{exact s.apart a z};{rw[ZL.mp z];exact λ q=>l (.inr q)}}
theorem Et{h:Heap}(a:sysModules<h.objs.size):aM h.objs.size [] (h.push {cls:=.type "dict",data:=.dict #[]}):=
 ⟨Nat.zero_le _,beq_eq_false_iff_ne.mpr (Ne.symm (ZN a)),List.nodup_nil,_,#[],ZD _ rfl,⟨rfl,rfl,rfl⟩,rfl,rfl⟩
section
variable {X : Cx} {Γ : Gam} {S : Store} {W : WD} {pos : Pos}
theorem Pq(h:W (.dlo S.length) (S++[[.non]])):Ev X Γ S (.Dict [] [] pos) W:=by intro d s g H O I f e;have b:=I.hok.fresh (x6 s.heap.objs.size);refine wpAny_Dict_empty ⟨.ref s.heap.objs.size,_,I.laid (a:=s.heap.objs.size) (o:=.ext (aM s.heap.objs.size [])) (t':=s.toks) (λ _ _ q=>ZC _ q) (x6 _) (oE (Et I.big)),rfl,?_⟩;exact⟨O.more s.heap.objs.size true,.dlo S.length,S++[[.non]],h,Step.own b _ true,Uh e b (.m [] [] rfl aJ .nil),.dlo (by show(O.A++[(s.heap.objs.size,true)])[S.length]? =some (s.heap.objs.size,true);rw[←e.len];simp) λ c o q=>ZE (I.kIn c o q)⟩
theorem Rj{L P:Expr}(hu:X.A.units+60<cLine)(h:Ev X Γ (S++[[.non]]) L λ y S1=>Ev X Γ S1 P λ z S2=>∃c,y=cD c/\S2[S.length]? =some [.non]/\W (.dlo S.length) (S2.set S.length (.non::[((c,z):(Int×%[|1])×D)].map encC))):Ev X Γ S (.Dict [some L] [P] pos) W:=by
 intro e s G H O I l N;have J:=I.hok.fresh (x6 s.heap.objs.size);have R:Inv X e G (upd H s.heap.objs.size (.ext (aM s.heap.objs.size []))) {s with heap:=s.heap.push {cls:=.type "dict",data:=.dict #[]}}:=I.laid (a:=s.heap.objs.size) (o:=.ext (aM s.heap.objs.size [])) (t':=s.toks) (λ _ _ q=>ZC _ q) (x6 _) (oE (Et I.big));have i:=Step.own (O:=O) J (.ext (aM s.heap.objs.size [])) true;have E:StOk X.K (O.more s.heap.objs.size true) (upd H s.heap.objs.size (.ext (aM s.heap.objs.size []))) (S++[[.non]]):=Uh N J (.m [] [] rfl aJ .nil);have r:(O.more s.heap.objs.size true).A[S.length]? =some (s.heap.objs.size,true):=by show(O.A++[(s.heap.objs.size,true)])[S.length]? =some (s.heap.objs.size,true);rw[←N.len];simp
 have w:Abv X.K s.heap.objs.size:=λ c o q=>ZE (I.kIn c o q);refine wpAny_Dict_any rfl rfl (by simp) (show 1≤15 by decide) ?_;generalize s.heap.objs.size=p at*;refine evalPairs_cons (thn (h e _ G _ _ R (l.mono i) E) λ ku s1 f=>?_);obtain⟨kx,Q,T,rk,U,kd,S1,h1,j,C,t⟩:=f;refine ZA (thn (h1 e s1 G Q U T ((l.mono i).mono j) C) λ F s2 f=>?_);obtain⟨vx,H2,v,rv,O2,vd,S2,⟨c,rfl,hS,hw⟩,k,n,u⟩:=f;refine ZA (wpAny_standAt (ZB (evalPairs_nil ?_)));have d:O2.A[S.length]? =some (p,true):=k.conv.lc _ _ (j.conv.lc _ _ r);obtain⟨hd,mu,ys,eH,kc,Y,hz⟩:=cZ (kcs:=[]) v (n.dob _ _ _ d hS);cases kc;have g:=t.mono k;obtain⟨b,rfl⟩:=nW g;obtain rfl:ku=Value.ref b:=rk;unfold storeAll;rw[List.forIn_cons];refine ZA (ZA (FQ (c:=c) %[|0] (jy v g rfl) Y hz λ h' tk x B=>ZB ?_));show wpAny _ _ (forIn [] _ _) _ _ _;rw[List.forIn_nil];refine ZB ?_;obtain⟨q,Z,K,g2,g3,g4,_,g5⟩:=x;have V:aM p (storedH [] c b F) h':=⟨by rw[sizeLine_eq];show 1≤_;omega,hd,g5,q,Z,K,g2,g3,g4⟩;have M:=Step.put (O:=O2) (H:=H2) (bU d) (.ext (aM p (storedH [] c b F)));exact⟨.ref p,upd H2 p (.ext (aM p (storedH [] c b F))),uR v mu B ⟨q,K⟩ (oE V),rfl,O2,.dlo S.length,_,hw,((i.trans j).trans k).trans M,n.putO d (.m _ _ rfl aJ ((Kcs.put (kcs:=[]) .nil g rv u).conv M.conv)),.dlo d w⟩
theorem Nx{f c Z:Pos}{i:List Expr}{n:Nat}{W:List D->%[|4]->%[|4]}(r:attributeBase o "items" X.env (eval o X.env)=eval o X.env)(N:(f.endLine==c.line)=true)
 (h:Ev X Γ S o λ d S1=>∃k kvs,d=.dlo k/\S1[k]? =some (.non::List.map encC kvs)/\W (kvs.map encC) (λ S=>S[k]? =some (.non::kvs.map encC)) S1):ItC X Γ S (.Tuple i n Z) (.Call (.Attribute o "items" f) [] [] c) W:=by
 intro m s σ H O I q U;refine wpAny_Call_method (T:="dict") (id:="dict.items") r rfl N F.plainAttrs_dict F.slot_dict_items F.type_dict_items (thn (h m s σ H O I q U) λ u s1 v=>?_);obtain⟨x,C,g,R,E,xd,S1,⟨k,kvs,rfl,M,w⟩,y,l,p⟩:=v
 cases p with
 | @dlo a _ B t=>
   obtain rfl:u=Value.ref a:=R;have A:=l.dob k a _ B M;obtain⟨z,V,Y⟩:=A.typ t g;obtain⟨_,mu,ys,eH,Q,⟨oo,es,J,g2,K,L,_,_⟩,hz⟩:=cZ g A;refine⟨z,V,?_⟩;show wpAny _ _ (callWith c (.builtin "dict.items") [.ref a] [] []) _ _ s1;refine method_meetsIn F.slot_dict_items F.entry_dict_items rfl (PySem.evalArgs_none ⟨rfl,z,F.args_dict_items_1 _,_,DG Y,z,?_⟩);have G:es.size=ys.length:=by rw[←Array.length_toList,L,x4]
   refine Gz (d:=a) (es:=es) (ep:=ys.length) (od:=oo) ⟨_,ZD _ rfl,rfl,rfl⟩ (ZC _ J) K ?_;have P:=Q.length;rw[G,P];have j:s1.heap.objs.size≤(s1.heap.push {cls:=.type "dict_items",data:=.fields #[.ref a]}).objs.size:=by rw[Heap.size_push];exact Nat.le_succ _
   refine⟨_,[(s1.heap.push {cls:=.type "dict_items",data:=.fields #[.ref a]}).objs.size],_,_,C,rfl,g.kept (t':=s1.toks) (λ b o e=>ZC _ (ZC _ e)),GJ a _ kvs.length,⟨.none,.none,ZD _ rfl⟩,λ b r=>?_,E,kvs.map encC,_,S1,w,y,l,yE B⟩;rw[ZL.mp r];exact g.fpOk j (g.hok.fresh j)
end
section
variable {Ω : Wd}
def Xw:Ex Ω where
 lev:=0
 chk f N i e:=anB (LR e) λ z=>jO z.1 (jO z.2 true)
 wp l S W:=W (.dlo S.length) (S++[[.non]])
 sound:=by intro X r f N i e l S W A m d g;obtain⟨⟨h,k⟩,a,b⟩:=aZ d;clear d;obtain⟨j,a⟩:=Ef a;subst a;obtain⟨a,c⟩:=dW b;clear b;have a:h=[]:=a;subst a;obtain⟨a,d⟩:=dW c;clear c;have a:k=[]:=a;subst a;{exact Pq g}
def X7(a b:Ex Ω):Ex Ω where
 lev:=max a.lev b.lev
 chk f N k e:=anB (LR e) λ z=>dq z.1 λ o=>anB o λ x=>dq z.2 λ y=>a.chk f N k x&&b.chk f N k y
 wp l S W:=a.wp l (S++[[.non]]) λ y m=>b.wp l m λ z n=>∃c,y=cD c/\n[S.length]? =some [.non]/\W (.dlo S.length) (n.set S.length (.non::[((c,z):(Int×%[|1])×D)].map encC))
 sound:=by intro X r f N k e l S W A t j u;obtain⟨w,B⟩:=lv2 t;obtain⟨⟨v,E⟩,d,g⟩:=aZ j;clear j;obtain⟨C,d⟩:=Ef d;subst d;obtain⟨o,d,h⟩:=bG g;clear g;have d:v=[o]:=d;subst d;obtain⟨x,d,i⟩:=aZ h;clear h;subst d;obtain⟨y,d,j⟩:=bG i;clear i;have d:E=[y]:=d;subst d;{obtain⟨p,s⟩:=aa j;exact Rj A.hu ((a.sound A w p u).mono λ y m q=>b.sound A B s q)}
@[irreducible] noncomputable def yK(Γ:Gam)(tg:Tg)(body:Bl Ω)(W:DL.Fin)(k:Nat)(kvs:Kc)(S1:Store):Prop:=
  ∃c:Nat->Gam->%[|4],c 0 Γ S1/\(∀i a b,c i a b->b[k]? =some (.non::kvs.map encC))/\(∀i e a b,kvs[i]? =some e->c i a b->tg.wp (encC e) a λ d=>body.wp d b {W with nx:=c (i+1),ct:=c (i+1),bk:=W.nx})/\(∀a b,c kvs.length a b->W.nx a b)
theorem Fy{d:Gam}{c:Tg}{a:Bl Ω}{W:DL.Fin}{k:Nat}{kvs:Kc}{b:Store}(h:∃Pv:Nat->Gam->%[|4],Pv 0 d b/\(∀i Γ' S',Pv i Γ' S'->S'[k]? =some (.non::kvs.map encC))/\(∀i kv Γ' S',kvs[i]? =some kv->Pv i Γ' S'->c.wp (encC kv) Γ' λ Γ2=>a.wp Γ2 S' {W with nx:=Pv (i+1),ct:=Pv (i+1),bk:=W.nx})/\(∀Γ' S',Pv kvs.length Γ' S'->W.nx Γ' S')):yK d c a W k kvs b:=by unfold yK;exact h
def X8(tg:Tg)(o:Ex Ω)(body:Bl Ω):Sm Ω where
 lev:=max o.lev body.lev
 chk f N w H:=frB H λ t G b=>nD G λ x m p C q=>jO C (sZ t&&((m==("items":Str))&&(nameE x&&((p.endLine==q.line)&&(tg.chk f N w t&&(o.chk f N w x&&body.chk f N w b))))))
 wp E S W:=o.wp E S λ d B=>match d with
  | .dlo k=>∃c,B[k]? =some (.non::List.map encC c)/\yK E tg body W k c B
  | _=>False
 sound:=by
  intro X r f N w H E S W A R a U;obtain⟨Y,Z⟩:=lv2 R;obtain⟨t,G,b,ab,g,j⟩:=nC a;clear a;subst g;obtain⟨x,m,p,C,q,g,l⟩:=fc j;clear j;subst g;obtain⟨g,s⟩:=dW l;clear l;subst g;obtain⟨T,a⟩:=aa s;clear s;obtain⟨C,n,tp,g⟩:=jE T;subst g
  . obtain⟨I,a⟩:=aa a;obtain⟨J,a⟩:=aa a;obtain⟨K,a⟩:=aa a;obtain⟨L,a⟩:=aa a;obtain⟨M,O⟩:=aa a;have e:=ZI I;subst e;refine rM (Nx (by cases x<;>first | rfl | exact ff J) K (Ev.mono (o.sound A Y M U) λ d B q=>?_)) (by rw[A.xe];exact PassesOwn.never) A.calm (λ _=>rfl)
    cases d with
    | dlo k=>obtain⟨c,Q,q⟩:=q;unfold yK at q;obtain⟨y,p0,pC,pt,pe⟩:=q;refine⟨k,c,rfl,Q,y,p0,pC,λ i d h z P v=>?_,λ h z v=>pe h z (by rw[x4]at v;exact v)⟩;obtain⟨V,D,rfl⟩:=aR P;exact BdW.mono (Tg.sound A (W:=λ u F=>body.wp u F {W with nx:=y (i+1),ct:=y (i+1),bk:=W.nx}) L (pt i V h z D v)) λ u F q=>body.sound A Z O q
    | _=>exact(show False from q).elim
end
end RF
namespace RF
open PySem PySem.Spec L2 DL
open PyProof.Rows
section
variable {P : Program} {w : World} {A : Around} {E : Value -> Shared -> Prop} {s : Shared} {d it : Addr} {i ep : Nat} {es : Array DictEntry} {od : Obj} {e : DictEntry}
theorem xO{Q:Option Value->%[|8]}(g:s.heap.get? d=some od)(c:od.data=.dict es ep)(f:s.heap.IsKeyIter it d i es.size ep)(m:es[i]? =some e)
 (k:∀h',h'.IsKeyIter it d (i+1) es.size ep->Heap.SameBut it s.heap h'->Q (some e.key) {s with heap:=h'}):wpAny (model P w) A (pyNext (.ref it)) Q E s:=by
 obtain⟨o,j,l,b⟩:=id f;have T:=f.typeIs;have h:Builtin.Dict_items.ownsTuple "dict_keyiterator"=false:=%[|3]
 unfold pyNext;refine ZA (wpAny_attempt (wpAny_callSpecial?_slot (name:=Str.ofString "__next__") T F.slot_dict_keyiterator_next (ZP F.slot_dict_keyiterator_next T F.entry_dict_keyiterator_next ?_ (F.args_dict_keyiterator_next_1 _))));refine ZA (ZB (ZA (ZA ?_)));first | refine ZA (wpAny_typeNameOfWhole_keyiter T (ZB (ZA (wpAny_fieldsOf j b ?_)))) | refine ZA (wpAny_typeNameOf_keyiter T (ZB (ZA (wpAny_fieldsOf j b ?_))))
 simp only[h,Bool.false_eq_true,if_false];show wpAny _ _ (if(Value.ref d==Value.none)=true then _ else _) _ _ s;rw[if_neg (show ¬((Value.ref d==Value.none)=true)from y9)];refine ZA (ZB (ZA (wpAny_dictEntries g c ?_)));rw[if_neg (by simp)];refine ZA (ZB (ZA (wpAny_dictEpoch g c ?_)));rw[if_neg (by simp)];refine ZB ?_;simp only[show ¬((i:Int)<0)from %[|0],if_false,Int.toNat_natCast,m];refine ZA ?_;first | refine ZA (wpAny_typeNameOfWhole_keyiter T (ZB (ZA (wpAny_isOneOf_keyiter T ?_)))) | refine ZA (wpAny_typeNameOf_keyiter T (ZB (ZA (wpAny_isOneOf_keyiter T ?_))))
 show wpAny _ _ (setField (.ref it) 1 (rawInt ((i:Int)+1))>>=_) _ _ s;refine ZA (wpAny_setField j b (by simp) ?_);have a:(s.heap.update it (Obj.mapFields (·.setIfInBounds 1 (rawInt ((i:Int)+1))))).IsKeyIter it d (i+1) es.size ep:=
  ⟨_,Heap.get?_update_self _ j (Obj.isFreed_of_fields (Obj.data_mapFields b _)),(Obj.cls_mapFields ..).trans l,by rw[Obj.data_mapFields b];simp[rawInt]⟩;refine ZA (ZQ (ZA (wpAny_isOneOf_keyiter (s:={s with heap:=s.heap.update it (Obj.mapFields (·.setIfInBounds 1 (rawInt ((i:Int)+1))))}) a.typeIs ?_)));show wpAny _ _ (pure e.key) _ _ _;exact ZB (ZB ⟨_,rfl,ZB (k _ a (Heap.SameBut.update ..))⟩)
theorem FJ{Q:Option Value->%[|8]}(hh:A.handled=none)(f:s.heap.get? d=some od)(c:od.data=.dict es ep)(e:s.heap.IsKeyIter it d i es.size ep)(l:es.size≤i)
 (k:∀h',Heap.ExtBut it s.heap h'->Q none {s with heap:=h'}):wpAny (model P w) A (pyNext (.ref it)) Q E s:=by
 obtain⟨o,j,n,h⟩:=id e;have T:=e.typeIs;have g:Builtin.Dict_items.ownsTuple "dict_keyiterator"=false:=%[|3]
 unfold pyNext;refine ZA (wpAny_attempt (wpAny_callSpecial?_slot (name:=Str.ofString "__next__") T F.slot_dict_keyiterator_next (ZP F.slot_dict_keyiterator_next T F.entry_dict_keyiterator_next ?_ (F.args_dict_keyiterator_next_1 _))));refine ZA (ZB (ZA (ZA ?_)));first | refine ZA (wpAny_typeNameOfWhole_keyiter T (ZB (ZA (wpAny_fieldsOf j h ?_)))) | refine ZA (wpAny_typeNameOf_keyiter T (ZB (ZA (wpAny_fieldsOf j h ?_))))
 simp only[g,Bool.false_eq_true,if_false];show wpAny _ _ (if(Value.ref d==Value.none)=true then _ else _) _ _ s;rw[if_neg (show ¬((Value.ref d==Value.none)=true)from y9)];refine ZA (ZB (ZA (wpAny_dictEntries f c ?_)));rw[if_neg (by simp)];refine ZA (ZB (ZA (wpAny_dictEpoch f c ?_)));rw[if_neg (by simp)];refine ZB ?_;simp only[show ¬((i:Int)<0)from %[|0],if_false,Int.toNat_natCast,Array.getElem?_eq_none l];refine ZA ?_;first | refine ZA (wpAny_typeNameOfWhole_keyiter T (ZB ?_)) | refine ZA (wpAny_typeNameOf_keyiter T (ZB ?_))
 show wpAny _ _ (setField (.ref it) 0 .none>>=_) _ _ s;refine ZA (wpAny_setField j h (by simp) ?_);show wpAny _ _ (newExc (.type "StopIteration") []>>=_) _ _ _;refine ZA ?_;simp only[newExc,newTuple];refine ZA (wpAny_newObj_type (ZA (m:=firstArgMember _ _) (wpAny_of_eq (a:=Value.none) (by first | rfl | (simp only[firstArgMember];rfl)) (wpAny_newObj_type ?_ (by size_fits)))) (by size_fits));simp only[raiseNew];refine ZA (wpAny_handled ?_);rw[show A.in1.handled=none from hh];refine ZA (ZB (wpAny_throw ?_));refine ZA (wpAny_isInstance (T:="StopIteration") (b:=true) ⟨_,ZD _ rfl,rfl⟩ isSubtype_stop ?_);exact ZB (k _ (((Heap.SameBut.update ..).extBut.push _).push _))
theorem vG{Q:%[|7]}(lo:(d==sysModules)=false)(a:s.heap.get? d=some od)(hc:od.ExactDict)(b:od.data=.dict es ep)
 (c:Q (.ref s.heap.objs.size) {s with heap:=s.heap.push {cls:=.type "dict_keyiterator",data:=.fields #[.ref d,.int 0 0,.int es.size 0,.int ep 0]}}):wpAny (model P w) A (pyIter (.ref d)) Q E s:=by have T:s.TypeIs (.ref d) "dict":=⟨od,a,hc.1⟩;refine wpAny_pyIter_slot T F.slot_dict_iter (ZP F.slot_dict_iter T F.entry_dict_iter ?_ (F.args_dict_iter_1 _));unfold Builtin.«dict.__iter__»;refine ZA ?_;unfold Builtin.Dict.dictSlotNone;refine ZA (wpAny_notOrdered_dict T ?_);show wpAny _ _ (pure (Value.ref d)) _ _ s;refine ZB ?_;show wpAny _ _ (Builtin.Dict.showsAll d>>=_) _ _ s;unfold Builtin.Dict.showsAll;rw[if_neg (by rw[lo];exact y9)];refine ZA (ZB (ZA (wpAny_dictEntries a b (ZA (wpAny_dictEpoch a b ?_)))));refine ZA (wpAny_newObj_type (ZB ⟨_,rfl,"dict_keyiterator",_,⟨_,ZD _ rfl,rfl⟩,F.slot_dict_keyiterator_next.lookup,?_⟩));simpa[rawInt]using c
def DEs(d:Addr)(es:Array DictEntry)(ep:Nat)(h:Heap):Prop:=∃o,h.get? d=some o/\o.ExactDict/\o.data=.dict es ep
theorem IV(hh:A.handled=none)(I:Addr)(p:d≠I):Walks P w A I [I,d] [I] es.size (λ i v=>∃e,es[i]? =some e/\v=e.key) (λ i h=>h.IsKeyIter I d i es.size ep/\DEs d es ep h) where
 sub:=λ b c=>by simp at c;simp[c]
 frame:=λ _ _ _ st q=>⟨st.1.at λ o e=>q I (by simp) o e,let ⟨o,a,k⟩:=st.2;⟨o,q d (by simp) o a,k⟩⟩
 item:=λ i s Q E t st f=>by obtain⟨o,a,k,l⟩:=st.2;obtain⟨e,r⟩:∃e,es[i]? =some e:=⟨es[i],by simp[t]⟩;exact xO a l st.1 r λ m g j=>f e.key m s.toks ⟨e,r,rfl⟩ ⟨g,o,j.extBut d o p a,k,l⟩ λ b o c e=>j.extBut b o (λ h=>c (by simp[h])) e
 done:=λ s Q E st f=>by obtain⟨o,a,k,l⟩:=st.2;exact FJ hh a l st.1 (x6 _) λ m n=>f m s.toks λ b o c e=>n b o (λ h=>c (by simp[h])) e
 self:=λ _ _ _ _ st f=>wpAny_pyIter_keyiter st.1 f
theorem BX(lo:(d==sysModules)=false):PySem.W.KdlSrc P w "dict" d d es.size (λ i v=>∃e,es[i]? =some e/\v=e.key) (DEs d es ep) where
 type:=λ _ ⟨o,g1,g2,_⟩=>⟨o,g1,g2.1⟩
 there:=λ _ ⟨o,g1,_⟩=>⟨ZE g1,ZE g1⟩
 keep:=λ _ _ ⟨o,g1,g2⟩ c=>⟨o,c d (.inl rfl) o g1,g2⟩
 notList:=%[|3]
 notTuple:=%[|3]
 hint:=λ _ _ _ _ ⟨o,g1,g2,_⟩ a=>PySem.W.kdl_hint_dict ⟨o,g1,g2.1⟩ a
 iter:=λ _ _ b ⟨o,g1,g2,g3⟩=>⟨_,_,(λ _ _ a=>vG lo g1 g2 g3 a),IV b _ (ZN (ZE g1)),⟨⟨_,ZD _ rfl,rfl,rfl⟩,⟨o,ZC _ g1,g2,g3⟩⟩⟩
theorem yI{Q:List Value->%[|8]}(hh:A.handled=none)(lo:(d==sysModules)=false)(p:DEs d es ep s.heap)(G:es.size≤sizeLine)
 (z:∀h' tk,(∀b o,s.heap.get? b=some o->h'.get? b=some o)->s.heap.objs.size≤h'.objs.size->Q (es.toList.map (·.key)) {s with heap:=h',toks:=tk}):wpAny (model P w) A (collect (.ref d)) Q E s:=by
 have m:d<s.heap.objs.size:=let ⟨_,g,_⟩:=p;ZE g;have h:s.heap.objs.size≠d:=Nat.ne_of_gt m;unfold collect;refine ZA (wpAny_runValue (codeAny_builtin F.entry_proto_collect ?_));rw[Around.under_plainId F.plain_proto_collect _];show wpAny _ A.in1 (newList []>>=λ l=>again (.builtin "list.__iadd__" ⟨[l,.ref d],[]⟩)) _ _ s;refine ZA (wpAny_newObj_type ?_);refine ZB ⟨plainId_quiet F.plain_list_iadd _,codeAny_builtin F.entry_list_iadd ?_⟩;rw[Around.under_plainId F.plain_list_iadd _];have B:(s.heap.push {cls:=.type "list",data:=.seq ([]:List Value).toArray}).get? s.heap.objs.size=some {cls:=.type "list",data:=.seq ([]:List Value).toArray}:=ZD _ rfl;show wpAny _ A.in1 (Builtin.List.listExtendWith (.ref s.heap.objs.size) (.ref d) (.ref s.heap.objs.size)) _ _ _;have k:DEs d es ep (s.heap.push {cls:=.type "list",data:=.seq ([]:List Value).toArray}):=let ⟨o,g1,g2⟩:=p;⟨o,ZC _ g1,g2⟩;let R:Result->%[|8]:=λ r t=>match r with
  | Except.ok (Flow.ret v)=>wpAny (model P w) A (match v with | Value.ref a=>(do let o ←load a;match o.data with | Data.seq xs _=>pure xs.toList | _=>unsupported "internal:collect") | _=>unsupported "internal:collect") Q E t
  | Except.ok _=>False
  | Except.error e=>E e t;refine PySem.W.kdl_extend (R:=R) (s:={s with heap:=s.heap.push {cls:=.type "list",data:=.seq ([]:List Value).toArray}}) (BX lo) hh k s.heap.objs.size h h _ 0 B (λ h' tk c H D f hacc=>?_) G;show wpAny (model P w) A (load s.heap.objs.size>>=_) Q E _;refine ZA (wpAny_load f ?_);have y:c.toList=es.toList.map (·.key):=by
  refine List.ext_getElem? λ j=>?_;rw[x5,Array.getElem?_toList,Array.getElem?_toList];by_cases C:j<es.size
  . have n:j<c.size:=by rw[hacc.1];exact C
    obtain⟨e,u,x⟩:=hacc.2 j c[j] (by simp[n]);rw[u,Array.getElem?_eq_getElem n,x];rfl
  {rw[Array.getElem?_eq_none (by rw[hacc.1];omega),Array.getElem?_eq_none %[|0]];rfl}
 have i:∀b o,s.heap.get? b=some o->h'.get? b=some o:=λ b o q=>D b o (ZN (ZE q)) (ZC _ q);have:=z h' tk i (Nat.le_of_lt (ZE f));rw[←y]at this;exact ZB this
end
theorem Mp(x y:Int)(xs ys:%[|1]):ltI (x::xs) (y::ys)=if x=y then ltI xs ys else decide (x<y):=by unfold ltI;rw[show decide ((x::xs).length<(y::ys).length)=decide (xs.length<ys.length) by simp];rfl
theorem tQ(xs:%[|1]):ltI xs []=false:=by unfold ltI;rw[ZH (by simp)];cases xs<;>rfl
theorem Tq {a b c:%[|1]}(h1:ltI a b=true)(h2:ltI b c=true):ltI a c=true:=by
 induction a generalizing b c with
 | nil=>
   cases c with
   | nil=>rw[tQ]at h2;cases h2
   | cons z c=>rfl
 | cons x a f=>
   cases b with
   | nil=>rw[tQ]at h1;cases h1
   | cons y b=>
     cases c with
     | nil=>rw[tQ]at h2;cases h2
     | cons z c=>rw[Mp]at h1 h2 ⊢;by_cases e:x=y;{subst e;rw[if_pos rfl]at h1;by_cases d:x=z;{subst d;rw[if_pos rfl]at h2 ⊢;exact f h1 h2};{rw[if_neg d]at h2 ⊢;exact h2}};{rw[if_neg e]at h1;have h1:=ZF h1;by_cases d:y=z;{subst d;rw[if_neg e];exact ZG h1};{rw[if_neg d]at h2;have h2:=ZF h2;rw[if_neg %[|0]];exact ZG %[|0]}}
theorem Rq{a b c:Int×%[|1]}(h1:ltC a b=true)(h2:ltC b c=true):ltC a c=true:=by unfold ltC at*;by_cases e:a.1=b.1;{rw[if_pos e]at h1;by_cases d:b.1=c.1;{rw[if_pos d]at h2;rw[if_pos (e.trans d)];exact Tq h1 h2};{rw[if_neg d]at h2;rw[if_neg (by rw[e];exact d),e];exact h2}};{rw[if_neg e]at h1;have h1:=ZF h1;by_cases d:b.1=c.1;{rw[if_neg (by rw[←d];exact e),←d];exact ZG h1};{rw[if_neg d]at h2;have h2:=ZF h2;rw[if_neg %[|0]];exact ZG %[|0]}}
theorem Pa{a b:Int×%[|1]}(n:a≠b)(h:ltC a b=false):ltC b a=true:=by
 unfold ltC at*;by_cases c:a.1=b.1
 . rw[if_pos c]at h;rw[if_pos c.symm]
   cases q:ltI b.2 a.2 with
   | true=>rfl
   | false=>exact absurd (Prod.ext c (Ji h q)) n
 {rw[if_neg c]at h;have h:=of_decide_eq_false h;rw[if_neg (λ z=>c z.symm)];exact ZG %[|0]}
structure OdrL(N:Nat)(lt:Nat->Nat->Bool)(p:List Nat):Prop where
 len:p.length=N
 lt_:∀i∈p,i<N
 nd:p.Nodup
 srt:p.Pairwise λ i j=>lt i j=true
abbrev W2(cs:List (Int×%[|1]))(i j:Nat):Bool:=ltC (cs.getD i (0,[])) (cs.getD j (0,[]))
theorem NK(n:Nat):∀(q:List Nat),q.Nodup->(∀i∈q,i<n)->q.length≤n:=by
 induction n with
 | zero=>
   intro q _ h
   cases q with
   | nil=>exact x6 _
   | cons a q=>exact absurd (h a w9) %[|0]
 | succ n f=>
   intro q d h;by_cases c:n∈q
   . have:=f (q.erase n) (d.erase n) λ i b=>by
      have:=h i (List.mem_of_mem_erase b);have:i≠n:=λ e=>by rw[e]at b;exact d.not_mem_erase b
      omega
     rw[List.length_erase_of_mem c]at this;omega
   . have:=f q d λ i b=>by have:=h i b;have:i≠n:=λ e=>c (e▸b);omega
     omega
theorem Ju(n:Nat):∀(q:List Nat),q.Nodup->(∀i∈q,i<n)->q.length=n->q.Perm (List.range n):=by
 induction n with
 | zero=>intro q _ _ f;obtain rfl:=List.eq_nil_of_length_eq_zero f;exact .nil
 | succ n b=>
   intro q d h f;by_cases c:n∈q
   . have b:=b (q.erase n) (d.erase n) (λ i a=>by
      have:=h i (List.mem_of_mem_erase a);have:i≠n:=λ e=>by rw[e]at a;exact d.not_mem_erase a
      omega) (by rw[List.length_erase_of_mem c];omega);rw[List.range_succ];exact(List.perm_cons_erase c).trans ((List.Perm.cons n b).trans (List.perm_append_singleton _ _).symm)
   . have:=NK n q d λ i a=>by have:=h i a;have:i≠n:=λ e=>c (e▸a);omega
     omega
theorem OdrL.perm{N:Nat}{a:Nat->Nat->Bool}{p:List Nat}(h:OdrL N a p):p.Perm (List.range N):=Ju N p h.nd h.lt_ h.len
theorem range_getD{a:Type}(l:List a)(z:a):((List.range l.length).map λ i=>l.getD i z)=l:=by refine List.ext_getElem? λ i=>?_;rw[x5];by_cases b:i<l.length;{simp[b]};{rw[List.getElem?_eq_none (by rw[List.length_range];omega),List.getElem?_eq_none %[|0]];rfl}
section
variable {K : PySem.W.Frag} {O : Own} {H : Hp}
theorem BR{ys:Cy}{kcs:Kc}(r:Kcs K O H ys (kcs.map encC)):ys.map (·.1)=kcs.map (·.1):=by
 induction kcs generalizing ys with
 | nil=>cases r;rfl
 | cons d kcs a=>obtain⟨b,u,v,c,rfl,_,_,_,t⟩:=r.inv;rw[List.map_cons,List.map_cons,a t]
theorem Fd{ys:Cy}{kcs:Kc}(r:Kcs K O H ys (kcs.map encC)):∀(i:Nat)(y:(Int×%[|1])×Addr×Value),ys[i]? =some y->Rep K O H (.ref y.2.1) (cD y.1):=by
 induction kcs generalizing ys with
 | nil=>cases r;intro i y h;simp at h
 | cons e kcs a=>
   obtain⟨b,u,v,d,rfl,c,_,_,t⟩:=r.inv;intro i y h
   cases i with
   | zero=>cases h;exact c
   | succ i=>exact a t i y (by simpa using h)
theorem qu{a:List V}{ds:List D}(b:a.length=ds.length)(h:∀(i:Nat)(v:V)(d:D),a[i]? =some v->ds[i]? =some d->Rep K O H v d):Reps K O H a ds:=by
 induction a generalizing ds with
 | nil=>
   cases ds with
   | nil=>exact .nil
   | cons=>cases b
 | cons v a g=>
   cases ds with
   | nil=>cases b
   | cons d ds=>exact .cons (h 0 v d rfl rfl) (g (by simpa using b) λ i j c e f=>h (i+1) j c (by simpa using e) (by simpa using f))
theorem uo{b:List V}{a:List Value}(c:b.length=a.length)(h:∀(i:Nat)(v:V)(u:Value),b[i]? =some v->a[i]? =some u->L2.RelV v u):Vals b a:=by
 induction b generalizing a with
 | nil=>
   cases a with
   | nil=>exact .nil
   | cons=>cases c
 | cons v b g=>
   cases a with
   | nil=>cases c
   | cons u a=>exact .cons (h 0 v u rfl rfl) (g (by simpa using c) λ i j d e f=>h (i+1) j d (by simpa using e) (by simpa using f))
end
section
variable {P : Program} {w : World} {A : Around} {E : Value -> Shared -> Prop} {s : Shared} {a b : Addr} {ya yb : Cy} {e : Nat -> Bool}
def xn(A:Around)(s:Shared)(ya yb:Cy)(e:Nat->Bool):Prop:=∀(i:Nat)(y:(Int×%[|1])×Addr×Value),ya[i]? =some y->(atKey yb y.1=none/\e i=false)∨∃p,atKey yb y.1=some p/\SeqAt.EqAt A s y.2.2 p.2 (e i)
theorem yQ{nm:String}{Q:Bool->%[|8]}(la:(a==sysModules)=false)(lb:(b==sysModules)=false)(hu:A.units+5<cLine)(W:eV P w s.heap a ya)(X:eV P w s.heap b yb)(k:xn A s ya yb e)
 (h:Q (ya.length==yb.length&&(List.range ya.length).all e) s):wpAny (model P w) A (Builtin.Dict.samePairs nm a b) Q E s:=by
 obtain⟨oa,c,C,_,D,O,Z,g6⟩:=W;obtain⟨ob,l,J,_,K,L,k5,S⟩:=X;have U:c.size=ya.length:=size_of_entries O;have V:l.size=yb.length:=size_of_entries L;unfold Builtin.Dict.samePairs Builtin.Dict.showsAll;rw[if_neg (show ¬(a==sysModules)=true by rw[la];exact y9),if_neg (show ¬(b==sysModules)=true by rw[lb];exact y9)];refine ZA (ZB (ZA (ZB (ZA (wpAny_dictEntries C D ?_)))));dsimp only;refine ZA (wpAny_dictEntries J K ?_);by_cases g:c.size=l.size;case neg=>rw[if_pos (by simpa using g)];rw[show(ya.length==yb.length)=false by rw[←U,←V];simpa using g,Bool.false_and]at h;exact ZA (wpAny_rule (ZB h))
 case pos =>
  rw[show(ya.length==yb.length)=true by rw[←U,←V,g];exact beq_self_eq_true _,Bool.true_and]at h;rw[if_neg (by rw[g];simp)];refine ZA (wpAny_dictEpoch C D (ZA ?_));rw[Std.Legacy.Range.forIn_eq_forIn_range'];simp only[Std.Legacy.Range.size,Nat.sub_zero,Nat.add_sub_cancel,Nat.div_one];refine wpAny_forIn_list _ (λ f q B=>B=s/\q=(none,())/\∃i,f=List.range' i (c.size-i)/\i≤c.size/\∀j,j<i->e j=true) _ ?_ ?_ _ _ ⟨rfl,rfl,0,by simp,Nat.zero_le _,λ j G=>by omega⟩
  . rintro x f q B ⟨rfl,rfl,i,m,hi,d⟩;have H:i<c.size:=by rcases Nat.lt_or_ge i c.size with h | h;{exact h};{rw[Nat.sub_eq_zero_of_le h]at m;simp at m}
    obtain⟨rfl,n⟩:x=i/\f=List.range' (i+1) (c.size-(i+1)):=by rw[show c.size-i=(c.size-(i+1))+1 by omega,List.range'_succ]at m;injection m with h1 h2;exact⟨h1,h2⟩
    have v:ya[x]? =some (ya[x]'%[|0]):=y4 %[|0];generalize (ya[x]'%[|0])=y at v;have hx:c[x]? =some (entryOfKey (aV P w) y):=by rw[entry_at O,v];rfl
    have M:(aV P w).is B.heap y.1 y.2.1:=Z y (y8 v);have T:e x=false->Q false B:=λ F=>by
     have:(List.range ya.length).all e=false:=by rw[List.all_eq_false];exact⟨x,List.mem_range.mpr %[|0],by rw[F];exact y9⟩
     rw[this]at h;exact h
    refine ZA (wpAny_dictEntries C D ?_);rw[hx];show wpAny _ _ (holding [Value.ref y.2.1,y.2.2] _>>=_) _ _ _;refine ZA (ZQ (ZA (wpAny_dictFind_heap (knd:=aV P w) (show A.units+5<cLine from hu) M J K L k5 S (λ o=>?_) λ j p r=>?_)));{have Y:=atKey_none_of_get o;rcases k x y v with⟨_,F⟩ | ⟨p,u,_⟩;{refine ZB ?_;show wpAny _ _ (if(!false)=true then _ else _) _ _ _;rw[if_pos %[|3]];exact ZB (ZB (T F))};{rw[Y]at u;cases u}}
    . have N:=atKey_of_get S r;rcases k x y v with⟨R,_⟩ | ⟨p',u,he⟩;{rw[N]at R;cases R}
      . rw[N]at u;cases u;have I:l[j]? =some (entryOfKey (aV P w) (y.1,p)):=by rw[entry_at L,r];rfl
        refine ZA (wpAny_dictEntries J K ?_);rw[I];refine ZQ (he P w _ _ ?_)
        cases t:e x with
        | false=>show wpAny _ _ (if(!false)=true then _ else _) _ _ _;rw[if_pos %[|3]];exact ZB (ZB (T t))
        | true=>show wpAny _ _ (if(!true)=true then _ else _) _ _ _;rw[if_neg %[|3]];refine ZA (wpAny_dictEpoch C D ?_);rw[if_neg (by simp)];refine ZB ⟨rfl,rfl,x+1,n,H,λ j G=>?_⟩;rcases Nat.lt_or_ge j x with z | z;{exact d j z};{rw[show j=x by omega];exact t}
  . rintro q B ⟨rfl,rfl,i,m,hi,d⟩;have aa:i=c.size:=by rcases Nat.lt_or_ge i c.size with h | h;{rw[show c.size-i=(c.size-(i+1))+1 by omega,List.range'_succ]at m;cases m};{omega}
    refine ZB ?_;rw[show(List.range ya.length).all e=true by rw[List.all_eq_true];exact λ j G=>d j (by have:=List.mem_range.mp G;omega)]at h;exact h
theorem Up{Q:%[|7]}(j:(a==sysModules)=false)(lb:(b==sysModules)=false)(k:A.units+6<cLine)(g:eV P w s.heap a ya)(i:eV P w s.heap b yb)(c:xn A.in1 s ya yb e)
 (h:Q (.bool (ya.length==yb.length&&(List.range ya.length).all e)) s):wpAny (model P w) A (compareOp .Eq (.ref a) (.ref b)) Q E s:=by have d:=g.of.typeIs;have f:=i.of.typeIs;refine wpAny_richCompare_same_room (op:=.Eq) d f PySem.F.slot_dict_eq (ZP PySem.F.slot_dict_eq d PySem.F.entry_dict_eq ?_ (PySem.F.args_dict_eq_2 _ _)) %[|0];show wpAny _ _ (Builtin.Dict.dictSlotArgs "__eq__" ⟨[.ref a,.ref b],[]⟩>>=_) _ _ s;refine ZA ?_;unfold Builtin.Dict.dictSlotArgs;refine ZA (wpAny_notOrdered_dict d ?_);show wpAny _ _ (pure (Value.ref a,Value.ref b)) _ _ s;refine ZB (ZA (wpAny_isInstance (T:="dict") f PySem.F.sub_dict_dict ?_));simp only[Bool.not_true,Bool.false_eq_true,if_false];refine ZA (ZB (ZA (ZB (ZA (yQ j lb (by show A.units+1+5<cLine;omega) g i c ?_)))));refine ZB ⟨_,rfl,(λ x=>nomatch x),?_⟩;simpa using h
theorem UW{Q:%[|7]}(j:(a==sysModules)=false)(lb:(b==sysModules)=false)(k:A.units+6<cLine)(g:eV P w s.heap a ya)(i:eV P w s.heap b yb)(c:xn A.in1 s ya yb e)
 (h:Q (.bool (!(ya.length==yb.length&&(List.range ya.length).all e))) s):wpAny (model P w) A (compareOp .NotEq (.ref a) (.ref b)) Q E s:=by have d:=g.of.typeIs;have f:=i.of.typeIs;refine wpAny_richCompare_same_room (op:=.NotEq) d f PySem.F.slot_dict_ne (ZP PySem.F.slot_dict_ne d PySem.F.entry_dict_ne ?_ (PySem.F.args_dict_ne_2 _ _)) %[|0];show wpAny _ _ (Builtin.Dict.dictSlotArgs "__ne__" ⟨[.ref a,.ref b],[]⟩>>=_) _ _ s;refine ZA ?_;unfold Builtin.Dict.dictSlotArgs;refine ZA (wpAny_notOrdered_dict d ?_);show wpAny _ _ (pure (Value.ref a,Value.ref b)) _ _ s;refine ZB (ZA (wpAny_isInstance (T:="dict") f PySem.F.sub_dict_dict ?_));simp only[Bool.not_true,Bool.false_eq_true,if_false];refine ZA (ZB (ZA (ZB (ZA (yQ j lb (by show A.units+1+5<cLine;omega) g i c ?_)))));refine ZB ⟨_,rfl,(λ x=>nomatch x),?_⟩;simpa using h
end
def uC(kb:Kc)(kv:(Int×%[|1])×D):Bool:=match aD kb kv.1 with | some d=>eqD kv.2 d | none=>false
def atE(ka kb:Kc)(i:Nat):Bool:=match ka[i]? with | some kv=>uC kb kv | none=>false
def ue(ka kb:Kc):Bool:=ka.length==kb.length&&ka.all (uC kb)
def kE(ka:Kc):Prop:=∀kv∈ka,okD kv.2=true/\deep kv.2≤50
section
variable {X : Cx} {S : Store}
theorem Eb(l c:Kc):((List.range l.length).all (atE l c))=l.all (uC c):=by rw[Bool.eq_iff_iff,List.all_eq_true,List.all_eq_true];constructor;{intro h a d;obtain⟨i,b⟩:=ZR d;have:=h i (List.mem_range.mpr (z0.mp b).1);unfold atE at this;rw[b]at this;exact this};{intro h i b;unfold atE;rw[y4 (List.mem_range.mp b)];exact h _ (List.getElem_mem _)}
end
variable {Ω : Wd}
def Grt(i:Int):Prop:=i.natAbs<2 ^ 100000
theorem zy{i:Int}(h:Grt i):Builtin.Int.intBits i≤100000:=by
 unfold Grt at h;unfold Builtin.Int.intBits;split;{exact Nat.zero_le _}
 . have:i.natAbs.log2<100000:=by rcases Nat.eq_zero_or_pos i.natAbs with a | b;{rw[a];decide};{exact(Nat.log2_lt (Nat.ne_of_gt b)).mpr h}
   omega
def XM(a b:Ex Ω):Ex Ω where
 lev:=max a.lev b.lev
 chk c N f e:=match e with | .BinOp l o r _=>(o==.Mult)&&(a.chk c N f l&&b.chk c N f r) | _=>false
 wp h S W:=a.wp h S λ x k=>b.wp h k λ y m=>match x,y with
  | .int i,.int j=>(Grt i/\Grt j)/\W (.int (i*j)) m
  | _,_=>False
 sound:=by
  intro X r c N f e h S W A s hc t;obtain⟨u,v⟩:=lv2 s
  cases e with
  | BinOp l o z w=>obtain⟨n,d⟩:=aa hc;obtain⟨d,p⟩:=aa d;have e:o=.Mult:=ZI n;subst e;refine rW ((a.sound A u d t).mono λ x k q=>(b.sound A v p q).mono λ y m q=>?_);split at q;{exact gJ (C:=λ i j=>Grt i/\Grt j) (g:=λ i j=>i*j) (opI λ i j _ _ _ _ _ hc q=>mul_int q (mulOk_of_bits (zy hc.1) (zy hc.2) %[|3])) q.1 q.2};{exact(show False from q).elim}
  | _=>exact fE hc
end RF
namespace RF
open PySem PySem.Spec L2 DL
open PyProof.Rows
variable {i : Nat}
def rk(R:Keyed->Nat)(xs:Array Keyed)(i:Nat):Nat:=(xs[i]?.map R).getD 0
structure Asks(prog:Program)(w:World)(A:Around)(E:%[|7])(s:Shared)(κ:SortKind)(R:Keyed->Nat)(a₀:Array Keyed):Prop where
 ask:∀{x y:Keyed}{Q:Option Bool->SortSt->Prop}{st:SortSt},x∈a₀.toList->y∈a₀.toList->kindOf st=κ->Q (some (decide (R x<R y))) st->wpS (model prog w) A E s (lt' x y) Q st
 nd:(a₀.toList.map R).Nodup
structure Sb(κ:SortKind)(a₀:Array Keyed)(st:SortSt):Prop where
 kind:kindOf st=κ
 perm:(arrOf st).Perm a₀
 fine:failedOf st=none
section
variable {prog : Program} {w : World} {A : Around} {E : Value -> Shared -> Prop} {s : Shared} {κ : SortKind} {R : Keyed -> Nat} {a₀ : Array Keyed} {st : SortSt}
theorem Sb.size(h:Sb κ a₀ st):(arrOf st).size=a₀.size:=h.perm.size_eq
theorem aL{xs:Array Keyed}(h:i<xs.size):rk R xs i=R xs[i]:=by unfold rk;simp[h]
theorem fu{xs ys:Array Keyed}{j:Nat}(h:xs[i]? =ys[j]?):rk R xs i=rk R ys j:=by unfold rk;rw[h]
theorem rA(b:Asks prog w A E s κ R a₀){xs:Array Keyed}(c:xs.Perm a₀){i j:Nat}(hi:i<xs.size)(a:j<xs.size)(e:rk R xs i=rk R xs j):i=j:=by rw[aL hi,aL a]at e;have d:(xs.toList.map R).Nodup:=((Array.perm_iff_toList_perm.mp c).map R).nodup_iff.mpr b.nd;have:=(List.getElem_inj (xs:=xs.toList.map R) (i:=i) (j:=j) (h₀:=by simpa using hi) (h₁:=by simpa using a) d).mp (by simpa using e);exact this
theorem Ax(h:Sb κ a₀ st){i:Nat}(hi:i<(arrOf st).size):(arrOf st)[i]∈a₀.toList:=(Array.perm_iff_toList_perm.mp h.perm).mem_iff.mp (by simp)
theorem aQ{xs:Array Keyed}(hi:i<xs.size){Q:Keyed->SortSt->Prop}(h:Q xs[i] st):wpS (model prog w) A E s (elem' xs i) Q st:=by rw[elem'_eq,getElem?_pos xs i hi];exact wpS_pure h
theorem mQ(d:Asks prog w A E s κ R a₀)(c:Sb κ a₀ st){i j:Nat}(hi:i<a₀.size)(e:j<a₀.size){Q:Option Bool->SortSt->Prop}(h:Q (some (decide (rk R (arrOf st) i<rk R (arrOf st) j))) st):wpS (model prog w) A E s (ltAt' i j) Q st:=by
 have a:i<(arrOf st).size:=by rw[c.size];exact hi
 have b:j<(arrOf st).size:=by rw[c.size];exact e
 rw[aL a,aL b]at h;rw[ltAt'_eq];refine wpS_bind (wpS_get ?_);exact wpS_bind (aQ a (wpS_bind (aQ b (d.ask (Ax c a) (Ax c b) c.kind h))))
theorem Sb.arr(h:Sb κ a₀ st){xs:Array Keyed}(a:xs.Perm (arrOf st)):Sb κ a₀ (setArr st xs):=⟨h.kind,a.trans h.perm,h.fine⟩
def Asc(R:Keyed->Nat)(xs:Array Keyed)(lo hi:Nat):Prop:=∀i j,lo≤i->i<j->j<hi->rk R xs i<rk R xs j
theorem Asc.one(xs:Array Keyed)(lo:Nat):Asc R xs lo (lo+1):=λ i j a b c=>by omega
theorem Asc.more{xs:Array Keyed}{lo hi:Nat}(h:Asc R xs lo hi)(k:lo<hi)(b:rk R xs (hi-1)<rk R xs hi):Asc R xs lo (hi+1):=by
 intro i j a f g;by_cases c:j<hi;{exact h i j a f c}
 . have e:j=hi:=%[|0]
   subst e;by_cases d:i=j-1;{rw[d];exact b};{exact Nat.lt_trans (h i (j-1) a %[|0] %[|0]) b}
structure Kept(lo hi:Nat)(st st':SortSt):Prop where
 arr:∀k,k<lo∨hi≤k->(arrOf st')[k]? =(arrOf st)[k]?
 pend:pendingOf st'=pendingOf st
theorem Kept.refl(lo hi:Nat)(st:SortSt):Kept lo hi st st:=⟨λ _ _=>rfl,rfl⟩
theorem vO{xs:Array Keyed}{j:Nat}(a:j≤xs.size)(k:Nat):rk R (mirror xs i j ((j-i)/2)) k=if i≤k/\k<j then rk R xs (i+j-1-k)else rk R xs k:=by have e:=getElem?_mirror_all (i:=i) a k;split at e;{rename_i c;rw[if_pos c];exact fu e};{rename_i c;rw[if_neg c];exact fu e}
theorem Ao(j:Asks prog w A E s κ R a₀)(g:Sb κ a₀ st){lo a b:Nat}(p:lo+b≤a₀.size)(o:1≤a)(i:a≤b)(l:Asc R (arrOf st) lo (lo+a)){Q:Option (Option Nat)×Nat->SortSt->Prop}
 (h:∀n,a≤n->n≤b->Asc R (arrOf st) lo (lo+n)->(n=b∨rk R (arrOf st) (lo+n)<rk R (arrOf st) (lo+n-1))->Q (none,n) st):
 wpS (model prog w) A E s (forIn [a:b] ((none,a):Option (Option Nat)×Nat) λ _ r=>do
  let x ←ltAt' (lo+r.2) (lo+r.2-1)
  match x with
  | some smaller=>if smaller=true then pure (ForInStep.done (none,r.2))else pure (ForInStep.yield (none,r.2+1))
  | _=>pure (ForInStep.done (some none,r.2))) Q st:=by
 refine wpS_forRange (I:=λ x c d=>d=st/\c=(none,x)/\Asc R (arrOf st) lo (lo+x)) ?_ ?_ ⟨rfl,rfl,l⟩
 . rintro x c d k m ⟨rfl,rfl,f⟩;dsimp only;refine wpS_bind (mQ j g %[|0] %[|0] ?_);dsimp only;by_cases c:rk R (arrOf d) (lo+x)<rk R (arrOf d) (lo+x-1);{rw[ZG c,if_pos rfl];exact wpS_pure (h x k %[|0] f (.inr c))}
   . rw[ZH c,if_neg y9];have q:rk R (arrOf d) (lo+x)≠rk R (arrOf d) (lo+x-1):=λ e=>by have:=rA j g.perm (by rw[g.size];omega) (by rw[g.size];omega) e;omega
     exact wpS_pure ⟨rfl,rfl,f.more %[|0] %[|0]⟩
 {rintro c d ⟨rfl,rfl,f⟩;rw[show max a b=b by omega]at f ⊢;exact h b i (x6 _) f (.inl rfl)}
theorem Nj(p:Asks prog w A E s κ R a₀)(l:Sb κ a₀ st){lo g:Nat}(h1:1≤g)(B:lo+g≤a₀.size){Q:Option Nat->SortSt->Prop}
 (h:∀n st',Sb κ a₀ st'->1≤n->n≤g->Kept lo (lo+n) st st'->Asc R (arrOf st') lo (lo+n)->Q (some n) st'):wpS (model prog w) A E s (countRun' lo g) Q st:=by
 rw[countRun'_eq];refine wpS_bind (Ao p l B (x6 1) h1 (Asc.one _ _) λ n y u t D=>?_);dsimp only;by_cases c:n=g;{rw[if_pos (by simpa using c)];exact wpS_pure (h n st l y u (Kept.refl _ _ _) t)};rw[if_neg (by simpa using c)];have r:=D.resolve_left c;by_cases z:n>1;{rw[if_pos z];refine wpS_bind (mQ p l %[|0] %[|0] ?_);rw[ZG (t lo (lo+n-1) (x6 _) %[|0] %[|0])];dsimp only;rw[if_pos rfl];exact wpS_pure (h n st l y u (Kept.refl _ _ _) t)};rw[if_neg z];obtain rfl:n=1:=%[|0]
 refine wpS_bind (wpS_lift (wpAny_rule ⟨rfl,?_⟩));refine wpS_bind (wpS_mono (wpS_forRange (I:=λ x c st'=>st'=st/\c=(none,x,0)/\∀i j,lo≤i->i<j->j<lo+x->rk R (arrOf st) j<rk R (arrOf st) i)
  (Q:=λ c st'=>st'=st/\∃x,c=(none,x,0)/\2≤x/\x≤g/\∀i j,lo≤i->i<j->j<lo+x->rk R (arrOf st) j<rk R (arrOf st) i) ?step ?fin ?init) ?post);case init=>
  refine⟨rfl,rfl,λ i j a b c=>?_⟩;obtain rfl:i=lo:=%[|0]
  obtain rfl:j=i+1:=%[|0]
  exact r
 case fin=>rintro c st' ⟨rfl,rfl,m⟩;rw[show max (1+1) g=g by omega]at m ⊢;exact⟨rfl,g,rfl,%[|0],x6 _,m⟩
 case step=>
  rintro x c st' F C ⟨rfl,rfl,m⟩;dsimp only;refine wpS_bind (mQ p l %[|0] %[|0] ?_);dsimp only;by_cases c:rk R (arrOf st') (lo+x)<rk R (arrOf st') (lo+x-1)
  . rw[ZG c,if_pos rfl,if_neg %[|0]];refine wpS_pure ⟨rfl,rfl,λ i j a b d=>?_⟩;by_cases e:j<lo+x;{exact m i j a b e}
    . obtain rfl:j=lo+x:=%[|0]
      by_cases f:i=lo+x-1;{rw[f];exact c};{exact Nat.lt_trans c (m i (lo+x-1) a %[|0] %[|0])}
  . rw[ZH c,if_neg y9];have H:rk R (arrOf st') (lo+x)≠rk R (arrOf st') (lo+x-1):=λ e=>by have:=rA p l.perm (by rw[l.size];omega) (by rw[l.size];omega) e;omega
    refine wpS_bind (mQ p l %[|0] %[|0] ?_);rw[ZG %[|0]];dsimp only;rw[if_pos rfl];exact wpS_pure ⟨rfl,x,rfl,%[|0],%[|0],m⟩
 case post=>
  rintro c st' ⟨rfl,x,rfl,F,C,m⟩;dsimp only;rw[if_neg %[|0]];rw[reverseSlice'_eq];refine wpS_bind (wpS_modify ?_);have o:lo+x≤(arrOf st').size:=by rw[l.size];omega
  have q:Sb κ a₀ (setArr st' (mirror (arrOf st') lo (lo+x) ((lo+x-lo)/2))):=l.arr (mirror_perm _ _ _ _);have v:Asc R (mirror (arrOf st') lo (lo+x) ((lo+x-lo)/2)) lo (lo+x):=by intro i j a b d;rw[vO o,vO o,if_pos ⟨a,%[|0]⟩,if_pos ⟨%[|0],d⟩];exact m _ _ %[|0] %[|0] %[|0]
  refine wpS_bind (Ao p q B %[|0] C v λ n y u t _=>?_);dsimp only;refine wpS_pure (h n _ q %[|0] u ⟨λ k G=>?_,rfl⟩ t);have e:=getElem?_mirror_all (i:=lo) o k;rw[if_neg %[|0]]at e;exact e
end
end RF
namespace RF
open PySem PySem.Spec L2 DL
open PyProof.Rows
section
variable {prog : Program} {w : World} {A : Around} {E : Value -> Shared -> Prop} {s : Shared} {κ : SortKind} {R : Keyed -> Nat} {a₀ : Array Keyed} {st : SortSt}
theorem vm{xs:Array Keyed}{src d:Nat}(f:src<xs.size)(b:d≤src)(k:Nat):rk R (bubble xs src d) k=if k=src-d then rk R xs src else if src-d<k/\k≤src then rk R xs (k-1)else rk R xs k:=by have e:=getElem?_bubble f d b k;split at e;{rename_i c;rw[if_pos c];exact fu e};{rename_i c;rw[if_neg c];split at e;{rename_i a;rw[if_pos a];exact fu e};{rename_i a;rw[if_neg a];exact fu e}}
theorem Kept.trans{lo hi:Nat}{a b c:SortSt}(h:Kept lo hi a b)(h':Kept lo hi b c):Kept lo hi a c:=⟨λ k d=>(h'.arr k d).trans (h.arr k d),h'.pend.trans h.pend⟩
theorem Ud (v:Asks prog w A E s κ R a₀)(J:Sb κ a₀ st){lo n ok:Nat}(T:lo+n≤a₀.size)(L:ok≤n)(O:1≤ok)(M:Asc R (arrOf st) lo (lo+ok)){Q:Bool->SortSt->Prop}
 (h:∀st',Sb κ a₀ st'->Kept lo (lo+n) st st'->Asc R (arrOf st') lo (lo+n)->Q true st'):wpS (model prog w) A E s (binarySort' lo n ok) Q st:=by
 rw[binarySort'_eq,show max ok 1=ok by omega];refine wpS_bind (wpS_mono (wpS_forRange (I:=λ k c st'=>c=(none,())/\Sb κ a₀ st'/\Kept lo (lo+n) st st'/\Asc R (arrOf st') lo (lo+k))
  (Q:=λ c st'=>c=(none,())/\Sb κ a₀ st'/\Kept lo (lo+n) st st'/\Asc R (arrOf st') lo (lo+n)) ?step ?fin ⟨rfl,J,Kept.refl _ _ _,M⟩) ?post);case fin=>rintro c st' ⟨u,p,t,q⟩;rw[show max ok n=n by omega]at q;exact⟨u,p,t,q⟩
 case post=>rintro c st' ⟨rfl,p,t,q⟩;exact wpS_pure (h st' p t q)
 case step =>
  rintro k c st' V W ⟨rfl,d,K,b⟩;dsimp only;have Z:=d.size;refine wpS_bind (wpS_mono (wpS_forRange (I:=λ x c a=>a=st'/\∃l r,c=(none,l,r)/\l≤r/\r≤k/\r-l≤k-x/\(∀i,i<l->rk R (arrOf st') (lo+i)<rk R (arrOf st') (lo+k))/\∀i,r≤i->i<k->rk R (arrOf st') (lo+k)<rk R (arrOf st') (lo+i))
   (Q:=λ c a=>a=st'/\∃l r,c=(none,l,r)/\l≤k/\(∀i,i<l->rk R (arrOf st') (lo+i)<rk R (arrOf st') (lo+k))/\∀i,l≤i->i<k->rk R (arrOf st') (lo+k)<rk R (arrOf st') (lo+i)) ?istep ?ifin ?iinit) ?ipost);case iinit=>exact⟨rfl,0,k,rfl,%[|0],%[|0],%[|0],λ i P=>by omega,λ i u p=>by omega⟩
  case ifin=>
   rintro c a ⟨rfl,l,r,rfl,G,o,H,f,m⟩;obtain rfl:l=r:=%[|0]
   exact⟨rfl,l,l,rfl,o,f,m⟩
  case istep=>
   rintro x c a x1 x2 ⟨rfl,l,r,rfl,G,o,H,f,m⟩;dsimp only;by_cases g:l≥r
   . rw[if_pos g];obtain rfl:l=r:=%[|0]
     exact wpS_pure ⟨rfl,l,l,rfl,o,f,m⟩
   . rw [if_neg g];refine wpS_bind (mQ v d %[|0] %[|0] ?_);dsimp only;by_cases c:rk R (arrOf a) (lo+k)<rk R (arrOf a) (lo+(l+r)/2);{rw[ZG c,if_pos rfl];refine wpS_pure ⟨rfl,l,(l+r)/2,rfl,%[|0],%[|0],%[|0],f,λ i y N=>?_⟩;by_cases e:i=(l+r)/2;{rw[e];exact c};{exact Nat.lt_trans c (b _ _ %[|0] %[|0] %[|0])}}
     . rw[ZH c,if_neg y9];have X:rk R (arrOf a) (lo+k)≠rk R (arrOf a) (lo+(l+r)/2):=λ e=>by have:=rA v d.perm %[|0] %[|0] e;omega
       refine wpS_pure ⟨rfl,(l+r)/2+1,r,rfl,%[|0],%[|0],%[|0],λ i y=>?_,m⟩;by_cases e:i=(l+r)/2;{rw[e];omega};{exact Nat.lt_trans (b (lo+i) (lo+(l+r)/2) %[|0] %[|0] %[|0]) %[|0]}
  case ipost =>rintro c a ⟨rfl,l,r,rfl,o,f,m⟩;dsimp only;rw[moveDown'_eq];refine wpS_bind (wpS_modify (wpS_pure ⟨rfl,d.arr (bubble_perm _ _ _),K.trans ⟨λ j S=>?_,rfl⟩,?_⟩));{have e:=getElem?_bubble (xs:=arrOf a) (src:=lo+k) %[|0] (lo+k-(lo+l)) %[|0] j;rw[if_neg %[|0],if_neg %[|0]]at e;exact e};{intro i j y N U;show rk R (bubble (arrOf a) (lo+k) (lo+k-(lo+l))) i<rk R (bubble (arrOf a) (lo+k) (lo+k-(lo+l))) j;rw[vm %[|0] %[|0],vm %[|0] %[|0],show lo+k-(lo+k-(lo+l))=lo+l by omega];by_cases B:i=lo+l;{rw[if_pos B,if_neg %[|0],if_pos %[|0]];have:=m (j-1-lo) %[|0] %[|0];rw[show lo+(j-1-lo)=j-1 by omega]at this;exact this};{rw [if_neg B];by_cases C:j=lo+l;{rw[if_pos C,if_neg %[|0]];have:=f (i-lo) %[|0];rw[show lo+(i-lo)=i by omega]at this;exact this};{rw [if_neg C];by_cases D:lo+l<i;{rw[if_pos ⟨D,%[|0]⟩,if_pos ⟨%[|0],%[|0]⟩];exact b _ _ %[|0] %[|0] %[|0]};{rw[if_neg (λ z=>D z.1)];by_cases F:lo+l<j;{rw[if_pos ⟨F,%[|0]⟩];by_cases Y:i=j-1;{exfalso;omega};{exact b _ _ %[|0] %[|0] %[|0]}};{rw[if_neg (λ z=>F z.1)];exact b _ _ %[|0] %[|0] %[|0]}}}}}
def FN:Bool->Keyed->Array Keyed->Nat->Nat->Nat->StateT SortSt Sem (Option Nat):=sortPriv% PySem.Builtin.gallop
def byd(R:Keyed->Nat)(left:Bool)(key:Keyed)(arr:Array Keyed)(i:Nat):Bool:=if left=true then decide (rk R arr i<R key)else !decide (R key<rk R arr i)
theorem m7(g:Asks prog w A E s κ R a₀)(k:kindOf st=κ){b:Bool}{c:Keyed}{a:Array Keyed}{j:Nat}(e:c∈a₀.toList)(d:∀i,(h:i<a.size)->a[i]∈a₀.toList)(f:j<a.size){Q:Option Bool->SortSt->Prop}(h:Q (some (byd R b c a j)) st):
 wpS (model prog w) A E s (do
  let x ←elem' a j
  if b=true then lt' x c else do
   let r ←lt' c x
   pure (r.map (!·))) Q st:=by
 refine wpS_bind (aQ f ?_);unfold byd at h;rw[aL f]at h
 cases b with
 | true=>rw[if_pos rfl]at h ⊢;exact g.ask (d j f) e k h
 | false=>rw[if_neg y9]at h ⊢;exact wpS_bind (g.ask e (d j f) k (wpS_pure h))
theorem Le{a:Bool}{c:Keyed}{b:Array Keyed}{lo hi i j:Nat}(d:Asc R b lo hi)(h1:lo≤i)(h2:i<j)(e:j<hi)(h:byd R a c b j=true):byd R a c b i=true:=by
 have:=d i j h1 h2 e;unfold byd at*
 cases a with
 | true=>rw[if_pos rfl]at*;have:=ZF h;exact ZG %[|0]
 | false=>rw[if_neg y9]at*;have h:=of_decide_eq_false (by simpa using h:decide (R c<rk R b j)=false);rw[ZH %[|0]];rfl
theorem dU(L:Asks prog w A E s κ R a₀)(M:kindOf st=κ){b:Bool}{f:Keyed}{d:Array Keyed}{base n hint:Nat}(y:f∈a₀.toList)(v:∀i,(h:i<d.size)->d[i]∈a₀.toList)(hb:base+n≤d.size)(hh:hint<n)(P:Asc R d base (base+n)){Q:Option Nat->SortSt->Prop}
 (h:∀k,k≤n->(∀i,i<k->byd R b f d (base+i)=true)->(∀i,k≤i->i<n->byd R b f d (base+i)=false)->Q (some k) st):wpS (model prog w) A E s (FN b f d base n hint) Q st:=by
 have u:∀i j,i≤j->j<n->byd R b f d (base+j)=true->byd R b f d (base+i)=true:=λ i j X Y K=>by by_cases e:i=j;{rw[e];exact K};{exact Le P %[|0] (%[|0]:base+i<base+j) %[|0] K}
 have N:∀i j,i≤j->j<n->byd R b f d (base+i)=false->byd R b f d (base+j)=false:=λ i j X Y K=>by
  cases e:byd R b f d (base+j)with
  | false=>rfl
  | true=>rw[u i j X Y e]at K;cases K
 unfold FN;refine wpS_bind (m7 L M y v %[|0] ?_);dsimp only
 cases W:byd R b f d (base+hint)with
 | true =>
   rw[if_pos rfl];refine wpS_bind (wpS_mono (wpS_forRange (a:=0) (I:=λ x c q=>q=st/\∃p o,c=(none,p,o)/\p<o/\hint+p<n/\x<o/\byd R b f d (base+(hint+p))=true)
    (Q:=λ c q=>q=st/\∃p o,c=(none,p,o)/\p<o/\hint+p<n/\byd R b f d (base+(hint+p))=true/\(n-hint≤o∨(o<n-hint/\byd R b f d (base+(hint+o))=false))) ?step ?fin ⟨rfl,0,1,rfl,%[|0],%[|0],%[|0],W⟩) ?post);case fin=>rintro c q ⟨rfl,p,o,rfl,F,D,G,t⟩;exact⟨rfl,p,o,rfl,F,D,t,.inl %[|0]⟩
   case step=>
    rintro x c q U V ⟨rfl,p,o,rfl,F,D,G,t⟩;dsimp only;by_cases g:o≥n-hint;{rw[if_pos g];exact wpS_pure ⟨rfl,p,o,rfl,F,D,t,.inl g⟩}
    . rw[if_neg g];refine wpS_bind (m7 L M y v %[|0] ?_);dsimp only
      cases e:byd R b f d (base+(hint+o))with
      | false=>rw[if_pos (show(!false)=true by decide)];exact wpS_pure ⟨rfl,p,o,rfl,F,D,t,.inr ⟨%[|0],e⟩⟩
      | true=>rw[if_neg %[|3]];exact wpS_pure ⟨rfl,o,2*o+1,rfl,%[|0],%[|0],%[|0],e⟩
   case post=>
    rintro c q ⟨rfl,p,o,rfl,F,D,G,t⟩;dsimp only;refine wpS_bind (wpS_mono (wpS_forRange (a:=0) (I:=λ x c r=>r=q/\∃l m,c=(none,l,m)/\l≤m/\m≤n/\m-l≤n-x/\(∀i,i<l->byd R b f d (base+i)=true)/\∀i,m≤i->i<n->byd R b f d (base+i)=false)
     (Q:=λ c r=>r=q/\∃l m,c=(none,l,m)/\m≤n/\(∀i,i<m->byd R b f d (base+i)=true)/\∀i,m≤i->i<n->byd R b f d (base+i)=false) ?fstep ?ffin ?finit) ?fpost);case finit=>refine⟨rfl,hint+p+1,hint+min o (n-hint),rfl,%[|0],%[|0],%[|0],λ i m=>u i (hint+p) %[|0] D G,λ i J H=>?_⟩;rcases t with t | ⟨t,O⟩;{omega};{exact N (hint+o) i %[|0] H O}
    case ffin=>
     rintro c r ⟨rfl,l,m,rfl,S,z,T,B,C⟩;obtain rfl:l=m:=%[|0]
     exact⟨rfl,l,l,rfl,z,B,C⟩
    case fstep=>
     rintro x c r U V ⟨rfl,l,m,rfl,S,z,T,B,C⟩;dsimp only;by_cases g:l≥m
     . rw[if_pos g];obtain rfl:l=m:=%[|0]
       exact wpS_pure ⟨rfl,l,l,rfl,z,B,C⟩
     . rw[if_neg g];refine wpS_bind (m7 L M y v %[|0] ?_);dsimp only
       cases e:byd R b f d (base+(l+(m-l)/2))with
       | true=>rw[if_pos rfl];exact wpS_pure ⟨rfl,l+(m-l)/2+1,m,rfl,%[|0],z,%[|0],λ i Z=>u i (l+(m-l)/2) %[|0] %[|0] e,C⟩
       | false=>rw[if_neg y9];exact wpS_pure ⟨rfl,l,l+(m-l)/2,rfl,%[|0],%[|0],%[|0],B,λ i J H=>N (l+(m-l)/2) i J H e⟩
    case fpost=>rintro c r ⟨rfl,l,m,rfl,z,B,C⟩;exact wpS_pure (h m z B C)
 | false =>
   rw[if_neg y9];refine wpS_bind (wpS_mono (wpS_forRange (a:=0) (I:=λ x c q=>q=st/\∃p o,c=(none,p,o)/\p<o/\p≤hint/\x<o/\byd R b f d (base+(hint-p))=false)
    (Q:=λ c q=>q=st/\∃p o,c=(none,p,o)/\p<o/\p≤hint/\byd R b f d (base+(hint-p))=false/\(hint+1≤o∨(o<hint+1/\byd R b f d (base+(hint-o))=true))) ?gstep ?gfin ⟨rfl,0,1,rfl,%[|0],%[|0],%[|0],W⟩) ?gpost);case gfin=>rintro c q ⟨rfl,p,o,rfl,F,D,G,t⟩;exact⟨rfl,p,o,rfl,F,D,t,.inl %[|0]⟩
   case gstep=>
    rintro x c q U V ⟨rfl,p,o,rfl,F,D,G,t⟩;dsimp only;by_cases g:o≥hint+1;{rw[if_pos g];exact wpS_pure ⟨rfl,p,o,rfl,F,D,t,.inl g⟩}
    . rw[if_neg g];refine wpS_bind (m7 L M y v %[|0] ?_);dsimp only
      cases e:byd R b f d (base+(hint-o))with
      | true=>rw[if_pos rfl];exact wpS_pure ⟨rfl,p,o,rfl,F,D,t,.inr ⟨%[|0],e⟩⟩
      | false=>rw[if_neg y9];exact wpS_pure ⟨rfl,o,2*o+1,rfl,%[|0],%[|0],%[|0],e⟩
   case gpost=>
    rintro c q ⟨rfl,p,o,rfl,F,D,G,t⟩;dsimp only;refine wpS_bind (wpS_mono (wpS_forRange (a:=0) (I:=λ x c r=>r=q/\∃l m,c=(none,l,m)/\l≤m/\m≤n/\m-l≤n-x/\(∀i,i<l->byd R b f d (base+i)=true)/\∀i,m≤i->i<n->byd R b f d (base+i)=false)
     (Q:=λ c r=>r=q/\∃l m,c=(none,l,m)/\m≤n/\(∀i,i<m->byd R b f d (base+i)=true)/\∀i,m≤i->i<n->byd R b f d (base+i)=false) ?hstep ?hfin ?hinit) ?hpost);case hinit=>refine⟨rfl,hint+1-min o (hint+1),hint-p,rfl,%[|0],%[|0],%[|0],λ i m=>?_,λ i J H=>N (hint-p) i J H G⟩;rcases t with t | ⟨t,O⟩;{omega};{exact u i (hint-o) %[|0] %[|0] O}
    case hfin=>
     rintro c r ⟨rfl,l,m,rfl,S,z,T,B,C⟩;obtain rfl:l=m:=%[|0]
     exact⟨rfl,l,l,rfl,z,B,C⟩
    case hstep=>
     rintro x c r U V ⟨rfl,l,m,rfl,S,z,T,B,C⟩;dsimp only;by_cases g:l≥m
     . rw[if_pos g];obtain rfl:l=m:=%[|0]
       exact wpS_pure ⟨rfl,l,l,rfl,z,B,C⟩
     . rw[if_neg g];refine wpS_bind (m7 L M y v %[|0] ?_);dsimp only
       cases e:byd R b f d (base+(l+(m-l)/2))with
       | true=>rw[if_pos rfl];exact wpS_pure ⟨rfl,l+(m-l)/2+1,m,rfl,%[|0],z,%[|0],λ i Z=>u i (l+(m-l)/2) %[|0] %[|0] e,C⟩
       | false=>rw[if_neg y9];exact wpS_pure ⟨rfl,l,l+(m-l)/2,rfl,%[|0],%[|0],%[|0],B,λ i J H=>N (l+(m-l)/2) i J H e⟩
    case hpost=>rintro c r ⟨rfl,l,m,rfl,z,B,C⟩;exact wpS_pure (h m z B C)
end
abbrev UpL(R:Keyed->Nat)(l:List Keyed):Prop:=l.Pairwise λ x y=>R x<R y
section
variable {R : Keyed -> Nat}
theorem Ek{lo i d:List Keyed}{x y:Keyed}(h1:UpL R (lo++x::i))(h2:UpL R (lo++y::d))(h:R x<R y):UpL R (lo++[x]++y::d):=by unfold UpL at*;rw[List.append_assoc];rw[List.pairwise_append]at*;obtain⟨e,j,f⟩:=h1;obtain⟨k,b,g⟩:=h2;refine⟨e,?_,λ u c v a=>?_⟩;{refine List.pairwise_cons.mpr ⟨λ v a=>?_,b⟩;rcases ZJ.mp a with rfl | a;{exact h};{exact Nat.lt_trans h ((List.pairwise_cons.mp b).1 v a)}};{rcases ZJ.mp a with rfl | a;{exact f u c v w9};{exact g u c v a}}
theorem Bh{lo xs j d:List Keyed}{y:Keyed}(h1:UpL R (lo++(xs++j)))(h2:UpL R (lo++y::d))(h:∀x∈xs,R x<R y):UpL R (lo++xs++y::d):=by unfold UpL at*;rw[List.append_assoc];rw[List.pairwise_append]at*;obtain⟨e,f,g⟩:=h1;obtain⟨k,c,i⟩:=h2;refine⟨e,?_,λ u b v a=>?_⟩;{refine List.pairwise_append.mpr ⟨(List.pairwise_append.mp f).1,c,λ u b v a=>?_⟩;rcases ZJ.mp a with rfl | a;{exact h u b};{exact Nat.lt_trans (h u b) ((List.pairwise_cons.mp c).1 v a)}};{rcases ZK.mp a with a | a;{exact g u b v (List.mem_append_left _ a)};{exact i u b v a}}
structure Mg(R:Keyed->Nat)(la lb:List Keyed)(out:Array Keyed)(ia ib:Nat):Prop where
 pa:UpL R (out.toList++la.drop ia)
 pb:UpL R (out.toList++lb.drop ib)
 pm:out.toList.Perm (la.take ia++lb.take ib)
theorem bM{a:Type}{l:List a}{i:Nat}(h:i<l.length):l.drop i=l[i]::l.drop (i+1):=List.drop_eq_getElem_cons h
theorem nQ{a:Type}{l:List a}{i:Nat}(h:i<l.length):l.take (i+1)=l.take i++[l[i]]:=by rw[List.take_succ,y4 h];rfl
variable {la lb : List Keyed} {out : Array Keyed} {ia ib : Nat}
theorem Mg.pushA(m:Mg R la lb out ia ib)(hi:ia<la.length)(b:ib<lb.length)(h:R la[ia]<R lb[ib]):Mg R la lb (out.push la[ia]) (ia+1) ib:=by obtain⟨a,c,d⟩:=m;rw[bM hi]at a;rw[bM b]at c;refine⟨?_,?_,?_⟩;{rw[Array.toList_push,List.append_assoc];exact a};{rw[Array.toList_push,bM b];exact Ek a c h};{rw[Array.toList_push,nQ hi];refine(d.append_right _).trans ?_;rw[List.append_assoc,List.append_assoc];exact List.Perm.append_left _ List.perm_append_comm}
theorem Mg.pushB(m:Mg R la lb out ia ib)(hi:ia<la.length)(b:ib<lb.length)(h:R lb[ib]<R la[ia]):Mg R la lb (out.push lb[ib]) ia (ib+1):=by obtain⟨c,a,d⟩:=m;rw[bM hi]at c;rw[bM b]at a;refine⟨?_,?_,?_⟩;{rw[Array.toList_push,bM hi];exact Ek a c h};{rw[Array.toList_push,List.append_assoc];exact a};{rw[Array.toList_push,nQ b];refine(d.append_right _).trans ?_;rw[List.append_assoc]}
theorem kW{a:Type}(l:List a)(i k:Nat):l.drop i=(l.drop i).take k++l.drop (i+k):=by rw[←List.drop_drop,List.take_append_drop]
theorem j6{a:Type}(l:List a)(i k:Nat):l.take (i+k)=l.take i++(l.drop i).take k:=List.take_add
theorem Mg.blockA(m:Mg R la lb out ia ib){k:Nat}(b:ib<lb.length)(h:∀x∈(la.drop ia).take k,R x<R lb[ib]):Mg R la lb (out++((la.drop ia).take k).toArray) (ia+k) ib:=by
 obtain⟨a,c,d⟩:=m;rw[kW la ia k]at a;rw[bM b]at c;have e:(out++((la.drop ia).take k).toArray).toList=out.toList++(la.drop ia).take k:=by simp
 refine⟨?_,?_,?_⟩;{rw[e,List.append_assoc];exact a};{rw[e,bM b];exact Bh a c h};{rw[e,j6 la ia k];refine(d.append_right _).trans ?_;rw[List.append_assoc,List.append_assoc];exact List.Perm.append_left _ List.perm_append_comm}
theorem Mg.blockB(m:Mg R la lb out ia ib){k:Nat}(hi:ia<la.length)(h:∀x∈(lb.drop ib).take k,R x<R la[ia]):Mg R la lb (out++((lb.drop ib).take k).toArray) ia (ib+k):=by
 obtain⟨b,a,c⟩:=m;rw[bM hi]at b;rw[kW lb ib k]at a;have e:(out++((lb.drop ib).take k).toArray).toList=out.toList++(lb.drop ib).take k:=by simp
 refine⟨?_,?_,?_⟩;{rw[e,bM hi];exact Bh a b h};{rw[e,List.append_assoc];exact a};{rw[e,j6 lb ib k];refine(c.append_right _).trans ?_;rw[List.append_assoc]}
def Mgd(R:Keyed->Nat)(la lb:List Keyed)(m:Array Keyed):Prop:=UpL R m.toList/\m.toList.Perm (la++lb)
theorem Mg.endB(m:Mg R la lb out ia lb.length):Mgd R la lb (out++(la.drop ia).toArray++(lb.drop lb.length).toArray):=by
 obtain⟨a,c,b⟩:=m;have e:(out++(la.drop ia).toArray++(lb.drop lb.length).toArray).toList=out.toList++la.drop ia:=by simp
 unfold Mgd;rw[e];refine⟨a,(b.append_right _).trans ?_⟩;rw[List.take_length,List.append_assoc];refine(List.Perm.append_left _ List.perm_append_comm).trans ?_;rw[←List.append_assoc,List.take_append_drop]
theorem Mg.endA(m:Mg R la lb out la.length ib):Mgd R la lb (out++(la.drop la.length).toArray++(lb.drop ib).toArray):=by
 obtain⟨c,a,b⟩:=m;have e:(out++(la.drop la.length).toArray++(lb.drop ib).toArray).toList=out.toList++lb.drop ib:=by simp
 unfold Mgd;rw[e];refine⟨a,(b.append_right _).trans ?_⟩;rw[List.take_length,List.append_assoc,List.take_append_drop]
theorem Mg.last(m:Mg R la lb out ia ib)(hi:ia+1=la.length)(h:∀y∈lb,R y<R (la[ia]'%[|0])):Mgd R la lb (out++(lb.drop ib).toArray++(la.drop ia).toArray):=by
 obtain⟨p1,d,f⟩:=m;have b:la.drop ia=[la[ia]'%[|0]]:=by rw[bM %[|0],List.drop_eq_nil_of_le %[|0]]
 have e:(out++(lb.drop ib).toArray++(la.drop ia).toArray).toList=out.toList++lb.drop ib++la.drop ia:=by simp
 unfold Mgd;rw[e];constructor;{rw[b]at p1 ⊢;unfold UpL at*;rw[List.pairwise_append]at p1 ⊢;refine⟨d,List.pairwise_singleton _ _,λ u a v c=>?_⟩;rw[ZL.mp c];rcases ZK.mp a with a | a;{exact p1.2.2 u a _ (ZL.mpr rfl)};{exact h u (List.mem_of_mem_drop a)}};{refine((f.append_right _).append_right _).trans ?_;rw[List.append_assoc (la.take ia),List.take_append_drop];rw[List.append_assoc];refine(List.Perm.append_left _ List.perm_append_comm).trans ?_;rw[←List.append_assoc,List.take_append_drop]}
end
def zg:Array Keyed->Array Keyed->StateT SortSt Sem (Array Keyed):=sortPriv% PySem.Builtin.mergeLo
section
variable {prog : Program} {w : World} {A : Around} {E : Value -> Shared -> Prop} {s : Shared} {κ : SortKind} {R : Keyed -> Nat} {a₀ : Array Keyed} {st : SortSt}
structure Gk(st st':SortSt):Prop where
 kind:kindOf st'=kindOf st
 arr:arrOf st'=arrOf st
 pend:pendingOf st'=pendingOf st
 fail:failedOf st'=failedOf st
theorem Gk.refl(st:SortSt):Gk st st:=⟨rfl,rfl,rfl,rfl⟩
theorem Gk.set{st a:SortSt}(h:Gk st a)(g:Nat):Gk st (SortSt.mk' (kindOf a) (arrOf a) (pendingOf a) g (failedOf a)):=⟨h.kind,h.arr,h.pend,h.fail⟩
variable {M : Model} {σ : Type}
theorem cT{b c:Type}{st:σ}{v:c}{a:c->StateT σ Sem b}{Q:b->σ->Prop}(h:wpS M A E s (a v) Q st):wpS M A E s (have x:=v;a x) Q st:=h
theorem Iw{d a b:Type}{st:σ}{c:Prop}[Decidable c]{g:a->b->StateT σ Sem d}{u u':a}{m e:b}{Q:d->σ->Prop}(h:∀u m,wpS M A E s (g u m) Q st):wpS M A E s (if c then g u m else g u' e) Q st:=by split<;>exact h _ _
theorem xj{d e b c:Type}{st:σ}(g:e->b->c->StateT σ Sem d)(H:b->c->Prop){a:StateT σ Sem d}{Q:d->σ->Prop}(h:∀u o i,H o i->wpS M A E s (g u o i) Q st)(f:(∀u o i,H o i->wpS M A E s (g u o i) Q st)->wpS M A E s a Q st):wpS M A E s a Q st:=f h
theorem fD(a:Array Keyed)(i:Nat):a.extract i a.size=(a.toList.drop i).toArray:=by apply Array.toList_inj.mp;simp;exact List.take_of_length_le (by simp)
theorem yq(a:Array Keyed)(i k:Nat):a.extract i (i+k)=((a.toList.drop i).take k).toArray:=by apply Array.toList_inj.mp;simp
theorem sG{a:Array Keyed}(h:UpL R a.toList){lo hi:Nat}(hh:hi≤a.size):Asc R a lo hi:=λ i j c b d=>by rw[aL %[|0],aL %[|0]];exact List.pairwise_iff_getElem.mp h i j (by simp;omega) (by simp;omega) b
theorem iJ{a:Array Keyed}{base k:Nat}{x:Keyed}(e:x∈(a.toList.drop base).take k):∃i,i<k/\∃h:base+i<a.size,x=a[base+i]:=by obtain⟨i,b⟩:=ZR e;have d:=(z0.mp b).1;rw[List.length_take,List.length_drop,Array.length_toList]at d;rw[List.getElem?_take_of_lt %[|0],List.getElem?_drop]at b;obtain⟨f,c⟩:=z0.mp b;exact⟨i,%[|0],%[|0],by rw[←c];rfl⟩
theorem V9 (hA:Asks prog w A E s κ R a₀)(hk:kindOf st=κ){a b:Array Keyed}(ma:∀i,(h:i<a.size)->a[i]∈a₀.toList)(mb:∀i,(h:i<b.size)->b[i]∈a₀.toList)(ua:UpL R a.toList)(ub:UpL R b.toList)(na:0<a.size)(nb:0<b.size)(h0:R b[0]<R a[0])(hl:∀y∈b.toList,R y<R a[a.size-1])(Z:∀x∈a.toList,∀y∈b.toList,R x≠R y){Q:Array Keyed->SortSt->Prop}
 (h:∀m st',Gk st st'->Mgd R a.toList b.toList m->Q m st'):wpS (model prog w) A E s (zg a b) Q st:=by
 have m0:Mg R a.toList b.toList #[b[0]] 0 1:=by have z:Mg R a.toList b.toList #[] 0 0:=⟨by simpa using ua,by simpa using ub,by simp⟩;exact z.pushB (by simpa using na) (by simpa using nb) h0
 have la:a.toList.length=a.size:=Array.length_toList;have lb:b.toList.length=b.size:=Array.length_toList;have C:∀{l:Array Keyed}{f d:Nat},Mg R a.toList b.toList l f d->f+1=a.size->Mgd R a.toList b.toList (l++b.extract d b.size++a.extract f a.size):=λ{l f d} m e=>by
  rw[fD,fD];refine m.last %[|0] λ y hy=>?_;have:=hl y hy;have K:a.size-1=f:=%[|0]
  simpa[K]using this
 have B:∀{l:Array Keyed}{f d:Nat},Mg R a.toList b.toList l f d->d=b.size->Mgd R a.toList b.toList (l++a.extract f a.size++b.extract d b.size):=λ{l f d} m e=>by
  rw[fD,fD];obtain rfl:d=b.toList.length:=%[|0]
  exact m.endB
 have T:∀{l:Array Keyed}{f d:Nat},Mg R a.toList b.toList l f d->f=a.size->Mgd R a.toList b.toList (l++a.extract f a.size++b.extract d b.size):=λ{l f d} m e=>by
  rw[fD,fD];obtain rfl:f=a.toList.length:=%[|0]
  exact m.endA
 unfold zg;refine wpS_bind (wpS_lift (wpAny_rule ⟨rfl,?_⟩));iterate 3 refine cT ?_
 refine wpS_bind (aQ nb ?_);iterate 3 refine cT ?_
 by_cases X:1=b.size;{rw[if_pos (by simpa using X)];exact wpS_pure (h _ _ (Gk.refl _) (B m0 X))};rw[if_neg (by simpa using X)];by_cases Y:0+1=a.size;{rw[if_pos (by simpa using Y)];exact wpS_pure (h _ _ (Gk.refl _) (C m0 Y))};rw[if_neg (by simpa using Y)];refine wpS_bind (wpS_get ?_);refine cT ?_;refine wpS_bind (wpS_mono (wpS_forRange (a:=0)
  (I:=λ x c st'=>Gk st st'/\∃l f d J,c=(none,l,f,d,J)/\Mg R a.toList b.toList l f d/\f+1<a.size/\d<b.size/\x≤f+d)
  (Q:=λ c st'=>Gk st st'/\∃m t,c=(some m,t)/\Mgd R a.toList b.toList m) ?step ?fin ⟨Gk.refl _,_,_,_,_,rfl,m0,%[|0],%[|0],%[|0]⟩) ?post);case fin=>rintro c st' ⟨_,l,f,d,J,rfl,m,P,S,i3⟩;omega
 case post=>rintro c st' ⟨g,m,t,rfl,V⟩;exact wpS_pure (h m st' g V)
 case step =>
  rintro x c st' x1 x2 ⟨gk,l,f,d,J,rfl,m,P,S,i3⟩;iterate 9 refine cT ?_
  refine wpS_bind (wpS_mono (wpS_forRange (a:=0)
   (I:=λ y c D=>D=st'/\∃l f d p v,c=(none,l,f,d,p,v)/\Mg R a.toList b.toList l f d/\f+1<a.size/\d<b.size/\x+y≤f+d)
   (Q:=λ c D=>D=st'/\∃r l f d p v,c=(r,l,f,d,p,v)/\((∃m,r=some m/\Mgd R a.toList b.toList m)∨(r=none/\Mg R a.toList b.toList l f d/\f+1<a.size/\d<b.size/\x+1≤f+d))) ?istep ?ifin ⟨rfl,l,f,d,0,0,rfl,m,P,S,%[|0]⟩) ?ipost);case ifin=>rintro c D ⟨rfl,l,f,d,p,v,rfl,m,G,n,M⟩;exact⟨rfl,_,_,_,_,_,_,rfl,.inr ⟨rfl,m,G,n,%[|0]⟩⟩
  case istep=>rintro y c D y1 y2 ⟨rfl,l,f,d,p,v,rfl,m,G,n,M⟩;dsimp only;refine wpS_bind (aQ n (wpS_bind (aQ (%[|0]:f<a.size) ?_)));refine wpS_bind (hA.ask (mb d n) (ma f %[|0]) (gk.kind.trans hk) ?_);dsimp only;by_cases c:R b[d]<R a[f];{rw [ZG c,if_pos rfl];refine wpS_bind (aQ n ?_);have H:=m.pushB %[|0] %[|0] c;by_cases e:d+1=b.size;{rw[if_pos (by simpa using e)];exact wpS_pure ⟨rfl,_,_,_,_,_,_,rfl,.inl ⟨_,rfl,B H e⟩⟩};{rw[if_neg (by simpa using e)];by_cases K:v+1≥J;{rw[if_pos K];exact wpS_pure ⟨rfl,_,_,_,_,_,_,rfl,.inr ⟨rfl,H,G,%[|0],%[|0]⟩⟩};{rw[if_neg K];exact wpS_pure ⟨rfl,_,_,_,_,_,rfl,H,G,%[|0],%[|0]⟩}}};{rw [ZH c,if_neg y9];refine wpS_bind (aQ (%[|0]:f<a.size) ?_);have ne:=Z a[f] (by simp) b[d] (by simp);have H:=m.pushA %[|0] %[|0] (show R a[f]<R b[d] by omega);by_cases e:f+1+1=a.size;{rw[if_pos (by simpa using e)];exact wpS_pure ⟨rfl,_,_,_,_,_,_,rfl,.inl ⟨_,rfl,C H e⟩⟩};{rw[if_neg (by simpa using e)];by_cases K:p+1≥J;{rw[if_pos K];exact wpS_pure ⟨rfl,_,_,_,_,_,_,rfl,.inr ⟨rfl,H,%[|0],n,%[|0]⟩⟩};{rw[if_neg K];exact wpS_pure ⟨rfl,_,_,_,_,_,rfl,H,%[|0],n,%[|0]⟩}}}
  case ipost=>
   rintro c D ⟨rfl,r,l,f,d,p,v,rfl,(⟨m,rfl,V⟩ | ⟨rfl,m,G,n,M⟩)⟩;{exact wpS_pure ⟨gk,m,_,rfl,V⟩}
   . iterate 10 refine cT ?_
     refine wpS_bind (wpS_lift (wpAny_rule ⟨rfl,?_⟩));refine cT ?_;refine wpS_bind (wpS_mono (wpS_forRange (a:=0)
      (I:=λ y c F=>Gk st F/\∃l f d J p v,c=(none,l,f,d,J,p,v)/\Mg R a.toList b.toList l f d/\f+1<a.size/\d<b.size/\x+1≤f+d)
      (Q:=λ c F=>Gk st F/\∃r l f d J p v,c=(r,l,f,d,J,p,v)/\((∃m,r=some m/\Mgd R a.toList b.toList m)∨(r=none/\Mg R a.toList b.toList l f d/\f+1<a.size/\d<b.size/\x+1≤f+d))) ?gstep ?gfin ⟨gk,l,f,d,_,p,v,rfl,m,G,n,M⟩) ?gpost);case gfin=>rintro c F ⟨O,l,f,d,J,p,v,rfl,m,G,n,M⟩;exact⟨O,_,_,_,_,_,_,_,rfl,.inr ⟨rfl,m,G,n,M⟩⟩
     case gpost=>rintro c F ⟨O,r,l,f,d,J,p,v,rfl,(⟨m,rfl,V⟩ | ⟨rfl,m,G,n,M⟩)⟩;{exact wpS_pure ⟨O,m,_,rfl,V⟩};{refine wpS_bind (wpS_modify (wpS_pure ⟨O.set _,l,f,d,_,rfl,m,G,n,M⟩))}
     case gstep =>
      rintro y c F y1 y2 ⟨O,l,f,d,J,p,v,rfl,m,G,n,M⟩;have p1:f+(a.size-f)≤a.size:=%[|0]
      have p2:0<a.size-f:=%[|0]
      dsimp-zeta only;extract_lets z1 z2 z3 z4 z5 z6 z7 z8 z9 z10 z11 zi jp mg1;refine Iw (g:=jp) (u:=()) (u':=()) λ u ad=>?_;refine wpS_bind (wpS_modify ?_);have L:=O.set ad;refine wpS_bind (aQ n ?_);refine wpS_bind (dU hA (L.kind.trans hk) (mb d n) ma (by show f+(a.size-f)≤a.size;omega) (by show 0<a.size-f;omega) (sG ua (by show f+(a.size-f)≤a.size;omega)) λ k k1 k2 k3=>?_);dsimp-zeta only;extract_lets ac2 y1 y2 y3;have k1:k≤a.size-f:=k1;have ka:∀x∈(a.toList.drop f).take k,R x<R b[d]:=by intro x hx;obtain⟨i,P,S,rfl⟩:=iJ hx;have q:=k2 i P;unfold byd at q;rw[if_neg y9,aL S]at q;have q:=of_decide_eq_false (by simpa using q:decide (R b[d]<R a[f+i])=false);have:=Z a[f+i] (by simp) b[d] (by simp);omega
      have kz:k<a.size-f->R b[d]<rk R a (f+k):=λ z=>by have q:=k3 k (x6 _) z;unfold byd at q;rw[if_neg y9]at q;exact ZF (by simpa using q)
      refine xj y1 (λ o i=>Mg R a.toList b.toList o i d/\i+1<a.size/\R b[d]<rk R a i/\x+1≤i+d) (λ u o i aa=>?_) (λ U=>?_)
      . obtain ⟨mo,n1,n2,n3⟩:=aa;rw[aL %[|0]]at n2;refine wpS_bind (aQ n ?_);extract_lets o2 ii;have m3:=mo.pushB %[|0] %[|0] n2;by_cases e:d+1=b.size;{rw[if_pos (show(zi==b.size)=true from by show(d+1==b.size)=true;simpa using e)];exact wpS_pure ⟨L,_,_,_,_,_,_,_,rfl,.inl ⟨_,rfl,B m3 e⟩⟩}
        . rw [if_neg (show ¬(zi==b.size)=true from by show ¬(d+1==b.size)=true;simpa using e)];refine wpS_bind (aQ (%[|0]:i<a.size) ?_);refine wpS_bind (dU hA (L.kind.trans hk) (ma i %[|0]) mb (by show d+1+(b.size-(d+1))≤b.size;omega) (by show 0<b.size-(d+1);omega) (sG ub (by show d+1+(b.size-(d+1))≤b.size;omega)) λ k' l1 l2 l3=>?_);dsimp-zeta only;extract_lets bc2 yi y5 y6;have l1:k'≤b.size-(d+1):=l1;have kb:∀x∈(b.toList.drop (d+1)).take k',R x<R a[i]:=by intro x hx;obtain⟨i',P,S,rfl⟩:=iJ hx;have q:=l2 i' P;unfold byd at q;rw[if_pos rfl]at q;have q:=ZF q;have q:rk R b (d+1+i')<R a[i]:=q;rw[aL S]at q;exact q
          have ky:k'<b.size-(d+1)->rk R a i<rk R b (d+1+k'):=λ z=>by
           have q:=l3 k' (x6 _) z;unfold byd at q;rw[if_pos rfl]at q;have q:=of_decide_eq_false q;have q:¬rk R b (d+1+k')<R a[i]:=q;have hz:d+1+k'<b.size:=%[|0]
           rw[aL hz]at q ⊢;rw[aL (%[|0]:i<a.size)];have:=Z a[i] (by simp) b[d+1+k'] (by simp);omega
          refine xj yi (λ o j=>Mg R a.toList b.toList o i j/\j<b.size/\rk R a i<rk R b j/\x+1≤i+j) (λ u o j ab=>?_) (λ U=>?_);{obtain⟨m5,r1,r2,r3⟩:=ab;rw[aL %[|0],aL r1]at r2;refine wpS_bind (aQ (%[|0]:i<a.size) ?_);extract_lets o3;have m6:=m5.pushA %[|0] %[|0] r2;by_cases N:i+1+1=a.size;{rw[if_pos (show(ii+1==a.size)=true from by show(i+1+1==a.size)=true;simpa using N)];exact wpS_pure ⟨L,_,_,_,_,_,_,_,rfl,.inl ⟨_,rfl,C m6 N⟩⟩};{rw[if_neg (show ¬(ii+1==a.size)=true from by show ¬(i+1+1==a.size)=true;simpa using N)];split;{exact wpS_pure ⟨L,_,_,_,_,_,_,_,rfl,.inr ⟨rfl,m6,%[|0],r1,%[|0]⟩⟩};{exact wpS_pure ⟨L,_,_,_,_,_,_,rfl,m6,%[|0],r1,%[|0]⟩}}}
          . have m4:=m3.blockB (k:=k') %[|0] kb;rw[←yq]at m4;by_cases W:k'>0;{rw[if_pos W];by_cases N:d+1+k'=b.size;{rw[if_pos (show(y6==b.size)=true from by show(d+1+k'==b.size)=true;simpa using N)];exact wpS_pure ⟨L,_,_,_,_,_,_,_,rfl,.inl ⟨_,rfl,B m4 N⟩⟩};{rw[if_neg (show ¬(y6==b.size)=true from by show ¬(d+1+k'==b.size)=true;simpa using N)];exact U () _ _ ⟨m4,by show d+1+k'<b.size;omega,ky %[|0],by show x+1≤i+(d+1+k');omega⟩}}
            . rw[if_neg W];obtain rfl:k'=0:=%[|0]
              exact U () _ _ ⟨m3,by show d+1<b.size;omega,ky %[|0],by show x+1≤i+(d+1);omega⟩
      . have H:=m.blockA (k:=k) %[|0] ka;rw[←yq]at H;by_cases W:k>0;{rw [if_pos W];by_cases e:f+k+1=a.size;{rw[if_pos (show(y3+1==a.size)=true from by show(f+k+1==a.size)=true;simpa using e)];exact wpS_pure ⟨L,_,_,_,_,_,_,_,rfl,.inl ⟨_,rfl,C H e⟩⟩};{rw[if_neg (show ¬(y3+1==a.size)=true from by show ¬(f+k+1==a.size)=true;simpa using e)];by_cases K:f+k=a.size;{rw[if_pos (show(y3==a.size)=true from by show(f+k==a.size)=true;simpa using K)];exact wpS_pure ⟨L,_,_,_,_,_,_,_,rfl,.inl ⟨_,rfl,T H K⟩⟩};{rw[if_neg (show ¬(y3==a.size)=true from by show ¬(f+k==a.size)=true;simpa using K)];exact U () _ _ ⟨H,by show f+k+1<a.size;omega,kz %[|0],by show x+1≤f+k+d;omega⟩}}}
        . rw[if_neg W];obtain rfl:k=0:=%[|0]
          exact U () _ _ ⟨m,G,kz %[|0],M⟩
end
variable {n : Nat}
section
variable {R : Keyed -> Nat}
structure Mh(R:Keyed->Nat)(la lb:List Keyed)(out:Array Keyed)(na nb:Nat):Prop where
 pa:UpL R (la.take na++out.toList.reverse)
 pb:UpL R (lb.take nb++out.toList.reverse)
 pm:out.toList.Perm (la.drop na++lb.drop nb)
theorem Eh{i d hi:List Keyed}{x y:Keyed}(h1:UpL R (i++[x]++hi))(h2:UpL R (d++[y]++hi))(h:R y<R x):UpL R (d++[y]++x::hi):=by unfold UpL at*;rw[List.pairwise_append]at*;obtain⟨j,e,f⟩:=h1;obtain⟨c,k,g⟩:=h2;refine⟨c,List.pairwise_cons.mpr ⟨λ v b=>f x (by simp) v b,e⟩,λ u a v b=>?_⟩;rcases ZJ.mp b with rfl | b;{rcases ZK.mp a with a | a;{exact Nat.lt_trans ((List.pairwise_append.mp c).2.2 u a y (by simp)) h};{rw[ZL.mp a];exact h}};{exact g u a v b}
theorem Bv{g xs d hi:List Keyed}{y:Keyed}(h1:UpL R (g++xs++hi))(h2:UpL R (d++[y]++hi))(h:∀x∈xs,R y<R x):UpL R (d++[y]++(xs++hi)):=by unfold UpL at*;rw[List.append_assoc]at h1;rw[List.pairwise_append]at*;obtain⟨i,e,j⟩:=h1;obtain⟨c,k,f⟩:=h2;refine⟨c,e,λ u a v b=>?_⟩;rcases ZK.mp b with b | b;{rcases ZK.mp a with a | a;{exact Nat.lt_trans ((List.pairwise_append.mp c).2.2 u a y (by simp)) (h v b)};{rw[ZL.mp a];exact h v b}};{exact f u a v b}
theorem cA{l:List Keyed}(a:0<n)(h:n≤l.length):l.take n=l.take (n-1)++[l[n-1]'%[|0]]:=by have:=nQ (l:=l) (i:=n-1) %[|0];rwa[show n-1+1=n by omega]at this
theorem xP{l:List Keyed}(a:0<n)(h:n≤l.length):l.drop (n-1)=l[n-1]'%[|0]::l.drop n:=by have:=bM (l:=l) (i:=n-1) %[|0];rwa[show n-1+1=n by omega]at this
variable {la lb : List Keyed} {out : Array Keyed} {na nb : Nat}
theorem jZ(x:Keyed):(out.push x).toList.reverse=x::out.toList.reverse:=by simp
theorem Mh.pushA(m:Mh R la lb out na nb)(h1:0<na)(h2:na≤la.length)(b:0<nb)(c:nb≤lb.length)(h:R (lb[nb-1]'%[|0])<R (la[na-1]'%[|0])):Mh R la lb (out.push (la[na-1]'%[|0])) (na-1) nb:=by obtain⟨e,f,g⟩:=m;have a:=e;have d:=f;rw[cA h1 h2]at a;rw[cA b c]at d;refine⟨?_,?_,?_⟩;{rw[jZ];rw[List.append_assoc]at a;exact a};{rw[jZ,cA b c];exact Eh a d h};{rw[Array.toList_push,xP h1 h2];exact(List.perm_append_singleton _ _).trans (g.cons _)}
theorem Mh.pushB(m:Mh R la lb out na nb)(h1:0<na)(h2:na≤la.length)(b:0<nb)(c:nb≤lb.length)(h:R (la[na-1]'%[|0])<R (lb[nb-1]'%[|0])):Mh R la lb (out.push (lb[nb-1]'%[|0])) na (nb-1):=by obtain⟨e,f,g⟩:=m;have d:=e;have a:=f;rw[cA h1 h2]at d;rw[cA b c]at a;refine⟨?_,?_,?_⟩;{rw[jZ,cA h1 h2];exact Eh a d h};{rw[jZ];rw[List.append_assoc]at a;exact a};{rw[Array.toList_push,xP b c];exact(List.perm_append_singleton _ _).trans ((g.cons _).trans List.perm_middle.symm)}
theorem qe{l:List Keyed}{m:Nat}(h:m≤n):l.take n=l.take m++(l.drop m).take (n-m):=by have:=j6 l m (n-m);rwa[show m+(n-m)=n by omega]at this
theorem qz{l:List Keyed}{m:Nat}(h:m≤n):l.drop m=(l.drop m).take (n-m)++l.drop n:=by have:=kW l m (n-m);rwa[show m+(n-m)=n by omega]at this
theorem iY(xs:List Keyed):(out++xs.toArray.reverse).toList.reverse=xs++out.toList.reverse:=by simp
theorem Mh.blockA(m:Mh R la lb out na nb){t:Nat}(d:t≤na)(b:0<nb)(c:nb≤lb.length)(h:∀x∈(la.drop t).take (na-t),R (lb[nb-1]'%[|0])<R x):Mh R la lb (out++((la.drop t).take (na-t)).toArray.reverse) t nb:=by
 obtain⟨g,i,j⟩:=m;have a:=g;have f:=i;rw[qe d]at a;rw[cA b c]at f;refine⟨?_,?_,?_⟩;{rw[iY];rw[List.append_assoc]at a;exact a};{rw[iY,cA b c];exact Bv a f h}
 . have e:(out++((la.drop t).take (na-t)).toArray.reverse).toList=out.toList++((la.drop t).take (na-t)).reverse:=by simp
   rw[e];refine(List.perm_append_comm.trans (List.Perm.append (List.reverse_perm _) j)).trans ?_;rw[←List.append_assoc,←qz d]
theorem Mh.blockB(m:Mh R la lb out na nb){t:Nat}(b:t≤nb)(h1:0<na)(h2:na≤la.length)(h:∀x∈(lb.drop t).take (nb-t),R (la[na-1]'%[|0])<R x):Mh R la lb (out++((lb.drop t).take (nb-t)).toArray.reverse) na t:=by
 obtain⟨d,f,g⟩:=m;have c:=d;have a:=f;rw[cA h1 h2]at c;rw[qe b]at a;refine⟨?_,?_,?_⟩;{rw[iY,cA h1 h2];exact Bv a c h};{rw[iY];rw[List.append_assoc]at a;exact a}
 . have e:(out++((lb.drop t).take (nb-t)).toArray.reverse).toList=out.toList++((lb.drop t).take (nb-t)).reverse:=by simp
   rw[e];refine(List.perm_append_comm.trans (List.Perm.append (List.reverse_perm _) g)).trans ?_;refine(List.perm_append_comm_assoc _ _ _).trans ?_;rw[←qz b]
theorem Mh.endA(m:Mh R la lb out 0 nb):Mgd R la lb ((la.take 0).toArray++(lb.take nb).toArray++out.reverse):=by
 obtain⟨c,a,b⟩:=m;have e:((la.take 0).toArray++(lb.take nb).toArray++out.reverse).toList=lb.take nb++out.toList.reverse:=by simp
 unfold Mgd;rw[e];refine⟨a,?_⟩;refine(List.Perm.append_left _ ((List.reverse_perm _).trans b)).trans ?_;rw[List.drop_zero];refine(List.perm_append_comm_assoc _ _ _).trans ?_;rw[List.take_append_drop]
theorem Mh.endB(m:Mh R la lb out na 0):Mgd R la lb ((la.take na).toArray++(lb.take 0).toArray++out.reverse):=by
 obtain⟨a,c,b⟩:=m;have e:((la.take na).toArray++(lb.take 0).toArray++out.reverse).toList=la.take na++out.toList.reverse:=by simp
 unfold Mgd;rw[e];refine⟨a,?_⟩;refine(List.Perm.append_left _ ((List.reverse_perm _).trans b)).trans ?_;rw[List.drop_zero,←List.append_assoc,List.take_append_drop]
theorem Mh.first(m:Mh R la lb out na 1)(d:0<lb.length)(h:∀x∈la,R lb[0]<R x):Mgd R la lb ((lb.take 1).toArray++(la.take na).toArray++out.reverse):=by
 obtain⟨f,b,g⟩:=m;have e:((lb.take 1).toArray++(la.take na).toArray++out.reverse).toList=lb.take 1++(la.take na++out.toList.reverse):=by simp
 have c:lb.take 1=[lb[0]]:=by rw[nQ (l:=lb) (i:=0) d];rfl
 unfold Mgd;rw[e];constructor;{rw[c,List.singleton_append]at b ⊢;unfold UpL at*;refine List.pairwise_cons.mpr ⟨λ v a=>?_,f⟩;rcases ZK.mp a with a | a;{exact h v (List.mem_of_mem_take a)};{exact(List.pairwise_cons.mp b).1 v a}};{refine(List.Perm.append_left _ (List.Perm.append_left _ ((List.reverse_perm _).trans g))).trans ?_;rw[←List.append_assoc (la.take na),List.take_append_drop];refine(List.perm_append_comm_assoc _ _ _).trans ?_;rw[List.take_append_drop]}
end
def Ce:Array Keyed->Array Keyed->StateT SortSt Sem (Array Keyed):=sortPriv% PySem.Builtin.mergeHi
section
variable {prog : Program} {w : World} {A : Around} {E : Value -> Shared -> Prop} {s : Shared} {κ : SortKind} {R : Keyed -> Nat} {a₀ : Array Keyed} {st : SortSt}
theorem gF(a:Array Keyed)(i:Nat):a.extract 0 i=(a.toList.take i).toArray:=by apply Array.toList_inj.mp;simp
theorem nJ(a:Array Keyed)(i j:Nat):a.extract i j=((a.toList.drop i).take (j-i)).toArray:=by apply Array.toList_inj.mp;simp
theorem Vv (hA:Asks prog w A E s κ R a₀)(hk:kindOf st=κ){a b:Array Keyed}(ma:∀i,(h:i<a.size)->a[i]∈a₀.toList)(mb:∀i,(h:i<b.size)->b[i]∈a₀.toList)(ua:UpL R a.toList)(ub:UpL R b.toList)(za:0<a.size)(zb:0<b.size)(h0:∀x∈a.toList,R b[0]<R x)(hl:R b[b.size-1]<R a[a.size-1])(dj:∀x∈a.toList,∀y∈b.toList,R x≠R y){Q:Array Keyed->SortSt->Prop}
 (h:∀m st',Gk st st'->Mgd R a.toList b.toList m->Q m st'):wpS (model prog w) A E s (Ce a b) Q st:=by
 have la:a.toList.length=a.size:=Array.length_toList;have lb:b.toList.length=b.size:=Array.length_toList;have m0:Mh R a.toList b.toList #[a[a.size-1]] (a.size-1) b.size:=by have z:Mh R a.toList b.toList #[] a.size b.size:=⟨by rw[←la,List.take_length];simpa using ua,by rw[←lb,List.take_length];simpa using ub,by rw[←la,←lb,List.drop_length,List.drop_length];simp⟩;exact z.pushA za %[|0] zb %[|0] hl
 have l:∀{f:Array Keyed}{k d:Nat},Mh R a.toList b.toList f k d->d=1->Mgd R a.toList b.toList (b.extract 0 d++a.extract 0 k++f.reverse):=λ{f k d} m e=>by subst e;rw[gF,gF];exact m.first %[|0] h0
 have C:∀{f:Array Keyed}{k d:Nat},Mh R a.toList b.toList f k d->k=0->Mgd R a.toList b.toList (a.extract 0 k++b.extract 0 d++f.reverse):=λ{f k d} m e=>by subst e;rw[gF,gF];exact m.endA
 have U:∀{f:Array Keyed}{k d:Nat},Mh R a.toList b.toList f k d->d=0->Mgd R a.toList b.toList (a.extract 0 k++b.extract 0 d++f.reverse):=λ{f k d} m e=>by subst e;rw[gF,gF];exact m.endB
 unfold Ce;refine wpS_bind (wpS_lift (wpAny_rule ⟨rfl,?_⟩));refine cT ?_;refine wpS_bind (aQ (by show a.size-1<a.size;omega) ?_);refine cT ?_;by_cases c1:a.size-1=0;{rw[if_pos (by simpa using c1)];exact wpS_pure (h _ _ (Gk.refl _) (C m0 c1))};rw[if_neg (by simpa using c1)];by_cases c2:b.size=1;{rw[if_pos (by simpa using c2)];exact wpS_pure (h _ _ (Gk.refl _) (l m0 c2))};rw[if_neg (by simpa using c2)];refine wpS_bind (wpS_get ?_);refine cT ?_;refine wpS_bind (wpS_mono (wpS_forRange (a:=0)
  (I:=λ x c st'=>Gk st st'/\∃k d f H,c=(none,k,d,f,H)/\Mh R a.toList b.toList f k d/\0<k/\k≤a.size/\1<d/\d≤b.size/\x+k+d≤a.size+b.size)
  (Q:=λ c st'=>Gk st st'/\∃m t,c=(some m,t)/\Mgd R a.toList b.toList m) ?step ?fin ⟨Gk.refl _,_,_,_,_,rfl,m0,%[|0],%[|0],%[|0],%[|0],%[|0]⟩) ?post);case fin=>rintro c st' ⟨_,k,d,f,H,rfl,m,Z,S,i3,i4,i5⟩;omega
 case post=>rintro c st' ⟨g,m,t,rfl,W⟩;exact wpS_pure (h m st' g W)
 case step =>
  rintro x c st' x1 x2 ⟨gk,k,d,f,H,rfl,m,Z,S,i3,i4,i5⟩;refine cT ?_;refine wpS_bind (wpS_mono (wpS_forRange (a:=0)
   (I:=λ y c D=>D=st'/\∃k d f p v,c=(none,k,d,f,p,v)/\Mh R a.toList b.toList f k d/\0<k/\k≤a.size/\1<d/\d≤b.size/\x+y+k+d≤a.size+b.size)
   (Q:=λ c D=>D=st'/\∃r k d f p v,c=(r,k,d,f,p,v)/\((∃m,r=some m/\Mgd R a.toList b.toList m)∨(r=none/\Mh R a.toList b.toList f k d/\0<k/\k≤a.size/\1<d/\d≤b.size/\x+1+k+d≤a.size+b.size))) ?istep ?ifin ⟨rfl,k,d,f,0,0,rfl,m,Z,S,i3,i4,%[|0]⟩) ?ipost);case ifin=>rintro c D ⟨rfl,k,d,f,p,v,rfl,m,B,G,J,K,N⟩;exact⟨rfl,_,_,_,_,_,_,rfl,.inr ⟨rfl,m,B,G,J,K,%[|0]⟩⟩
  case istep=>rintro y c D y1 y2 ⟨rfl,k,d,f,p,v,rfl,m,B,G,J,K,N⟩;dsimp only;refine wpS_bind (aQ (%[|0]:d-1<b.size) (wpS_bind (aQ (%[|0]:k-1<a.size) ?_)));refine wpS_bind (hA.ask (mb (d-1) %[|0]) (ma (k-1) %[|0]) (gk.kind.trans hk) ?_);dsimp only;by_cases c:R b[d-1]<R a[k-1];{rw [ZG c,if_pos rfl];refine wpS_bind (aQ (%[|0]:k-1<a.size) ?_);have L:=m.pushA B %[|0] %[|0] %[|0] c;by_cases e:k-1=0;{rw[if_pos (by simpa using e)];exact wpS_pure ⟨rfl,_,_,_,_,_,_,rfl,.inl ⟨_,rfl,C L e⟩⟩};{rw[if_neg (by simpa using e)];by_cases T:p+1≥H;{rw[if_pos T];exact wpS_pure ⟨rfl,_,_,_,_,_,_,rfl,.inr ⟨rfl,L,%[|0],%[|0],J,K,%[|0]⟩⟩};{rw[if_neg T];exact wpS_pure ⟨rfl,_,_,_,_,_,rfl,L,%[|0],%[|0],J,K,%[|0]⟩}}};{rw [ZH c,if_neg y9];refine wpS_bind (aQ (%[|0]:d-1<b.size) ?_);have ne:=dj a[k-1] (by simp) b[d-1] (by simp);have L:=m.pushB B %[|0] %[|0] %[|0] (show R a[k-1]<R b[d-1] by omega);by_cases e:d-1=1;{rw[if_pos (by simpa using e)];exact wpS_pure ⟨rfl,_,_,_,_,_,_,rfl,.inl ⟨_,rfl,l L e⟩⟩};{rw[if_neg (by simpa using e)];by_cases T:v+1≥H;{rw[if_pos T];exact wpS_pure ⟨rfl,_,_,_,_,_,_,rfl,.inr ⟨rfl,L,B,G,%[|0],%[|0],%[|0]⟩⟩};{rw[if_neg T];exact wpS_pure ⟨rfl,_,_,_,_,_,rfl,L,B,G,%[|0],%[|0],%[|0]⟩}}}
  case ipost=>
   rintro c D ⟨rfl,r,k,d,f,p,v,rfl,(⟨m,rfl,W⟩ | ⟨rfl,m,B,G,J,K,N⟩)⟩;{exact wpS_pure ⟨gk,m,_,rfl,W⟩}
   . refine cT ?_;refine wpS_bind (wpS_lift (wpAny_rule ⟨rfl,?_⟩));refine cT ?_;refine wpS_bind (wpS_mono (wpS_forRange (a:=0)
      (I:=λ y c F=>Gk st F/\∃k d f H p v,c=(none,k,d,f,H,p,v)/\Mh R a.toList b.toList f k d/\0<k/\k≤a.size/\1<d/\d≤b.size/\x+1+k+d≤a.size+b.size)
      (Q:=λ c F=>Gk st F/\∃r k d f H p v,c=(r,k,d,f,H,p,v)/\((∃m,r=some m/\Mgd R a.toList b.toList m)∨(r=none/\Mh R a.toList b.toList f k d/\0<k/\k≤a.size/\1<d/\d≤b.size/\x+1+k+d≤a.size+b.size))) ?gstep ?gfin ⟨gk,k,d,f,_,p,v,rfl,m,B,G,J,K,N⟩) ?gpost);case gfin=>rintro c F ⟨P,k,d,f,H,p,v,rfl,m,B,G,J,K,N⟩;exact⟨P,_,_,_,_,_,_,_,rfl,.inr ⟨rfl,m,B,G,J,K,N⟩⟩
     case gpost=>rintro c F ⟨P,r,k,d,f,H,p,v,rfl,(⟨m,rfl,W⟩ | ⟨rfl,m,B,G,J,K,N⟩)⟩;{exact wpS_pure ⟨P,m,_,rfl,W⟩};{refine wpS_bind (wpS_modify (wpS_pure ⟨P.set _,k,d,f,_,rfl,m,B,G,J,K,N⟩))}
     case gstep =>
      rintro y c F y1 y2 ⟨P,k,d,f,H,p,v,rfl,m,B,G,J,K,N⟩;have p1:d-1<b.size:=%[|0]
      have p2:0+k≤a.size:=%[|0]
      have p3:k-1<k:=%[|0]
      have p4:0+(d-1)≤b.size:=%[|0]
      have p5:d-1-1<d-1:=%[|0]
      have p6:d-1≤b.size:=%[|0]
      dsimp-zeta only;extract_lets z1 z2 z3 z4 z5 z6 z7 z8 z9 z10 z11 zi jp mg1;refine Iw (g:=jp) (u:=()) (u':=()) λ u ae=>?_;refine wpS_bind (wpS_modify ?_);have M:=P.set ae;refine wpS_bind (aQ (by show d-1<b.size;omega) ?_);refine wpS_bind (dU hA (M.kind.trans hk) (mb (d-1) %[|0]) ma (by show 0+k≤a.size;omega) (by show k-1<k;omega) (sG ua (by show 0+k≤a.size;omega)) λ t k1 k2 k3=>?_);dsimp-zeta only;extract_lets kk ac2 y1 y2 y3;have k1:t≤k:=k1;have ka:∀x∈(a.toList.drop t).take (k-t),R b[d-1]<R x:=by intro x hx;obtain⟨i,Z,S,rfl⟩:=iJ hx;have q:=k3 (t+i) %[|0] (by show t+i<k;omega);unfold byd at q;rw[if_neg y9,Nat.zero_add,aL S]at q;exact ZF (by simpa using q)
      have kz:0<t->rk R a (t-1)<R b[d-1]:=λ z=>by
       have q:=k2 (t-1) %[|0];unfold byd at q;have hz:t-1<a.size:=%[|0]
       rw[if_neg y9,Nat.zero_add,aL hz]at q;have q:=of_decide_eq_false (by simpa using q:decide (R b[d-1]<R a[t-1])=false);have:=dj a[t-1] (by simp) b[d-1] (by simp);rw[aL hz];omega
      refine xj y1 (λ n o=>Mh R a.toList b.toList o n d/\0<n/\n≤a.size/\rk R a (n-1)<R b[d-1]/\x+1+n+d≤a.size+b.size) (λ u n o ad=>?_) (λ V=>?_)
      . obtain ⟨mo,n0,n1,n2,n3⟩:=ad;have X:n-1<a.size:=%[|0]
        rw[aL X]at n2;refine wpS_bind (aQ (by show d-1<b.size;omega) ?_);extract_lets o2 ii;have m3:=mo.pushB n0 %[|0] %[|0] %[|0] n2;by_cases e:d-1=1;{rw[if_pos (show(zi==1)=true from by show(d-1==1)=true;simpa using e)];exact wpS_pure ⟨M,_,_,_,_,_,_,_,rfl,.inl ⟨_,rfl,l m3 e⟩⟩}
        . rw [if_neg (show ¬(zi==1)=true from by show ¬(d-1==1)=true;simpa using e)];refine wpS_bind (aQ (by show n-1<a.size;omega) ?_);refine wpS_bind (dU hA (M.kind.trans hk) (ma (n-1) X) mb (by show 0+(d-1)≤b.size;omega) (by show d-1-1<d-1;omega) (sG ub (by show 0+(d-1)≤b.size;omega)) λ t' l1 l2 l3=>?_);dsimp-zeta only;extract_lets kk2 bc2 y5 y6 y7;have l1:t'≤d-1:=l1;have kb:∀x∈(b.toList.drop t').take (d-1-t'),R a[n-1]<R x:=by intro x hx;obtain⟨i,Z,S,rfl⟩:=iJ hx;have q:=l3 (t'+i) %[|0] (by show t'+i<d-1;omega);unfold byd at q;rw[if_pos rfl,Nat.zero_add,aL S]at q;have q:=of_decide_eq_false q;have q:¬R b[t'+i]<R a[n-1]:=q;have:=dj a[n-1] (by simp) b[t'+i] (by simp);omega
          have ky:0<t'->rk R b (t'-1)<R a[n-1]:=λ z=>by have q:=l2 (t'-1) %[|0];unfold byd at q;rw[if_pos rfl,Nat.zero_add]at q;exact ZF q
          refine xj y5 (λ j o=>Mh R a.toList b.toList o n j/\1<j/\j≤b.size/\rk R b (j-1)<R a[n-1]/\x+1+n+j≤a.size+b.size) (λ u j o ab=>?_) (λ V=>?_)
          . obtain⟨m5,r1,r2,r3,r4⟩:=ab;have aa:j-1<b.size:=%[|0]
            rw[aL aa]at r3;refine wpS_bind (aQ (by show n-1<a.size;omega) ?_);extract_lets o3;have m6:=m5.pushA n0 %[|0] %[|0] %[|0] r3;by_cases O:n-1=0;{rw[if_pos (show(ii==0)=true from by show(n-1==0)=true;simpa using O)];exact wpS_pure ⟨M,_,_,_,_,_,_,_,rfl,.inl ⟨_,rfl,C m6 O⟩⟩};{rw[if_neg (show ¬(ii==0)=true from by show ¬(n-1==0)=true;simpa using O)];split;{exact wpS_pure ⟨M,_,_,_,_,_,_,_,rfl,.inr ⟨rfl,m6,%[|0],%[|0],r1,r2,%[|0]⟩⟩};{exact wpS_pure ⟨M,_,_,_,_,_,_,rfl,m6,%[|0],%[|0],r1,r2,%[|0]⟩}}
          . have m4:=m3.blockB (t:=t') l1 n0 %[|0] kb;rw[←nJ]at m4;by_cases Y:d-1-t'>0;{rw [if_pos (show kk2>0 from Y)];by_cases O:t'=1;{rw[if_pos (show(t'==1)=true from by simpa using O)];exact wpS_pure ⟨M,_,_,_,_,_,_,_,rfl,.inl ⟨_,rfl,l m4 O⟩⟩};{rw[if_neg (show ¬(t'==1)=true from by simpa using O)];by_cases e4:t'=0;{rw[if_pos (show(t'==0)=true from by simpa using e4)];exact wpS_pure ⟨M,_,_,_,_,_,_,_,rfl,.inl ⟨_,rfl,U m4 e4⟩⟩};{rw[if_neg (show ¬(t'==0)=true from by simpa using e4)];exact V () _ _ ⟨m4,%[|0],%[|0],ky %[|0],%[|0]⟩}}}
            . rw[if_neg (show ¬kk2>0 from Y)];obtain rfl:t'=d-1:=%[|0]
              exact V () _ _ ⟨m3,by show 1<d-1;omega,by show d-1≤b.size;omega,ky %[|0],by show x+1+n+(d-1)≤a.size+b.size;omega⟩
      . have L:=m.blockA (t:=t) k1 %[|0] %[|0] ka;rw[←nJ]at L;by_cases Y:k-t>0;{rw[if_pos (show kk>0 from Y)];by_cases e:t=0;{rw[if_pos (show(t==0)=true from by simpa using e)];exact wpS_pure ⟨M,_,_,_,_,_,_,_,rfl,.inl ⟨_,rfl,C L e⟩⟩};{rw[if_neg (show ¬(t==0)=true from by simpa using e)];exact V () _ _ ⟨L,%[|0],%[|0],kz %[|0],%[|0]⟩}}
        . rw[if_neg (show ¬kk>0 from Y)];obtain rfl:t=k:=%[|0]
          exact V () _ _ ⟨m,B,G,kz B,N⟩
end
end RF
namespace RF
open PySem PySem.Spec L2 DL
open PyProof.Rows
variable {lo hi : Nat}
section
variable {R : Keyed -> Nat}
def seg(L:List Keyed)(lo hi:Nat):List Keyed:=(L.drop lo).take (hi-lo)
theorem nG{L:List Keyed}(h2:hi≤L.length):(seg L lo hi).length=hi-lo:=by unfold seg;rw[List.length_take,List.length_drop];omega
theorem uK{L:List Keyed}{m:Nat}(h1:lo≤m)(h2:m≤hi):seg L lo hi=seg L lo m++seg L m hi:=by unfold seg;rw[show hi-lo=(m-lo)+(hi-m) by omega,List.take_add,List.drop_drop,show lo+(m-lo)=m by omega]
theorem Bk{L:List Keyed}(h1:lo≤hi):L.take hi=L.take lo++seg L lo hi:=qe h1
theorem Mq{L:List Keyed}(h1:lo≤hi):L.drop lo=seg L lo hi++L.drop hi:=qz h1
theorem gG{a:Array Keyed}{x:Keyed}(b:x∈seg a.toList lo hi):∃i,lo≤i/\i<hi/\∃h:i<a.size,x=a[i]:=by obtain⟨i,d,c,e⟩:=iJ b;exact⟨lo+i,%[|0],%[|0],c,e⟩
theorem oh{a:Array Keyed}(h:Asc R a lo hi):UpL R (seg a.toList lo hi):=by refine List.pairwise_iff_getElem.mpr λ i j hi b c=>?_;unfold seg at hi b ⊢;rw[List.length_take,List.length_drop,Array.length_toList]at hi b;rw[List.getElem_take,List.getElem_take,List.getElem_drop,List.getElem_drop];have:=h (lo+i) (lo+j) %[|0] %[|0] %[|0];rw[aL %[|0],aL %[|0]]at this;exact this
theorem Uj{a:Array Keyed}{P M S:List Keyed}(e:a.toList=P++M++S)(g:P.length=lo)(hh:lo+M.length=hi)(h:UpL R M):Asc R a lo hi:=by
 have b:∀i,lo≤i->i<hi->a[i]? =M[i-lo]?:=λ i c d=>by rw[←Array.getElem?_toList,e,List.append_assoc,List.getElem?_append_right %[|0],List.getElem?_append_left %[|0],g]
 intro i j c d f;unfold rk;rw[b i c %[|0],b j %[|0] f,y4 %[|0],y4 %[|0]];exact List.pairwise_iff_getElem.mp h (i-lo) (j-lo) %[|0] %[|0] %[|0]
theorem xx(p:Nat):∀(l:List Keyed)(b:Nat)(xs:Array Keyed),p+b+l.length≤xs.size->∀k,(List.foldl (λ(a:Array Keyed) (x:Keyed×Nat)=>a.setIfInBounds (p+x.2) x.1) xs (l.zipIdx b))[k]? =if p+b≤k/\k<p+b+l.length then l[k-(p+b)]? else xs[k]?:=by
 intro l
 induction l with
 | nil=>intro b xs _ k;rw[if_neg (by rw[List.length_nil];omega)];rfl
 | cons q l g=>intro b xs f k;rw[List.length_cons]at f;rw[List.zipIdx_cons,List.foldl_cons,g (b+1) (xs.setIfInBounds (p+b) q) (by rw[Array.size_setIfInBounds];omega) k];by_cases c:p+(b+1)≤k/\k<p+(b+1)+l.length;{rw[if_pos c,if_pos (by rw[List.length_cons];omega),show k-(p+b)=k-(p+(b+1))+1 by omega];rfl};{rw[if_neg c];by_cases d:k=p+b;{subst d;rw[if_pos (by rw[List.length_cons];omega),Nat.sub_self];rw[Array.getElem?_setIfInBounds_self_of_lt %[|0]];rfl};{rw[if_neg (by rw[List.length_cons];omega),Array.getElem?_setIfInBounds_ne (λ e=>d e.symm)]}}
theorem fold_list{p:Nat}{m xs:Array Keyed}(hz:p+m.size≤xs.size):(List.foldl (λ(a:Array Keyed) (x:Keyed×Nat)=>a.setIfInBounds (p+x.2) x.1) xs m.toList.zipIdx).toList=xs.toList.take p++m.toList++xs.toList.drop (p+m.size):=by
 apply List.ext_getElem?;intro k;rw[Array.getElem?_toList,xx p m.toList 0 xs (by rw[Array.length_toList];omega) k,Nat.add_zero,Array.length_toList];have b:(xs.toList.take p).length=p:=by rw[List.length_take,Array.length_toList];omega
 by_cases c:p≤k/\k<p+m.size;{rw[if_pos c,List.append_assoc,List.getElem?_append_right %[|0],List.getElem?_append_left (by rw[b,Array.length_toList];omega),b]};{rw[if_neg c];by_cases d:k<p;{rw[List.append_assoc,List.getElem?_append_left %[|0],List.getElem?_take_of_lt d,Array.getElem?_toList]};{rw[List.getElem?_append_right (by rw[v3,b,Array.length_toList];omega),v3,b,Array.length_toList,List.getElem?_drop,show p+m.size+(k-(p+m.size))=k by omega,Array.getElem?_toList]}}
theorem Mf{f X Y g M:List Keyed}(h1:UpL R (f++X))(h2:UpL R (Y++g))(j:∀a∈f,∀y∈Y,R a<R y)(k:∀x∈X,∀b∈g,R x<R b)(l:∀a∈f,∀b∈g,R a<R b)(m:Mgd R X Y M.toArray):UpL R (f++M++g):=by obtain⟨h,i⟩:=m;have h:UpL R M:=h;have i:M.Perm (X++Y):=i;unfold UpL at*;rw[List.pairwise_append]at h1 h2;rw[List.append_assoc,List.pairwise_append,List.pairwise_append];have e:∀v∈M,v∈X∨v∈Y:=λ v c=>ZK.mp (i.mem_iff.mp c);refine⟨h1.1,⟨h,h2.2.1,λ u d v c=>?_⟩,λ u d v c=>?_⟩;{rcases e u d with q | q;{exact k u q v c};{exact h2.2.2 u q v c}};{rcases ZK.mp c with c | c;{rcases e v c with q | q;{exact h1.2.2 u d v q};{exact j u d v q}};{exact l u d v c}}
end
section
variable {prog : Program} {w : World} {A : Around} {E : Value -> Shared -> Prop} {s : Shared} {κ : SortKind} {R : Keyed -> Nat} {a₀ : Array Keyed} {st : SortSt}
theorem QQ{M:Model}{σ:Type}{x st:σ}{Q:PUnit->σ->Prop}(h:Q ⟨⟩ x):wpS M A E s (set x:StateT σ Sem PUnit) Q st:=wpS_modify (f:=λ _=>x) h
theorem Wi(W:Asks prog w A E s κ R a₀)(F:Sb κ a₀ st){i sa C pa c f pb:Nat}(h1:(pendingOf st)[i]? =some (sa,C,pa))(h2:(pendingOf st)[i+1]? =some (c,f,pb))(e:c=sa+C)(za:1≤C)(zb:1≤f)(hs:c+f≤a₀.size)(O:Asc R (arrOf st) sa c)(P:Asc R (arrOf st) c (c+f)){Q:Bool->SortSt->Prop}
 (h:∀st',Sb κ a₀ st'->(∀k,k<sa∨c+f≤k->(arrOf st')[k]? =(arrOf st)[k]?)->Asc R (arrOf st') sa (c+f)->pendingOf st'=((pendingOf st).setIfInBounds i (sa,C+f,pa)).eraseIdxIfInBounds (i+1)->Q true st'):wpS (model prog w) A E s (mergeAt' i) Q st:=by
 have sz:=F.size;have B:∀j,(d:j<(arrOf st).size)->(arrOf st)[j]∈a₀.toList:=λ j d=>Ax F d;have N:=λ{i j:Nat} (h1:i<(arrOf st).size) (h2:j<(arrOf st).size)=>rA W F.perm h1 h2;have n:(∀i,sa≤i->i<c->rk R (arrOf st) i<rk R (arrOf st) c)->Asc R (arrOf st) sa (c+f):=λ q i j Z S i3=>by by_cases c1:j<c;{exact O i j Z S c1};{by_cases c2:i<c;{have:=q i Z c2;by_cases D:j=c;{rw[D];exact this};{exact Nat.lt_trans this (P c j (x6 _) %[|0] i3)}};{exact P i j %[|0] S i3}}
 unfold mergeAt';refine wpS_bind (wpS_get ?_);rw[show(sortPriv% PySem.Builtin.SortState.pending) st=pendingOf st from rfl,h1,h2];dsimp only;refine wpS_bind (QQ ?_);have o:Sb κ a₀ (SortSt.mk' (kindOf st) (arrOf st) (((pendingOf st).setIfInBounds i (sa,C+f,pa)).eraseIdxIfInBounds (i+1)) (gallopOf st) (failedOf st)):=⟨F.kind,F.perm,F.fine⟩;refine wpS_bind (aQ (%[|0]:c<(arrOf st).size) ?_);refine wpS_bind (dU W o.kind (B c %[|0]) B %[|0] %[|0] (by rw[←e];exact O) λ k k1 k2 k3=>?_);dsimp only;have ka:∀j,j<k->rk R (arrOf st) (sa+j)<rk R (arrOf st) c:=λ j d=>by
  have q:=k2 j d;unfold byd at q;rw[if_neg y9]at q;have q:=of_decide_eq_false (by simpa using q:decide (R (arrOf st)[c]<rk R (arrOf st) (sa+j))=false);rw[aL (%[|0]:c<(arrOf st).size)];have ne:rk R (arrOf st) (sa+j)≠R (arrOf st)[c]:=λ z=>by rw[←aL (R:=R) (%[|0]:c<(arrOf st).size)]at z;have:=N %[|0] %[|0] z;omega
  omega
 have kb:k<C->rk R (arrOf st) c<rk R (arrOf st) (sa+k):=λ z=>by have q:=k3 k (x6 _) z;unfold byd at q;rw[if_neg y9]at q;rw[aL (%[|0]:c<(arrOf st).size)];exact ZF (by simpa using q)
 by_cases c1:C-k=0;{rw[if_pos (by simpa using c1)];refine wpS_pure (h _ o (λ _ _=>rfl) (n λ j r u=>?_) rfl);have:=ka (j-sa) %[|0];rwa[show sa+(j-sa)=j by omega]at this};rw[if_neg (by simpa using c1)];have eL:sa+k+(C-k)-1=c-1:=%[|0]
 refine wpS_bind (aQ (%[|0]:sa+k+(C-k)-1<(arrOf st).size) ?_);refine wpS_bind (dU W o.kind (B _ %[|0]) B %[|0] %[|0] P λ t l1 l2 l3=>?_);dsimp only;have eR:R ((arrOf st)[sa+k+(C-k)-1]'%[|0])=rk R (arrOf st) (c-1):=by rw[aL %[|0]];congr 2
 have la:∀j,j<t->rk R (arrOf st) (c+j)<rk R (arrOf st) (c-1):=λ j d=>by have q:=l2 j d;unfold byd at q;rw[if_pos rfl,eR]at q;exact ZF q
 have lb:∀j,t≤j->j<f->rk R (arrOf st) (c-1)<rk R (arrOf st) (c+j):=λ j r u=>by
  have q:=l3 j r u;unfold byd at q;rw[if_pos rfl,eR]at q;have q:=of_decide_eq_false q;have ne:rk R (arrOf st) (c+j)≠rk R (arrOf st) (c-1):=λ z=>by have:=N %[|0] %[|0] z;omega
  omega
 by_cases c2:t=0;{rw[if_pos (by simpa using c2)];refine wpS_pure (h _ o (λ _ _=>rfl) (n λ j r u=>?_) rfl);have q:=lb 0 %[|0] %[|0];by_cases D:j=c-1;{rw[D];exact q};{exact Nat.lt_trans (O j (c-1) r %[|0] %[|0]) q}};rw[if_neg (by simpa using c2)];let X:Array Keyed:=(arrOf st).extract (sa+k) c;let Y:Array Keyed:=(arrOf st).extract c (c+t);have T:X.toList=seg (arrOf st).toList (sa+k) c:=by show((arrOf st).extract (sa+k) c).toList=_;rw[nJ];rfl
 have U:Y.toList=seg (arrOf st).toList c (c+t):=by show((arrOf st).extract c (c+t)).toList=_;rw[nJ];rfl
 have ac:(arrOf st).toList.length=(arrOf st).size:=Array.length_toList;have zX:X.size=C-k:=by rw[←Array.length_toList,T,nG %[|0]];omega
 have zY:Y.size=t:=by rw[←Array.length_toList,U,nG %[|0]];omega
 have J:∀j,(d:j<X.size)->X[j]=(arrOf st)[sa+k+j]'%[|0]:=λ j d=>by show((arrOf st).extract (sa+k) c)[j]=_;rw[Array.getElem_extract]
 have K:∀j,(d:j<Y.size)->Y[j]=(arrOf st)[c+j]'%[|0]:=λ j d=>by show((arrOf st).extract c (c+t))[j]=_;rw[Array.getElem_extract]
 have mX:∀j,(d:j<X.size)->X[j]∈a₀.toList:=λ j d=>by rw[J j d];exact B _ _
 have mY:∀j,(d:j<Y.size)->Y[j]∈a₀.toList:=λ j d=>by rw[K j d];exact B _ _
 have uX:UpL R X.toList:=by rw[T];exact oh λ i j Z S i3=>O i j %[|0] S i3
 have uY:UpL R Y.toList:=by rw[U];exact oh λ i j Z S i3=>P i j Z S %[|0]
 have L:∀x∈X.toList,∃j,sa+k≤j/\j<c/\R x=rk R (arrOf st) j:=λ x H=>by rw[T]at H;obtain⟨j,r,u,v,rfl⟩:=gG H;exact⟨j,r,u,(aL v).symm⟩
 have M:∀y∈Y.toList,∃j,c≤j/\j<c+t/\R y=rk R (arrOf st) j:=λ y I=>by rw[U]at I;obtain⟨j,r,u,v,rfl⟩:=gG I;exact⟨j,r,u,(aL v).symm⟩
 have dj:∀x∈X.toList,∀y∈Y.toList,R x≠R y:=λ x H y I z=>by obtain⟨j,r,u,v⟩:=L x H;obtain⟨l,m1,m2,G⟩:=M y I;rw[v,G]at z;have:=N %[|0] %[|0] z;omega
 have lX:R (X[X.size-1]'%[|0])=rk R (arrOf st) (c-1):=by rw[J _ %[|0],aL %[|0]];congr 2;omega
 have fY:R (Y[0]'%[|0])=rk R (arrOf st) c:=by rw[K 0 %[|0],aL %[|0]];rfl
 have fX:R (X[0]'%[|0])=rk R (arrOf st) (sa+k):=by rw[J 0 %[|0],aL %[|0]];rfl
 have V:∀(m:Array Keyed)(st':SortSt),Gk (SortSt.mk' (kindOf st) (arrOf st) (((pendingOf st).setIfInBounds i (sa,C+f,pa)).eraseIdxIfInBounds (i+1)) (gallopOf st) (failedOf st)) st'->Mgd R X.toList Y.toList m->Q (failedOf st').isNone (SortSt.mk' (kindOf st') (List.foldl (λ(a:Array Keyed) (x:Keyed×Nat)=>a.setIfInBounds (sa+k+x.2) x.1) (arrOf st') m.toList.zipIdx) (pendingOf st') (gallopOf st') (failedOf st')):=by
  intro m st' g hm;have ef:failedOf st'=none:=g.fail.trans F.fine;have ea:arrOf st'=arrOf st:=g.arr;rw[ea];have zm:m.size=C-k+t:=by have:=hm.2.length_eq;rw[v3,Array.length_toList,Array.length_toList,Array.length_toList,zX,zY]at this;exact this
  have eT:=fold_list (p:=sa+k) (m:=m) (xs:=arrOf st) %[|0];have eN:sa+k+m.size=c+t:=%[|0]
  rw[eN]at eT;have aa:(List.foldl (λ(a:Array Keyed) (x:Keyed×Nat)=>a.setIfInBounds (sa+k+x.2) x.1) (arrOf st) m.toList.zipIdx).toList=(arrOf st).toList.take sa++(seg (arrOf st).toList sa (sa+k)++m.toList++seg (arrOf st).toList (c+t) (c+f))++(arrOf st).toList.drop (c+f):=by rw[eT,Bk (lo:=sa) (hi:=sa+k) %[|0],Mq (lo:=c+t) (hi:=c+f) %[|0]];simp only[List.append_assoc]
  have fs:=λ j=>xx (sa+k) m.toList 0 (arrOf st) (by rw[Array.length_toList];omega) j;generalize List.foldl (λ(a:Array Keyed) (x:Keyed×Nat)=>a.setIfInBounds (sa+k+x.2) x.1) (arrOf st) m.toList.zipIdx=arr2 at*;have ab:UpL R (seg (arrOf st).toList sa (sa+k)++m.toList++seg (arrOf st).toList (c+t) (c+f)):=by refine Mf (X:=X.toList) (Y:=Y.toList) ?_ ?_ (λ a ha y I=>?_) (λ x H b hb=>?_) (λ a ha b hb=>?_) hm;{rw[T,←uK %[|0] %[|0]];exact oh O};{rw[U,←uK %[|0] %[|0]];exact oh P};{obtain⟨j,r,u,v,rfl⟩:=gG ha;obtain⟨l,m1,m2,G⟩:=M y I;rw[G,←aL (R:=R) v];have:=ka (j-sa) %[|0];rw[show sa+(j-sa)=j by omega]at this;by_cases D:l=c;{rw[D];exact this};{exact Nat.lt_trans this (P c l (x6 _) %[|0] %[|0])}};{obtain⟨j,r,u,v⟩:=L x H;obtain⟨l,m1,m2,G,rfl⟩:=gG hb;rw[v,←aL (R:=R) G];have:=lb (l-c) %[|0] %[|0];rw[show c+(l-c)=l by omega]at this;by_cases D:j=c-1;{rw[D];exact this};{exact Nat.lt_trans (O j (c-1) %[|0] %[|0] %[|0]) this}};{obtain⟨j,r,u,v,rfl⟩:=gG ha;obtain⟨l,m1,m2,G,rfl⟩:=gG hb;rw[←aL (R:=R) v,←aL (R:=R) G];have q1:=ka (j-sa) %[|0];rw[show sa+(j-sa)=j by omega]at q1;exact Nat.lt_trans q1 (P c l (x6 _) %[|0] %[|0])}
  rw[ef];refine h _ ⟨g.kind.trans F.kind,?_,rfl⟩ (λ j d=>?_) ?_ g.pend;{refine Array.perm_iff_toList_perm.mpr ?_;show arr2.toList.Perm a₀.toList;refine List.Perm.trans ?_ (Array.perm_iff_toList_perm.mp F.perm);rw[eT];refine((hm.2.append_left _).append_right _).trans ?_;rw[T,U,←uK %[|0] %[|0],←Bk %[|0],List.take_append_drop]};{show arr2[j]? =_;rw[fs j,if_neg (by rw[Array.length_toList];omega)]};{refine Uj aa (by rw[List.length_take];omega) ?_ ab;rw[v3,v3,nG %[|0],nG %[|0],Array.length_toList,zm];omega}
 split;{refine wpS_bind (V9 W o.kind mX mY uX uY %[|0] %[|0] ?_ (λ y I=>?_) dj λ m st' g hm=>wpS_bind (wpS_modify (wpS_bind (wpS_get (wpS_pure (V m st' g hm))))));{rw[fY,fX];exact kb %[|0]};{obtain⟨l,m1,m2,G⟩:=M y I;rw[G,lX];have:=la (l-c) %[|0];rwa[show c+(l-c)=l by omega]at this}};{refine wpS_bind (Vv W o.kind mX mY uX uY %[|0] %[|0] (λ x H=>?_) ?_ dj λ m st' g hm=>wpS_bind (wpS_modify (wpS_bind (wpS_get (wpS_pure (V m st' g hm))))));{obtain⟨j,r,u,v⟩:=L x H;rw[v,fY];by_cases D:j=sa+k;{rw[D];exact kb %[|0]};{exact Nat.lt_trans (kb %[|0]) (O (sa+k) j %[|0] %[|0] u)}};{rw[lX,K _ %[|0],←aL (R:=R) (%[|0]:c+(Y.size-1)<(arrOf st).size)];have:=la (Y.size-1) %[|0];exact this}}
end
end RF
namespace RF
open PySem PySem.Spec L2 DL
open PyProof.Rows
abbrev Pn:=List (Nat×Nat×Nat)
section
variable {R : Keyed -> Nat}
def Rns(R:Keyed->Nat)(arr:Array Keyed):Nat->Pn->Nat->Prop
 | p,[],q=>p=q
 | p,x::t,q=>x.1=p/\1≤x.2.1/\Asc R arr p (p+x.2.1)/\Rns R arr (p+x.2.1) t q
variable {arr arr2 : Array Keyed}
theorem Rns.le:∀{l:Pn}{p q:Nat},Rns R arr p l q->p+l.length≤q
 | [],p,q,h=>by have h:p=q:=h;simp;omega
 | x::t,p,q,h=>by obtain⟨_,b,_,a⟩:=h;have:=a.le;rw[List.length_cons];omega
theorem Asc.keep{lo hi:Nat}(h:Asc R arr lo hi)(k:∀i,lo≤i->i<hi->arr2[i]? =arr[i]?):Asc R arr2 lo hi:=λ i j a c b=>by rw[fu (k i a %[|0]),fu (k j %[|0] b)];exact h i j a c b
theorem Rns.keep:∀{l:Pn}{p q:Nat},Rns R arr p l q->(∀i,p≤i->i<q->arr2[i]? =arr[i]?)->Rns R arr2 p l q
 | [],p,q,h,_=>h
 | x::t,p,q,h,k=>by obtain⟨d,e,f,a⟩:=h;have:=a.le;exact⟨d,e,f.keep λ i b c=>k i b %[|0],a.keep λ i b c=>k i %[|0] c⟩
theorem Rns.app:∀{l l':Pn}{p m q:Nat},Rns R arr p l m->Rns R arr m l' q->Rns R arr p (l++l') q
 | [],l',p,m,q,h,h'=>by have h:p=m:=h;rw[h];exact h'
 | x::t,l',p,m,q,h,h'=>⟨h.1,h.2.1,h.2.2.1,h.2.2.2.app h'⟩
theorem Rns.cut:∀{l l':Pn}{p q:Nat},Rns R arr p (l++l') q->∃m,Rns R arr p l m/\Rns R arr m l' q
 | [],l',p,q,h=>⟨p,rfl,h⟩
 | x::t,l',p,q,h=>by obtain⟨m,a,b⟩:=Rns.cut (l:=t) h.2.2.2;exact⟨m,⟨h.1,h.2.1,h.2.2.1,a⟩,b⟩
theorem Rns.same:∀{l l':Pn}{p q:Nat},l'.map (λ x=>(x.1,x.2.1))=l.map (λ x=>(x.1,x.2.1))->Rns R arr p l q->Rns R arr p l' q
 | [],[],_,_,_,h=>h
 | [],_::_,_,_,e,_=>by cases e
 | _::_,[],_,_,e,_=>by cases e
 | x::t,y::t',p,q,e,h=>by rw[List.map_cons,List.map_cons]at e;injection e with e1 e2;obtain⟨b,a⟩:=Prod.mk.inj e1;obtain⟨c,d,f,g⟩:=h;exact⟨by rw[b];exact c,by rw[a];exact d,by rw[a];exact f,by rw[a];exact g.same e2⟩
theorem En{f:Nat×Nat×Nat->Nat×Nat×Nat}(a:∀x,(f x).1=x.1/\(f x).2.1=x.2.1):∀(l:Pn)(i:Nat),(l.modify i f).map (λ x=>(x.1,x.2.1))=l.map λ x=>(x.1,x.2.1)
 | [],i=>by cases i<;>rfl
 | x::l,0=>by show((f x).1,(f x).2.1)::_=_;rw[(a x).1,(a x).2];rfl
 | x::l,i+1=>by show(x.1,x.2.1)::(l.modify i f).map _=_;rw[En a l i];rfl
theorem Qo{c:Prop}[Decidable c]{a b n:Nat}(h1:a+1<n)(h2:b+1<n):(if c then a else b)+1<n:=by split<;>omega
theorem two_at_{l:Pn}{i:Nat}(h:i+1<l.length):∃l1 x y l2,l=l1++x::y::l2/\l1.length=i:=by refine⟨l.take i,l[i],l[i+1],l.drop (i+2),?_,by rw[List.length_take];omega⟩;rw[←bM %[|0],←bM %[|0],List.take_append_drop]
theorem vp{P:Array (Nat×Nat×Nat)}{a b:Pn}{x y z:Nat×Nat×Nat}(h:P.toList=a++x::y::b):((P.setIfInBounds a.length z).eraseIdxIfInBounds (a.length+1)).toList=a++z::b:=by
 have c:P.size=a.length+(b.length+1+1):=by rw[←Array.length_toList,h,v3];rfl
 rw[Array.eraseIdxIfInBounds,dif_pos (by rw[Array.size_setIfInBounds];omega),Array.toList_eraseIdx,Array.toList_setIfInBounds,h];rw[List.set_append_right _ _ (x6 _),Nat.sub_self,List.eraseIdx_append_of_length_le %[|0],show a.length+1-a.length=1 by omega];rfl
end
section
variable {prog : Program} {w : World} {A : Around} {E : Value -> Shared -> Prop} {s : Shared} {κ : SortKind} {R : Keyed -> Nat} {a₀ : Array Keyed} {st : SortSt}
theorem Ft(G:Asks prog w A E s κ R a₀)(H:Sb κ a₀ st){i lo:Nat}(x:Rns R (arrOf st) 0 (pendingOf st).toList lo)(O:lo≤a₀.size)(hi:i+1<(pendingOf st).size){Q:Bool->SortSt->Prop}
 (h:∀st',Sb κ a₀ st'->Rns R (arrOf st') 0 (pendingOf st').toList lo->(pendingOf st').size+1=(pendingOf st).size->(∀k,lo≤k->(arrOf st')[k]? =(arrOf st)[k]?)->Q true st'):wpS (model prog w) A E s (mergeAt' i) Q st:=by
 obtain⟨g,⟨f,a,J⟩,⟨B,b,K⟩,z,c,C⟩:=two_at_ (l:=(pendingOf st).toList) (i:=i) (by rw[Array.length_toList];exact hi);rw[c]at x;obtain⟨m,L,M⟩:=x.cut;obtain⟨p,q,r,d,t,u,j⟩:=M;have p:f=m:=p;have d:B=m+a:=d;have q:1≤a:=q;have t:1≤b:=t;have r:Asc R (arrOf st) m (m+a):=r;have u:Asc R (arrOf st) (m+a) (m+a+b):=u;have j:Rns R (arrOf st) (m+a+b) z lo:=j;subst p;have P:=j.le;subst C;have D:(pendingOf st)[g.length]? =some (f,a,J):=by rw[←Array.getElem?_toList,c];simp
 have F:(pendingOf st)[g.length+1]? =some (B,b,K):=by rw[←Array.getElem?_toList,c,List.getElem?_append_right %[|0],show g.length+1-g.length=1 by omega];rfl
 refine Wi G H D F d q t %[|0] (by rw[d];exact r) (by rw[d];exact u) λ st' n o e v=>h st' n ?_ ?_ λ k N=>o k %[|0];{rw[v,vp c];refine(L.keep λ i I y=>o i (.inl y)).app ⟨rfl,by show 1≤a+b;omega,?_,?_⟩;{show Asc R (arrOf st') f (f+(a+b));rw[d]at e;rw[←Nat.add_assoc];exact e};{show Rns R (arrOf st') (f+(a+b)) z lo;rw[←Nat.add_assoc];exact j.keep λ i I y=>o i (.inr %[|0])}};{rw[←Array.length_toList,←Array.length_toList,v,vp c,c,v3,v3];rfl}
theorem Ph (G:Asks prog w A E s κ R a₀)(hB:Sb κ a₀ st)(hp:pendingOf st=#[])(h2:1≤a₀.size){Q:Unit->SortSt->Prop}
 (h:∀st',Sb κ a₀ st'->Asc R (arrOf st') 0 a₀.size->Q () st'):wpS (model prog w) A E s sortRuns' Q st:=by
 rw[sortRuns'_eq];refine wpS_bind (wpS_get ?_);dsimp only;rw[hB.size];generalize minRun' a₀.size a₀.size 0=mr;refine wpS_bind (wpS_mono (wpS_forRange (I:=λ x c st'=>Sb κ a₀ st'/\∃d,c=(none,d)/\d≤a₀.size/\min x a₀.size≤d/\Rns R (arrOf st') 0 (pendingOf st').toList d)
  (Q:=λ c st'=>Sb κ a₀ st'/\c=(none,a₀.size)/\Rns R (arrOf st') 0 (pendingOf st').toList a₀.size) ?step ?fin ⟨hB,0,rfl,%[|0],%[|0],by rw[hp];rfl⟩) ?post);case fin=>
  rintro c st' ⟨m,d,rfl,a1,a2,t⟩;obtain rfl:d=a₀.size:=%[|0]
  exact⟨m,rfl,t⟩
 case step =>
  rintro x c st' x1 x2 ⟨m,d,rfl,a1,a2,t⟩;dsimp only;by_cases Z:d≥a₀.size
  . rw[if_pos Z];obtain rfl:d=a₀.size:=%[|0]
    exact wpS_pure ⟨m,rfl,t⟩
  rw[if_neg Z];refine wpS_bind (Nj G m %[|0] %[|0] λ n B u N n2 D k=>?_);dsimp only;have T:Rns R (arrOf B) 0 (pendingOf B).toList d:=by rw[D.pend];exact t.keep λ i M H=>D.arr i (.inl H)
  have p:∀(b:SortSt)(j:Nat)(P:Array (Nat×Nat×Nat)),Sb κ a₀ b->1≤j->d+j≤a₀.size->Rns R (arrOf b) 0 P.toList d->Asc R (arrOf b) d (d+j)->Sb κ a₀ (setPending b (P.push (d,j,0)))/\∃r,(none,d+j)=((none,r):Option Unit×Nat)/\r≤a₀.size/\min (x+1) a₀.size≤r/\Rns R (arrOf (setPending b (P.push (d,j,0)))) 0 (pendingOf (setPending b (P.push (d,j,0)))).toList r:=by intro b j P f g e W X;refine⟨⟨f.kind,f.perm,f.fine⟩,d+j,rfl,e,%[|0],?_⟩;show Rns R (arrOf b) 0 (P.push (d,j,0)).toList (d+j);rw[Array.toList_push];exact W.app ⟨rfl,g,X,rfl⟩
  by_cases c2:n<mr;case' pos=>
   rw[if_pos c2];refine wpS_bind (wpS_lift (wpAny_rule ⟨rfl,?_⟩));refine wpS_bind (Ud G u %[|0] %[|0] N k λ q v F o=>?_);rw[if_neg (show ¬(!true)=true by decide)];have U:Rns R (arrOf q) 0 (pendingOf q).toList d:=by rw[F.pend];exact T.keep λ i M H=>F.arr i (.inl H)
   have O:1≤min (a₀.size-d) mr:=%[|0]
   have S:d+min (a₀.size-d) mr≤a₀.size:=%[|0]
   generalize min (a₀.size-d) mr=j at*
  case' neg=>rw[if_neg c2];obtain⟨q,e3⟩:∃z,z=B:=⟨_,rfl⟩;obtain⟨j,en⟩:∃z,z=n:=⟨_,rfl⟩;rw[←e3]at u T k;rw[←en]at N n2 k;rw[←e3,←en];have v:=u;have U:=T;have o:=k;have O:=N;have S:d+j≤a₀.size:=%[|0]
  all_goals
   refine wpS_bind (wpS_get ?_)
   cases eb:(pendingOf q).back? with
   | none=>dsimp only;exact wpS_bind (wpS_modify (wpS_pure (p q j _ v O S U o)))
   | some z=>
     obtain⟨s1,m1,w1⟩:=z;dsimp only;refine wpS_bind (wpS_mono (wpS_forRange (a:=0) (I:=λ y c b=>c=(none,())/\Sb κ a₀ b/\Rns R (arrOf b) 0 (pendingOf b).toList d/\Asc R (arrOf b) d (d+j))
      (Q:=λ c b=>c=(none,())/\Sb κ a₀ b/\Rns R (arrOf b) 0 (pendingOf b).toList d/\Asc R (arrOf b) d (d+j)) ?_ (λ c b h=>h) ⟨rfl,v,U,o⟩) ?_)
     . rintro y c b y1 y2 ⟨rfl,f,g,e⟩;refine wpS_bind (wpS_get ?_);by_cases C:(pendingOf b).size>1
       . rw [if_pos C]
         cases (pendingOf b)[(pendingOf b).size-2]? with
         | none=>exact wpS_pure ⟨rfl,f,g,e⟩
         | some z=>obtain⟨u1,u2,u3⟩:=z;dsimp only;split;{exact wpS_pure ⟨rfl,f,g,e⟩};{refine wpS_bind (Ft G f g %[|0] %[|0] λ V K L d3 d4=>?_);rw[if_neg (show ¬(!true)=true by decide)];exact wpS_pure ⟨rfl,K,L,e.keep λ i M H=>d4 i M⟩}
       {rw[if_neg C];exact wpS_pure ⟨rfl,f,g,e⟩}
     {rintro c b ⟨rfl,f,g,e⟩;dsimp only;refine wpS_bind (wpS_modify (wpS_bind (wpS_modify (wpS_pure ?_))));refine p (setPending b ((pendingOf b).modify ((pendingOf b).size-1) _)) j _ ⟨f.kind,f.perm,f.fine⟩ O S ?_ e;show Rns R (arrOf b) 0 ((pendingOf b).modify _ _).toList d;rw[Array.toList_modify];refine g.same (En ?_ _ _);intro x;exact⟨rfl,rfl⟩}
 case post=>
  rintro c st' ⟨m,rfl,t⟩;refine wpS_bind (wpS_mono (wpS_forRange (a:=0) (I:=λ y c b=>c=(none,())/\Sb κ a₀ b/\Rns R (arrOf b) 0 (pendingOf b).toList a₀.size/\((pendingOf b).size≤1∨(pendingOf b).size+y≤a₀.size))
   (Q:=λ c b=>c=(none,())/\Sb κ a₀ b/\Rns R (arrOf b) 0 (pendingOf b).toList a₀.size/\(pendingOf b).size≤1) ?_ ?_ ⟨rfl,m,t,.inr (by have:=t.le;rw[Array.length_toList]at this;omega)⟩) ?_);{rintro y c b y1 y2 ⟨rfl,f,g,e⟩;refine wpS_bind (wpS_get ?_);by_cases C:(pendingOf b).size≤1;{rw[if_pos C];exact wpS_pure ⟨rfl,f,g,C⟩};{rw[if_neg C];refine wpS_bind (Ft G f g (x6 _) ?_ λ V K L d3 d4=>?_);{exact Qo %[|0] %[|0]};{rw[if_neg (show ¬(!true)=true by decide)];refine wpS_pure ⟨rfl,K,L,?_⟩;rcases e with e | e;{omega};{exact .inr %[|0]}}}};{rintro c b ⟨rfl,f,g,e⟩;refine⟨rfl,f,g,?_⟩;rcases e with e | e<;>omega}
  . rintro c b ⟨rfl,f,g,e⟩;refine wpS_pure (h b f ?_);have e:(pendingOf b).toList.length≤1:=by rw[Array.length_toList];exact e
    generalize (pendingOf b).toList=l at g e;rcases l with _ | ⟨z,_ | ⟨z2,l⟩⟩;{have g:0=a₀.size:=g;omega};{obtain⟨W,X,Y,J⟩:=g;have J:0+z.2.1=a₀.size:=J;rw[J]at Y;exact Y};{exact absurd e (by simp)}
end
section
open SetTable
structure HK(prog:Program)(w:World)(α:Type)[DecidableEq α] where
 h:α->Int
 I:Heap->Value->α->Prop
 keep:∀{h h':Heap}{v:Value}{c:α},(∀b o,h.get? b=some o->o.cls=.type "tuple"->h'.get? b=some o)->I h v c->I h' v c
 ref:∀{h:Heap}{v:Value}{c:α},I h v c->∃b,v=.ref b
 eq:∀{A:Around}{s:Shared}{u v:Value}{c d:α},A.units+2<cLine->I s.heap u c->I s.heap v d->SeqAt.EqAt A s u v (decide (c=d))
 seen:∀{A:Around}{E:%[|7]}{s:Shared}{x:Value}{c:α}{ys:List Value}{Q:Bool->%[|8]},I s.heap x c->(∀y∈ys,∃d,I s.heap y d)->Q false s->wpAny (model prog w) A (searchCouldBeSeen x ys) Q E s
 hbv:∀{A:Around}{E:%[|7]}{s:Shared}{b:Addr}{c:α}{Q:Bool->%[|8]},I s.heap (.ref b) c->Q true s->wpAny (model prog w) A (hashByValue 8 (.ref b)) Q E s
 hash:∀{A:Around}{E:%[|7]}{s:Shared}{v:Value}{c:α}{Q:Int->%[|8]},A.units+5<cLine->I s.heap v c->(∀n,Q (h c) {s with toks:=s.toks+n})->wpAny (model prog w) A (pyHash v) Q E s
variable {prog : Program} {w : World} {α : Type} [DecidableEq α] {K : HK prog w α}
abbrev Cv(α:Type):=List (α×Value)
end
structure SK(prog:Program)(w:World)(α:Type)[DecidableEq α](lt:α->α->Bool)(good:α->Prop)(enc:α->D) extends HK prog w α where
 tot:∀{a b:α},a≠b->lt a b=false->lt b a=true
 tr:∀{a b c:α},lt a b=true->lt b c=true->lt a c=true
 irr:∀a:α,lt a a=false
 inj:∀{h:Heap}{v:Value}{c d:α},I h v c->I h v d->c=d
 first:∀{h:Heap}{v:Value}{c:α},I h v c->good c->∃a o xs n f,v=.ref a/\h.get? a=some o/\o.cls=.type "tuple"/\o.data=.seq xs n/\xs[0]? =some f/\∃k t,f=Value.int k t
 ask:∀{A:Around}{E:%[|7]}{s:Shared}{b:Bool}{u v:Value}{c d:α}{Q:Bool->%[|8]},A.units+2<cLine->I s.heap u c->I s.heap v d->Q (lt c d) s->wpAny (model prog w) A (keyLt' (tuples' b) u v) Q E s
 of:∀{X:Cx}{pins:List (Addr×Obj)}{σ:DL.St}{H:Hp}{s:Shared}{O:Own},X.prog=prog->X.w=w->%[|5]->∀{y:V}{u:Value}{c:α},Rep X.K O H y (enc c)->RelV y u->I s.heap u c
abbrev gU{α:Type}[Inhabited α](lt:α->α->Bool)(cs:List α)(i j:Nat):Bool:=lt (cs.getD i default) (cs.getD j default)
section
variable {prog : Program} {w : World} {α : Type} [DecidableEq α] [Inhabited α] {lt : α -> α -> Bool} {good : α -> Prop} {enc : α -> D}
theorem Tf(K:SK prog w α lt good enc){cs:List α}(nd:cs.Nodup):LtOk cs.length (gU lt cs):=by refine⟨λ i j c d f h=>K.tot (λ e=>f ?_) h,λ i j k _ _ _ a b=>K.tr a b⟩;rw[List.getD_eq_getElem?_getD,List.getD_eq_getElem?_getD,y4 c,y4 d]at e;exact(List.getElem_inj nd).mp e
end
section
variable {prog : Program} {w : World} {α : Type} [DecidableEq α] [Inhabited α] {lt : α -> α -> Bool} {good : α -> Prop} {enc : α -> D} {K : SK prog w α lt good enc} {A : Around} {E : Value -> Shared -> Prop} {s : Shared}
theorem KQ{h:Heap}{a:List Value}{cs:List α}(g:a.length=cs.length)(e:∀c∈cs,good c)(j:∀(i:Nat)(v:Value)(c:α),a[i]? =some v->cs[i]? =some c->K.I h v c):
 ∃fs:List Value,PySem.W.KatTups h a fs/\fs.length=a.length/\∀v∈fs,∃n t,v=Value.int n t:=by
 induction a generalizing cs with
 | nil=>exact⟨[],.nil,rfl,λ _ z=>nomatch z⟩
 | cons v a y=>
   cases cs with
   | nil=>cases g
   | cons c cs=>obtain⟨fs,t,o,b⟩:=y (cs:=cs) (by simpa using g) (λ c x=>e c (x8 _ x)) λ i u k l m=>j (i+1) u k (by simpa using l) (by simpa using m);obtain⟨A,B,C,n,f,rfl,p,q,r,s,w⟩:=K.first (j 0 v c rfl rfl) (e c w9);refine⟨f::fs,PySem.W.KatTups.cons p q r s t,by simp[o],λ v d=>?_⟩;rcases ZJ.mp d with rfl | d;{exact w};{exact b v d}
theorem HB{k n:Type}{f:k->n}:∀{l m:List n},l.Perm m->∀{xs:List k},m=xs.map f->∃ys:List k,ys.Perm xs/\l=ys.map f:=by
 intro l m h
 induction h with
 | nil=>
   intro xs e;have:xs=[]:=by cases xs with | nil=>rfl | cons=>cases e
   subst this;exact⟨[],.refl _,rfl⟩
 | cons x _ o=>
   intro xs e
   cases xs with
   | nil=>cases e
   | cons y xs=>injection e with d c;obtain⟨ys,p,g⟩:=o c;exact⟨y::ys,p.cons y,by rw[d,g];rfl⟩
 | swap x y l=>
   intro xs e
   cases xs with
   | nil=>cases e
   | cons a xs=>
     cases xs with
     | nil=>cases e
     | cons b xs=>injection e with d c;injection c with c g;exact⟨b::a::xs,.swap ..,by rw[d,c,g];rfl⟩
 | trans _ _ i j=>intro xs e;obtain⟨ys,p,d⟩:=j e;obtain⟨r,q,c⟩:=i d;exact⟨r,q.trans p,c⟩
end
section
variable {n : Nat} {lt : Nat -> Nat -> Bool}
def rnk(n:Nat)(lt:Nat->Nat->Bool)(i:Nat):Nat:=(List.range n).countP λ j=>lt j i
theorem Jh{p q:Nat->Bool}{l:List Nat}(h:∀x∈l,p x=true->q x=true){y:Nat}(a:y∈l)(h1:p y=false)(h2:q y=true):l.countP p<l.countP q:=by
 induction l with
 | nil=>cases a
 | cons x l e=>
   rw[List.countP_cons,List.countP_cons];have c:l.countP p≤l.countP q:=List.countP_mono_left λ x b=>h x (x8 _ b);rcases ZJ.mp a with rfl | a;{rw[h1,h2,if_neg y9,if_pos rfl];omega}
   . have:=e (λ x b=>h x (x8 _ b)) a
     cases d:p x with
     | false=>rw[if_neg y9];split<;>omega
     | true=>rw[h x w9 d,if_pos rfl];omega
theorem qL(h:LtOk n lt)(irr:∀i,i<n->lt i i=false){i j:Nat}(hi:i<n)(a:j<n)(e:lt i j=true):rnk n lt i<rnk n lt j:=by unfold rnk;exact Jh (λ k b q=>h.tr k i j (List.mem_range.mp b) hi a q e) (List.mem_range.mpr hi) (irr i hi) e
theorem Eu(h:LtOk n lt)(irr:∀i,i<n->lt i i=false){i j:Nat}(hi:i<n)(a:j<n):decide (rnk n lt i<rnk n lt j)=lt i j:=by
 cases e:lt i j with
 | true=>exact ZG (qL h irr hi a e)
 | false=>refine ZH λ z=>?_;by_cases c:i=j;{subst c;omega};{have:=qL h irr a hi (h.tot i j hi a c e);omega}
end
section
variable {prog : Program} {w : World} {α : Type} [DecidableEq α] [Inhabited α] {lt : α -> α -> Bool} {good : α -> Prop} {enc : α -> D} {K : SK prog w α lt good enc} {A : Around} {E : Value -> Shared -> Prop} {s : Shared}
theorem Ko{d:List Value}{cs:List α}{b:Bool}(hu:A.units+2<cLine)(Z:d.length=cs.length)(hr:∀(i:Nat)(v:Value)(c:α),d[i]? =some v->cs[i]? =some c->K.I s.heap v c)(nd:cs.Nodup)(h1:1≤d.length):
 wpAny (model prog w) A ((sortRuns').run (SortSt.mk' (tuples' b) (d.toArray.zip d.toArray) #[] 7 none)) (λ r s'=>s'=s/\∃p:List Nat,(arrOf r.2).map (·.2)=List.toArray (p.map λ i=>d.getD i Value.none)/\failedOf r.2=none/\OdrL cs.length (gU lt cs) p) E s:=by
 have H:=Tf K nd;have l:∀i,i<cs.length->gU lt cs i i=false:=λ i _=>K.irr _;let f:Nat->Keyed:=λ i=>(d.getD i Value.none,d.getD i Value.none);have O:∀i,i<d.length->d[i]? =some (d.getD i Value.none):=λ i a=>by rw[List.getD_eq_getElem?_getD];simp[a]
 have L:∀i,i<cs.length->cs[i]? =some (cs.getD i default):=λ i a=>by rw[List.getD_eq_getElem?_getD];simp[a]
 have I:∀i,i<cs.length->K.I s.heap (d.getD i Value.none) (cs.getD i default):=λ i a=>hr i _ _ (O i %[|0]) (L i a);have C:∀i j,i<cs.length->j<cs.length->f i=f j->i=j:=λ i j a k e=>by have X:d.getD i Value.none=d.getD j Value.none:=congrArg Prod.fst e;have g:=I i a;rw[X]at g;have P:=K.inj g (I j k);rw[List.getD_eq_getElem?_getD,List.getD_eq_getElem?_getD,y4 a,y4 k]at P;exact(List.getElem_inj nd).mp P
 have M:(d.toArray.zip d.toArray).toList=(List.range cs.length).map f:=by
  apply List.ext_getElem?;intro i;rw[x5];by_cases a:i<cs.length
  . have F:i<d.length:=%[|0]
    simp[a,F,f]
  . have F:¬i<d.length:=%[|0]
    rw[List.getElem?_eq_none (by simp;omega),List.getElem?_eq_none (by simp;omega)];rfl
 obtain⟨R,D⟩:∃R:Keyed->Nat,∀i,i<cs.length->R (f i)=rnk cs.length (gU lt cs) i:=by have W:∀x,Decidable (∃i,i<cs.length/\f i=x):=λ x=>Classical.propDecidable _;refine⟨λ x=>if h:∃i,i<cs.length/\f i=x then rnk cs.length (gU lt cs) (Classical.choose h)else 0,λ i a=>?_⟩;have u:∃j,j<cs.length/\f j=f i:=⟨i,a,rfl⟩;dsimp only;rw[dif_pos u];obtain⟨U,V⟩:=Classical.choose_spec u;rw[C _ _ U a V]
 have G:∀x∈(d.toArray.zip d.toArray).toList,∃i,i<cs.length/\x=f i:=λ x u=>by rw[M]at u;obtain⟨i,a,rfl⟩:=ZO.mp u;exact⟨i,List.mem_range.mp a,rfl⟩
 have z:Asks prog w A E s (tuples' b) R (d.toArray.zip d.toArray):=by
  refine⟨λ{x y Q st} u hy Y h=>?_,?_⟩;{obtain⟨i,a,rfl⟩:=G x u;obtain⟨j,k,rfl⟩:=G y hy;rw[D i a,D j k,Eu H l a k]at h;rw[lt'_eq];refine wpS_bind (wpS_get ?_);rw[Y];exact wpS_bind (wpS_lift (wpAny_attempt (K.ask hu (I i a) (I j k) ⟨rfl,wpS_pure h⟩)))}
  . rw[M,List.map_map,List.Nodup,List.pairwise_map];refine List.Pairwise.imp_of_mem (λ{i j} a k t e=>?_) (List.nodup_range (n:=cs.length));have a:=List.mem_range.mp a;have k:=List.mem_range.mp k;have e:R (f i)=R (f j):=e;rw[D i a,D j k]at e
    cases q:gU lt cs i j with
    | true=>have:=qL H l a k q;omega
    | false=>have:=qL H l k a (H.tot i j a k t q);omega
 have sz:(d.toArray.zip d.toArray).size=cs.length:=by simp[Z]
 show wpS (model prog w) A E s sortRuns' (λ _ o=>∃p:List Nat,(arrOf o).map (·.2)=List.toArray (p.map λ i=>d.getD i Value.none)/\failedOf o=none/\OdrL cs.length (gU lt cs) p) _;refine Ph z (st:=SortSt.mk' (tuples' b) (d.toArray.zip d.toArray) #[] 7 none) ⟨rfl,.refl _,rfl⟩ rfl %[|0] λ o T J=>?_;have pm:=Array.perm_iff_toList_perm.mp T.perm;obtain⟨p,N,S⟩:=HB pm (xs:=List.range cs.length) (f:=f) M;have pl:p.length=cs.length:=by rw[N.length_eq,List.length_range]
 have m:∀i∈p,i<cs.length:=λ i a=>List.mem_range.mp (N.mem_iff.mp a);refine⟨p,?_,T.fine,pl,m,N.nodup_iff.mpr List.nodup_range,?_⟩;{apply Array.toList_inj.mp;rw[Array.toList_map,S,List.map_map];rfl}
 . refine List.pairwise_iff_getElem.mpr λ i j a k t=>?_;have:=J i j (Nat.zero_le _) t (by rw[sz];omega);have B:∀i,(a:i<p.length)->rk R (arrOf o) i=rnk cs.length (gU lt cs) p[i]:=λ i a=>by unfold rk;rw[←Array.getElem?_toList,S,x5,y4 a];exact D _ (m _ (List.getElem_mem _))
   rw[B i a,B j k]at this;have q:=Eu H l (m _ (List.getElem_mem a)) (m _ (List.getElem_mem k));rw[ZG this]at q;exact q.symm
theorem iW{a:Addr}{d:List Value}{n:Nat}{cs:List α}{R:PySem.Fin->%[|8]}(O:A.units+2<cLine)(q:s.heap.get? a=some (seqObj "list" d.toArray n))
 (k:d.length=cs.length)(N:∀(i:Nat)(v:Value)(c:α),d[i]? =some v->cs[i]? =some c->K.I s.heap v c)(M:∀c∈cs,good c)(nd:cs.Nodup)(C:d.length≤1000)
 (h:∀p:List Nat,OdrL cs.length (gU lt cs) p->R (.done (.ret .none)) {s with heap:=sortedHeap s.heap a d (List.toArray (p.map λ i=>d.getD i Value.none))}):
 wpAny (model prog w) A (Builtin.«list.sort» ⟨[.ref a],[]⟩) R E s:=by
 rw[list_sort_plain];have l:a<s.heap.objs.size:=ZE q;have g:d.length≤sizeLine:=Nat.le_trans C %[|3];refine ZA (listItems_at q rfl ?_);refine ZA (listUpdate_at q rfl ?_ (by rw[x9];exact g) (Nat.zero_le _));obtain⟨B,r⟩:∃B,(s.heap.update a (Obj.mapSeq λ _=>#[])).get? a=some (seqObj "list" #[] B):=⟨_,get?_update_seq q (λ _=>#[])⟩;refine ZA (seqEpoch_at r rfl ?_);refine ZA (wpAny_newTuple ?_ (by show d.length≤_;exact g));refine ZA (wpAny_newList ?_ (Nat.zero_le _));refine ZQ ?_;have f:(((s.heap.update a (Obj.mapSeq λ _=>#[])).push (seqObj "tuple" d.toArray 0)).push (seqObj "list" #[] 0)).get? a=some (seqObj "list" #[] B):=by rw[Heap.get?_push_ne _ _ _ (by rw[size_push',Heap.size_update];exact ZN (Nat.lt_succ_of_lt l)),Heap.get?_push_ne _ _ _ (by rw[Heap.size_update];exact ZN l)];exact r
 show wpAny (model prog w) A _ R E {s with heap:=((s.heap.update a (Obj.mapSeq λ _=>#[])).push (seqObj "tuple" d.toArray 0)).push (seqObj "list" #[] 0)};dsimp only;have u:(d.toArray.zip d.toArray).map (·.2)=d.toArray:=by apply Array.toList_inj.mp;simp[List.map_snd_zip]
 have y:∀(i:Nat)(v:Value)(c:α),d[i]? =some v->cs[i]? =some c->K.I (((s.heap.update a (Obj.mapSeq λ _=>#[])).push (seqObj "tuple" d.toArray 0)).push (seqObj "list" #[] 0)) v c:=λ i v c S U=>K.keep (λ b o e c=>by
  have D:b≠a:=by rintro rfl;rw[q]at e;cases e;exact absurd (show Value.type "list"=Value.type "tuple" from c) %[|3]
  have m:b<s.heap.objs.size:=ZE e;rw[Heap.get?_push_ne _ _ _ (by rw[size_push',Heap.size_update];exact ZN (Nat.lt_succ_of_lt m)),Heap.get?_push_ne _ _ _ (by rw[Heap.size_update];exact ZN m),Heap.get?_update_ne _ _ _ _ D];exact e) (N i v c S U);by_cases j:d.toArray.size<2
 . rw[if_pos j,if_pos j];refine ZA (ZB ?_);rw[StateT.run_pure];refine ZA (ZB ?_);dsimp only;refine ZA (seqEpoch_at f rfl ?_);rw[show arrOf (SortSt.mk' general' (d.toArray.zip d.toArray) #[] 7 none)=d.toArray.zip d.toArray from rfl,u];refine ZA (listUpdate_at f rfl ?_ (Nat.zero_le _) (by rw[x9];omega));simp only[bne_self_eq_false,Bool.false_eq_true,if_false];have z:OdrL cs.length (gU lt cs) (List.range cs.length):=by refine⟨by simp,λ i F=>List.mem_range.mp F,List.nodup_range,?_⟩;rw[x9]at j;rcases cs with _ | ⟨Z,_ | ⟨k2,cs⟩⟩;{exact List.Pairwise.nil};{simp[List.range_succ]};{exfalso;simp at k;omega}
   have H:((List.range cs.length).map λ i=>d.getD i Value.none)=d:=by rw[←k];refine List.ext_getElem? λ i=>?_;rw[x5];by_cases F:i<d.length;{simp[F]};{rw[List.getElem?_eq_none (by rw[List.length_range];omega),List.getElem?_eq_none %[|0]];rfl}
   have h:=h _ z;rw[H]at h;exact ZB h
 . rw[if_neg j,if_neg j];rw[x9]at j;obtain⟨Y,W,X,I⟩:=KQ k M y;refine ZA (PySem.W.kat_kind (T:=.type "int") W %[|0] (λ v P=>?_) rfl ?_);{obtain⟨n,t,rfl⟩:=I v P;exact PySem.W.Looks.of_pure rfl};generalize hs1:({s with heap:=((s.heap.update a (Obj.mapSeq λ _=>#[])).push (seqObj "tuple" d.toArray 0)).push (seqObj "list" #[] 0)}:Shared)=s1;have G:∀(i:Nat)(v:Value)(c:α),d[i]? =some v->cs[i]? =some c->K.I s1.heap v c:=by rw[←hs1];exact y
   refine ZA (wpAny_mono (Ko (K:=K) (E:=E) (A:=A) (s:=s1) (b:=Value.type "int" !=Value.type "tuple") O k G nd %[|0]) ?_ λ _ _ x=>x)
   . rintro⟨⟨⟩,V⟩ s' ⟨rfl,p,J,L,z⟩;subst hs1;dsimp only;refine ZA (seqEpoch_at f rfl ?_);rw[J];have Q:(p.map λ i=>d.getD i Value.none).length=d.length:=by rw[x4,z.len,k]
     refine ZA (listUpdate_at f rfl ?_ (Nat.zero_le _) (by rw[x9,Q];exact Nat.le_succ_of_le g));rw[L];simp only[bne_self_eq_false,Bool.false_eq_true,if_false];exact ZB (h p z)
end
theorem Ms(c:Int×%[|1]):ltC c c=false:=by unfold ltC;rw[if_pos rfl];exact BV _
def RW(prog:Program)(w:World):SK prog w (Int×%[|1]) ltC (λ _=>True) cD where
 h:=hC prog w
 I:=bh
 keep:=bh.keep
 ref:=λ⟨b,_,_,_,_,e,_⟩=>⟨b,e⟩
 eq:=λ d a f=>zE d a f
 seen:=My
 hbv:=λ a h=>Rk (n:=6) a h
 hash:=λ d a h=>LQ d a h
 tot:=Pa
 tr:=Rq
 irr:=Ms
 inj:=zG
 first:=by rintro h v c ⟨b,o,k,q,u,i,j,l,m,t⟩ _;exact⟨b,o,_,k,_,i,j,l,m,rfl,_,q,rfl⟩
 ask:=λ d a f h=>Tt d a f h
 of:=by rintro X g x H s O rfl rfl I y u c r p;exact jy I r p
section
variable {prog : Program} {w : World} {A : Around} {E : Value -> Shared -> Prop} {s : Shared} {d : Addr} {es : Array DictEntry} {ep : Nat} {cs : List (Int × %[|1])}
theorem zJ{Q:%[|7]}(hh:A.handled=none)(C:A.units+8<cLine)(lo:(d==sysModules)=false)(t:DEs d es ep s.heap)(B:es.size=cs.length)(nd:cs.Nodup)(j:es.size≤1000)
 (u:∀(i:Nat)(e:DictEntry)(c:Int×%[|1]),es.toList[i]? =some e->cs[i]? =some c->bh s.heap e.key c)
 (h:∀(p:List Nat)(l:Addr) h' tk c,OdrL cs.length (W2 cs) p->(∀b o,s.heap.get? b=some o->h'.get? b=some o)->s.heap.objs.size≤l->h'.get? l=some (seqObj "list" (List.toArray (p.map λ i=>(es.toList.map (·.key)).getD i Value.none)) c)->Q (.ref l) {s with heap:=h',toks:=tk}):
 wpAny (model prog w) A (call (.builtin "sorted") [.ref d]) Q E s:=by
 refine Calls.call_function_entry kind_sorted plain_sorted entry_sorted (args_sorted1 _) ?_;unfold Builtin.«sorted»;have k:es.size≤sizeLine:=Nat.le_trans j %[|3];refine ZA (m:=checkCount "sorted" 1 1 _) (ZB ?_);refine ZA (yI (by simpa using hh) lo t k λ h' tk z n=>?_);generalize hvs:es.toList.map (·.key)=vs at h;have D:vs.length=es.size:=by rw[←hvs,x4,Array.length_toList]
 refine ZA (wpAny_newList ?_ %[|0]);have a:(h'.push (seqObj "list" vs.toArray 0)).get? h'.objs.size=some (seqObj "list" vs.toArray 0):=ZD _ rfl;have keep:∀b o,s.heap.get? b=some o->(h'.push (seqObj "list" vs.toArray 0)).get? b=some o:=λ b o q=>ZC _ (z b o q);show wpAny _ _ _ _ _ {s with heap:=h'.push (seqObj "list" vs.toArray 0),toks:=tk};refine ZA (ZQ (ZP slot_list_sort ⟨_,a,rfl⟩ entry_list_sort (iW (K:=RW prog w) (cs:=cs) ?_ a %[|0] (λ i v c f r=>?_) (λ _ _=>trivial) nd %[|0] λ p y=>⟨_,rfl,?_⟩) (args_list_sort _)));{show A.units+1+1+2<cLine;omega}
 . rw[←hvs,x5]at f
   cases q:es.toList[i]? with
   | none=>rw[q]at f;cases f
   | some e=>rw[q]at f;cases f;exact(u i e c q r).keep λ b o e _=>keep b o e
 {obtain⟨e,x⟩:=sortedHeap_at (out:=List.toArray (p.map λ i=>vs.getD i Value.none)) a;refine ZB ⟨_,rfl,h p _ _ tk e y (λ b o q=>?_) n x⟩;have g:b<h'.objs.size:=ZM (ZE q) n;rw[sortedHeap_old (ZN g) (by rw[size_push'];exact Nat.lt_succ_of_lt g)];exact keep b o q}
end
theorem Qv{X:Cx}{S:Store}{W:WD}{k:Nat}{kvs:Kc}(hc:X.calm=true)(hu:X.A.units+8<cLine)(hk:S[k]? =some (.non::kvs.map encC))(hn:kvs.length≤1000)
 (w:∀ks:List (Int×%[|1]),ks.Perm (kvs.map (·.1))->ks.Pairwise (λ a b=>ltC a b=true)->W (.lst (ks.map cD)) S):cX X (.builtin "sorted") [.dlo k] S W:=by
 intro Q s σ H O vs us I M r ru;obtain⟨v,rfl,r'⟩:=cC r;obtain⟨u,rfl,L⟩:=vals1 ru
 cases r' with
 | @dlo a _ ha aa=>
   cases L;obtain⟨lo,mu,g,eH,K,⟨oo,N,U,Y,Z,G,g5,g6⟩,hz⟩:=cZ I (M.dob k a _ ha hk);have J:=K.length;have t:=BR K;have F:N.size=g.length:=by rw[←Array.length_toList,G,x4]
   have nd:(kvs.map (·.1)).Nodup:=by rw[←t];exact g6
   refine zJ (cs:=kvs.map (·.1)) (I.ok.hd hc) hu lo ⟨oo,U,Y,Z⟩ (by rw[F,J,x4]) nd %[|0] (λ i e c f m=>?_) λ p l h' tk c D A z P=>?_
   . rw[G,x5]at f
     cases q:g[i]? with
     | none=>rw[q]at f;cases f
     | some y=>rw[q]at f;cases f;rw[←t,x5,q]at m;cases m;exact g5 y (y8 q)
   . have R:∀i∈p,i<g.length:=λ i x=>by have:=D.lt_ i x;rw[x4]at this;omega
     have o:H l=none:=I.hok.fresh z;let n:(Int×%[|1])×Addr×Value:=((0,[]),0,.none);have C:∀i,i<g.length->g[i]? =some (g.getD i n):=λ i x=>by rw[List.getD_eq_getElem?_getD];simp[x]
     have T:(p.map λ i=>(N.toList.map (·.key)).getD i Value.none)=p.map λ i=>Value.ref (g.getD i n).2.1:=by refine List.map_congr_left λ i x=>?_;rw[G,List.map_map,List.getD_eq_getElem?_getD,x5,C i (R i x)];rfl
     rw[T]at P;have pl:p.length≤1000:=by rw[D.len,x4];exact hn
     have ok:az X.prog X.w (upd H l (.lst (p.map λ i=>V.ref (g.getD i n).2.1))) h' l (.lst (p.map λ i=>V.ref (g.getD i n).2.1)):=
      ⟨by rw[x4,sizeLine_eq];omega,p.map λ i=>Value.ref (g.getD i n).2.1,c,uo (by simp) (λ i v u f m=>by
       rw[x5]at f m
       cases q:p[i]? with
       | none=>rw[q]at f;cases f
       | some j=>rw[q]at f m;cases f;cases m;rfl),P⟩;have rk:=Fd K;have B:Reps X.K O H (p.map λ i=>V.ref (g.getD i n).2.1) ((p.map λ i=>(g.getD i n).1).map cD):=qu (by simp) λ i v d f m=>by
      rw[x5]at f;rw[x5,x5]at m
      cases q:p[i]? with
      | none=>rw[q]at f;cases f
      | some j=>rw[q]at f m;cases f;cases m;exact rk j _ (C j (R j (y8 q)))
     have E:∀i,(g.getD i n).1=(kvs.map (·.1)).getD i (0,[]):=λ i=>by rw[←t,List.getD_eq_getElem?_getD,List.getD_eq_getElem?_getD,x5];cases g[i]?<;>rfl
     have hw:=w (p.map λ i=>(g.getD i n).1) (by have e:(p.map λ i=>(g.getD i n).1)=p.map λ i=>(kvs.map (·.1)).getD i (0,[]):=List.map_congr_left λ i _=>E i;rw[e];have:=D.perm.map λ i=>(kvs.map (·.1)).getD i (0,[]);rw[range_getD]at this;exact this) (by rw[List.pairwise_map];refine D.srt.imp λ{i j} h=>?_;rw[E,E];exact h);refine⟨.ref l,_,I.laid (t':=tk) A z ok,rfl,?_⟩;exact⟨O,_,S,hw,Step.fresh o _,M.fresh o _,.lst (sH M o) (B.mono (Step.fresh o _))⟩
def RX:Bf where
 x:="sorted"
 id:="sorted"
 boot:=by decide+kernel
 wp e S W:=∃(k:Nat) (c:Kc),e=[.dlo k]/\S[k]? =some (.non::c.map encC)/\c.length≤1000/\∀d:List (Int×%[|1]),d.Perm (c.map (·.1))->d.Pairwise (λ a b=>ltC a b=true)->W (.lst (d.map cD)) S
 sound:=by rintro X e S W i j ⟨k,c,rfl,f,g,h⟩;exact Qv i (by have:=j.un;omega) f g h
section
variable {prog : Program} {w : World} {A : Around} {E : Value -> Shared -> Prop} {s : Shared} {α : Type} [DecidableEq α] [Inhabited α] {lt : α -> α -> Bool} {good : α -> Prop} {enc : α -> D} {K : SK prog w α lt good enc}
theorem ye{l:Addr}{a:List Value}{cs:List α}{Q:%[|7]}(D:A.units+8<cLine)(z:s.heap.IsList l a.toArray)(j:a.length=cs.length)(h2:a.length≤1000)(u:∀(i:Nat)(v:Value)(c:α),a[i]? =some v->cs[i]? =some c->K.I s.heap v c)
 (y:∀c∈cs,good c)(nd:cs.Nodup)
 (h:∀(p:List Nat)(l:Addr) h' c,OdrL cs.length (gU lt cs) p->(∀b o,s.heap.get? b=some o->h'.get? b=some o)->s.heap.objs.size≤l->h'.get? l=some (seqObj "list" (List.toArray (p.map λ i=>a.getD i Value.none)) c)->Q (.ref l) {s with heap:=h'}):
 wpAny (model prog w) A (call (.builtin "sorted") [.ref l]) Q E s:=by
 have k:a.length≤sizeLine:=Nat.le_trans h2 %[|3];refine Calls.call_function_entry kind_sorted plain_sorted entry_sorted (args_sorted1 _) ?_;unfold Builtin.«sorted»;refine ZA (m:=checkCount "sorted" 1 1 _) (ZB ?_);refine ZA (collect_list z ?_ k);generalize hh':(s.heap.push (seqObj "list" #[] 0)).update s.heap.objs.size (Obj.mapSeq (· ++a.toArray))=h';have n:h'.objs.size=s.heap.objs.size+1:=by rw[←hh',Heap.size_update,size_push']
 have C:∀b o,s.heap.get? b=some o->h'.get? b=some o:=λ b o q=>by have d:b<s.heap.objs.size:=ZE q;rw[←hh',Heap.get?_update_ne _ _ _ _ (ZN d),Heap.get?_push_ne _ _ _ (ZN d)];exact q
 refine ZA (wpAny_newList ?_ k);have g:(h'.push (seqObj "list" a.toArray 0)).get? h'.objs.size=some (seqObj "list" a.toArray 0):=ZD _ rfl;have f:∀b o,s.heap.get? b=some o->(h'.push (seqObj "list" a.toArray 0)).get? b=some o:=λ b o q=>ZC _ (C b o q);show wpAny _ _ _ _ _ {s with heap:=h'.push (seqObj "list" a.toArray 0)};refine ZA (ZQ (ZP slot_list_sort ⟨_,g,rfl⟩ entry_list_sort (iW (K:=K) (cs:=cs) ?_ g j (λ i v c r t=>K.keep (λ b o e _=>f b o e) (u i v c r t)) y nd h2 λ p B=>⟨_,rfl,?_⟩) (args_list_sort _)));{show A.units+1+1+2<cLine;omega}
 . obtain⟨e,x⟩:=sortedHeap_at (out:=List.toArray (p.map λ i=>a.getD i Value.none)) g;refine ZB ⟨_,rfl,h p _ _ e B (λ b o q=>?_) (by rw[n];exact Nat.le_succ _) x⟩;have d:b<h'.objs.size:=by rw[n];exact Nat.lt_succ_of_lt (ZE q)
   rw[sortedHeap_old (ZN d) (by rw[size_push'];exact Nat.lt_succ_of_lt d)];exact f b o q
end
section
variable {X : Cx} {α : Type} [DecidableEq α] [Inhabited α] {lt : α -> α -> Bool} {good : α -> Prop} {enc : α -> D}
theorem Lk(K:SK X.prog X.w α lt good enc){cs:List α}{S:Store}{W:WD}{d:D}(hu:X.A.units+8<cLine)(h2:cs.length≤1000)(hg:∀c∈cs,good c)(nd:cs.Nodup)(hd:d=.lst (cs.map enc)∨∃k,d=.loc k/\S[k]? =some (cs.map enc))
 (w:∀ks:List α,ks.Perm cs->ks.Pairwise (λ a b=>lt a b=true)->W (.lst (ks.map enc)) S):
 cX X (.builtin "sorted") [d] S W:=by
 intro B s σ H O vs us I st r ru;obtain⟨v,rfl,r'⟩:=cC r;obtain⟨u,rfl,T⟩:=vals1 ru;have o:∀(a:Addr)(e:List V),v=.ref a->SqL X.K H a e->Reps X.K O H e (cs.map enc)->wpAny %[|6] X.A (call (.builtin "sorted") [u]) (EP X B σ (QG X.K O H W)) X.xe s:=by
  rintro a e rfl hs P;cases T;obtain⟨h,U,pl,hz⟩:=I.list hs;have l1:e.length=cs.length:=by rw[P.length,x4]
  have l2:h.length=cs.length:=by rw[←U.length,l1]
  refine ye (K:=K) hu pl.isList l2 %[|0] (λ i x c f m=>?_) hg nd λ p l h' c F A z hL=>?_
  . have L:(cs.map enc)[i]? =some (enc c):=by rw[x5,m];rfl
    obtain⟨y,G,Z⟩:=P.get L;obtain⟨x',g,Y⟩:=kj U G;rw[f]at g;cases g;exact K.of rfl rfl I Z Y
  . have pn:∀i∈p,i<cs.length:=F.lt_;have n:H l=none:=I.hok.fresh z;have E:∀i,i<cs.length->e[i]? =some (e.getD i (.ref 0)):=λ i N=>by rw[List.getD_eq_getElem?_getD];simp[show i<e.length by omega]
    have Q:∀i,i<cs.length->h[i]? =some (h.getD i .none):=λ i N=>by rw[List.getD_eq_getElem?_getD];simp[show i<h.length by omega]
    have J:∀i,i<cs.length->cs[i]? =some (cs.getD i default):=λ i N=>by rw[List.getD_eq_getElem?_getD];simp[N]
    have ok:az X.prog X.w (upd H l (.lst (p.map λ i=>e.getD i (.ref 0)))) h' l (.lst (p.map λ i=>e.getD i (.ref 0))):=
     ⟨by rw[x4,sizeLine_eq,F.len];omega,p.map λ i=>h.getD i Value.none,c,uo (by simp) (λ i v u f m=>by
      rw[x5]at f m
      cases q:p[i]? with
      | none=>rw[q]at f;cases f
      | some j=>rw[q]at f m;cases f;cases m;have t:=pn j (y8 q);obtain⟨x',g,Y⟩:=kj U (E j t);rw[Q j t]at g;cases g;exact Y),hL⟩;have C:Reps X.K O H (p.map λ i=>e.getD i (.ref 0)) ((p.map λ i=>cs.getD i default).map enc):=qu (by simp) λ i v d f m=>by
     rw[x5]at f;rw[x5,x5]at m
     cases q:p[i]? with
     | none=>rw[q]at f;cases f
     | some j=>
       rw[q]at f m;cases f;cases m;have t:=pn j (y8 q);have L:(cs.map enc)[j]? =some (enc (cs.getD j default)):=by rw[x5,J j t];rfl
       obtain⟨y,G,Z⟩:=P.get L;rw[E j t]at G;cases G;exact Z
    have hw:=w (p.map λ i=>cs.getD i default) (by have:=F.perm.map λ i=>cs.getD i default;rw[range_getD]at this;exact this) (by rw[List.pairwise_map];exact F.srt);refine⟨.ref l,_,I.laid (t':=s.toks) A z ok,rfl,?_⟩;exact⟨O,_,S,hw,Step.fresh n _,st.fresh n _,.lst (sH st n) (C.mono (Step.fresh n _))⟩
 rcases hd with rfl | ⟨k,rfl,hk⟩;{cases r' with| @lst a e _ M R=>exact o a e rfl M.sq R};{cases r' with| @loc p _ M=>obtain⟨e,hx,R⟩:=st.obj k p _ M hk;exact o p e rfl (SqL.of hx) R}
end
def Ry:Bf where
 x:="sorted"
 id:="sorted"
 boot:=by decide+kernel
 wp f S W:=∃(c:List (Int×%[|1])) (d:D),f=[d]/\c.length≤1000/\c.Nodup/\(d=.lst (c.map cD)∨∃k,d=.loc k/\S[k]? =some (c.map cD))/\∀e:List (Int×%[|1]),e.Perm c->e.Pairwise (λ a b=>ltC a b=true)->W (.lst (e.map cD)) S
 sound:=by rintro X f S W m l ⟨c,d,rfl,g,h,i,j⟩;exact Lk (RW X.prog X.w) (by have:=l.un;omega) g (λ _ _=>trivial) h i j
theorem R9{X:Cx}{S:Store}{W:WD}{k:Nat}{kvs:Kc}(Q:X.calm=true)(T:S[k]? =some (.non::kvs.map encC))
 (w:W (.lst ((kvs.map (·.1)).map cD)) S):cX X (.type "list") [.dlo k] S W:=by
 intro D s σ H O vs us I A r ru;obtain⟨v,rfl,r'⟩:=cC r;obtain⟨u,rfl,z⟩:=vals1 ru
 cases r' with
 | @dlo a _ P U=>
   cases z;obtain⟨Y,mu,f,eH,x,⟨oo,es,J,K,L,B,g5,g6⟩,hz⟩:=cZ I (A.dob k a _ P T);have t:=x.length;have p:=BR x;have G:es.size=f.length:=by rw[←Array.length_toList,B,x4]
   refine PySem.W.kdl_call (BX (es:=es) Y) (I.ok.hd Q) ⟨oo,J,K,L⟩ %[|0] λ M tk g c n N hacc=>?_;have l:H s.heap.objs.size=none:=I.hok.fresh (x6 _);have F:g.toList=f.map λ y=>Value.ref y.2.1:=by
    refine List.ext_getElem? λ j=>?_;rw[x5,Array.getElem?_toList];by_cases R:j<es.size
    . have C:j<g.size:=by rw[hacc.1];exact R
      obtain⟨e,b,h⟩:=hacc.2 j g[j] (by simp[C]);have m:es.toList[j]? =some e:=by rw[Array.getElem?_toList];exact b
      rw[B,x5]at m
      cases q:f[j]? with
      | none=>rw[q]at m;cases m
      | some y=>rw[q]at m;cases m;rw[Array.getElem?_eq_getElem C,h];rfl
    {rw[Array.getElem?_eq_none (by rw[hacc.1];omega),List.getElem?_eq_none %[|0]];rfl}
   have E:g=(f.map λ y=>Value.ref y.2.1).toArray:=by rw[←F]
   have Z:az X.prog X.w (upd H s.heap.objs.size (.lst (f.map λ y=>V.ref y.2.1))) M s.heap.objs.size (.lst (f.map λ y=>V.ref y.2.1)):=
    ⟨by rw[x4];omega,f.map λ y=>Value.ref y.2.1,c,uo (by simp) (λ i v u b h=>by
     rw[x5]at b h
     cases q:f[i]? with
     | none=>rw[q]at b;cases b
     | some j=>rw[q]at b h;cases b;cases h;rfl),by rw[←E];exact N⟩;have rk:=Fd x;have o:Reps X.K O H (f.map λ y=>V.ref y.2.1) ((kvs.map (·.1)).map cD):=qu (by simp[t]) λ i v d b h=>by
    rw[x5]at b;rw[←p,x5,x5]at h
    cases q:f[i]? with
    | none=>rw[q]at b;cases b
    | some y=>rw[q]at b h;cases b;cases h;exact rk i y q
   refine⟨.ref s.heap.objs.size,_,I.laid (t':=tk) n (x6 _) Z,rfl,?_⟩;exact⟨O,_,S,w,Step.fresh l _,A.fresh l _,.lst (sH A l) (o.mono (Step.fresh l _))⟩
def SM:Bc where
 x:="list"
 id:="list"
 boot:=by decide+kernel
 wp b S W:=∃(k:Nat) (a:Kc),b=[.dlo k]/\S[k]? =some (.non::a.map encC)/\W (.lst ((a.map (·.1)).map cD)) S
 sound:=by rintro X b S W e f ⟨k,a,rfl,c,d⟩;exact R9 e c d
section
variable {P : Program} {w : World} {K : PySem.W.Frag}
def TV(a:Addr)(n:Nat):It:=
 ⟨λ i H=>∃d c b u,H a=some (.ext (aM a d))/\d.length=n/\d[i]? =some (c,b,u),
  λ i H x e=>e=H/\∀d,H a=some (.ext (aM a d))->∃c b u,d[i]? =some (c,b,u)/\x=.ref b,
  λ i H=>∃d,H a=some (.ext (aM a d))/\d.length=n/\n≤i⟩
theorem JW{tg:Expr}(a r:Addr)(n:Nat):Turn P w K tg (TV a n) [r] r (λ i h=>h.IsKeyIter r a i n n) where
 mem:=by simp
 obj:=λ i h A b m=>by obtain⟨o,ho,W,hd⟩:=A;rw[ZL.mp m];exact⟨o,ho,λ v z=>by rw[hd]at z;cases z⟩
 keep:=λ i h C A k=>A.at λ o e=>k r (by simp) o e
 item:=by
  intro X U hw hK W i l s σ H E I G p Y;obtain⟨ys,c,b,u,S,x,Z⟩:=Y;obtain⟨⟨_,_,_,o,B,D,h2,q,F⟩,_,_⟩:=(show az X.prog X.w H s.heap a (.ext (aM a ys))from I.hok a _ S);have d:B.size=n:=by rw[←Array.length_toList,F,x4,x]
  have j:B[i]? =some ⟨hC0 c,.ref b,u⟩:=by rw[←Array.getElem?_toList,F,x5,Z];rfl
  have uq:∀g,H a=some (.ext (aM a g))->∃t L u',g[i]? =some (t,L,u')/\V.ref b=.ref L:=λ g T=>by
   obtain⟨⟨_,_,_,o',aa,k1,_,J,k4⟩,_,_⟩:=(show az X.prog X.w H s.heap a (.ext (aM a g))from I.hok a _ T);obtain rfl:o=o':=Option.some.inj (D.symm.trans k1);rw[q]at J;injection J with J _;subst J;rw[←Array.getElem?_toList,k4,x5]at j
   cases e:g[i]? with
   | none=>rw[e]at j;cases j
   | some y=>rw[e]at j;obtain⟨t,L,u'⟩:=y;have j:=Option.some.inj j;injection j with _ hx1 hx2;injection hx1 with hx1;subst hx1;exact⟨t,_,u',rfl,rfl⟩
  rw[x]at q;subst U hw;obtain⟨M,N,f2,O,Q,R⟩:=G r (by simp);refine xO D q (by rw[d];exact p) j λ C f sb=>?_;have I1:Inv X l σ H {s with heap:=C}:=I.turned (t':=s.toks) (λ b o m e=>(sb.2 b m).trans e) M N O Q R;rw[d]at f;obtain⟨o',e,t,d'⟩:=id f;exact⟨.ref b,rfl,qT (s:={s with heap:=C}) e t d' %[|3] ⟨.ref b,H,I1,rfl,⟨rfl,uq⟩,f,λ b m=>(G b m).1⟩⟩
 done:=by
  intro X U hw hK W i l s σ H E I G p Y;obtain⟨ys,S,x,Z⟩:=Y;obtain⟨⟨_,_,_,o,B,D,h2,q,F⟩,_,_⟩:=(show az X.prog X.w H s.heap a (.ext (aM a ys))from I.hok a _ S);have d:B.size=n:=by rw[←Array.length_toList,F,x4,x]
  rw[x]at q;subst U hw;obtain⟨M,N,f2,O,Q,R⟩:=G r (by simp);exact FJ (I.ok.hd W) D q (by rw[d];exact p) (by rw[d];exact Z) λ C ext=>⟨rfl,I.turned (t':=s.toks) (λ b o m e=>ext b o m e) M N O Q R⟩
 self:=λ _ _ _ _ _ A h=>wpAny_pyIter_keyiter A h
end
section
variable {K : PySem.W.Frag} {O : Own} {H : Hp}
theorem Cp{a:Addr}{k:Nat}{kcs:Kc}(h:O.A[k]? =some (a,true)):gK K (TV a kcs.length) O H (λ S=>S[k]? =some (.non::kcs.map encC)) (kcs.map λ kv=>cD kv.1):=by
 intro w s Y L V N i;have M:w.A[k]? =some (a,true):=L.lc k _ h;have P:=V.dob k a _ M N;obtain⟨f,e,r⟩:∃f,s a=some (.ext (aM a f))/\Kcs K w s f (kcs.map encC):=by
  cases P with
  | t U e r=>cases r
  | c f n e r=>cases r
  | o f n e r=>cases r
  | m f d' j e r=>obtain⟨_,rfl⟩:=List.cons.inj j;exact⟨f,e,r⟩
  | p ps n b l c z q k e j g=>cases j
 have G:=r.length;have B:∀(kcs:Kc)(f:Cy),Kcs K w s f (kcs.map encC)->∀(i:Nat)(kv:(Int×%[|1])×D),kcs[i]? =some kv->∃b u,f[i]? =some (kv.1,b,u)/\Rep K w s (.ref b) (cD kv.1):=by
  intro kcs
  induction kcs with
  | nil=>intro f r i kv h;simp at h
  | cons T kcs R=>
    intro f r i kv h;obtain⟨b,u,v,F,rfl,W,rv,rd,t⟩:=r.inv
    cases i with
    | zero=>cases h;exact⟨b,u,rfl,W⟩
    | succ i=>obtain⟨b,u,A,C⟩:=R F t i kv (by simpa using h);exact⟨b,u,by simpa using A,C⟩
 refine⟨λ d j=>?_,λ Q=>⟨f,e,G,by rw[Q,x4];exact x6 _⟩⟩;obtain⟨kv,E,rfl⟩:=aR j;obtain⟨b,u,A,C⟩:=B kcs f r i kv E;refine⟨⟨f,kv.1,b,u,e,G,A⟩,λ x J y=>?_⟩;obtain⟨rfl,X⟩:=y;obtain⟨c2,Z,u2,I,rfl⟩:=X f e;rw[A]at I;cases I;exact⟨cW.refl _,C⟩
end
section
variable {X : Cx} {Γ : Gam} {S : Store}
theorem QK{o N:Expr}{W:List D->%[|4]->%[|4]}
 (h:Ev X Γ S o λ d S1=>∃k kvs,d=.dlo k/\S1[k]? =some (.non::List.map encC kvs)/\W (kvs.map λ kv=>cD kv.1) (λ S=>S[k]? =some (.non::kvs.map encC)) S1):ItC X Γ S N o W:=by
 intro f s Q H O I j M;refine thn (h f s Q H O I j M) λ u s1 l=>?_;obtain⟨x,p,i,L,q,Y,S1,⟨k,kvs,rfl,E,w⟩,m,c,g⟩:=l
 cases g with
 | @dlo a _ n G=>
   obtain rfl:u=Value.ref a:=L;have B:=c.dob k a _ n E;obtain⟨K,U,P,R,J,⟨V,r,v,y,z,A,_,_⟩,T⟩:=cZ i B;have t:r.size=P.length:=by rw[←Array.length_toList,A,x4]
   refine vG K v y z ?_;have F:=J.length;rw[t,F];refine⟨_,[s1.heap.objs.size],_,_,p,rfl,i.kept (t':=s1.toks) (λ b o e=>ZC _ e),JW a _ kvs.length,⟨_,ZD _ rfl,rfl,rfl⟩,λ b C=>?_,q,kvs.map λ kv=>cD kv.1,_,S1,w,m,c,Cp n⟩;rw[ZL.mp C];exact i.fpOk (x6 _) (i.hok.fresh (x6 _))
end
section
variable {Ω : Wd}
@[irreducible] noncomputable def yx(Γ:Gam)(tg:Tg)(body:Bl Ω)(W:DL.Fin)(k:Nat)(kvs:Kc)(S1:Store):Prop:=
  ∃c:Nat->Gam->%[|4],c 0 Γ S1/\(∀i a b,c i a b->b[k]? =some (.non::kvs.map encC))/\(∀i kv a b,kvs[i]? =some kv->c i a b->tg.wp (cD kv.1) a λ d=>body.wp d b {W with nx:=c (i+1),ct:=c (i+1),bk:=W.nx})/\(∀a b,c kvs.length a b->W.nx a b)
theorem QF{d:Gam}{c:Tg}{a:Bl Ω}{W:DL.Fin}{k:Nat}{kvs:Kc}{b:Store}(h:∃Pv:Nat->Gam->%[|4],Pv 0 d b/\(∀i Γ' S',Pv i Γ' S'->S'[k]? =some (.non::kvs.map encC))/\(∀i kv Γ' S',kvs[i]? =some kv->Pv i Γ' S'->c.wp (cD kv.1) Γ' λ Γ2=>a.wp Γ2 S' {W with nx:=Pv (i+1),ct:=Pv (i+1),bk:=W.nx})/\(∀Γ' S',Pv kvs.length Γ' S'->W.nx Γ' S')):yx d c a W k kvs b:=by unfold yx;exact h
def XR(tg:Tg)(o:Ex Ω)(body:Bl Ω):Sm Ω where
 lev:=max o.lev body.lev
 chk c N l w:=frB w λ t x b=>nameE x&&(tg.chk c N l t&&(o.chk c N l x&&body.chk c N l b))
 wp u S W:=o.wp u S λ d p=>match d with
  | .dlo k=>∃a,p[k]? =some (.non::List.map encC a)/\yx u tg body W k a p
  | _=>False
 sound:=by
  intro X r c N l w u S W A G e H;obtain⟨J,K⟩:=lv2 G;obtain⟨t,x,b,P,y,g⟩:=nC e;clear e;have e:=g;clear g;subst y
  . obtain⟨z,e⟩:=aa e;obtain⟨B,e⟩:=aa e;obtain⟨C,D⟩:=aa e;refine rM (QK (Ev.mono (o.sound A J C H) λ d p q=>?_)) (by rw[A.xe];exact PassesOwn.never) A.calm (λ _=>by cases x<;>first | rfl | exact ff z)
    cases d with
    | dlo k=>obtain⟨a,F,q⟩:=q;unfold yx at q;obtain⟨m,L,M,Q,O⟩:=q;refine⟨k,a,rfl,F,m,L,M,λ i d f n E j=>?_,λ f n j=>O f n (by rw[x4]at j;exact j)⟩;obtain⟨I,s,rfl⟩:=aR E;exact BdW.mono (Tg.sound A (W:=λ h v=>body.wp h v {W with nx:=m (i+1),ct:=m (i+1),bk:=W.nx}) B (Q i I f n s j)) λ h v q=>body.sound A K D q
    | _=>exact(show False from q).elim
end
section
variable {P : Program} {w : World} {A : Around} {E : Value -> Shared -> Prop} {s : Shared} {d v : Addr} {ep : Nat} {es : Array DictEntry} {od : Obj}
theorem BL(a:(d==sysModules)=false):MeetsIn P w (Builtin.«dict.values» ⟨[.ref d],[]⟩) (λ _ R s=>s.TypeIs (.ref d) "dict"/\R (.ok (.ret (.ref s.heap.objs.size))) {s with heap:=s.heap.push {cls:=.type "dict_values",data:=.fields #[.ref d]}}):=
 .of_wp λ A R s ⟨T,h⟩=>by unfold Builtin.«dict.values»;refine ZA ?_;unfold Builtin.Dict.noArgs;refine ZA (wpAny_notOrdered_dict T ?_);show wpAny _ _ (pure d) _ _ s;refine ZB ?_;show wpAny _ _ (Builtin.Dict.showsAll d>>=_) _ _ s;unfold Builtin.Dict.showsAll;rw[if_neg (by rw[a];exact y9)];exact ZA (ZB (ZA (wpAny_newObj_type (ZB ⟨_,rfl,h⟩))))
theorem Dn{Q:%[|7]}(g:s.heap.IsValuesView v d)(b:s.heap.get? d=some od)(a:od.data=.dict es ep)
 (h:Q (.ref s.heap.objs.size) {s with heap:=s.heap.push {cls:=.type "dict_valueiterator",data:=.fields #[.ref d,.int 0 0,.int es.size 0,.int ep 0]}}):
 wpAny (model P w) A (pyIter (.ref v)) Q E s:=by
 obtain⟨j,f,i,e⟩:=id g;have c:Builtin.Dict_items.ownsTuple "dict_valueiterator"=false:=%[|3]
 refine wpAny_pyIter_slot g.typeIs F.slot_dict_values_iter (ZP F.slot_dict_values_iter g.typeIs F.entry_dict_values_iter ?_ (F.args_dict_values_iter_1 _));unfold Builtin.«dict_values.__iter__»;refine ZA (ZB (ZA ?_));unfold Builtin.Dict_items.dictOf;refine ZA (wpAny_field f e (x:=.ref d) rfl (ZB (ZA ?_)));unfold Builtin.Dict_items.newIterator;refine ZA (wpAny_dictEntries b a (ZA (wpAny_dictEpoch b a ?_)));simp only[c,Bool.false_eq_true,if_false];refine wpAny_newObj_type (ZB ⟨_,rfl,"dict_valueiterator",_,⟨_,ZD _ rfl,rfl⟩,F.slot_dict_valueiterator_next.lookup,?_⟩);simpa[rawInt]using h
end
section
variable {P : Program} {w : World} {A : Around} {E : Value -> Shared -> Prop} {s : Shared} {d it : Addr} {i ep : Nat} {es : Array DictEntry} {od : Obj} {e : DictEntry}
theorem K5{Q:Option Value->%[|8]}(g:s.heap.get? d=some od)(c:od.data=.dict es ep)(f:s.heap.IsValIter it d i es.size ep)(m:es[i]? =some e)
 (k:∀h',h'.IsValIter it d (i+1) es.size ep->Heap.SameBut it s.heap h'->Q (some e.val) {s with heap:=h'}):wpAny (model P w) A (pyNext (.ref it)) Q E s:=by
 obtain⟨o,j,l,b⟩:=id f;have T:=f.typeIs;have h:Builtin.Dict_items.ownsTuple "dict_valueiterator"=false:=%[|3]
 unfold pyNext;refine ZA (wpAny_attempt (wpAny_callSpecial?_slot (name:=Str.ofString "__next__") T F.slot_dict_valueiterator_next (ZP F.slot_dict_valueiterator_next T F.entry_dict_valueiterator_next ?_ (F.args_dict_valueiterator_next_1 _))));refine ZA (ZB (ZA (ZA ?_)));first | refine ZA (wpAny_typeNameOfWhole_valiter T (ZB (ZA (wpAny_fieldsOf j b ?_)))) | refine ZA (wpAny_typeNameOf_valiter T (ZB (ZA (wpAny_fieldsOf j b ?_))))
 simp only[h,Bool.false_eq_true,if_false];show wpAny _ _ (if(Value.ref d==Value.none)=true then _ else _) _ _ s;rw[if_neg (show ¬((Value.ref d==Value.none)=true)from y9)];refine ZA (ZB (ZA (wpAny_dictEntries g c ?_)));rw[if_neg (by simp)];refine ZA (ZB (ZA (wpAny_dictEpoch g c ?_)));rw[if_neg (by simp)];refine ZB ?_;simp only[show ¬((i:Int)<0)from %[|0],if_false,Int.toNat_natCast,m];refine ZA ?_;first | refine ZA (wpAny_typeNameOfWhole_valiter T (ZB (ZA (wpAny_isOneOf_valiter T ?_)))) | refine ZA (wpAny_typeNameOf_valiter T (ZB (ZA (wpAny_isOneOf_valiter T ?_))))
 show wpAny _ _ (setField (.ref it) 1 (rawInt ((i:Int)+1))>>=_) _ _ s;refine ZA (wpAny_setField j b (by simp) ?_);have a:(s.heap.update it (Obj.mapFields (·.setIfInBounds 1 (rawInt ((i:Int)+1))))).IsValIter it d (i+1) es.size ep:=
  ⟨_,Heap.get?_update_self _ j (Obj.isFreed_of_fields (Obj.data_mapFields b _)),(Obj.cls_mapFields ..).trans l,by rw[Obj.data_mapFields b];simp[rawInt]⟩;refine ZA (ZQ (ZA (wpAny_isOneOf_valiter (s:={s with heap:=s.heap.update it (Obj.mapFields (·.setIfInBounds 1 (rawInt ((i:Int)+1))))}) a.typeIs ?_)));rw[if_neg %[|3]];refine ZA (wpAny_isOneOf_valiter (s:={s with heap:=s.heap.update it (Obj.mapFields (·.setIfInBounds 1 (rawInt ((i:Int)+1))))}) a.typeIs ?_);show wpAny _ _ (pure e.val) _ _ _;exact ZB (ZB ⟨_,rfl,ZB (k _ a (Heap.SameBut.update ..))⟩)
theorem Qf{Q:Option Value->%[|8]}(hh:A.handled=none)(f:s.heap.get? d=some od)(c:od.data=.dict es ep)(e:s.heap.IsValIter it d i es.size ep)(l:es.size≤i)
 (k:∀h',Heap.ExtBut it s.heap h'->Q none {s with heap:=h'}):wpAny (model P w) A (pyNext (.ref it)) Q E s:=by
 obtain⟨o,j,n,h⟩:=id e;have T:=e.typeIs;have g:Builtin.Dict_items.ownsTuple "dict_valueiterator"=false:=%[|3]
 unfold pyNext;refine ZA (wpAny_attempt (wpAny_callSpecial?_slot (name:=Str.ofString "__next__") T F.slot_dict_valueiterator_next (ZP F.slot_dict_valueiterator_next T F.entry_dict_valueiterator_next ?_ (F.args_dict_valueiterator_next_1 _))));refine ZA (ZB (ZA (ZA ?_)));first | refine ZA (wpAny_typeNameOfWhole_valiter T (ZB (ZA (wpAny_fieldsOf j h ?_)))) | refine ZA (wpAny_typeNameOf_valiter T (ZB (ZA (wpAny_fieldsOf j h ?_))))
 simp only[g,Bool.false_eq_true,if_false];show wpAny _ _ (if(Value.ref d==Value.none)=true then _ else _) _ _ s;rw[if_neg (show ¬((Value.ref d==Value.none)=true)from y9)];refine ZA (ZB (ZA (wpAny_dictEntries f c ?_)));rw[if_neg (by simp)];refine ZA (ZB (ZA (wpAny_dictEpoch f c ?_)));rw[if_neg (by simp)];refine ZB ?_;simp only[show ¬((i:Int)<0)from %[|0],if_false,Int.toNat_natCast,Array.getElem?_eq_none l];refine ZA ?_;first | refine ZA (wpAny_typeNameOfWhole_valiter T (ZB ?_)) | refine ZA (wpAny_typeNameOf_valiter T (ZB ?_))
 show wpAny _ _ (setField (.ref it) 0 .none>>=_) _ _ s;refine ZA (wpAny_setField j h (by simp) ?_);show wpAny _ _ (newExc (.type "StopIteration") []>>=_) _ _ _;refine ZA ?_;simp only[newExc,newTuple];refine ZA (wpAny_newObj_type (ZA (m:=firstArgMember _ _) (wpAny_of_eq (a:=Value.none) (by first | rfl | (simp only[firstArgMember];rfl)) (wpAny_newObj_type ?_ (by size_fits)))) (by size_fits));simp only[raiseNew];refine ZA (wpAny_handled ?_);rw[show A.in1.handled=none from hh];refine ZA (ZB (wpAny_throw ?_));refine ZA (wpAny_isInstance (T:="StopIteration") (b:=true) ⟨_,ZD _ rfl,rfl⟩ isSubtype_stop ?_);exact ZB (k _ (((Heap.SameBut.update ..).extBut.push _).push _))
end
section
variable {P : Program} {w : World} {K : PySem.W.Frag}
def Uo(a:Addr)(n:Nat):It:=
 ⟨λ i H=>∃d c b u v,H a=some (.ext (aM a d))/\d.length=n/\d[i]? =some (c,b,u)/\RelV v u,
  λ i H x e=>e=H/\∀d,H a=some (.ext (aM a d))->∃c b u,d[i]? =some (c,b,u)/\RelV x u,
  λ i H=>∃d,H a=some (.ext (aM a d))/\d.length=n/\n≤i⟩
theorem JL{tg:Expr}(a r:Addr)(n:Nat):Turn P w K tg (Uo a n) [r] r (λ i h=>h.IsValIter r a i n n) where
 mem:=by simp
 obj:=λ i h A b m=>by obtain⟨o,ho,U,hd⟩:=A;rw[ZL.mp m];exact⟨o,ho,λ v z=>by rw[hd]at z;cases z⟩
 keep:=λ i h C A k=>A.at λ o e=>k r (by simp) o e
 item:=by
  intro X T Y hK U i l s σ H E I G p V;obtain⟨ys,c,b,u,v,R,x,W,ru⟩:=V;obtain⟨⟨_,_,_,o,B,D,h2,q,F⟩,_,_⟩:=(show az X.prog X.w H s.heap a (.ext (aM a ys))from I.hok a _ R);have d:B.size=n:=by rw[←Array.length_toList,F,x4,x]
  have j:B[i]? =some ⟨hC0 c,.ref b,u⟩:=by rw[←Array.getElem?_toList,F,x5,W];rfl
  have uq:∀g,H a=some (.ext (aM a g))->∃t b' Z,g[i]? =some (t,b',Z)/\RelV v Z:=λ g S=>by
   obtain⟨⟨_,_,_,o',aa,k1,_,J,k4⟩,_,_⟩:=(show az X.prog X.w H s.heap a (.ext (aM a g))from I.hok a _ S);obtain rfl:o=o':=Option.some.inj (D.symm.trans k1);rw[q]at J;injection J with J _;subst J;rw[←Array.getElem?_toList,k4,x5]at j
   cases e:g[i]? with
   | none=>rw[e]at j;cases j
   | some y=>rw[e]at j;obtain⟨t,b',Z⟩:=y;have j:=Option.some.inj j;injection j with _ hx1 hx2;subst hx2;exact⟨t,_,_,rfl,ru⟩
  rw[x]at q;subst T Y;obtain⟨L,M,f2,N,O,Q⟩:=G r (by simp);refine K5 D q (by rw[d];exact p) j λ C f sb=>?_;have I1:Inv X l σ H {s with heap:=C}:=I.turned (t':=s.toks) (λ b o m e=>(sb.2 b m).trans e) L M N O Q;rw[d]at f;obtain⟨o',e,t,d'⟩:=id f;exact⟨u,rfl,qT (s:={s with heap:=C}) e t d' %[|3] ⟨v,H,I1,ru,⟨rfl,uq⟩,f,λ b m=>(G b m).1⟩⟩
 done:=by
  intro X T Y hK U i l s σ H E I G p V;obtain⟨ys,R,x,W⟩:=V;obtain⟨⟨_,_,_,o,B,D,h2,q,F⟩,_,_⟩:=(show az X.prog X.w H s.heap a (.ext (aM a ys))from I.hok a _ R);have d:B.size=n:=by rw[←Array.length_toList,F,x4,x]
  rw[x]at q;subst T Y;obtain⟨L,M,f2,N,O,Q⟩:=G r (by simp);exact Qf (I.ok.hd U) D q (by rw[d];exact p) (by rw[d];exact W) λ C ext=>⟨rfl,I.turned (t':=s.toks) (λ b o m e=>ext b o m e) L M N O Q⟩
 self:=λ _ _ _ _ _ A h=>wpAny_pyIter_valiter A h
end
section
variable {K : PySem.W.Frag} {O : Own} {H : Hp}
theorem CV{a:Addr}{k:Nat}{kcs:Kc}(h:O.A[k]? =some (a,true)):gK K (Uo a kcs.length) O H (λ S=>S[k]? =some (.non::kcs.map encC)) (kcs.map λ kv=>kv.2):=by
 intro w s S' L W P i;have N:w.A[k]? =some (a,true):=L.lc k _ h;have Q:=W.dob k a _ N P;obtain⟨f,e,r⟩:∃f,s a=some (.ext (aM a f))/\Kcs K w s f (kcs.map encC):=by
  cases Q with
  | t V e r=>cases r
  | c f n e r=>cases r
  | o f n e r=>cases r
  | m f d' j e r=>obtain⟨_,rfl⟩:=List.cons.inj j;exact⟨f,e,r⟩
  | p ps n b l c z q k e j g=>cases j
 have G:=r.length;have C:∀(kcs:Kc)(f:Cy),Kcs K w s f (kcs.map encC)->∀(i:Nat)(kv:(Int×%[|1])×D),kcs[i]? =some kv->∃b u v,f[i]? =some (kv.1,b,u)/\RelV v u/\Rep K w s v kv.2:=by
  intro kcs
  induction kcs with
  | nil=>intro f r i kv h;simp at h
  | cons U kcs T=>
    intro f r i kv h;obtain⟨b,u,v,F,rfl,rk,Z,Y,t⟩:=r.inv
    cases i with
    | zero=>cases h;exact⟨b,u,v,rfl,Z,Y⟩
    | succ i=>obtain⟨b,u,v,A,B⟩:=T F t i kv (by simpa using h);exact⟨b,u,v,by simpa using A,B⟩
 refine⟨λ d j=>?_,λ R=>⟨f,e,G,by rw[R,x4];exact x6 _⟩⟩;obtain⟨kv,E,rfl⟩:=aR j;obtain⟨b,u,v,A,B,M⟩:=C kcs f r i kv E;refine⟨⟨f,kv.1,b,u,v,e,G,A,B⟩,λ x J y=>?_⟩;obtain⟨rfl,uq⟩:=y;obtain⟨c2,b2,u2,I,X⟩:=uq f e;rw[A]at I;cases I;obtain rfl:=Af B X;exact⟨cW.refl _,M⟩
end
section
variable {X : Cx} {Γ : Gam} {S : Store}
theorem Ot{o V:Expr}{f c:Pos}{W:List D->%[|4]->%[|4]}(p:attributeBase o "values" X.env (eval o X.env)=eval o X.env)(L:(f.endLine==c.line)=true)
 (h:Ev X Γ S o λ d S1=>∃k kvs,d=.dlo k/\S1[k]? =some (.non::List.map encC kvs)/\W (kvs.map λ kv=>kv.2) (λ S=>S[k]? =some (.non::kvs.map encC)) S1):ItC X Γ S V (.Call (.Attribute o "values" f) [] [] c) W:=by
 intro l s Y H O I n Q;refine wpAny_Call_method (T:="dict") (id:="dict.values") p rfl L F.plainAttrs_dict F.slot_dict_values F.type_dict_values (thn (h l s Y H O I n Q) λ u s1 r=>?_);obtain⟨x,A,g,P,B,xd,S1,⟨k,kvs,rfl,K,w⟩,t,j,m⟩:=r
 cases m with
 | @dlo a _ z q=>
   obtain rfl:u=Value.ref a:=P;have y:=j.dob k a _ z K;obtain⟨v,R,U⟩:=y.typ q g;obtain⟨_,mu,ys,Z,N,⟨oo,es,E,g2,G,J,_,_⟩,hz⟩:=cZ g y;refine⟨v,R,?_⟩;show wpAny _ _ (callWith c (.builtin "dict.values") [.ref a] [] []) _ _ s1;refine method_meetsIn F.slot_dict_values F.entry_dict_values rfl (PySem.evalArgs_none ⟨rfl,v,F.args_dict_values_1 _,_,BL U,v,?_⟩);have C:es.size=ys.length:=by rw[←Array.length_toList,J,x4]
   refine Dn (d:=a) (es:=es) (ep:=ys.length) (od:=oo) ⟨_,ZD _ rfl,rfl,rfl⟩ (ZC _ E) G ?_;have M:=N.length;rw[C,M];have i:s1.heap.objs.size≤(s1.heap.push {cls:=.type "dict_values",data:=.fields #[.ref a]}).objs.size:=by rw[Heap.size_push];exact Nat.le_succ _
   refine⟨_,[(s1.heap.push {cls:=.type "dict_values",data:=.fields #[.ref a]}).objs.size],_,_,A,rfl,g.kept (t':=s1.toks) (λ b o e=>ZC _ (ZC _ e)),JL a _ kvs.length,⟨_,ZD _ rfl,rfl,rfl⟩,λ b p=>?_,B,kvs.map λ kv=>kv.2,_,S1,w,t,j,CV z⟩;rw[ZL.mp p];exact g.fpOk i (g.hok.fresh i)
end
section
variable {Ω : Wd}
@[irreducible] noncomputable def GZ(Γ:Gam)(tg:Tg)(body:Bl Ω)(W:DL.Fin)(k:Nat)(kvs:Kc)(S1:Store):Prop:=
  ∃c:Nat->Gam->%[|4],c 0 Γ S1/\(∀i a b,c i a b->b[k]? =some (.non::kvs.map encC))/\(∀i kv a b,kvs[i]? =some kv->c i a b->tg.wp kv.2 a λ d=>body.wp d b {W with nx:=c (i+1),ct:=c (i+1),bk:=W.nx})/\(∀a b,c kvs.length a b->W.nx a b)
theorem Oz{d:Gam}{c:Tg}{a:Bl Ω}{W:DL.Fin}{k:Nat}{kvs:Kc}{b:Store}(h:∃Pv:Nat->Gam->%[|4],Pv 0 d b/\(∀i Γ' S',Pv i Γ' S'->S'[k]? =some (.non::kvs.map encC))/\(∀i kv Γ' S',kvs[i]? =some kv->Pv i Γ' S'->c.wp kv.2 Γ' λ Γ2=>a.wp Γ2 S' {W with nx:=Pv (i+1),ct:=Pv (i+1),bk:=W.nx})/\(∀Γ' S',Pv kvs.length Γ' S'->W.nx Γ' S')):GZ d c a W k kvs b:=by unfold GZ;exact h
def Yi(tg:Tg)(o:Ex Ω)(body:Bl Ω):Sm Ω where
 lev:=max o.lev body.lev
 chk f N u F:=frB F λ t E b=>nD E λ x m p D q=>jO D ((m==("values":Str))&&(nameE x&&((p.endLine==q.line)&&(tg.chk f N u t&&(o.chk f N u x&&body.chk f N u b)))))
 wp B S W:=o.wp B S λ d y=>match d with
  | .dlo k=>∃c,y[k]? =some (.non::List.map encC c)/\GZ B tg body W k c y
  | _=>False
 sound:=by
  intro X r f N u F B S W A P a Q;obtain⟨T,U⟩:=lv2 P;obtain⟨t,E,b,ab,h,j⟩:=nC a;clear a;subst h;obtain⟨x,m,p,D,q,h,l⟩:=fc j;clear j;subst h;obtain⟨h,a⟩:=dW l;clear l;subst h
  . obtain⟨G,a⟩:=aa a;obtain⟨H,a⟩:=aa a;obtain⟨I,a⟩:=aa a;obtain⟨J,a⟩:=aa a;obtain⟨K,L⟩:=aa a;have e:=ZI G;subst e;refine rM (Ot (by cases x<;>first | rfl | exact ff H) I (Ev.mono (o.sound A T K Q) λ d y q=>?_)) (by rw[A.xe];exact PassesOwn.never) A.calm (λ _=>rfl)
    cases d with
    | dlo k=>obtain⟨c,O,q⟩:=q;unfold GZ at q;obtain⟨v,V,Y,pt,Z⟩:=q;refine⟨k,c,rfl,O,v,V,Y,λ i d g w M s=>?_,λ g w s=>Z g w (by rw[x4]at s;exact s)⟩;obtain⟨R,z,rfl⟩:=aR M;exact BdW.mono (Tg.sound A (W:=λ n C=>body.wp n C {W with nx:=v (i+1),ct:=v (i+1),bk:=W.nx}) J (pt i R g w z s)) λ n C q=>body.sound A U L q
    | _=>exact(show False from q).elim
end
section
variable {P : Program} {w : World} {A : Around} {E : Value -> Shared -> Prop} {s : Shared} {d : Addr}
theorem Dt:MeetsIn P w (Builtin.«dict.clear» ⟨[.ref d],[]⟩) (λ _ R s=>s.TypeIs (.ref d) "dict"/\∃o es ep,s.heap.get? d=some o/\o.data=.dict es ep/\es.size≤sizeLine/\R (.ok (.ret .none)) {s with heap:=s.heap.update d (Obj.mapDictKeys λ _=>#[])}):=
 .of_wp λ A R s ⟨T,o,es,ep,g1,g2,g3,h⟩=>by unfold Builtin.«dict.clear»;refine ZA ?_;unfold Builtin.Dict.noArgs;refine ZA (wpAny_notOrdered_dict T ?_);show wpAny _ _ (pure d) _ _ s;refine ZB ?_;refine ZA (wpAny_dictEntries g1 g2 (ZA ?_));unfold bearsInstanceDictMark;refine ZA (wpAny_load g1 (ZB ?_));refine ZA (wpAny_updateDictKeys g1 g2 ?_ g3 (Nat.zero_le _));dsimp only;split;{exact ZA (wpAny_letGo (ZB ⟨_,rfl,h⟩))};{exact ZB ⟨_,rfl,h⟩}
end
section
variable {X : Cx} {Γ : Gam} {S : Store} {W : WD}
theorem Q9{o:Expr}{c b:Pos}(E:attributeBase o "clear" X.env (eval o X.env)=eval o X.env)(J:(c.endLine==b.line)=true)
 (h:Ev X Γ S o λ d S1=>∃k kvs,d=.dlo k/\S1[k]? =some (.non::List.map encC kvs)/\W .non (S1.set k [])):Ev X Γ S (.Call (.Attribute o "clear" c) [] [] b) W:=by
 intro g s V H O I l R;refine wpAny_Call_method (T:="dict") (id:="dict.clear") E rfl J F.plainAttrs_dict F.slot_dict_clear F.type_dict_clear (thn (h g s V H O I l R) λ u s1 q=>?_);obtain⟨x,H1,j,P,O1,xd,S1,⟨k,kvs,rfl,G,w⟩,r,f,i⟩:=q
 cases i with
 | @dlo a _ n p=>
   obtain rfl:u=Value.ref a:=P;have A:=f.dob k a _ n G;obtain⟨v,U,t3⟩:=A.typ p j;obtain⟨K,L,B,Y,kc,⟨N,y,z,C,m,D,_,_⟩,hz⟩:=cZ j A;have Z:y.size=B.length:=by rw[←Array.length_toList,D,x4]
   refine⟨v,U,?_⟩;show wpAny _ _ (callWith b (.builtin "dict.clear") [.ref a] [] []) _ _ s1;refine method_meetsIn F.slot_dict_clear F.entry_dict_clear rfl (PySem.evalArgs_none ⟨rfl,v,F.args_dict_clear_1 _,_,Dt,v,N,y,B.length,z,m,%[|0],?_⟩);have e:=Heap.get?_update_self (Obj.mapDictKeys λ _=>#[]) z (Obj.isFreed_of_dict (Obj.data_mapDictKeys m _));have M:az X.prog X.w (upd H1 a (.dT [])) (s1.heap.update a (Obj.mapDictKeys λ _=>#[])) a (.dT []):=
    ⟨Nat.zero_le _,K,[],.nil,_,#[],_,e,C.mapDictKeys _,Obj.data_mapDictKeys m _,rfl,List.nodup_nil⟩;have Q:=Step.put (O:=O1) (H:=H1) (bU n) (.dT []);exact⟨.non,upd H1 a (.dT []),uR (t':=s1.toks) j L (Heap.SameBut.update ..) ⟨_,e⟩ M,rfl,O1,.non,_,w,r.trans Q,f.putO n (.t [] aJ .nil),.non⟩
end
section
variable {Ω : Wd}
def Yj(o:Ex Ω):Ex Ω where
 lev:=o.lev
 chk h N s e:=nD e λ x m p n q=>jO n ((m==("clear":Str))&&(nameE x&&((p.endLine==q.line)&&o.chk h N s x)))
 wp t S W:=o.wp t S λ x j=>match x with | .dlo k=>∃c,j[k]? =some (.non::List.map encC c)/\W .non (j.set k []) | _=>False
 sound:=by
  intro X r h N s e t S W A z i B;obtain⟨x,m,p,n,q,l,f⟩:=fc i;clear i;subst l;obtain⟨l,i⟩:=dW f;clear f;subst l
  . obtain⟨u,g⟩:=aa i;obtain⟨v,g⟩:=aa g;obtain⟨w,y⟩:=aa g;have e:=ZI u;subst e;refine Q9 (by cases x<;>first | rfl | exact ff v) w ((o.sound A z y B).mono λ d j q=>?_)
    cases d with
    | dlo k=>obtain⟨c,a,b⟩:=q;exact⟨k,c,rfl,a,b⟩
    | _=>exact(show False from q).elim
end
def xu:D->Bool
 | .dic=>true
 | .dlo _=>true
 | _=>false
theorem Qp(K:PySem.W.Frag)(d:D):PySem.W.kitOne K (.type (tyD d)) (.type "dict")=some (xu d):=by cases d<;>kernel_rfl
theorem QW{X:Cx}{z:Gam}{S:Store}{W:WD}{a:Expr}{p q pos:Pos}(h:Ev X z S a λ x S1=>W (.bl (xu x)) S1)(n:X.mg "isinstance"=none)(D:X.mg "dict"=none)(m:Gl X "isinstance")(C:Gl X "dict")
 (i:starEach [a,.Name "dict" q] X.env=(false,eval a X.env)::starEach [.Name "dict" q] X.env):Ev X z S (.Call (.Name "isinstance" p) [a,.Name "dict" q] [] pos) W:=by
 intro b s A H O I l J;have B:d7 X (.builtin "isinstance") (λ y k Q=>∃v,y=[v,.ty "dict"]/\∃f d g,StOk X.K f k g/\Rep X.K f k v d/\Q (.bl (xu d)) k):=by intro b s A H y M Q I r h;obtain⟨v,rfl,f,d,g,o,c,q⟩:=h;obtain⟨u,L,rfl,F,G⟩:=vals2 r;cases G;refine Gb I o c F λ Z e p E=>?_;subst e;exact PySem.W.kia_one Z I.kIn p (Qp X.K d) E λ K=>⟨.bl _,H,I.tok K,rfl,q⟩
 refine yO B m n PyProof.Rows.boot_isinstance (gH h.pe (gH (Ed C D (show bootBuiltins "dict"=some (.type "dict")from by decide+kernel) (v:=.ty "dict") rfl %[|3] %[|3]) rY rfl) i) %[|3] %[|3] i rfl b s A H _ I ⟨O,l,J,λ v k q=>?_⟩;obtain⟨f,d,g,w,t,j,c⟩:=q;exact⟨v,rfl,f,d,g,j,c,f,_,g,w,t,j,.bl _⟩
section
variable {Ω : Wd}
def Yk(hm1:Ω.mg "isinstance"=none)(a:Ex Ω)(hm:Ω.mg "dict"=none):Ex Ω where
 lev:=a.lev
 chk h N g e:=cO e λ f k=>two2 k λ b n=>anB (nameV n) λ t=>(f==("isinstance":Str))&&((t==("dict":Str))&&(glb g "isinstance"&&(glb g "dict"&&(okE b&&a.chk h N g b))))
 wp l S W:=a.wp l S λ x m=>W (.bl (xu x)) m
 sound:=by intro X r h N g e l S W A z d C;obtain⟨f,p,k,D,rfl,i⟩:=bx d;obtain⟨b,n,rfl,c⟩:=two2_of i;have c:anB (nameV n) (λ t=>(f==("isinstance":Str))&&((t==("dict":Str))&&(glb g "isinstance"&&(glb g "dict"&&(okE b&&a.chk h N g b)))))=true:=c;obtain⟨t,B,j⟩:=aZ c;obtain⟨q,rfl⟩:=iB B;obtain⟨o,d⟩:=aa j;obtain⟨s,d⟩:=aa d;obtain⟨u,d⟩:=aa d;obtain⟨v,d⟩:=aa d;obtain⟨w,y⟩:=aa d;obtain rfl:=ZI o;obtain rfl:=ZI s;exact QW (a.sound A z y C) (by rw[A.g];exact hm1) (by rw[A.g];exact hm) (A.glb u) (A.glb v) (aB w _ _)
end
def vwK(S:Store)(ka:Kc):Kc:=ka.map λ kv=>(kv.1,vwD S kv.2)
theorem Jl(S:Store)(a:Kc)(c:Int×%[|1]):aD (vwK S a) c=(aD a c).map (vwD S):=by
 unfold aD vwK;rw[List.find?_map]
 cases q:a.find? ((λ kv=>decide (kv.1=c)) ∘ λ kv=>(kv.1,vwD S kv.2))with
 | none=>have:a.find? (λ kv=>decide (kv.1=c))=none:=q;rw[this];rfl
 | some kv=>have:a.find? (λ kv=>decide (kv.1=c))=some kv:=q;rw[this];rfl
section
variable {X : Cx} {S : Store}
theorem Az{pins:Pins}{s:Shared}{σ:DL.St}{H:Hp}{O:Own}{f A:Cy}{a e:Kc}(I:%[|5])(st:StOk X.K O H S)(R:X.A.units+60<cLine)(N:Kcs X.K O H f (a.map encC))(P:Kcs X.K O H A (e.map encC))(L:kE (vwK S a))(M:kE (vwK S e)):
 xn X.A.in1 s f A (atE (vwK S a) (vwK S e)):=by
 intro i y G;have k:∀(a:Kc)(f:Cy),Kcs X.K O H f (a.map encC)->∀(i:Nat)(y:(Int×%[|1])×Addr×Value),f[i]? =some y->∃kv v,a[i]? =some kv/\kv.1=y.1/\L2.RelV v y.2.2/\Rep X.K O H v kv.2:=by
  intro a
  induction a with
  | nil=>intro f r i y h;cases r;simp at h
  | cons kv a J=>
    intro f r i y h;obtain⟨b,u,v,x,rfl,T,p,n,t⟩:=r.inv
    cases i with
    | zero=>cases h;exact⟨kv,v,rfl,rfl,p,n⟩
    | succ i=>obtain⟨kv',z,E,F⟩:=J x t i y (by simpa using h);exact⟨kv',z,by simpa using E,F⟩
 obtain⟨kv,v,B,C,p,n⟩:=k a f N i y G;have g:(vwK S a)[i]? =some (kv.1,vwD S kv.2):=by unfold vwK;rw[x5,B];rfl
 have o1:=L _ (y8 g);have D:atE (vwK S a) (vwK S e) i=uC (vwK S e) (kv.1,vwD S kv.2):=by unfold atE;rw[g]
 rw[D,←C];unfold uC;dsimp only;rw[Jl];rcases P.look kv.1 with⟨j,l⟩ | ⟨d,Q,U,z,j,l,w,o⟩;{rw[j];exact .inl ⟨l,rfl⟩}
 . have K:okD (vwD S d)=true:=by
    have:∀(e:Kc)(c:Int×%[|1]),aD e c=some d->∃kv∈e,kv.2=d:=λ e c h=>by
     unfold aD at h
     cases q:e.find? λ kv=>decide (kv.1=c)with
     | none=>rw[q]at h;cases h
     | some kv=>rw[q]at h;cases h;exact⟨kv,List.mem_of_find?_eq_some q,rfl⟩
    obtain⟨kv',m,rfl⟩:=this e _ j;exact(M (kv'.1,vwD S kv'.2) (ZO.mpr ⟨kv',m,rfl⟩)).1
   rw[j];exact .inr ⟨_,l,BZ 50 (vwD S kv.2) (vwD S d) o1.2 I (dg st n o1.1) (dg st o K) p w (by show X.A.units+1+50<cLine;omega)⟩
theorem oH(S:Store)(a:Kc):(vwK S a).length=a.length:=by unfold vwK;rw[x4]
theorem VN{k j:Nat}{e f:Kc}{W:Bool->%[|4]}(q:X.A.units+60<cLine)(n:S[k]? =some (.non::e.map encC))(m:S[j]? =some (.non::f.map encC))(z:kE (vwK S e))(A:kE (vwK S f))(w:W (ue (vwK S e) (vwK S f)) S):aY X .Eq (.dlo k) (.dlo j) S (asB W):=by intro h s L H O v G u F I g B C D E;cases B with| @dlo a _ i o=>cases C with| @dlo b _ l p=>cases D;cases E;obtain⟨r,_,J,_,c,x,_⟩:=cZ I (g.dob k a _ i n);obtain⟨t,_,K,_,d,y,_⟩:=cZ I (g.dob j b _ l m);refine Up r t %[|0] x y (Az I g q c d z A) ⟨.bl _,H,I,rfl,Hh ⟨_,rfl,?_⟩ g (.bl _)⟩;rw[c.length,d.length,←oH S e,←oH S f,Eb];exact w
theorem VF{k j:Nat}{e f:Kc}{W:Bool->%[|4]}(q:X.A.units+60<cLine)(n:S[k]? =some (.non::e.map encC))(m:S[j]? =some (.non::f.map encC))(z:kE (vwK S e))(A:kE (vwK S f))(w:W (!ue (vwK S e) (vwK S f)) S):aY X .NotEq (.dlo k) (.dlo j) S (asB W):=by intro h s L H O v G u F I g B C D E;cases B with| @dlo a _ i o=>cases C with| @dlo b _ l p=>cases D;cases E;obtain⟨r,_,J,_,c,x,_⟩:=cZ I (g.dob k a _ i n);obtain⟨t,_,K,_,d,y,_⟩:=cZ I (g.dob j b _ l m);refine UW r t %[|0] x y (Az I g q c d z A) ⟨.bl _,H,I,rfl,Hh ⟨_,rfl,?_⟩ g (.bl _)⟩;rw[c.length,d.length,←oH S e,←oH S f,Eb];exact w
end
section
variable {Ω : Wd}
def Yp(no:Bool)(a b:Ex Ω):Te Ω where
 lev:=max a.lev b.lev
 chk d N m e:=cm1 e λ l p r=>(p==(if no then CmpOp.NotEq else CmpOp.Eq))&&(okE r&&(a.chk d N m l&&b.chk d N m r))
 wp n S W:=a.wp n S λ x o=>b.wp n o λ y c=>∃k j g h,x=.dlo k/\y=.dlo j/\c[k]? =some (.non::List.map encC g)/\c[j]? =some (.non::List.map encC h)/\kE (vwK c g)/\kE (vwK c h)/\W (if no then !ue (vwK c g) (vwK c h)else ue (vwK c g) (vwK c h)) c
 sound:=by
  intro X r d N m e n S W A F z G;obtain⟨H,I⟩:=lv2 F;obtain⟨l,K,L,J,B,i⟩:=qN z;clear z;subst B;obtain⟨D,f⟩:=aa i;obtain⟨C,f⟩:=aa f;obtain⟨f,E⟩:=aa f;have e:=ZI D;subst e;refine yC ((a.sound A H f G).mono λ x o q=>(b.sound A I E q).mono λ y c q=>?_) (fJ C);obtain⟨k,j,g,h,rfl,rfl,s,t,u,v,w⟩:=q
  cases no with
  | false=>exact VN A.hu s t u v w
  | true=>exact VF A.hu s t u v w
end
def Nz(n:Nat)(W:Gam->%[|4]):Gam->%[|4]:=λ c e=>∃J b a,e=b++J/\n≤b.length/\flat b/\a.length=c.length/\
 (∀(i:Nat)(d:D),a[i]? =some (some d)->c[i]? =some (some d)/\(ak d=true∨∃j,(d=.loc j∨d=.dlo j)/\j<b.length))/\W a b
theorem QN.fgd{K:PySem.W.Frag}{O:Own}{H s:Hp}{W:Gam->%[|4]}{σ:DL.St}{n:Nat}(F:O.A.length=n)(q:QN K O H (Nz n W) σ s):QN K O H W σ s:=by obtain⟨t,I,D,⟨J,b,p,rfl,E,y,A,z,w⟩,C,B,r⟩:=q;obtain⟨m,k,o,G⟩:=dJ C B %[|0] y;refine⟨_,p,b,w,m,k,⟨by rw[A];exact r.len,λ i d e=>?_⟩⟩;obtain⟨x,h⟩:=z i d e;obtain⟨v,g,l⟩:=r.at_ i d x;rcases h with h | ⟨j,rfl | rfl,u⟩;{exact⟨v,g,cu o h l⟩};{cases l with| @loc a _ c=>refine⟨_,g,.loc ?_⟩;show(t.A.take b.length)[j]? =some (a,false);rw[List.getElem?_take,if_pos u];exact c};{cases l with| @dlo a _ c f=>refine⟨_,g,.dlo ?_ f⟩;show(t.A.take b.length)[j]? =some (a,true);rw[List.getElem?_take,if_pos u];exact c}
def Bl.fgd{Ω:Wd}(b:Bl Ω):Bl Ω where
 lev:=b.lev
 chk:=b.chk
 wp g S W:=b.wp g S {W with nx:=Nz S.length W.nx}
 sound:=by
  intro X r m N n l g S W A j i k a s d H O I c e;refine thn (b.sound A j i k a s d H O I c e) λ f o q=>?_
  cases f with
  | next=>obtain⟨d,h,I,q⟩:=q;exact⟨d,h,I,QN.fgd e.len q⟩
  | brk=>exact q
  | cont=>exact q
  | ret u=>exact q
theorem R6{Ω:Wd}{b:Bl Ω}{a:Gam}{S:Store}{W:DL.Fin}(h:b.wp a S {W with nx:=Nz S.length W.nx}):(Bl.fgd b).wp a S W:=h
end RF
namespace K11
open PySem L2 DL RF
variable {Ω : Wd} {f : Addr} {fd : FuncData}
def top(i:Nat):Stmt:=PySem.Challenge.pw_nestturn_k11_traces_told.main.body.getD i (.Pass ⟨0,0,0,0⟩)
structure Bi(mg:Str->Option Value):Prop where
 MOST_STEPS_:∃t,mg "MOST_STEPS"=some (.int 60 t)
 abs_:mg "abs"=none
 all_:mg "all"=none
 bool_:mg "bool"=none
 dict_:mg "dict"=none
 enumerate_:mg "enumerate"=none
 int_:mg "int"=none
 isinstance_:mg "isinstance"=none
 len_:mg "len"=none
 list_:mg "list"=none
 max_:mg "max"=none
 min_:mg "min"=none
 range_:mg "range"=none
 set_:mg "set"=none
 sorted_:mg "sorted"=none
 sum_:mg "sum"=none
 tuple_:mg "tuple"=none
 zip_:mg "zip"=none
section
variable {Ω : Wd}
abbrev iy:Stmt:=top 1
abbrev xY:%[|2]:=["thing"]
abbrev Bs:%[|2]:=["thing"]
def yP(B:Bi Ω.mg):Bl Ω:=
 eY (yD (Xm (Xb (Xr B.isinstance_ (b7 0) .int B.int_) (Xl (Yl (Xr B.isinstance_ (b7 0) .bool B.bool_)))))) j4
abbrev dZ:Stmt:=top 2
abbrev rm:%[|2]:=["thing","least","most"]
abbrev rE:%[|2]:=["thing","least","most"]
def rH(B:Bi Ω.mg):Bl Ω:=
 eY (yD (Xm (Xb (Xr B.isinstance_ (b7 0) .tuple B.tuple_) (Xl (Ex.ch2 (b7 1) .LtE (S9 dG B.len_ (eX (b7 0) il)) .LtE (b7 2)))))) j4
abbrev jd:Stmt:=top 3
abbrev Ds:%[|2]:=["thing","d"]
abbrev Do:%[|2]:=["thing","d"]
def CT(B:Bi Ω.mg){Fq36:Ct}(Cq36:Cal Ω "is_whole" 1 1 Fq36){Fq35:Ct}(Cq35:Cal Ω "is_tuple_of" 1 3 Fq35):Bl Ω:=
 eY (yD (Xm (Xb (j5 Cq35 (eX (b7 0) (eX (Hc .Add (b7 1) (jl 1)) (eX (Hc .Add (b7 1) (jl 1)) il)))) (Xl (S9 gh B.all_ (eX (W6 ["number"] [none] (j5 Cq36 (eX (b7 0) il)) (Tg.nm 0) (Xc (b7 0)) W9) il)))))) j4
abbrev gP:Stmt:=top 4
abbrev xN:%[|2]:=["form","counts"]
abbrev Ca:%[|2]:=["form","counts"]
def zz(B:Bi Ω.mg):Bl Ω:=
 eY (yD (Hc .Add (Ac (b7 0) (jl 0)) (S9 xf B.sum_ (eX (W6 ["number","count"] [none,none] (Hc .Mult (b7 0) (b7 1)) (Tg.tup [0,1]) (Ye B.zip_ (Yb (b7 0) (Po.so (jl 1)) Po.no) (b7 1)) W9) il)))) j4
abbrev iK:Stmt:=top 5
abbrev zL:%[|2]:=["thing","d"]
abbrev Ah:%[|2]:=["thing","d"]
def uF(B:Bi Ω.mg){Fq24:Ct}(Cq24:Cal Ω "is_form" 2 2 Fq24):Bl Ω:=
 eY (yD (Xm (Xb (Ex.ch2 (Xu (jl 9)) .LtE (Ac (b7 0) (jl 0)) .LtE (jl 9)) (Xl (S9 gh B.all_ (eX (W6 ["number"] [none] (Ex.ch2 (Xu (jl 2)) .LtE (b7 0) .LtE (jl 2)) (Tg.nm 0) (Xc (Yb (b7 0) (Po.so (jl 1)) Po.no)) W9) il)))))) j4
def zf(B:Bi Ω.mg){Fq24:Ct}(Cq24:Cal Ω "is_form" 2 2 Fq24):Bl Ω:=
 eY (W8 (Xf (Xd (j5 Cq24 (eX (b7 0) (eX (b7 1) il))))) (eY (yD (Ex.bl false)) j4) j4) (uF B Cq24)
abbrev jh:Stmt:=top 6
abbrev Dp:%[|2]:=["thing","d"]
abbrev Dq:%[|2]:=["thing","d"]
def Dz{Fq35:Ct}(Cq35:Cal Ω "is_tuple_of" 1 3 Fq35){Fq22:Ct}(Cq22:Cal Ω "is_bound" 3 2 Fq22):Bl Ω:=
 eY (yD (Xm (Xb (j5 Cq35 (eX (b7 0) (eX (jl 2) (eX (jl 2) il)))) (Xb (j5 Cq22 (eX (Ac (b7 0) (jl 0)) (eX (b7 1) il))) (Xl (j5 Cq22 (eX (Ac (b7 0) (jl 1)) (eX (b7 1) il)))))))) j4
abbrev iC:Stmt:=top 7
abbrev zB:%[|2]:=["thing"]
abbrev Bw:%[|2]:=["thing"]
def Ba(B:Bi Ω.mg){Fq35:Ct}(Cq35:Cal Ω "is_tuple_of" 1 3 Fq35){Fq25:Ct}(Cq25:Cal Ω "is_loop" 4 2 Fq25):Bl Ω:=
 eY (yD (Xm (Xb (j5 Cq35 (eX (b7 0) (eX (jl 1) (eX (jl 3) il)))) (Xl (S9 gh B.all_ (eX (W6 ["k","loop"] [none,none] (j5 Cq25 (eX (b7 1) (eX (b7 0) il))) (Tg.tup [0,1]) (X6 B.enumerate_ (b7 0)) W9) il)))))) j4
abbrev cU:Stmt:=top 8
abbrev lF:%[|2]:=["ahead","low","high","longer","counts","count"]
abbrev lR:%[|2]:=["ahead","low","high"]
section
variable (B : Bi Ω.mg) {Fq18 : Ct} (Cq18 : Cal Ω "comes_to" 1 2 Fq18)
def jw(B:Bi Ω.mg){Fq18:Ct}(Cq18:Cal Ω "comes_to" 1 2 Fq18):Bl Ω:=
 eY (yD (b7 3)) j4
def jD:Bl Ω:=
 eY (Xn (Tg.nm 4) (b7 0) (eY (Xp (Tg.nm 5) (XS B.range_ (j5 Cq18 (eX (b7 1) (eX (b7 4) il))) (j5 Cq18 (eX (b7 2) (eX (b7 4) il)))) (eY (Xj (Xe (b7 3) (Hc .Add (b7 4) (W7 (eX (b7 5) il))))) j4)) j4)) (jw B Cq18)
def lN:Bl Ω:=
 eY (sy 3 (Ex.own il)) (jD B Cq18)
end
abbrev f9:Stmt:=top 9
abbrev vY:%[|2]:=["loops","told","low","high"]
abbrev wK:%[|2]:=["loops"]
section
variable {Fq46 : Ct} (Cq46 : Cal Ω "with_next_count" 2 3 Fq46)
def rD{Fq46:Ct}(Cq46:Cal Ω "with_next_count" 2 3 Fq46):Bl Ω:=
 eY (yD (b7 1)) j4
def rO:Bl Ω:=
 eY (Xn (Tg.tup [2,3]) (b7 0) (eY (sy 1 (j5 Cq46 (eX (b7 1) (eX (b7 2) (eX (b7 3) il))))) j4)) (rD Cq46)
def wA:Bl Ω:=
 eY (sy 1 (Xh (eX (W7 il) il))) (rO Cq46)
end
abbrev cV:Stmt:=top 17
abbrev lG:%[|2]:=["number"]
abbrev lM:%[|2]:=["number"]
def lJ(B:Bi Ω.mg):Bl Ω:=
 eY (yD (XQ .Lt (S9 Sg B.abs_ (eX (b7 0) il)) (Hc .Pow (jl 10) (jl 30)))) j4
abbrev gm:Stmt:=top 18
abbrev v6:%[|2]:=["thing"]
abbrev wQ:%[|2]:=["thing"]
def wH(B:Bi Ω.mg){Fq36:Ct}(Cq36:Cal Ω "is_whole" 1 1 Fq36){Fq35:Ct}(Cq35:Cal Ω "is_tuple_of" 1 3 Fq35):Bl Ω:=
 eY (yD (Xm (Xb (j5 Cq35 (eX (b7 0) (eX (jl 1) (eX (jl 3) il)))) (Xl (S9 gh B.all_ (eX (W6 ["width"] [none] (Xm (Xb (j5 Cq36 (eX (b7 0) il)) (Xl (Ex.ch2 (jl 1) .LtE (b7 0) .LtE (jl 2))))) (Tg.nm 0) (Xc (b7 0)) W9) il)))))) j4
abbrev dD:Stmt:=top 19
abbrev oV:%[|2]:=["thing","d"]
abbrev oK:%[|2]:=["thing","d"]
def oY(B:Bi Ω.mg){Fq24:Ct}(Cq24:Cal Ω "is_form" 2 2 Fq24):Bl Ω:=
 eY (yD (Xm (Xb (j5 Cq24 (eX (b7 0) (eX (b7 1) il))) (Xl (S9 gh B.all_ (eX (W6 ["number"] [none] (Ex.ch2 (Xu (jl 99)) .LtE (b7 0) .LtE (jl 99)) (Tg.nm 0) (Xc (b7 0)) W9) il)))))) j4
abbrev iz:Stmt:=top 20
abbrev Ae:%[|2]:=["thing","d"]
abbrev xM:%[|2]:=["thing","d"]
def zR(B:Bi Ω.mg){Fq24:Ct}(Cq24:Cal Ω "is_form" 2 2 Fq24){Fq21:Ct}(Cq21:Cal Ω "has_few_figures" 1 1 Fq21):Bl Ω:=
 eY (yD (Xm (Xb (j5 Cq24 (eX (b7 0) (eX (b7 1) il))) (Xl (S9 gh B.all_ (eX (W6 ["number"] [none] (j5 Cq21 (eX (b7 0) il)) (Tg.nm 0) (Xc (b7 0)) W9) il)))))) j4
abbrev bY:Stmt:=top 21
abbrev iR:%[|2]:=["table","place","widths","d"]
abbrev iU:%[|2]:=["table","place","widths","d"]
def gw(B:Bi Ω.mg){Fq36:Ct}(Cq36:Cal Ω "is_whole" 1 1 Fq36){Fq35:Ct}(Cq35:Cal Ω "is_tuple_of" 1 3 Fq35){Fq29:Ct}(Cq29:Cal Ω "is_place_form" 3 2 Fq29):Bl Ω:=
 eY (yD (Xm (Xb (j5 Cq35 (eX (b7 1) (eX (Ac (b7 2) (b7 0)) (eX (Ac (b7 2) (b7 0)) il)))) (Xl (S9 gh B.all_ (eX (W6 ["form","d"] [none,some 3] (j5 Cq29 (eX (b7 0) (eX (b7 1) il))) (Tg.nm 0) (Xc (b7 1)) W9) il)))))) j4
def iT(B:Bi Ω.mg){Fq36:Ct}(Cq36:Cal Ω "is_whole" 1 1 Fq36){Fq35:Ct}(Cq35:Cal Ω "is_tuple_of" 1 3 Fq35){Fq29:Ct}(Cq29:Cal Ω "is_place_form" 3 2 Fq29):Bl Ω:=
 eY (W8 (XH (Xk (Xf (Xd (j5 Cq36 (eX (b7 0) il)))) (Xq (Xf (Te.ch2 (jl 0) .LtE (b7 0) .Lt (S9 dG B.len_ (eX (b7 2) il))))))) (eY (yD (Ex.bl false)) j4) j4) (gw B Cq36 Cq35 Cq29)
abbrev jc:Stmt:=top 22
abbrev Dv:%[|2]:=["thing","widths","d"]
abbrev DQ:%[|2]:=["thing","widths","d"]
section
variable {Fq36 : Ct} (Cq36 : Cal Ω "is_whole" 1 1 Fq36) {Fq35 : Ct} (Cq35 : Cal Ω "is_tuple_of" 1 3 Fq35) {Fq21 : Ct} (Cq21 : Cal Ω "has_few_figures" 1 1 Fq21) {Fq34 : Ct} (Cq34 : Cal Ω "is_table_with_place" 4 4 Fq34)
def vZ{Fq36:Ct}(Cq36:Cal Ω "is_whole" 1 1 Fq36){Fq35:Ct}(Cq35:Cal Ω "is_tuple_of" 1 3 Fq35){Fq21:Ct}(Cq21:Cal Ω "has_few_figures" 1 1 Fq21){Fq34:Ct}(Cq34:Cal Ω "is_table_with_place" 4 4 Fq34):Bl Ω:=
 eY (yD (j5 Cq34 (eX (Ac (b7 0) (jl 1)) (eX (Ac (b7 0) (jl 2)) (eX (b7 1) (eX (b7 2) il)))))) j4
def wR:Bl Ω:=
 eY (W8 (XH (Xk (Xf (Xd (j5 Cq36 (eX (Ac (b7 0) (jl 0)) il)))) (Xq (Xf (Xd (j5 Cq21 (eX (Ac (b7 0) (jl 0)) il))))))) (eY (yD (Ex.bl false)) j4) j4) (vZ Cq36 Cq35 Cq21 Cq34)
def Cz:Bl Ω:=
 eY (W8 (Xf (Xd (j5 Cq35 (eX (b7 0) (eX (jl 3) (eX (jl 3) il)))))) (eY (yD (Ex.bl false)) j4) j4) (wR Cq36 Cq35 Cq21 Cq34)
end
abbrev iQ:Stmt:=top 23
abbrev xH:%[|2]:=["thing","widths","d"]
abbrev zq:%[|2]:=["thing","widths","d"]
def Ci(B:Bi Ω.mg){Fq35:Ct}(Cq35:Cal Ω "is_tuple_of" 1 3 Fq35){Fq30:Ct}(Cq30:Cal Ω "is_read" 5 3 Fq30):Bl Ω:=
 eY (yD (Xm (Xb (j5 Cq35 (eX (b7 0) (eX (jl 0) (eX (jl 3) il)))) (Xl (S9 gh B.all_ (eX (W6 ["read","widths","d"] [none,some 1,some 2] (j5 Cq30 (eX (b7 0) (eX (b7 1) (eX (b7 2) il)))) (Tg.nm 0) (Xc (b7 0)) W9) il)))))) j4
abbrev iZ:Stmt:=top 24
abbrev Dy:%[|2]:=["thing","widths","d"]
abbrev Du:%[|2]:=["thing","widths","d"]
section
variable {Fq35 : Ct} (Cq35 : Cal Ω "is_tuple_of" 1 3 Fq35) {Fq33 : Ct} (Cq33 : Cal Ω "is_start" 3 2 Fq33) {Fq34 : Ct} (Cq34 : Cal Ω "is_table_with_place" 4 4 Fq34) {Fq31 : Ct} (Cq31 : Cal Ω "is_reads" 6 3 Fq31)
def wI{Fq35:Ct}(Cq35:Cal Ω "is_tuple_of" 1 3 Fq35){Fq33:Ct}(Cq33:Cal Ω "is_start" 3 2 Fq33){Fq34:Ct}(Cq34:Cal Ω "is_table_with_place" 4 4 Fq34){Fq31:Ct}(Cq31:Cal Ω "is_reads" 6 3 Fq31):Bl Ω:=
 eY (yD (Xm (Xb (j5 Cq33 (eX (Ac (b7 0) (jl 2)) (eX (b7 2) il))) (Xl (j5 Cq31 (eX (Ac (b7 0) (jl 3)) (eX (b7 1) (eX (b7 2) il)))))))) j4
def wy:Bl Ω:=
 eY (W8 (Xf (Xd (j5 Cq34 (eX (Ac (b7 0) (jl 0)) (eX (Ac (b7 0) (jl 1)) (eX (b7 1) (eX (b7 2) il))))))) (eY (yD (Ex.bl false)) j4) j4) (wI Cq35 Cq33 Cq34 Cq31)
def CW:Bl Ω:=
 eY (W8 (Xf (Xd (j5 Cq35 (eX (b7 0) (eX (jl 4) (eX (jl 4) il)))))) (eY (yD (Ex.bl false)) j4) j4) (wy Cq35 Cq33 Cq34 Cq31)
end
abbrev je:Stmt:=top 25
abbrev Ck:%[|2]:=["thing","widths","d"]
abbrev Cw:%[|2]:=["thing","widths"]
section
variable (B : Bi Ω.mg) {Fq35 : Ct} (Cq35 : Cal Ω "is_tuple_of" 1 3 Fq35) {Fq26 : Ct} (Cq26 : Cal Ω "is_loops" 5 1 Fq26) {Fq23 : Ct} (Cq23 : Cal Ω "is_deed" 7 3 Fq23)
def wz(B:Bi Ω.mg){Fq35:Ct}(Cq35:Cal Ω "is_tuple_of" 1 3 Fq35){Fq26:Ct}(Cq26:Cal Ω "is_loops" 5 1 Fq26){Fq23:Ct}(Cq23:Cal Ω "is_deed" 7 3 Fq23):Bl Ω:=
 eY (yD (Xm (Xb (j5 Cq35 (eX (Ac (b7 0) (jl 1)) (eX (jl 1) (eX (jl 4) il)))) (Xl (S9 gh B.all_ (eX (W6 ["deed","widths","d"] [none,some 1,some 2] (j5 Cq23 (eX (b7 0) (eX (b7 1) (eX (b7 2) il)))) (Tg.nm 0) (Xc (Ac (b7 0) (jl 1))) W9) il)))))) j4
def wL:Bl Ω:=
 eY (sy 2 (S9 dG B.len_ (eX (Ac (b7 0) (jl 0)) il))) (wz B Cq35 Cq26 Cq23)
def DR:Bl Ω:=
 eY (W8 (XH (Xk (Xf (Xd (j5 Cq35 (eX (b7 0) (eX (jl 2) (eX (jl 2) il)))))) (Xq (Xf (Xd (j5 Cq26 (eX (Ac (b7 0) (jl 0)) il))))))) (eY (yD (Ex.bl false)) j4) j4) (wL B Cq35 Cq26 Cq23)
end
abbrev iG:Stmt:=top 26
abbrev xT:%[|2]:=["thing","widths"]
abbrev yM:%[|2]:=["thing","widths"]
def Aa(B:Bi Ω.mg){Fq35:Ct}(Cq35:Cal Ω "is_tuple_of" 1 3 Fq35){Fq27:Ct}(Cq27:Cal Ω "is_nest" 8 2 Fq27):Bl Ω:=
 eY (yD (Xm (Xb (j5 Cq35 (eX (b7 0) (eX (jl 1) (eX (jl 3) il)))) (Xl (S9 gh B.all_ (eX (W6 ["nest","widths"] [none,some 1] (j5 Cq27 (eX (b7 0) (eX (b7 1) il))) (Tg.nm 0) (Xc (b7 0)) W9) il)))))) j4
abbrev cY:Stmt:=top 27
abbrev lW:%[|2]:=["nests"]
abbrev lL:%[|2]:=["nests"]
def lV(B:Bi Ω.mg){Fq19:Ct}(Cq19:Cal Ω "counts_of" 3 1 Fq19):Bl Ω:=
 eY (yD (S9 xf B.sum_ (eX (W6 ["loops","deeds"] [none,none] (Hc .Mult (S9 dG B.len_ (eX (j5 Cq19 (eX (b7 0) il)) il)) (S9 dG B.len_ (eX (b7 1) il))) (Tg.tup [0,1]) (Xc (b7 0)) W9) il))) j4
abbrev fC:Stmt:=top 28
abbrev tM:%[|2]:=["widths","nests"]
abbrev t8:%[|2]:=["widths","nests"]
section
variable (B : Bi Ω.mg) {Fq37 : Ct} (Cq37 : Cal Ω "is_widths" 2 1 Fq37) {Fq28 : Ct} (Cq28 : Cal Ω "is_nests" 9 2 Fq28) {Fq38 : Ct} (Cq38 : Cal Ω "number_of_steps" 4 1 Fq38)
def pI(B:Bi Ω.mg){Fq37:Ct}(Cq37:Cal Ω "is_widths" 2 1 Fq37){Fq28:Ct}(Cq28:Cal Ω "is_nests" 9 2 Fq28){Fq38:Ct}(Cq38:Cal Ω "number_of_steps" 4 1 Fq38):Bl Ω:=
 eY (yD (W7 (eX (b7 0) (eX (b7 1) il)))) j4
def qy:Bl Ω:=
 eY (W8 (Xg .Gt (j5 Cq38 (eX (b7 1) il)) (Yd B.MOST_STEPS_)) (eY Sm.never j4) j4) (pI B Cq37 Cq28 Cq38)
def pW:Bl Ω:=
 eY (W8 (Xf (Xd (j5 Cq28 (eX (b7 1) (eX (b7 0) il))))) (eY Sm.never j4) j4) (qy B Cq37 Cq28 Cq38)
def uf:Bl Ω:=
 eY (W8 (Xf (Xd (j5 Cq37 (eX (b7 0) il)))) (eY Sm.never j4) j4) (pW B Cq37 Cq28 Cq38)
end
abbrev iM:Stmt:=top 29
abbrev Bb:%[|2]:=["program","steps","nest","loops_and_deeds","counts","deed"]
abbrev yw:%[|2]:=["program"]
section
variable (B : Bi Ω.mg) {Fq19 : Ct} (Cq19 : Cal Ω "counts_of" 3 1 Fq19)
def tU(B:Bi Ω.mg){Fq19:Ct}(Cq19:Cal Ω "counts_of" 3 1 Fq19):Bl Ω:=
 eY (yD (b7 1)) j4
def sY:Bl Ω:=
 eY (Xp (Tg.tup [2,3]) (X6 B.enumerate_ (Ac (b7 0) (jl 1))) (eY (Xn (Tg.nm 4) (j5 Cq19 (eX (Ac (b7 3) (jl 0)) il)) (eY (Xp (Tg.nm 5) (Xi B.range_ (S9 dG B.len_ (eX (Ac (b7 3) (jl 1)) il))) (eY (Xj (Xe (b7 1) (W7 (eX (b7 2) (eX (b7 4) (eX (b7 5) il)))))) j4)) j4)) j4)) (tU B Cq19)
def zZ:Bl Ω:=
 eY (sy 1 (Ex.own il)) (sY B Cq19)
end
abbrev jm:Stmt:=top 30
abbrev CK:%[|2]:=["program","step"]
abbrev Cq:%[|2]:=["program","step"]
def CP:Bl Ω:=
 eY (yD (Ac (Ac (Ac (Ac (b7 0) (jl 1)) (Ac (b7 1) (jl 0))) (jl 1)) (Ac (b7 1) (jl 2)))) j4
abbrev ji:Stmt:=top 31
abbrev Cr:%[|2]:=["table","place","counts"]
abbrev Dc:%[|2]:=["table","place","counts"]
def De(B:Bi Ω.mg){Fq18:Ct}(Cq18:Cal Ω "comes_to" 1 2 Fq18):Bl Ω:=
 eY (yD (W7 (eX (b7 0) (eX (Xa bu B.tuple_ (eX (W6 ["form","counts"] [none,some 2] (j5 Cq18 (eX (b7 0) (eX (b7 1) il))) (Tg.nm 0) (Xc (b7 1)) W9) il)) il)))) j4
abbrev dz:Stmt:=top 32
abbrev oN:%[|2]:=["program","step","counts","deed","reads"]
abbrev oJ:%[|2]:=["program","step"]
section
variable {Fq20 : Ct} (Cq20 : Cal Ω "deed_of" 1 2 Fq20) {Fq15 : Ct} (Cq15 : Cal Ω "cell_at" 2 3 Fq15)
def lY{Fq20:Ct}(Cq20:Cal Ω "deed_of" 1 2 Fq20){Fq15:Ct}(Cq15:Cal Ω "cell_at" 2 3 Fq15):Bl Ω:=
 eY (yD (W7 (eX (j5 Cq15 (eX (Ac (b7 3) (jl 0)) (eX (Ac (b7 3) (jl 1)) (eX (b7 2) il)))) (eX (b7 4) il)))) j4
def lO:Bl Ω:=
 eY (X5 4 ["factor","table","place","counts"] [none,none,none,some 2] (j5 Cq15 (eX (b7 1) (eX (b7 2) (eX (b7 3) il)))) (Tg.tup [0,1,2]) (Xc (Ac (b7 3) (jl 3))) W9) (lY Cq20 Cq15)
def lU:Bl Ω:=
 eY (sy 3 (j5 Cq20 (eX (b7 0) (eX (b7 1) il)))) (lO Cq20 Cq15)
def oU:Bl Ω:=
 eY (sy 2 (Ac (b7 1) (jl 1))) (lU Cq20 Cq15)
end
abbrev iH:Stmt:=top 33
abbrev An:%[|2]:=["program"]
abbrev BK:%[|2]:=["program"]
def Ai{Fq41:Ct}(Cq41:Cal Ω "steps_of" 4 1 Fq41){Fq17:Ct}(Cq17:Cal Ω "cells_of_step" 3 2 Fq17):Bl Ω:=
 eY (yD (W6 ["step","program"] [none,some 0] (j5 Cq17 (eX (b7 1) (eX (b7 0) il))) (Tg.nm 0) (Xc (j5 Cq41 (eX (b7 0) il))) W9)) j4
abbrev lz:Stmt:=top 35
abbrev Hx:%[|2]:=["program","thing","number"]
abbrev Hu:%[|2]:=["program","thing"]
section
variable (B : Bi Ω.mg) {Fq36 : Ct} (Cq36 : Cal Ω "is_whole" 1 1 Fq36) {Fq38 : Ct} (Cq38 : Cal Ω "number_of_steps" 4 1 Fq38)
def BW(B:Bi Ω.mg){Fq36:Ct}(Cq36:Cal Ω "is_whole" 1 1 Fq36){Fq38:Ct}(Cq38:Cal Ω "number_of_steps" 4 1 Fq38):Bl Ω:=
 eY (yD (XQ .Eq (Ex.lset B.len_ B.set_ (b7 1)) (S9 dG B.len_ (eX (b7 1) il)))) j4
def xW:Bl Ω:=
 eY (W8 (Xf (Xd (S9 gh B.all_ (eX (W6 ["step","number"] [none,some 2] (Xm (Xb (j5 Cq36 (eX (b7 0) il)) (Xl (Ex.ch2 (jl 0) .LtE (b7 0) .Lt (b7 1))))) (Tg.nm 0) (Xc (b7 1)) W9) il)))) (eY (yD (Ex.bl false)) j4) j4) (BW B Cq36 Cq38)
def Ay:Bl Ω:=
 eY (sy 2 (j5 Cq38 (eX (Ac (b7 0) (jl 1)) il))) (xW B Cq36 Cq38)
def HF:Bl Ω:=
 eY (W8 (Xf (Xd (Xr B.isinstance_ (b7 1) .list B.list_))) (eY (yD (Ex.bl false)) j4) j4) (Ay B Cq36 Cq38)
end
abbrev dB:Stmt:=top 36
abbrev oO:%[|2]:=["program","row"]
abbrev oR:%[|2]:=["program","row"]
def oW{Fq32:Ct}(Cq32:Cal Ω "is_row" 5 2 Fq32):Bl Ω:=
 eY (W8 (Xf (Xd (j5 Cq32 (eX (b7 0) (eX (b7 1) il))))) (eY Sm.never j4) j4) j4
abbrev eQ:Stmt:=top 38
abbrev uw:%[|2]:=["cell","held"]
abbrev t7:%[|2]:=["cell","held"]
def tX:Bl Ω:=
 eY (yD (XC (b7 1) (b7 0) (W7 (eX (jl 0) (eX (X7 (b7 0) (jl 1)) il))))) j4
abbrev gn:Stmt:=top 39
abbrev vW:%[|2]:=["factors","factor","more","cell","number"]
abbrev v7:%[|2]:=["factors","factor","more"]
def wD:Bl Ω:=
 eY (X8 (Tg.tup [3,4]) (b7 2) (eY (Xv (b7 0) (b7 3) (Hc .Add (XC (b7 0) (b7 3) (jl 0)) (XM (b7 1) (b7 4)))) j4)) j4
abbrev di:Stmt:=top 40
abbrev oX:%[|2]:=["deed","counts","cells","held","number","factors","read","cell","trace"]
abbrev oM:%[|2]:=["deed","counts","cells","held"]
section
variable (B : Bi Ω.mg) {Fq18 : Ct} (Cq18 : Cal Ω "comes_to" 1 2 Fq18) {Fq43 : Ct} (Cq43 : Cal Ω "trace_held" 1 2 Fq43) {Fq14 : Ct} (Cq14 : Cal Ω "add_times" 1 3 Fq14)
def jo(B:Bi Ω.mg){Fq18:Ct}(Cq18:Cal Ω "comes_to" 1 2 Fq18){Fq43:Ct}(Cq43:Cal Ω "trace_held" 1 2 Fq43){Fq14:Ct}(Cq14:Cal Ω "add_times" 1 3 Fq14):Bl Ω:=
 eY (Xj (j5 Cq14 (eX (b7 5) (eX (Ac (b7 6) (jl 0)) (eX (Ac (b7 8) (jl 1)) il))))) j4
def jt:Bl Ω:=
 eY (Yn 4 .Add (XM (Ac (b7 6) (jl 0)) (Ac (b7 8) (jl 0)))) (jo B Cq18 Cq43 Cq14)
def jP:Bl Ω:=
 eY (sy 8 (j5 Cq43 (eX (b7 7) (eX (b7 3) il)))) (jt B Cq18 Cq43 Cq14)
def lH(B:Bi Ω.mg){Fq18:Ct}(Cq18:Cal Ω "comes_to" 1 2 Fq18){Fq43:Ct}(Cq43:Cal Ω "trace_held" 1 2 Fq43){Fq14:Ct}(Cq14:Cal Ω "add_times" 1 3 Fq14):Bl Ω:=
 eY (yD (W7 (eX (b7 4) (eX (b7 5) il)))) j4
def lQ:Bl Ω:=
 eY (Xp (Tg.tup [6,7]) (Yc B.zip_ (Ac (b7 0) (jl 3)) (b7 2)) (jP B Cq18 Cq43 Cq14)) (lH B Cq18 Cq43 Cq14)
def lK:Bl Ω:=
 eY (sy 5 Xw) (lQ B Cq18 Cq43 Cq14)
def oZ:Bl Ω:=
 eY (sy 4 (j5 Cq18 (eX (Ac (b7 0) (jl 2)) (eX (b7 1) il)))) (lK B Cq18 Cq43 Cq14)
end
abbrev eU:Stmt:=top 41
abbrev uI:%[|2]:=["trace","factors"]
abbrev sX:%[|2]:=["trace"]
def qw(B:Bi Ω.mg):Bl Ω:=
 eY (yD (W7 (eX (Ac (b7 0) (jl 0)) (eX (W6 ["cell","factors"] [none,some 1] (W7 (eX (b7 0) (eX (Xy (b7 1) (b7 0)) il))) (Tg.nm 0) (Xc (S9 RX B.sorted_ (eX (b7 1) il))) (Cd.so (Xg .NotEq (Xy (b7 1) (b7 0)) (jl 0)))) il)))) j4
def uT(B:Bi Ω.mg):Bl Ω:=
 eY (sy 1 (Ac (b7 0) (jl 1))) (qw B)
abbrev jN:Stmt:=top 42
abbrev Hn:%[|2]:=["program","row","steps","cells","held","number","step","told","cell","trace"]
abbrev Gv:%[|2]:=["program","row"]
section
variable {Fq41 : Ct} (Cq41 : Cal Ω "steps_of" 4 1 Fq41) {Fq20 : Ct} (Cq20 : Cal Ω "deed_of" 1 2 Fq20) {Fq16 : Ct} (Cq16 : Cal Ω "cells_of" 5 1 Fq16) {Fq40 : Ct} (Cq40 : Cal Ω "refuse_no_row" 6 2 Fq40) {Fq44 : Ct} (Cq44 : Cal Ω "trace_of_step" 2 4 Fq44) {Fq42 : Ct} (Cq42 : Cal Ω "told_trace" 1 1 Fq42)
def qO{Fq41:Ct}(Cq41:Cal Ω "steps_of" 4 1 Fq41){Fq20:Ct}(Cq20:Cal Ω "deed_of" 1 2 Fq20){Fq16:Ct}(Cq16:Cal Ω "cells_of" 5 1 Fq16){Fq40:Ct}(Cq40:Cal Ω "refuse_no_row" 6 2 Fq40){Fq44:Ct}(Cq44:Cal Ω "trace_of_step" 2 4 Fq44){Fq42:Ct}(Cq42:Cal Ω "told_trace" 1 1 Fq42):Bl Ω:=
 eY (Xv (b7 4) (Ac (Ac (b7 3) (b7 5)) (jl 0)) (j5 Cq44 (eX (j5 Cq20 (eX (b7 0) (eX (b7 6) il))) (eX (Ac (b7 6) (jl 1)) (eX (Ac (Ac (b7 3) (b7 5)) (jl 1)) (eX (b7 4) il)))))) j4
def wJ:Bl Ω:=
 eY (sy 6 (Ac (b7 2) (b7 5))) (qO Cq41 Cq20 Cq16 Cq40 Cq44 Cq42)
def Bp{Fq41:Ct}(Cq41:Cal Ω "steps_of" 4 1 Fq41){Fq20:Ct}(Cq20:Cal Ω "deed_of" 1 2 Fq20){Fq16:Ct}(Cq16:Cal Ω "cells_of" 5 1 Fq16){Fq40:Ct}(Cq40:Cal Ω "refuse_no_row" 6 2 Fq40){Fq44:Ct}(Cq44:Cal Ω "trace_of_step" 2 4 Fq44){Fq42:Ct}(Cq42:Cal Ω "told_trace" 1 1 Fq42):Bl Ω:=
 eY (yD (b7 7)) j4
def yo:Bl Ω:=
 eY (X8 (Tg.tup [8,9]) (b7 4) (eY (Xv (b7 7) (b7 8) (j5 Cq42 (eX (b7 9) il))) j4)) (Bp Cq41 Cq20 Cq16 Cq40 Cq44 Cq42)
def Aw:Bl Ω:=
 eY (sy 7 Xw) (yo Cq41 Cq20 Cq16 Cq40 Cq44 Cq42)
def zc:Bl Ω:=
 eY (Xn (Tg.nm 5) (b7 1) (wJ Cq41 Cq20 Cq16 Cq40 Cq44 Cq42)) (Aw Cq41 Cq20 Cq16 Cq40 Cq44 Cq42)
def zA:Bl Ω:=
 eY (sy 4 Xw) (zc Cq41 Cq20 Cq16 Cq40 Cq44 Cq42)
def yj:Bl Ω:=
 eY (sy 3 (j5 Cq16 (eX (b7 0) il))) (zA Cq41 Cq20 Cq16 Cq40 Cq44 Cq42)
def zT:Bl Ω:=
 eY (sy 2 (j5 Cq41 (eX (b7 0) il))) (yj Cq41 Cq20 Cq16 Cq40 Cq44 Cq42)
def Gr:Bl Ω:=
 eY (Xj (j5 Cq40 (eX (b7 0) (eX (b7 1) il)))) (zT Cq41 Cq20 Cq16 Cq40 Cq44 Cq42)
end
abbrev pR:Stmt:=top 44
abbrev Nq:%[|2]:=["_law_script","_law_k","_law_cell_here"]
abbrev KY:%[|2]:=["_law_script","_law_k"]
section
variable (B : Bi Ω.mg)
def Gw(B:Bi Ω.mg):Bl Ω:=
 eY (yD (Hc .Mod (Hc .Mult (b7 2) (Hc .Add (Hc .Add (Hc .Mod (b7 2) (jl 65519)) (b7 1)) (jl 2))) (jl 2147483629))) j4
def sJ:Bl Ω:=
 eY (sy 2 (Hc .Mod (Hc .Mult (Hc .Add (Hc .Add (Hc .Mod (b7 2) (jl 2147483629)) (Hc .Mult (jl 6151) (b7 1))) (jl 1)) (jl 48271)) (jl 2147483647))) (Gw B)
def qM:Bl Ω:=
 eY (W8 (XD (Xk (Xg .Lt (b7 1) (S9 dG B.len_ (eX (b7 0) il))) (Xq (Xg .Eq (Hc .Mod (Ac (b7 0) (jl 0)) (jl 2)) (jl 0))))) (eY (yD (S9 Sg B.abs_ (eX (b7 2) il))) j4) j4) (sJ B)
def Gd:Bl Ω:=
 eY (W8 (Xg .Gt (S9 dG B.len_ (eX (b7 0) il)) (jl 0)) (eY (sy 2 (Ac (b7 0) (Hc .Mod (b7 1) (S9 dG B.len_ (eX (b7 0) il))))) j4) j4) (qM B)
def M3:Bl Ω:=
 eY (sy 2 (jl 7)) (Gd B)
end
abbrev ur:Stmt:=top 45
abbrev Px:%[|2]:=["_law_script","_law_k"]
abbrev QC:%[|2]:=["_law_script","_law_k"]
def Q0{Fq1:Ct}(Cq1:Cal Ω "_law_cell" 1 2 Fq1):Bl Ω:=
 eY (yD (Ex.own (eX (j5 Cq1 (eX (b7 0) (eX (b7 1) il))) (eX (b7 1) (eX (b7 0) il))))) j4
abbrev pK:Stmt:=top 46
abbrev K8:%[|2]:=["_law_pen_here","_law_many","_law_digit"]
abbrev Nk:%[|2]:=["_law_pen_here","_law_many"]
section
variable {Fq1 : Ct} (Cq1 : Cal Ω "_law_cell" 1 2 Fq1)
def wM{Fq1:Ct}(Cq1:Cal Ω "_law_cell" 1 2 Fq1):Bl Ω:=
 eY (Xz (b7 0) (jl 0) (j5 Cq1 (eX (Ac (b7 0) (jl 2)) (eX (Ac (b7 0) (jl 1)) il)))) j4
def CJ:Bl Ω:=
 eY (Xz (b7 0) (jl 1) (Hc .Add (Ac (b7 0) (jl 1)) (jl 1))) (wM Cq1)
def Hs{Fq1:Ct}(Cq1:Cal Ω "_law_cell" 1 2 Fq1):Bl Ω:=
 eY (yD (b7 2)) j4
def G5:Bl Ω:=
 eY (W8 (Xg .Eq (Ac (b7 0) (jl 0)) (jl 0)) (CJ Cq1) j4) (Hs Cq1)
def Gy:Bl Ω:=
 eY (Xz (b7 0) (jl 0) (XJ (Ac (b7 0) (jl 0)) (b7 1))) (G5 Cq1)
def Mr:Bl Ω:=
 eY (sy 2 (Hc .Mod (Ac (b7 0) (jl 0)) (b7 1))) (Gy Cq1)
end
abbrev ql:Stmt:=top 47
abbrev Nu:%[|2]:=["_law_pen_here","_law_many","_law_wide","_law_found","_law_k"]
abbrev M6:%[|2]:=["_law_pen_here","_law_many","_law_wide"]
section
variable (B : Bi Ω.mg) {Fq12 : Ct} (Cq12 : Cal Ω "_law_take" 2 2 Fq12)
def Gp(B:Bi Ω.mg){Fq12:Ct}(Cq12:Cal Ω "_law_take" 2 2 Fq12):Bl Ω:=
 eY (yD (Xa bu B.tuple_ (eX (b7 3) il))) j4
def Ht:Bl Ω:=
 eY (Xp (Tg.nm 4) (Xi B.range_ (b7 1)) (eY (Xj (Xe (b7 3) (Ac (Xh (eX (jl 0) (eX (jl 1) (eX (jl 1) (eX (jl 0) (eX (Xu (jl 1)) (eX (jl 2) (eX (jl 0) (eX (jl 1) il))))))))) (j5 Cq12 (eX (b7 0) (eX (jl 8) il)))))) j4)) (Gp B Cq12)
def qF:Bl Ω:=
 eY (sy 3 (Ex.own (eX (Hc .Sub (j5 Cq12 (eX (b7 0) (eX (Hc .Add (Hc .Mult (jl 2) (b7 2)) (jl 1)) il))) (b7 2)) il))) (Ht B Cq12)
def K6:Bl Ω:=
 eY (W8 (XD (Xk (Xg .Eq (b7 2) (jl 1)) (Xq (Xg .Eq (j5 Cq12 (eX (b7 0) (eX (jl 16) il))) (jl 9))))) (eY (yD (Xa bu B.tuple_ (eX (W6 ["_law_k","_law_pen_here"] [none,some 0] (Hc .Sub (j5 Cq12 (eX (b7 1) (eX (jl 199) il))) (jl 99)) (Tg.nm 0) (Xi B.range_ (Hc .Add (b7 1) (jl 1))) W9) il))) j4) j4) (qF B Cq12)
end
abbrev mR:Stmt:=top 48
abbrev HS:%[|2]:=["_law_pen_here","_law_most","_law_loops_here","_law_room","_law_before","_law_k","_law_size","_law_low","_law_way","_law_none","_law_ahead","_law_stairs"]
abbrev Ke:%[|2]:=["_law_pen_here","_law_most"]
section
variable (B : Bi Ω.mg) {Fq12 : Ct} (Cq12 : Cal Ω "_law_take" 2 2 Fq12)
def tO(B:Bi Ω.mg){Fq12:Ct}(Cq12:Cal Ω "_law_take" 2 2 Fq12):Bl Ω:=
 eY (sy 4 Ex.non) j4
def tu:Bl Ω:=
 eY (sy 6 (Ac (b7 4) (jl 1))) (tO B Cq12)
def ug:Bl Ω:=
 eY (Xj (Xe (b7 2) (Ac (b7 11) (b7 8)))) (tu B Cq12)
def uD:Bl Ω:=
 eY (Xj (Xe (b7 11) (W7 (eX (Xa bu B.tuple_ (eX (Xo false .Add (Xh (eX (jl 0) il)) (b7 10)) il)) (eX (Xa bu B.tuple_ (eX (Xo false .Add (Xh (eX (S9 xf B.sum_ (eX (b7 4) il)) il)) (b7 9)) il)) il))))) (ug B Cq12)
def uU:Bl Ω:=
 eY (sy 11 (Ex.own (eX (W7 (eX (Xa bu B.tuple_ (eX (Xo false .Add (Xh (eX (Ac (b7 4) (jl 0)) il)) (b7 9)) il)) (eX (Xa bu B.tuple_ (eX (Xo false .Add (Xh (eX (jl 1) il)) (b7 10)) il)) il))) il))) (uD B Cq12)
def mV:Bl Ω:=
 eY (sy 10 (Xo true .Add (Xo false .Mult (Xh (eX (jl 0) il)) (Hc .Sub (b7 5) (jl 1))) (Xh (eX (jl 1) il)))) (uU B Cq12)
def uz(B:Bi Ω.mg){Fq12:Ct}(Cq12:Cal Ω "_law_take" 2 2 Fq12):Bl Ω:=
 eY (sy 4 Ex.non) j4
def tG:Bl Ω:=
 eY (Xj (Xe (b7 2) (W7 (eX (Xa bu B.tuple_ (eX (Xo false .Add (Xh (eX (b7 7) il)) (b7 10)) il)) (eX (Xa bu B.tuple_ (eX (Xo false .Add (Xh (eX (Hc .Add (b7 7) (b7 6)) il)) (b7 10)) il)) il))))) (uz B Cq12)
def tY:Bl Ω:=
 eY (Xz (b7 10) (j5 Cq12 (eX (b7 0) (eX (b7 5) il))) (Ac (Xh (eX (jl 1) (eX (Xu (jl 1)) (eX (jl 2) (eX (Xu (jl 2)) il))))) (j5 Cq12 (eX (b7 0) (eX (jl 4) il))))) (tG B Cq12)
def gV:Bl Ω:=
 eY (sy 10 (Xo true .Mult (Xh (eX (jl 0) il)) (b7 5))) (tY B Cq12)
def tW(B:Bi Ω.mg){Fq12:Ct}(Cq12:Cal Ω "_law_take" 2 2 Fq12):Bl Ω:=
 eY (sy 4 (W7 (eX (b7 7) (eX (b7 6) il)))) j4
def iu:Bl Ω:=
 eY (Xj (Xe (b7 2) (W7 (eX (Xa bu B.tuple_ (eX (Xo false .Add (Xh (eX (b7 7) il)) (b7 9)) il)) (eX (Xa bu B.tuple_ (eX (Xo false .Add (Xh (eX (Hc .Add (b7 7) (Hc .Mult (b7 6) (Xa WK B.int_ (eX (Yq (Xb (XQ .Lt (b7 8) (jl 7)) (Xl (XQ .Lt (b7 7) (jl 3))))) il)))) il)) (b7 9)) il)) il))))) (tW B Cq12)
def bQ(B:Bi Ω.mg){Fq12:Ct}(Cq12:Cal Ω "_law_take" 2 2 Fq12):Bl Ω:=
 eY (sy 3 (XJ (b7 3) (b7 6))) j4
def uB:Bl Ω:=
 eY (W8 (XD (Xk (Xg .Lt (b7 8) (jl 2)) (Xk (Xg .IsNot (b7 4) Ex.non) (Xq (Xg .LtE (Ac (b7 4) (jl 1)) (b7 3)))))) (mV B Cq12) (eY (W8 (XD (Xk (Xg .Lt (b7 8) (jl 4)) (Xq (Xg .Gt (b7 5) (jl 0))))) (gV B Cq12) (iu B Cq12)) j4)) (bQ B Cq12)
def uE:Bl Ω:=
 eY (sy 9 (Xo false .Mult (Xh (eX (jl 0) il)) (b7 5))) (uB B Cq12)
def ut:Bl Ω:=
 eY (sy 8 (j5 Cq12 (eX (b7 0) (eX (jl 8) il)))) (uE B Cq12)
def uc:Bl Ω:=
 eY (sy 7 (Hc .Sub (j5 Cq12 (eX (b7 0) (eX (jl 7) il))) (jl 3))) (ut B Cq12)
def mH:Bl Ω:=
 eY (sy 6 (Hc .Add (jl 1) (j5 Cq12 (eX (b7 0) (eX (S9 Wn B.min_ (eX (jl 4) (eX (b7 3) il))) il))))) (uc B Cq12)
def Cu(B:Bi Ω.mg){Fq12:Ct}(Cq12:Cal Ω "_law_take" 2 2 Fq12):Bl Ω:=
 eY (yD (Xa bu B.tuple_ (eX (b7 2) il))) j4
def DK:Bl Ω:=
 eY (Xp (Tg.nm 5) (Xi B.range_ (Hc .Add (jl 1) (j5 Cq12 (eX (b7 0) (eX (jl 3) il))))) (Bl.fza (mH B Cq12))) (Cu B Cq12)
def Dm:Bl Ω:=
 eY (sy 4 Ex.non) (DK B Cq12)
def DP:Bl Ω:=
 eY (sy 3 (b7 1)) (Dm B Cq12)
def Jj:Bl Ω:=
 eY (sy 2 (Ex.own il)) (DP B Cq12)
end
abbrev qb:Stmt:=top 49
abbrev Nh:%[|2]:=["_law_pen_here","_law_widths","_law_many","_law_table","_law_place","_law_start","_law_parts","_law_k","_law_other","_law_way","_law_factor"]
abbrev La:%[|2]:=["_law_pen_here","_law_widths","_law_many"]
section
variable (B : Bi Ω.mg) {Fq12 : Ct} (Cq12 : Cal Ω "_law_take" 2 2 Fq12) {Fq4 : Ct} (Cq4 : Cal Ω "_law_form" 3 3 Fq4)
def lD(B:Bi Ω.mg){Fq12:Ct}(Cq12:Cal Ω "_law_take" 2 2 Fq12){Fq4:Ct}(Cq4:Cal Ω "_law_form" 3 3 Fq4):Bl Ω:=
 eY (Xj (Xe (b7 6) (W7 (eX (b7 10) (eX (b7 8) (eX (Xa bu B.tuple_ (eX (W6 ["_law_j","_law_pen_here","_law_many"] [none,some 0,some 2] (j5 Cq4 (eX (b7 1) (eX (b7 2) (eX (jl 1) il)))) (Tg.nm 0) (Xi B.range_ (Ac (b7 1) (b7 8))) W9) il)) il)))))) j4
def wG:Bl Ω:=
 eY (W8 (Xg .Eq (b7 9) (jl 7)) (eY (sy 10 (Hc .Add (Hc .Sub (j5 Cq12 (eX (b7 0) (eX (Hc .Sub (Hc .Mult (jl 2) (Hc .Pow (jl 10) (jl 30))) (jl 1)) il))) (Hc .Pow (jl 10) (jl 30))) (jl 1))) j4) j4) (lD B Cq12 Cq4)
def wO:Bl Ω:=
 eY (sy 10 (Ac (Xh (eX (jl 1) (eX (Xu (jl 1)) (eX (jl 2) (eX (jl 3) (eX (jl 0) (eX (jl 1) (eX (Xu (jl 5)) (eX (jl 0) il))))))))) (b7 9))) (wG B Cq12 Cq4)
def wC:Bl Ω:=
 eY (sy 9 (j5 Cq12 (eX (b7 0) (eX (jl 8) il)))) (wO B Cq12 Cq4)
def pG:Bl Ω:=
 eY (sy 8 (j5 Cq12 (eX (b7 0) (eX (S9 dG B.len_ (eX (b7 1) il)) il)))) (wC B Cq12 Cq4)
def HQ(B:Bi Ω.mg){Fq12:Ct}(Cq12:Cal Ω "_law_take" 2 2 Fq12){Fq4:Ct}(Cq4:Cal Ω "_law_form" 3 3 Fq4):Bl Ω:=
 eY (yD (W7 (eX (b7 3) (eX (b7 4) (eX (b7 5) (eX (Xa bu B.tuple_ (eX (b7 6) il)) il)))))) j4
def Hy:Bl Ω:=
 eY (Xp (Tg.nm 7) (Xi B.range_ (j5 Cq12 (eX (b7 0) (eX (jl 4) il)))) (pG B Cq12 Cq4)) (HQ B Cq12 Cq4)
def HN:Bl Ω:=
 eY (sy 6 (Ex.own il)) (Hy B Cq12 Cq4)
def Ho:Bl Ω:=
 eY (sy 5 (j5 Cq4 (eX (b7 0) (eX (b7 2) (eX (Ac (Xh (eX (jl 1) (eX (jl 9) (eX (Hc .Sub (Hc .Pow (jl 10) (jl 30)) (jl 1)) il)))) (j5 Cq12 (eX (b7 0) (eX (jl 3) il)))) il))))) (HN B Cq12 Cq4)
def Gq:Bl Ω:=
 eY (sy 4 (Xa bu B.tuple_ (eX (W6 ["_law_k","_law_pen_here","_law_many"] [none,some 0,some 2] (j5 Cq4 (eX (b7 1) (eX (b7 2) (eX (jl 1) il)))) (Tg.nm 0) (Xi B.range_ (Ac (b7 1) (b7 3))) W9) il))) (Ho B Cq12 Cq4)
def Ni:Bl Ω:=
 eY (sy 3 (j5 Cq12 (eX (b7 0) (eX (S9 dG B.len_ (eX (b7 1) il)) il)))) (Gq B Cq12 Cq4)
end
abbrev jj:Stmt:=top 50
abbrev CQ:%[|2]:=["_law_pen_here","_law_most","_law_widths","_law_many","_law_nests","_law_k","_law_deeds","_law_loops_here"]
abbrev Cj:%[|2]:=["_law_pen_here","_law_most"]
section
variable (B : Bi Ω.mg) {Fq12 : Ct} (Cq12 : Cal Ω "_law_take" 2 2 Fq12) {Fq6 : Ct} (Cq6 : Cal Ω "_law_loops" 3 2 Fq6) {Fq3 : Ct} (Cq3 : Cal Ω "_law_deed" 4 3 Fq3)
def pM(B:Bi Ω.mg){Fq12:Ct}(Cq12:Cal Ω "_law_take" 2 2 Fq12){Fq6:Ct}(Cq6:Cal Ω "_law_loops" 3 2 Fq6){Fq3:Ct}(Cq3:Cal Ω "_law_deed" 4 3 Fq3):Bl Ω:=
 eY (Xj (Xe (b7 4) (W7 (eX (b7 7) (eX (Xa bu B.tuple_ (eX (W6 ["_law_j","_law_pen_here","_law_widths","_law_loops_here"] [none,some 0,some 2,some 7] (j5 Cq3 (eX (b7 1) (eX (b7 2) (eX (S9 dG B.len_ (eX (b7 3) il)) il)))) (Tg.nm 0) (Xi B.range_ (b7 6)) W9) il)) il))))) j4
def pU:Bl Ω:=
 eY (sy 7 (j5 Cq6 (eX (b7 0) (eX (S9 WR B.max_ (eX (jl 1) (eX (XJ (XJ (b7 1) (b7 3)) (b7 6)) il))) il)))) (pM B Cq12 Cq6 Cq3)
def jC:Bl Ω:=
 eY (sy 6 (Hc .Add (jl 1) (j5 Cq12 (eX (b7 0) (eX (jl 4) il))))) (pU B Cq12 Cq6 Cq3)
def wU(B:Bi Ω.mg){Fq12:Ct}(Cq12:Cal Ω "_law_take" 2 2 Fq12){Fq6:Ct}(Cq6:Cal Ω "_law_loops" 3 2 Fq6){Fq3:Ct}(Cq3:Cal Ω "_law_deed" 4 3 Fq3):Bl Ω:=
 eY (yD (W7 (eX (b7 2) (eX (Xa bu B.tuple_ (eX (b7 4) il)) il)))) j4
def wX:Bl Ω:=
 eY (Xp (Tg.nm 5) (Xi B.range_ (b7 3)) (jC B Cq12 Cq6 Cq3)) (wU B Cq12 Cq6 Cq3)
def v9:Bl Ω:=
 eY (sy 4 (Ex.own il)) (wX B Cq12 Cq6 Cq3)
def wZ:Bl Ω:=
 eY (sy 3 (Hc .Add (jl 1) (j5 Cq12 (eX (b7 0) (eX (jl 3) il))))) (v9 B Cq12 Cq6 Cq3)
def Dl:Bl Ω:=
 eY (sy 2 (Xa bu B.tuple_ (eX (W6 ["_law_k","_law_pen_here"] [none,some 0] (Hc .Add (jl 1) (j5 Cq12 (eX (b7 1) (eX (jl 2) il)))) (Tg.nm 0) (Xi B.range_ (Hc .Add (jl 1) (j5 Cq12 (eX (b7 0) (eX (jl 3) il))))) W9) il))) (wZ B Cq12 Cq6 Cq3)
end
abbrev xG:Stmt:=top 51
abbrev RN:%[|2]:=["_law_form_here","_law_counts_here"]
abbrev TY:%[|2]:=["_law_form_here","_law_counts_here"]
def Ug(B:Bi Ω.mg):Bl Ω:=
 eY (yD (Hc .Add (Ac (b7 0) (jl 0)) (S9 xf B.sum_ (eX (W6 ["_law_k","_law_form_here","_law_counts_here"] [none,some 0,some 1] (Hc .Mult (Ac (b7 1) (Hc .Add (jl 1) (b7 0))) (Ac (b7 2) (b7 0))) (Tg.nm 0) (Xi B.range_ (S9 dG B.len_ (eX (b7 1) il))) W9) il)))) j4
abbrev j8:Stmt:=top 52
abbrev Hb:%[|2]:=["_law_loops_here","_law_found","_law_low","_law_high","_law_longer","_law_counts_here","_law_count"]
abbrev GP:%[|2]:=["_law_loops_here"]
section
variable (B : Bi Ω.mg) {Fq0 : Ct} (Cq0 : Cal Ω "_law_at" 1 2 Fq0)
def qX(B:Bi Ω.mg){Fq0:Ct}(Cq0:Cal Ω "_law_at" 1 2 Fq0):Bl Ω:=
 eY (sy 1 (b7 4)) j4
def rF:Bl Ω:=
 eY (Xn (Tg.nm 5) (b7 1) (eY (Xp (Tg.nm 6) (XS B.range_ (j5 Cq0 (eX (b7 2) (eX (b7 5) il))) (j5 Cq0 (eX (b7 3) (eX (b7 5) il)))) (eY (Xj (Xe (b7 4) (Hc .Add (b7 5) (W7 (eX (b7 6) il))))) j4)) j4)) (qX B Cq0)
def wF:Bl Ω:=
 eY (sy 4 (Ex.own il)) (rF B Cq0)
def zW(B:Bi Ω.mg){Fq0:Ct}(Cq0:Cal Ω "_law_at" 1 2 Fq0):Bl Ω:=
 eY (yD (b7 1)) j4
def zP:Bl Ω:=
 eY (Xn (Tg.tup [2,3]) (b7 0) (Ym (wF B Cq0))) (zW B Cq0)
def Ha:Bl Ω:=
 eY (sy 1 (Xh (eX (W7 il) il))) (zP B Cq0)
end
abbrev pO:Stmt:=top 53
abbrev Ml:%[|2]:=["_law_table","_law_place","_law_counts_here"]
abbrev M9:%[|2]:=["_law_table","_law_place","_law_counts_here"]
def Mj(B:Bi Ω.mg){Fq0:Ct}(Cq0:Cal Ω "_law_at" 1 2 Fq0):Bl Ω:=
 eY (yD (W7 (eX (b7 0) (eX (Xa bu B.tuple_ (eX (W6 ["_law_form_here","_law_counts_here"] [none,some 2] (j5 Cq0 (eX (b7 0) (eX (b7 1) il))) (Tg.nm 0) (Xc (b7 1)) W9) il)) il)))) j4
abbrev nF:Stmt:=top 54
abbrev Iv:%[|2]:=["_law_program_here","_law_steps_here","_law_loops_here","_law_deeds","_law_counts_here","_law_table","_law_place","_law_start","_law_parts","_law_some"]
abbrev Jv:%[|2]:=["_law_program_here"]
section
variable {Fq0 : Ct} (Cq0 : Cal Ω "_law_at" 1 2 Fq0) {Fq2 : Ct} (Cq2 : Cal Ω "_law_counts" 2 1 Fq2) {Fq10 : Ct} (Cq10 : Cal Ω "_law_spot" 2 3 Fq10)
def uH{Fq0:Ct}(Cq0:Cal Ω "_law_at" 1 2 Fq0){Fq2:Ct}(Cq2:Cal Ω "_law_counts" 2 1 Fq2){Fq10:Ct}(Cq10:Cal Ω "_law_spot" 2 3 Fq10):Bl Ω:=
 eY (Xj (Xe (b7 1) (W7 (eX (j5 Cq10 (eX (b7 5) (eX (b7 6) (eX (b7 4) il)))) (eX (j5 Cq0 (eX (b7 7) (eX (b7 4) il))) (eX (b7 9) il)))))) j4
def Bj:Bl Ω:=
 eY (X5 9 ["_law_factor","_law_other","_law_there","_law_counts_here"] [none,none,none,some 4] (W7 (eX (b7 0) (eX (j5 Cq10 (eX (b7 1) (eX (b7 2) (eX (b7 3) il)))) il))) (Tg.tup [0,1,2]) (Xc (b7 8)) W9) (uH Cq0 Cq2 Cq10)
def Di{Fq0:Ct}(Cq0:Cal Ω "_law_at" 1 2 Fq0){Fq2:Ct}(Cq2:Cal Ω "_law_counts" 2 1 Fq2){Fq10:Ct}(Cq10:Cal Ω "_law_spot" 2 3 Fq10):Bl Ω:=
 eY (yD (b7 1)) j4
def Dr:Bl Ω:=
 eY (Xn (Tg.tup [2,3]) (Ac (b7 0) (jl 1)) (eY (Xn (Tg.nm 4) (j5 Cq2 (eX (b7 2) il)) (eY (Xn (Tg.tup [5,6,7,8]) (b7 3) (Bj Cq0 Cq2 Cq10)) j4)) j4)) (Di Cq0 Cq2 Cq10)
def Jr:Bl Ω:=
 eY (sy 1 (Ex.own il)) (Dr Cq0 Cq2 Cq10)
end
abbrev uQ:Stmt:=top 55
abbrev Qt:%[|2]:=["_law_pen_here","_law_many","_law_way","_law_found","_law_t"]
abbrev Ra:%[|2]:=["_law_pen_here","_law_many"]
section
variable (B : Bi Ω.mg) {Fq12 : Ct} (Cq12 : Cal Ω "_law_take" 2 2 Fq12)
def Jb(B:Bi Ω.mg){Fq12:Ct}(Cq12:Cal Ω "_law_take" 2 2 Fq12):Bl Ω:=
 eY (yD (b7 3)) j4
def Ja:Bl Ω:=
 eY (W8 (Xg .Eq (b7 2) (jl 1)) (eY (yD (Yb (b7 3) Po.no (Po.so (j5 Cq12 (eX (b7 0) (eX (Hc .Add (b7 1) (jl 1)) il)))))) j4) j4) (Jb B Cq12)
def JR:Bl Ω:=
 eY (Xp (Tg.nm 4) (Xi B.range_ (b7 1)) (eY (Xj (X3 (b7 3) (j5 Cq12 (eX (b7 0) (eX (Hc .Add (S9 dG B.len_ (eX (b7 3) il)) (jl 1)) il))) (b7 4))) j4)) (Ja B Cq12)
def Jz:Bl Ω:=
 eY (sy 3 (Ex.own il)) (JR B Cq12)
def Je:Bl Ω:=
 eY (W8 (Xg .Eq (b7 2) (jl 0)) (eY (yD (Yh B.range_ B.list_ (b7 1))) j4) j4) (Jz B Cq12)
def Q5:Bl Ω:=
 eY (sy 2 (j5 Cq12 (eX (b7 0) (eX (jl 4) il)))) (Je B Cq12)
end
abbrev kh:Stmt:=top 56
abbrev Gm:%[|2]:=["_law_steps_here","_law_row_here","_law_held","_law_t","_law_cell_here","_law_number","_law_parts","_law_whole","_law_factor","_law_spot_here","_law_more","_law_some","_law_other","_law_found"]
abbrev HH:%[|2]:=["_law_steps_here","_law_row_here"]
section
variable (B : Bi Ω.mg)
def rP(B:Bi Ω.mg):Bl Ω:=
 eY (XR (Tg.nm 12) (b7 11) (eY (Xv (b7 7) (b7 12) (Hc .Add (XC (b7 7) (b7 12) (jl 0)) (XM (b7 8) (Xy (b7 11) (b7 12))))) j4)) j4
def rK:Bl Ω:=
 eY (sy 5 (Hc .Add (b7 5) (XM (b7 8) (b7 10)))) (rP B)
def wg:Bl Ω:=
 eY (XF [10,11] (XC (b7 2) (b7 9) (W7 (eX (jl 0) (eX (X7 (b7 9) (jl 1)) il))))) (rK B)
def qQ(B:Bi Ω.mg):Bl Ω:=
 eY (Xv (b7 2) (b7 4) (W7 (eX (b7 5) (eX (b7 7) il)))) j4
def rT:Bl Ω:=
 eY (Xn (Tg.tup [8,9]) (b7 6) (wg B)) (qQ B)
def sS:Bl Ω:=
 eY (sy 7 Xw) (rT B)
def v4:Bl Ω:=
 eY (XF [4,5,6] (Ac (b7 0) (b7 3))) (sS B)
def qH(B:Bi Ω.mg):Bl Ω:=
 eY (Xv (b7 13) (b7 4) (W7 (eX (b7 5) (eX (W6 ["_law_spot_here","_law_whole"] [none,some 7] (W7 (eX (b7 0) (eX (Xy (b7 1) (b7 0)) il))) (Tg.nm 0) (Xc (S9 Ry B.sorted_ (eX (Xa SM B.list_ (eX (b7 7) il)) il))) (Cd.so (Xg .NotEq (Xy (b7 1) (b7 0)) (jl 0)))) il)))) j4
def wk:Bl Ω:=
 eY (XF [5,7] (Xy (b7 2) (b7 4))) (qH B)
def xZ(B:Bi Ω.mg):Bl Ω:=
 eY (yD (b7 13)) j4
def xQ:Bl Ω:=
 eY (XR (Tg.nm 4) (b7 2) (wk B)) (xZ B)
def Bx:Bl Ω:=
 eY (sy 13 Xw) (xQ B)
def zr:Bl Ω:=
 eY (Xn (Tg.nm 3) (b7 1) (v4 B)) (Bx B)
def G6:Bl Ω:=
 eY (sy 2 Xw) (zr B)
end
abbrev kI:Stmt:=top 57
abbrev GK:%[|2]:=["_law_found","_law_number","_law_parts","_law_part"]
abbrev GR:%[|2]:=["_law_found"]
section
variable (B : Bi Ω.mg)
def qJ(B:Bi Ω.mg):Bl Ω:=
 eY (Xn (Tg.nm 3) (b7 2) (eY (W8 (XH (Xk (Xf (Xd (Xr B.isinstance_ (b7 3) .tuple B.tuple_))) (Xq (Xd (Xr B.isinstance_ (Ac (b7 3) (jl 1)) .bool B.bool_))))) (eY (yD (Ex.bl false)) j4) j4) j4)) j4
def vX:Bl Ω:=
 eY (W8 (XH (Xk (Xf (Xd (Xr B.isinstance_ (b7 1) .int B.int_))) (Xk (Xd (Xr B.isinstance_ (b7 1) .bool B.bool_)) (Xq (Xf (Xd (Xr B.isinstance_ (b7 2) .list B.list_))))))) (eY (yD (Ex.bl false)) j4) j4) (qJ B)
def Aq(B:Bi Ω.mg):Bl Ω:=
 eY (yD (Ex.bl true)) j4
def HJ:Bl Ω:=
 eY (Yi (Tg.tup [1,2]) (b7 0) (vX B)) (Aq B)
end
abbrev jR:Stmt:=top 58
abbrev V5:%[|2]:=["_law_script","_law_pen_here","_law_drawn","_law_steps_here","_law_program_here","_law_k","_law_row_here","_law_due","_law_handed","_law_turn","_law_found","_law_cell_here"]
abbrev Od:%[|2]:=["_law_script"]
section
variable (B : Bi Ω.mg) {Fq39 : Ct} (Cq39 : Cal Ω "program_of" 10 2 Fq39) {Fq45 : Ct} (Cq45 : Cal Ω "traced" 7 2 Fq45) {Fq7 : Ct} (Cq7 : Cal Ω "_law_pen" 2 2 Fq7) {Fq12 : Ct} (Cq12 : Cal Ω "_law_take" 2 2 Fq12) {Fq8 : Ct} (Cq8 : Cal Ω "_law_program" 5 2 Fq8) {Fq11 : Ct} (Cq11 : Cal Ω "_law_steps" 3 1 Fq11) {Fq9 : Ct} (Cq9 : Cal Ω "_law_row" 3 2 Fq9) {Fq13 : Ct} (Cq13 : Cal Ω "_law_traces" 1 2 Fq13) {Fq5 : Ct} (Cq5 : Cal Ω "_law_formed" 1 1 Fq5)
def Gx(B:Bi Ω.mg){Fq39:Ct}(Cq39:Cal Ω "program_of" 10 2 Fq39){Fq45:Ct}(Cq45:Cal Ω "traced" 7 2 Fq45){Fq7:Ct}(Cq7:Cal Ω "_law_pen" 2 2 Fq7){Fq12:Ct}(Cq12:Cal Ω "_law_take" 2 2 Fq12){Fq8:Ct}(Cq8:Cal Ω "_law_program" 5 2 Fq8){Fq11:Ct}(Cq11:Cal Ω "_law_steps" 3 1 Fq11){Fq9:Ct}(Cq9:Cal Ω "_law_row" 3 2 Fq9){Fq13:Ct}(Cq13:Cal Ω "_law_traces" 1 2 Fq13){Fq5:Ct}(Cq5:Cal Ω "_law_formed" 1 1 Fq5):Bl Ω:=
 eY (Xj (Yj (b7 10))) j4
def Gn:Bl Ω:=
 eY (XR (Tg.nm 11) (b7 7) (eY (Xj (XX (Ac (Xy (b7 10) (b7 11)) (jl 1)) (W7 (eX (b7 11) (eX (jl 0) il))))) j4)) (Gx B Cq39 Cq45 Cq7 Cq12 Cq8 Cq11 Cq9 Cq13 Cq5)
def GD:Bl Ω:=
 eY (W8 (XH (Xk (Xf (Xd (Yk B.isinstance_ (b7 10) B.dict_))) (Xk (Yp true (b7 10) (b7 7)) (Xk (Yo (b7 8) (b7 6)) (Xq (Xf (Xd (j5 Cq5 (eX (b7 10) il))))))))) (eY (yD (Ex.bl false)) j4) j4) (Gn B Cq39 Cq45 Cq7 Cq12 Cq8 Cq11 Cq9 Cq13 Cq5)
def Mw:Bl Ω:=
 eY (sy 10 (j5 Cq45 (eX (b7 4) (eX (b7 8) il)))) (GD B Cq39 Cq45 Cq7 Cq12 Cq8 Cq11 Cq9 Cq13 Cq5)
def Gi(B:Bi Ω.mg){Fq39:Ct}(Cq39:Cal Ω "program_of" 10 2 Fq39){Fq45:Ct}(Cq45:Cal Ω "traced" 7 2 Fq45){Fq7:Ct}(Cq7:Cal Ω "_law_pen" 2 2 Fq7){Fq12:Ct}(Cq12:Cal Ω "_law_take" 2 2 Fq12){Fq8:Ct}(Cq8:Cal Ω "_law_program" 5 2 Fq8){Fq11:Ct}(Cq11:Cal Ω "_law_steps" 3 1 Fq11){Fq9:Ct}(Cq9:Cal Ω "_law_row" 3 2 Fq9){Fq13:Ct}(Cq13:Cal Ω "_law_traces" 1 2 Fq13){Fq5:Ct}(Cq5:Cal Ω "_law_formed" 1 1 Fq5):Bl Ω:=
 eY (Xp (Tg.nm 9) (Xi B.range_ (jl 2)) (Bl.fgd (Mw B Cq39 Cq45 Cq7 Cq12 Cq8 Cq11 Cq9 Cq13 Cq5))) j4
def Hd:Bl Ω:=
 eY (sy 8 (Xa Vi B.list_ (eX (b7 6) il))) (Gi B Cq39 Cq45 Cq7 Cq12 Cq8 Cq11 Cq9 Cq13 Cq5)
def GF:Bl Ω:=
 eY (sy 7 (j5 Cq13 (eX (b7 3) (eX (b7 6) il)))) (Hd B Cq39 Cq45 Cq7 Cq12 Cq8 Cq11 Cq9 Cq13 Cq5)
def Lb:Bl Ω:=
 eY (sy 6 (j5 Cq9 (eX (b7 1) (eX (S9 dG B.len_ (eX (b7 3) il)) il)))) (GF B Cq39 Cq45 Cq7 Cq12 Cq8 Cq11 Cq9 Cq13 Cq5)
def Qn(B:Bi Ω.mg){Fq39:Ct}(Cq39:Cal Ω "program_of" 10 2 Fq39){Fq45:Ct}(Cq45:Cal Ω "traced" 7 2 Fq45){Fq7:Ct}(Cq7:Cal Ω "_law_pen" 2 2 Fq7){Fq12:Ct}(Cq12:Cal Ω "_law_take" 2 2 Fq12){Fq8:Ct}(Cq8:Cal Ω "_law_program" 5 2 Fq8){Fq11:Ct}(Cq11:Cal Ω "_law_steps" 3 1 Fq11){Fq9:Ct}(Cq9:Cal Ω "_law_row" 3 2 Fq9){Fq13:Ct}(Cq13:Cal Ω "_law_traces" 1 2 Fq13){Fq5:Ct}(Cq5:Cal Ω "_law_formed" 1 1 Fq5):Bl Ω:=
 eY (yD (Ex.bl true)) j4
def PB:Bl Ω:=
 eY (Xp (Tg.nm 5) (Xi B.range_ (jl 3)) (Lb B Cq39 Cq45 Cq7 Cq12 Cq8 Cq11 Cq9 Cq13 Cq5)) (Qn B Cq39 Cq45 Cq7 Cq12 Cq8 Cq11 Cq9 Cq13 Cq5)
def Ri:Bl Ω:=
 eY (sy 4 (j5 Cq39 (eX (Ac (b7 2) (jl 0)) (eX (Ac (b7 2) (jl 1)) il)))) (PB B Cq39 Cq45 Cq7 Cq12 Cq8 Cq11 Cq9 Cq13 Cq5)
def Qa:Bl Ω:=
 eY (sy 3 (j5 Cq11 (eX (b7 2) il))) (Ri B Cq39 Cq45 Cq7 Cq12 Cq8 Cq11 Cq9 Cq13 Cq5)
def QL:Bl Ω:=
 eY (sy 2 (j5 Cq8 (eX (b7 1) (eX (Ac (Xh (eX (jl 24) (eX (jl 24) (eX (jl 24) (eX (jl 60) (eX (jl 24) (eX (jl 24) il))))))) (j5 Cq12 (eX (b7 1) (eX (jl 6) il)))) il)))) (Qa B Cq39 Cq45 Cq7 Cq12 Cq8 Cq11 Cq9 Cq13 Cq5)
def U7:Bl Ω:=
 eY (sy 1 (j5 Cq7 (eX (b7 0) (eX (jl 1) il)))) (QL B Cq39 Cq45 Cq7 Cq12 Cq8 Cq11 Cq9 Cq13 Cq5)
end
end
end K11
local macro_rules | `(tactic| walk_at "n") => `(tactic| ((conv => whnf); repeat (with_reducible first | apply RF.cLt | apply RF.cLe | apply RF.cGt | apply RF.cGe | apply RF.cEqI | apply RF.cNeI | apply RF.cEqB | apply RF.cNeB | apply RF.cIsN | apply RF.cIsB | apply RF.cIsNotB | apply RF.cIsNot); (conv => whnf)))
local macro_rules | `(tactic| walk_at "at") => `(tactic| first | (with_reducible assumption) | exact DL.set_get (by first | (with_reducible assumption) | exact DL.set_get (by with_reducible assumption)))
local macro_rules | `(tactic| walk_at "o") => `(tactic| first | omega | decide | (simp; done) | (simp; omega))
local macro_rules | `(tactic| walk_at "a1") => `(tactic| first
 | refine RF.wM1 (by first | exact .inl ⟨by walk_at "o", by walk_at "o"⟩ | exact .inr ⟨by walk_at "o", by walk_at "o"⟩) ?_
 | refine RF.wM2 ⟨by decide, by decide, by decide⟩ ?_
 | refine RF.wM3 ⟨by omega, by omega⟩ ?_
 | refine RF.wM4 (by omega) ?_
 | ((fail_if_success (with_reducible show (_ /\ ∃ _ : Nat -> List DL.D -> DL.Store -> Prop, _))); refine RF.wM5 (by walk_at "o") ?_)
 | refine RF.wM6 (by walk_at "o") ?_
 | (refine' RF.wM7 ?h1 ?h2 ?h3; (case h1 => walk_at "at"); (case h2 => exact rfl); (try rw [List.set_set]))
 | (refine' RF.wM8 ?h1 ?h2 ?h3; (case h1 => walk_at "at"); (case h2 => exact rfl))
 | refine RF.wM9 rfl ?_)
local macro_rules | `(tactic| walk_at "a") => `(tactic| (walk_at "n"; repeat (walk_at "a1"; walk_at "n")))
local macro_rules | `(tactic| walk_at "b") => `(tactic| (walk_at "n"; repeat ((first | walk_at "a1" | apply RF.bT | apply RF.bF | apply RF.dT | apply RF.dF); walk_at "n")))
namespace K11
open PySem L2 DL RF
variable {cs ws : %[|1]} {i n k m t B X : Nat} {d : D} {a b : Int} {ds l : List D} {S S1 S' J : Store} {W : WD} {Γ : Gam} {o : List Nat}
variable {Ω : Wd} {f : Addr} {fd : FuncData}
def whole:D->Bool
 | .int _=>true
 | _=>false
def bB(x:D)(a b:Int):Bool:=match x with
 | .tup ds=>decide (a≤(ds.length:Int))&&decide ((ds.length:Int)≤b)
 | _=>false
def cR(x:D)(d:Int):Bool:=match x with
 | .tup ds=>decide ((ds.length:Int)=d+1)&&ds.all whole
 | _=>false
inductive c_whole(ds:List D)(S:Store)(W:WD):Prop
 | mk(x:_):ds=[x]->W (.bl (whole x)) S->c_whole ds S W
inductive c_tup(ds:List D)(S:Store)(W:WD):Prop
 | mk(x a b:_):ds=[x,.int a,.int b]->W (.bl (bB x a b)) S->c_tup ds S W
inductive c_form(ds:List D)(S:Store)(W:WD):Prop
 | mk(x d:_):ds=[x,.int d]->d≤1000->W (.bl (cR x d)) S->c_form ds S W
def comesTo(f:Int)(fs cs:%[|1]):Int:=f+(List.zipWith (λ a b=>a*b) fs cs).sum
inductive c_comes(ds:List D)(S:Store)(W:WD):Prop
 | mk(f fs cs:_):ds=[.tup (.int f::fs.map .int),.tup (cs.map .int)]->fs.length≤1000->(∀c∈cs,-(2 ^ 64)<c/\c<2 ^ 64)->W (.int (comesTo f fs cs)) S->c_comes ds S W
theorem Jm(ds:List D):(ds.map whole).all id=ds.all whole:=by rw[List.all_map];rfl
theorem Qy{fs:%[|1]}(h:(List.zipWith (λ x y=>D.tup [x,y]) (fs.map D.int) (cs.map D.int))[i]? =some d):∃a b,fs[i]? =some a/\cs[i]? =some b/\d=.tup [.int a,.int b]:=by
 rw[List.getElem?_zipWith,x5,x5]at h
 cases c:fs[i]? with
 | none=>rw[c]at h;cases h
 | some a=>
   cases e:cs[i]? with
   | none=>rw[c,e]at h;cases h
   | some b=>rw[c,e]at h;cases h;exact⟨a,b,rfl,rfl,rfl⟩
theorem wV(F:Fun Ω.K "is_whole" "is_whole" iy f fd)(b:Ω.cd=none)(B:Bi Ω.mg):Ok Ω 1 f fd Bs c_whole:=by
 refine au b (N:=xY) F (yP B) (by kernel_rfl!) ?_;rintro d S W ⟨x,rfl,a⟩ g;walk_at "n";refine⟨λ c=>?_,λ c=>?_⟩
 . walk_at "n";have e:(!isD .bool x)=whole x:=by cases x<;>first | rfl | exact ff c | exact tf c
   rw[e];exact a
 . have e:whole x=false:=by cases x<;>first | rfl | exact ff c | exact tf c
   rw[e]at a;exact a
theorem pX(F:Fun Ω.K "is_tuple_of" "is_tuple_of" dZ f fd)(i:Ω.cd=none)(B:Bi Ω.mg):Ok Ω 1 f fd rE c_tup:=by
 refine au i (N:=rm) F (rH B) (by kernel_rfl!) ?_;rintro g S W ⟨x,a,b,rfl,d⟩ j;walk_at "n"
 cases x with
 | tup g=>
   refine⟨λ _=>?_,λ c=>tf c⟩;walk_at "n";refine⟨λ h=>?_,λ h=>?_⟩
   . have e:bB (.tup g) a b=false:=by show(decide _&&decide _)=false;rw[h];rfl
     rw[e]at d;exact d
   . walk_at "n";have e:bB (.tup g) a b=decide ((g.length:Int)≤b):=by show(decide _&&decide _)=_;rw[h];rfl
     rw[e]at d;exact d
 | _=>exact⟨λ c=>ff c,λ _=>d⟩
theorem Bd(F:Fun Ω.K "is_form" "is_form" jd f fd)(n:Ω.cd=none)(B:Bi Ω.mg)(h:Cal Ω "is_whole" 1 1 c_whole)(g:Cal Ω "is_tuple_of" 1 3 c_tup):Ok Ω 2 f fd Do c_form:=by
 refine au n (N:=Ds) F (CT B h g) (by kernel_rfl!) ?_;rintro a S W ⟨x,d,rfl,q,k⟩ r;walk_at "n";refine⟨rfl,_,_,_,rfl,?_⟩;refine⟨λ c=>?_,λ c=>?_⟩
 . cases x with
   | tup a=>
     have j:(a.length:Int)=d+1:=by have m:(decide (d+1≤(a.length:Int))&&decide ((a.length:Int)≤d+1))=true:=c;rw[Bool.and_eq_true,decide_eq_true_eq,decide_eq_true_eq]at m;omega
     walk_at "n";refine gD ⟨%[|0],λ i b l=>b=(a.take i).map (λ d=>.bl (whole d))/\l=S,⟨rfl,rfl⟩,?_,?_⟩;{rintro i e b l p ⟨rfl,rfl⟩;walk_at "n";refine⟨λ _=>⟨rfl,_,rfl,?_,rfl⟩,λ z=>tf z⟩;rw[aA p,List.map_append];rfl}
     . rintro b l ⟨rfl,rfl⟩;rw[List.take_length];refine⟨a.map whole,by rw[List.map_map];rfl,?_⟩;have o:cR (.tup a) d=(a.map whole).all id:=by show(decide _&&_)=_;rw[ZG j,Jm];rfl
       rw[o]at k;exact k
   | _=>exact ff c
 . have e:cR x d=false:=by
    cases x with
    | tup a=>have m:(decide (d+1≤(a.length:Int))&&decide ((a.length:Int)≤d+1))=false:=c;show(decide _&&_)=false;rw[Bool.and_eq_false_iff,decide_eq_false_iff_not,decide_eq_false_iff_not]at m;rw[ZH %[|0]];rfl
    | _=>rfl
   rw[e]at k;exact k
theorem wW(F:Fun Ω.K "comes_to" "comes_to" gP f fd)(m:Ω.cd=none)(B:Bi Ω.mg):Ok Ω 1 f fd Ca c_comes:=by
 refine au m (N:=xN) F (zz B) (by kernel_rfl!) ?_;rintro s S W ⟨g,h,d,rfl,q,k,r⟩ t;walk_at "n";refine⟨_,Be _ _,?_⟩;walk_at "n";rw[Ad];refine gD ⟨by rw[List.length_zipWith,x4];omega,λ i c j=>c=((List.zipWith (λ a b=>a*b) h d).take i).map D.int/\j=S,⟨rfl,rfl⟩,?_,?_⟩
 . rintro i e c j p ⟨rfl,rfl⟩;obtain⟨a,b,o,l,rfl⟩:=Qy p;walk_at "n";refine⟨rfl,λ _=>⟨.inr (k b (y8 l)),?_,rfl⟩,λ z=>tf z⟩;have n:(List.zipWith (λ a b=>a*b) h d)[i]? =some (a*b):=by rw[List.getElem?_zipWith,o,l]
   rw[aA n,List.map_append];rfl
 . rintro c j ⟨rfl,rfl⟩;have e:(List.zipWith (λ x y=>D.tup [x,y]) (h.map D.int) (d.map D.int)).length=(List.zipWith (λ a b=>a*b) h d).length:=by simp
   rw[e,List.take_length];exact⟨_,rfl,r⟩
def small:D->Bool
 | .int n=>decide (-2≤n)&&decide (n≤2)
 | _=>false
def U9:List D->Bool
 | .int a::fs=>decide (-9≤a)&&(decide (a≤9)&&fs.all small)
 | _=>false
def b8(x:D)(d:Int):Bool:=cR x d&&U9 (match x with | .tup ds=>ds | _=>[])
def gO(x:D)(d:Int):Bool:=match x with
 | .tup [a,b]=>b8 a d&&b8 b d
 | _=>false
def fH(x:D):Bool:=match x with
 | .tup ds=>(decide (1≤(ds.length:Int))&&decide ((ds.length:Int)≤3))&&(ds.mapIdx λ i d=>gO d i).all id
 | _=>false
inductive c_bound(ds:List D)(S:Store)(W:WD):Prop
 | mk(x d:_):ds=[x,.int d]->0≤d->d≤1000->W (.bl (b8 x d)) S->c_bound ds S W
inductive c_loop(ds:List D)(S:Store)(W:WD):Prop
 | mk(x d:_):ds=[x,.int d]->0≤d->d≤1000->W (.bl (gO x d)) S->c_loop ds S W
inductive c_loops(ds:List D)(S:Store)(W:WD):Prop
 | mk(x:_):ds=[x]->W (.bl (fH x)) S->c_loops ds S W
theorem ints_of:∀{ds:List D},ds.all whole=true->∃ns:%[|1],ds=ns.map .int
 | [],_=>⟨[],rfl⟩
 | d::ds,h=>by
   rw[List.all_cons]at h;obtain⟨a,b⟩:=aa h;obtain⟨ns,rfl⟩:=ints_of b
   cases d with
   | int i=>exact⟨i::ns,rfl⟩
   | _=>exact ff a
theorem jq{x:D}{d:Int}(h:cR x d=true)(l:0≤d):∃a fs,x=.tup (.int a::List.map .int fs)/\(fs.length:Int)=d:=by
 cases x with
 | tup f=>
   obtain⟨b,c⟩:=aa h;have b:=ZF b
   cases f with
   | nil=>simp at b;omega
   | cons e k=>
     rw[List.all_cons]at c;obtain⟨c,g⟩:=aa c;have i:=ints_of g;obtain⟨j,rfl⟩:=i
     cases e with
     | int a=>exact⟨a,j,rfl,by simp at b;omega⟩
     | _=>exact ff c
 | _=>exact ff h
theorem yU(p:D->Bool)(ds:List D):(ds.map p).all id=ds.all p:=by rw[List.all_map];rfl
theorem wN (F:Fun Ω.K "is_bound" "is_bound" iK f fd)(r:Ω.cd=none)(B:Bi Ω.mg)(j:Cal Ω "is_form" 2 2 c_form):Ok Ω 3 f fd Ah c_bound:=by
 refine au r (N:=zL) F (zf B j) (by kernel_rfl!) ?_;rintro t S W ⟨x,d,rfl,p,s,b⟩ v;walk_at "a";refine⟨rfl,_,_,rfl,s,?_⟩;walk_at "a"
 cases h:cR x d with
 | false=>
   have e:b8 x d=false:=by unfold b8;rw[h];rfl
   rw[e]at b;exact⟨λ _=>b,λ z=>tf z⟩
 | true=>
   refine⟨λ z=>ff z,λ _=>?_⟩;obtain⟨a,l,rfl,u⟩:=jq h p;have e:b8 (.tup (.int a::l.map .int)) d=(decide (-9≤a)&&(decide (a≤9)&&(l.map D.int).all small)):=by unfold b8;rw[h];rfl
   rw[e]at b;walk_at "a";refine⟨_,Be _ _,?_⟩;walk_at "a";refine⟨λ c=>?_,λ c=>?_⟩;{have c:decide (-9≤a)=false:=c;rw[c]at b;exact⟨λ z=>ff z,λ _=>b⟩};have c:decide (-9≤a)=true:=c;rw[c,Bool.true_and]at b;walk_at "a";refine⟨λ o=>?_,λ o=>?_⟩
   . rw [o,Bool.true_and]at b;walk_at "a";rw[Ad];refine dH (λ d=>.bl (small d)) (by simp;omega) ?_ ?_
     . intro i e k Q m;rw[x5]at k
       cases q:l[i]? with
       | none=>rw[q]at k;cases k
       | some n=>
         rw[q]at k;cases k;walk_at "a";refine⟨λ g=>?_,λ g=>?_⟩
         . have g:decide (-2≤n)=false:=g;have e:small (.int n)=false:=by show(decide _&&_)=false;rw[g];rfl
           rw[e]at m;exact m
         . have g:decide (-2≤n)=true:=g;walk_at "a";have e:small (.int n)=decide (n≤2):=by show(decide _&&_)=_;rw[g];rfl
           rw[e]at m;exact m
     {refine⟨(l.map D.int).map small,by simp only[List.map_map];rfl,?_⟩;rw[yU];exact b}
   {rw[o]at b;exact b}
theorem zQ(F:Fun Ω.K "is_loop" "is_loop" jh f fd)(m:Ω.cd=none)(i:Cal Ω "is_tuple_of" 1 3 c_tup)(g:Cal Ω "is_bound" 3 2 c_bound):Ok Ω 4 f fd Dq c_loop:=by
 refine au m (N:=Dp) F (Dz i g) (by kernel_rfl!) ?_;rintro k S W ⟨x,d,rfl,j,l,c⟩ n;walk_at "a";refine⟨rfl,_,_,_,rfl,?_⟩;walk_at "a"
 cases x with
 | tup k=>
   match k,c with
   | [a,b],c=>refine⟨λ _=>?_,λ z=>tf z⟩;walk_at "a";refine⟨rfl,_,_,rfl,j,l,?_⟩;have e:gO (.tup [a,b]) d=(b8 a d&&b8 b d):=rfl;rw[e]at c;refine⟨λ h=>?_,λ h=>?_⟩;{rw[h,Bool.true_and]at c;walk_at "a";exact⟨rfl,_,_,rfl,j,l,c⟩};{rw[h]at c;exact c}
   | [],c=>exact⟨λ z=>ff z,λ _=>c⟩
   | [_],c=>exact⟨λ z=>ff z,λ _=>c⟩
   | _::_::_::es,c=>refine⟨λ z=>?_,λ _=>c⟩;obtain⟨_,z⟩:=aa z;have z:=ZF z;simp at z;omega
 | _=>exact⟨λ z=>ff z,λ _=>c⟩
theorem ww(F:Fun Ω.K "is_loops" "is_loops" iC f fd)(m:Ω.cd=none)(B:Bi Ω.mg)(g:Cal Ω "is_tuple_of" 1 3 c_tup)(c:Cal Ω "is_loop" 4 2 c_loop):Ok Ω 5 f fd Bw c_loops:=by
 refine au m (N:=zB) F (Ba B g c) (by kernel_rfl!) ?_;rintro a S W ⟨x,rfl,b⟩ r;walk_at "a";refine⟨rfl,_,_,_,rfl,?_⟩;walk_at "a"
 cases x with
 | tup a=>
   have e:fH (.tup a)=((decide (1≤(a.length:Int))&&decide ((a.length:Int)≤3))&&(a.mapIdx λ i d=>gO d i).all id):=rfl;rw[e]at b;refine⟨λ h=>?_,λ h=>?_⟩
   . have h:(decide (1≤(a.length:Int))&&decide ((a.length:Int)≤3))=true:=h;rw[h,Bool.true_and]at b;have l:=ZF (aa h).2;walk_at "a";refine dH (λ p=>match p with | .tup [.int i,d]=>.bl (gO d i) | _=>.non) (by simp;omega) ?_ ?_
     . intro i e j Q n;rw[List.getElem?_mapIdx]at j
       cases k:a[i]? with
       | none=>rw[k]at j;cases j
       | some o=>rw[k]at j;cases j;have q:i<a.length:=(z0.mp k).1;walk_at "a";refine⟨rfl,?_⟩;walk_at "a";exact⟨rfl,_,_,rfl,%[|0],%[|0],n⟩
     {refine⟨a.mapIdx λ i d=>gO d i,?_,b⟩;apply List.ext_getElem?;intro i;simp only[x5,List.getElem?_mapIdx];cases a[i]?<;>rfl}
   {have h:(decide (1≤(a.length:Int))&&decide ((a.length:Int)≤3))=false:=h;rw[h]at b;exact b}
 | _=>exact⟨λ z=>ff z,λ _=>b⟩
abbrev Fm:=Int×%[|1]
abbrev Lp:=Fm×Fm
def dF(f:Fm):D:=.tup (.int f.1::f.2.map .int)
def dC(cs:%[|1]):D:=.tup (cs.map .int)
def dL(l:Lp):D:=.tup [dF l.1,dF l.2]
def atC(f:Fm)(cs:%[|1]):Int:=comesTo f.1 f.2 cs
def upI(a:Int)(n:Nat):%[|1]:=(List.range n).map λ(k:Nat)=>a+(k:Int)
def bj(lo hi:Fm)(cs:%[|1]):List %[|1]:=(upI (atC lo cs) (atC hi cs-atC lo cs).toNat).map λ c=>cs++[c]
def aP(lo hi:Fm)(ahead:List %[|1]):List %[|1]:=ahead.flatMap (bj lo hi)
def cnt(ls:List Lp):List %[|1]:=ls.foldl (λ a l=>aP l.1 l.2 a) [[]]
def Sm6(ns:%[|1]):Prop:=ns.length≤10/\∀n∈ns,-1000000≤n/\n≤1000000
def SmF(f:Fm):Prop:= -1000000≤f.1/\f.1≤1000000/\Sm6 f.2
theorem uV:∀(fs cs:%[|1]),(∀n∈fs,-1000000≤n/\n≤1000000)->(∀n∈cs,-1000000≤n/\n≤1000000)-> -(1000000000000*(cs.length:Int))≤(List.zipWith (λ a b=>a*b) fs cs).sum/\(List.zipWith (λ a b=>a*b) fs cs).sum≤1000000000000*(cs.length:Int)
 | [],cs,_,_=>by simp;omega
 | f::fs,[],_,_=>by simp
 | f::fs,c::cs,h1,h2=>by
   have i:=uV fs cs (λ n d=>h1 n (x8 _ d)) (λ n d=>h2 n (x8 _ d));have g:=h1 f w9;have e:=h2 c w9;have h:(f*c).natAbs≤1000000*1000000:=by rw[Int.natAbs_mul];exact Nat.mul_le_mul %[|0] %[|0]
   simp only[List.zipWith_cons_cons,List.sum_cons,List.length_cons];omega
theorem vH{f:Fm}(hf:SmF f)(hc:Sm6 cs): -(2 ^ 62)≤atC f cs/\atC f cs<2 ^ 62:=by have:=uV f.2 cs hf.2.2.2 hc.2;have a:=hf.1;have b:=hf.2.1;have c:=hc.1;unfold atC comesTo;omega
theorem Om(a:Int)(n:Nat):(upI a n).length=n:=by simp[upI]
theorem Em(h:i<n):(upI a n)[i]? =some (a+i):=by simp[upI,h]
theorem cN(lo hi:Fm)(cs:%[|1]):(bj lo hi cs).length=(atC hi cs-atC lo cs).toNat:=by simp[bj,Om]
theorem gY{lo hi:Fm}{ahead:List %[|1]}(h:ahead[i]? =some cs):aP lo hi (ahead.take (i+1))=aP lo hi (ahead.take i)++bj lo hi cs:=by unfold aP;rw[aA h,List.flatMap_append];simp
theorem zu{lo hi:Fm}{ahead:List %[|1]}(h:ahead[i]? =some cs):(aP lo hi (ahead.take i)).length+(bj lo hi cs).length≤(aP lo hi ahead).length:=by
 have e:aP lo hi ahead=aP lo hi (ahead.take (i+1))++aP lo hi (ahead.drop (i+1)):=by unfold aP;rw[←List.flatMap_append,List.take_append_drop]
 rw[e,gY h,v3,v3];omega
theorem mW(xs:List %[|1]):aj (xs.map dC)=true:=by
 induction xs with
 | nil=>rfl
 | cons x xs a=>
   simp only[List.map_cons,aj,a,Bool.and_true];show aj (x.map D.int)=true
   induction x with
   | nil=>rfl
   | cons y b a=>simp only[List.map_cons,aj,a,Bool.and_true];rfl
inductive c_next(ds:List D)(S:Store)(W:WD):Prop
 | mk(ahead lo hi:_):ds=[.lst (List.map dC ahead),dF lo,dF hi]->SmF lo->SmF hi->(∀cs∈ahead,Sm6 cs)->ahead.length≤1000000->(aP lo hi ahead).length≤1000000->flat S->hand W ((aP lo hi ahead).map dC) S->c_next ds S W
theorem lr(F:Fun Ω.K "with_next_count" "with_next_count" cU f fd)(r:Ω.cd=none)(B:Bi Ω.mg)(l:Cal Ω "comes_to" 1 2 c_comes):Ok Ω 2 f fd lR c_next:=by
 refine au r (N:=lF) F (Bl.frz (lN B l)) (by kernel_rfl!) ?_;rintro A S W ⟨a,lo,hi,rfl,hlo,hhi,p,z,E,v,y⟩ C;walk_at "b";refine cF ⟨λ i d g=>(∃q k,d=[some (.lst (a.map dC)),some (dF lo),some (dF hi),some (.loc S.length),q,k])/\g=S++[(aP lo hi (a.take i)).map dC],⟨⟨_,_,rfl⟩,rfl⟩,?_,?_⟩
 . rintro i e d g h ⟨⟨q,k,rfl⟩,rfl⟩;rw[x5]at h
   cases m:a[i]? with
   | none=>rw[m]at h;cases h
   | some b=>
     rw[m]at h;cases h;have hcs:=p b (y8 m);have b1:=vH hlo hcs;have b2:=vH hhi hcs;have n:∀c∈b,-(2 ^ 64)<c/\c<2 ^ 64:=λ c w=>by have:=hcs.2 c w;omega
     walk_at "b";refine⟨rfl,lo.1,lo.2,b,rfl,by have:=hlo.2.2.1;omega,n,?_⟩;walk_at "b";refine⟨rfl,hi.1,hi.2,b,rfl,by have:=hhi.2.2.1;omega,n,?_⟩;walk_at "b";refine⟨⟨b1.1,b1.2,b2.1,b2.2⟩,cF ⟨λ j d g=>(∃k,d=[some (.lst (a.map dC)),some (dF lo),some (dF hi),some (.loc S.length),some (dC b),k])/\g=S++[(aP lo hi (a.take i)++(bj lo hi b).take j).map dC],⟨⟨_,rfl⟩,by simp⟩,?_,?_⟩⟩
     . rintro j e d g h ⟨⟨k,rfl⟩,rfl⟩;obtain⟨x,rfl⟩:=bN h;have o:j<(bj lo hi b).length:=by rw[cN];exact x
       have G:=zu (lo:=lo) (hi:=hi) m;walk_at "b";refine⟨by simp;have:=hcs.1;omega,_,bC _ _,by simp;omega,?_⟩;refine⟨⟨_,rfl⟩,?_⟩;rw[cP];have s:(bj lo hi b)[j]? =some (b++[atC lo b+(j:Int)]):=by unfold bj;rw[x5,Em (by rw[cN]at o;exact o)];rfl
       have t:dC (b++[atC lo b+(j:Int)])=D.tup (b.map D.int++[D.int (comesTo lo.1 lo.2 b+(j:Int))]):=by unfold dC;rw[List.map_append];rfl
       rw[aA s,←List.append_assoc,List.map_append (l₂:=[_]),List.map_singleton,t]
     . rintro d g ⟨⟨k,rfl⟩,rfl⟩;refine⟨⟨_,_,rfl⟩,?_⟩;have u:(bj lo hi b).take (DL.upTo (comesTo lo.1 lo.2 b) (comesTo hi.1 hi.2 b-comesTo lo.1 lo.2 b).toNat).length=bj lo hi b:=by rw[aq];exact List.take_of_length_le (by rw[cN];exact x6 _)
       rw[u,gY m]
 {rintro d g ⟨⟨q,k,rfl⟩,rfl⟩;rw[x4,List.take_length];exact pL y (mW _) v}
def Fits(ls:List Lp):Prop:=(∀l∈ls,SmF l.1/\SmF l.2)/\∀i,i≤ls.length->(cnt (ls.take i)).length≤1000000/\∀a∈cnt (ls.take i),Sm6 a
inductive c_counts(ds:List D)(S:Store)(W:WD):Prop
 | mk(ls:_):ds=[.tup (List.map dL ls)]->1≤ls.length->Fits ls->flat S->hand W ((cnt ls).map dC) S->c_counts ds S W
theorem kO{ls:List Lp}{l:Lp}(h:ls[i]? =some l):cnt (ls.take (i+1))=aP l.1 l.2 (cnt (ls.take i)):=by unfold cnt;rw[aA h,List.foldl_append];rfl
theorem sW(F:Fun Ω.K "counts_of" "counts_of" f9 f fd)(z:Ω.cd=none)(u:Cal Ω "with_next_count" 2 3 c_next):Ok Ω 3 f fd wK c_counts:=by
 refine au z (N:=vY) F (Bl.frz (wA u)) (by kernel_rfl!) ?_;rintro E S W ⟨j,rfl,H,hf,A,v⟩ G;walk_at "b";have t:∀(i:Nat)(e:D),(j.map dL)[i]? =some e->∃l,j[i]? =some l/\e=dL l:=λ i e o=>by
  rw[x5]at o
  cases y:j[i]? with
  | none=>rw[y]at o;cases o
  | some l=>rw[y]at o;cases o;exact⟨l,rfl,rfl⟩
 have n:∀(i:Nat)(l:Lp)(W:WD),j[i]? =some l->hand W ((cnt (j.take (i+1))).map dC) S->c_next [.lst ((cnt (j.take i)).map dC),dF l.1,dF l.2] S W:=λ i l W h w=>by have B:=(z0.mp h).1;obtain⟨a,b⟩:=hf.1 l (y8 h);obtain⟨c,d⟩:=hf.2 i %[|0];obtain⟨x,C⟩:=hf.2 (i+1) %[|0];rw[kO h]at x w;exact⟨_,_,_,rfl,a,b,d,c,x,A,w⟩
 rcases v with v | v;{refine cF ⟨λ i g s=>(∃p r,g=[some (.tup (j.map dL)),some (.lst ((cnt (j.take i)).map dC)),p,r])/\s=S,⟨⟨_,_,rfl⟩,rfl⟩,?_,?_⟩;{rintro i e g s o ⟨⟨p,r,rfl⟩,rfl⟩;obtain⟨l,k,rfl⟩:=t i e o;walk_at "b";refine⟨rfl,?_⟩;walk_at "n";exact⟨rfl,n i l _ k (.inl ⟨⟨_,_,rfl⟩,rfl⟩)⟩};{rintro g s ⟨⟨p,r,rfl⟩,rfl⟩;rw[x4,List.take_length];exact .inl v}};{refine cF ⟨λ i g s=>(i<j.length/\(∃p r,g=[some (.tup (j.map dL)),some (.lst ((cnt (j.take i)).map dC)),p,r])/\s=S)∨(i=j.length/\(∃p r,g=[some (.tup (j.map dL)),some (.loc S.length),p,r])/\s=S++[(cnt j).map dC]),.inl ⟨%[|0],⟨_,_,rfl⟩,rfl⟩,?_,?_⟩;{rintro i e g s o q;obtain⟨l,k,rfl⟩:=t i e o;have B:=(z0.mp k).1;rcases q with⟨_,⟨p,r,rfl⟩,rfl⟩ | ⟨q,_⟩;{walk_at "b";refine⟨rfl,?_⟩;walk_at "n";by_cases m:i+1=j.length;{refine⟨rfl,n i l _ k (.inr (.inr ⟨m,⟨_,_,rfl⟩,?_⟩))⟩;rw[m,List.take_length]};{exact⟨rfl,n i l _ k (.inl (.inl ⟨%[|0],⟨_,_,rfl⟩,rfl⟩))⟩}};{omega}};{rintro g s q;rw[x4]at q;rcases q with⟨q,_⟩ | ⟨_,⟨p,r,rfl⟩,rfl⟩;{omega};{exact .inl v}}}
def BdF(f:Fm)(k:Nat):Prop:=f.2.length=k/\ -9≤f.1/\f.1≤9/\∀n∈f.2,-2≤n/\n≤2
theorem G8{g m:Int}(c: -2≤g/\g≤2)(b: -m≤a/\a≤m): -(2*m)≤g*a/\g*a≤2*m:=by
 have:g= -2∨g= -1∨g=0∨g=1∨g=2:=%[|0]
 rcases this with rfl | rfl | rfl | rfl | rfl<;>omega
def bnd:Nat->Int
 | 0=>0
 | 1=>9
 | 2=>27
 | _=>117
def Cs(i:Nat)(cs:%[|1]):Prop:=cs.length=i/\∀c∈cs,-(bnd i)≤c/\c≤bnd i
theorem jG{f:Fm}(hi:i≤2)(m:BdF f i)(l:Cs i cs): -(bnd (i+1))≤atC f cs/\atC f cs≤bnd (i+1):=by
 obtain⟨a,h⟩:=f;obtain⟨b,j,k,c⟩:=m;obtain⟨d,e⟩:=l;dsimp only at b j k c;unfold atC comesTo;have:i=0∨i=1∨i=2:=%[|0]
 rcases this with rfl | rfl | rfl
 . match h,cs,b,d with
   | [],[],_,_=>simp[bnd];omega
 . match h,cs,b,d with
   | [g],[x],_,_=>have:=G8 (c g (by simp)) (e x (by simp));simp[bnd]at this ⊢;omega
 . match h,cs,b,d with
   | [g,g'],[x,x'],_,_=>have n:=G8 (c g (by simp)) (e x (by simp));have o:=G8 (c g' (by simp)) (e x' (by simp));simp[bnd]at n o ⊢;omega
theorem R3:bnd i≤bnd (i+1):=by
 match i with
 | 0=>decide
 | 1=>decide
 | 2=>decide
 | i+3=>exact Int.le_refl _
theorem sO(i:Nat):bnd i≤117:=by
 match i with
 | 0=>decide
 | 1=>decide
 | 2=>decide
 | i+3=>exact Int.le_refl _
theorem Rb{lo hi:Fm}{ds:%[|1]}(b:i≤2)(e:BdF lo i)(d:BdF hi i)(hc:Cs i cs)(h:ds∈bj lo hi cs):Cs (i+1) ds:=by
 unfold bj at h;obtain⟨c,a,rfl⟩:=ZO.mp h;unfold upI at a;obtain⟨k,f,rfl⟩:=ZO.mp a;have f:=List.mem_range.mp f;have g:=jG b e hc;have j:=jG b d hc;refine⟨by simp[hc.1],λ c h=>?_⟩;rcases ZK.mp h with h | h;{have:=hc.2 c h;have:=R3 (i:=i);omega}
 . have:c=atC lo cs+(k:Int):=by simpa using h
   omega
def Lps(ls:List Lp):Prop:=1≤ls.length/\ls.length≤3/\∀(i:Nat)(l:Lp),ls[i]? =some l->BdF l.1 i/\BdF l.2 i
theorem jL{ls:List Lp}(h:Lps ls):∀i,i≤ls.length->∀cs∈cnt (ls.take i),Cs i cs
 | 0,_,cs,a=>by
   have:cs=[]:=by simpa[cnt]using a
   subst this;exact⟨rfl,λ c a=>by simp at a⟩
 | i+1,hi,cs,a=>by have b:=y4 (l:=ls) (i:=i) %[|0];rw[kO b]at a;obtain⟨d,e,a⟩:=List.mem_flatMap.mp a;have:=h.2.2 i _ b;have f:=h.2.1;exact Rb %[|0] this.1 this.2 (jL h i %[|0] d e) a
def Hw:Nat->Nat
 | 0=>1
 | 1=>18
 | 2=>972
 | _=>227448
theorem qm{lo hi:Fm}{m:Nat}:∀{ahead:List %[|1]},(∀cs∈ahead,(bj lo hi cs).length≤m)->(aP lo hi ahead).length≤ahead.length*m
 | [],_=>by simp[aP]
 | a::as,h=>by have c:=qm (ahead:=as) λ cs b=>h cs (x8 _ b);have:=h a w9;unfold aP at c ⊢;rw[List.flatMap_cons,v3,List.length_cons,Nat.succ_mul];omega
theorem EY{ls:List Lp}(h:Lps ls):∀i,i≤ls.length->(cnt (ls.take i)).length≤Hw i
 | 0,_=>by simp[cnt,Hw]
 | i+1,hi=>by
   have b:=y4 (l:=ls) (i:=i) %[|0];have k:=EY h i %[|0];have j:=h.2.1;have hb:=h.2.2 i _ b;rw[kO b];have e:∀a∈cnt (ls.take i),(bj ls[i].1 ls[i].2 a).length≤(2*bnd (i+1)).toNat:=λ a d=>by have c:=jL h i %[|0] a d;have f:=jG %[|0] hb.1 c;have g:=jG %[|0] hb.2 c;rw[cN];omega
   have:=qm e;have:i=0∨i=1∨i=2:=%[|0]
   rcases this with rfl | rfl | rfl<;>simp[bnd,Hw]at* <;>omega
theorem Lps.fits{ls:List Lp}(h:Lps ls):Fits ls:=by
 refine⟨λ l k=>?_,λ i a=>⟨?_,λ g j=>?_⟩⟩;{obtain⟨i,a⟩:=ZR k;have m:=(z0.mp a).1;have d:=h.2.1;obtain⟨⟨o,p,q,e⟩,r,s,t,f⟩:=h.2.2 i l a;exact⟨⟨%[|0],%[|0],%[|0],λ n b=>by have:=e n b;omega⟩,%[|0],%[|0],%[|0],λ n b=>by have:=f n b;omega⟩}
 . have:=EY h i a;have d:=h.2.1;have:i=0∨i=1∨i=2∨i=3:=%[|0]
   rcases this with rfl | rfl | rfl | rfl<;>simp only[Hw]at* <;>omega
 {have c:=jL h i a g j;have d:=h.2.1;exact⟨by have:=c.1;omega,λ n b=>by have:=c.2 n b;have:=sO i;omega⟩}
def kZ(a b:Int):D->Bool
 | .int n=>decide (a≤n)&&decide (n≤b)
 | _=>false
def pP(n:Int):Bool:=decide ((if n<0 then-n else n)<10 ^ Int.toNat 30)
def uG:D->Bool
 | .int n=>pP n
 | _=>false
def parts:D->List D
 | .tup ds=>ds
 | _=>[]
def gQ(x:D):Bool:=bB x 1 3&&(parts x).all (kZ 1 2)
def isPlace(d:Int)(x:D):Bool:=cR x d&&(parts x).all (kZ (-99) 99)
def isStart(x:D)(d:Int):Bool:=cR x d&&(parts x).all uG
def jf(t p:D)(ws:%[|1])(d:Int):Bool:=match t with
 | .int n=>(decide (0≤n)&&decide (n<(ws.length:Int)))&&(bB p (ws.getD n.toNat 0) (ws.getD n.toNat 0)&&(parts p).all (isPlace d))
 | _=>false
def jF(ws:%[|1])(d:Int)(x:D):Bool:=match x with
 | .tup [f,t,p]=>uG f&&jf t p ws d
 | _=>false
def nO(x:D)(ws:%[|1])(d:Int):Bool:=bB x 0 3&&(parts x).all (jF ws d)
def d9(ws:%[|1])(d:Int)(x:D):Bool:=match x with
 | .tup [t,p,s,r]=>jf t p ws d&&(isStart s d&&nO r ws d)
 | _=>false
def ie(ws:%[|1])(x:D):Bool:=match x with
 | .tup [l,ds]=>fH l&&(bB ds 1 4&&(parts ds).all (d9 ws ((parts l).length:Int)))
 | _=>false
def nH(x:D)(ws:%[|1]):Bool:=bB x 1 3&&(parts x).all (ie ws)
inductive c_few(ds:List D)(S:Store)(W:WD):Prop
 | mk(n:_):ds=[.int n]->W (.bl (pP n)) S->c_few ds S W
inductive c_widths(ds:List D)(S:Store)(W:WD):Prop
 | mk(x:_):ds=[x]->W (.bl (gQ x)) S->c_widths ds S W
inductive c_placef(ds:List D)(S:Store)(W:WD):Prop
 | mk(x d:_):ds=[x,.int d]->0≤d->d≤1000->W (.bl (isPlace d x)) S->c_placef ds S W
inductive c_start(ds:List D)(S:Store)(W:WD):Prop
 | mk(x d:_):ds=[x,.int d]->0≤d->d≤1000->W (.bl (isStart x d)) S->c_start ds S W
def Ws(ws:%[|1]):Prop:=ws.length≤3/\∀w∈ws,1≤w/\w≤2
inductive c_tp(ds:List D)(S:Store)(W:WD):Prop
 | mk(t p ws d:_):ds=[t,p,.tup (List.map .int ws),.int d]->Ws ws->0≤d->d≤1000->W (.bl (jf t p ws d)) S->c_tp ds S W
inductive c_read(ds:List D)(S:Store)(W:WD):Prop
 | mk(x ws d:_):ds=[x,.tup (List.map .int ws),.int d]->Ws ws->0≤d->d≤1000->W (.bl (jF ws d x)) S->c_read ds S W
inductive c_reads(ds:List D)(S:Store)(W:WD):Prop
 | mk(x ws d:_):ds=[x,.tup (List.map .int ws),.int d]->Ws ws->0≤d->d≤1000->W (.bl (nO x ws d)) S->c_reads ds S W
inductive c_deed(ds:List D)(S:Store)(W:WD):Prop
 | mk(x ws d:_):ds=[x,.tup (List.map .int ws),.int d]->Ws ws->0≤d->d≤1000->W (.bl (d9 ws d x)) S->c_deed ds S W
inductive c_nest(ds:List D)(S:Store)(W:WD):Prop
 | mk(x ws:_):ds=[x,.tup (List.map .int ws)]->Ws ws->W (.bl (ie ws x)) S->c_nest ds S W
inductive c_nests(ds:List D)(S:Store)(W:WD):Prop
 | mk(x ws:_):ds=[x,.tup (List.map .int ws)]->Ws ws->W (.bl (nH x ws)) S->c_nests ds S W
theorem c7{p:D->Bool}(w:W (.bl (ds.all p)) S):gh.wp [.lst (ds.map λ d=>.bl (p d))] S W:=
 ⟨ds.map p,by rw[List.map_map];rfl,by rw[yU];exact w⟩
theorem vM(h:bB (.tup ds) a b=true):a≤(ds.length:Int)/\(ds.length:Int)≤b:=by obtain⟨c,d⟩:=aa h;exact⟨ZF c,ZF d⟩
theorem cM{x:D}(h:bB x a b=true):∃ds,x=.tup ds/\a≤(ds.length:Int)/\(ds.length:Int)≤b:=by
 cases x with
 | tup ds=>exact⟨ds,rfl,vM h⟩
 | _=>exact ff h
theorem oG{n:Int}{Q:WD}(c:Q (.bl (kZ a b (.int n))) S):(decide (a≤n)=false->Q (.bl false) S)/\(decide (a≤n)=true->Q (.bl (decide (n≤b))) S):=by have e:kZ a b (.int n)=(decide (a≤n)&&decide (n≤b)):=rfl;rw[e]at c;exact⟨λ h=>by rw[h]at c;exact c,λ h=>by rw[h]at c;exact c⟩
theorem kY(F:Fun Ω.K "has_few_figures" "has_few_figures" cV f fd)(a:Ω.cd=none)(B:Bi Ω.mg):Ok Ω 1 f fd lM c_few:=by refine au a (N:=lG) F (lJ B) (by kernel_rfl!) ?_;rintro c S W ⟨n,rfl,b⟩ d;walk_at "b";exact b
theorem uJ(F:Fun Ω.K "is_widths" "is_widths" gm f fd)(j:Ω.cd=none)(B:Bi Ω.mg)(b:Cal Ω "is_whole" 1 1 c_whole)(a:Cal Ω "is_tuple_of" 1 3 c_tup):Ok Ω 2 f fd wQ c_widths:=by
 refine au j (N:=v6) F (wH B b a) (by kernel_rfl!) ?_;rintro k S W ⟨x,rfl,c⟩ m;walk_at "b";refine⟨rfl,_,_,_,rfl,?_⟩;walk_at "b";unfold gQ at c;refine⟨λ h=>?_,λ h=>by rw[h]at c;exact c⟩;rw[h]at c;obtain⟨k,rfl,o,p⟩:=cM h;walk_at "b";refine dH (λ d=>.bl (kZ 1 2 d)) %[|0] ?_ (c7 c);intro i e l Q g;walk_at "b";refine⟨rfl,_,rfl,?_⟩
 cases e with
 | int n=>walk_at "b";refine⟨(oG g).1,λ h=>?_⟩;walk_at "b";exact(oG g).2 h
 | _=>walk_at "b";exact g
theorem mF(F:Fun Ω.K "is_place_form" "is_place_form" dD f fd)(k:Ω.cd=none)(B:Bi Ω.mg)(b:Cal Ω "is_form" 2 2 c_form):Ok Ω 3 f fd oK c_placef:=by
 refine au k (N:=oV) F (oY B b) (by kernel_rfl!) ?_;rintro o S W ⟨x,d,rfl,g,l,c⟩ r;walk_at "b";refine⟨rfl,_,_,rfl,l,?_⟩;walk_at "b";unfold isPlace at c;refine⟨λ h=>?_,λ h=>by rw[h]at c;exact c⟩;rw[h]at c;obtain⟨a,p,rfl,q⟩:=jq h g;walk_at "b";refine dH (λ d=>.bl (kZ (-99) 99 d)) (by simp;omega) ?_ (c7 c);intro i e m Q j;have:∃n,e=.int n:=by have:=y8 m;rcases ZJ.mp this with rfl | h;{exact⟨_,rfl⟩};{obtain⟨n,_,rfl⟩:=ZO.mp h;exact⟨n,rfl⟩}
 obtain⟨n,rfl⟩:=this;walk_at "b";refine⟨(oG j).1,λ h=>?_⟩;walk_at "b";exact(oG j).2 h
theorem wY(F:Fun Ω.K "is_start" "is_start" iz f fd)(k:Ω.cd=none)(B:Bi Ω.mg)(c:Cal Ω "is_form" 2 2 c_form)(b:Cal Ω "has_few_figures" 1 1 c_few):Ok Ω 3 f fd xM c_start:=by
 refine au k (N:=Ae) F (zR B c b) (by kernel_rfl!) ?_;rintro p S W ⟨x,d,rfl,j,l,g⟩ s;walk_at "b";refine⟨rfl,_,_,rfl,l,?_⟩;walk_at "b";unfold isStart at g;refine⟨λ h=>?_,λ h=>by rw[h]at g;exact g⟩;rw[h]at g;obtain⟨a,q,rfl,r⟩:=jq h j;walk_at "b";refine dH (λ d=>.bl (uG d)) (by simp;omega) ?_ (c7 g);intro i e m Q o;have:∃n,e=.int n:=by have:=y8 m;rcases ZJ.mp this with rfl | h;{exact⟨_,rfl⟩};{obtain⟨n,_,rfl⟩:=ZO.mp h;exact⟨n,rfl⟩}
 obtain⟨n,rfl⟩:=this;walk_at "b";exact⟨rfl,_,rfl,o⟩
theorem gR(F:Fun Ω.K "is_table_with_place" "is_table_with_place" bY f fd)(A:Ω.cd=none)(B:Bi Ω.mg)(o:Cal Ω "is_whole" 1 1 c_whole)(m:Cal Ω "is_tuple_of" 1 3 c_tup)(l:Cal Ω "is_place_form" 3 2 c_placef):Ok Ω 4 f fd iU c_tp:=by
 refine au A (N:=iR) F (iT B o m l) (by kernel_rfl!) ?_;rintro C S W ⟨t,p,a,d,rfl,hws,s,G,b⟩ K;walk_at "b";refine⟨rfl,_,rfl,?_⟩
 cases t with
 | int n=>
   have e:jf (.int n) p a d=((decide (0≤n)&&decide (n<(a.length:Int)))&&(bB p (a.getD n.toNat 0) (a.getD n.toNat 0)&&(parts p).all (isPlace d))):=rfl;rw[e]at b;have y:((a.map D.int).length:Int)=(a.length:Int):=by rw[x4]
   walk_at "b";refine⟨λ h=>?_,λ h=>?_⟩;{rw[h]at b;walk_at "b";exact b};rw[h,Bool.true_and]at b;walk_at "b";rw[y];refine⟨λ c=>?_,λ c=>?_⟩;{have c:decide (n<(a.length:Int))=false:=nt c;rw[c]at b;walk_at "b";exact b};have c:decide (n<(a.length:Int))=true:=by
    cases q:decide (n<(a.length:Int))with
    | true=>rfl
    | false=>rw[q]at c;exact tf c
   rw[c,Bool.true_and]at b;have E:=ZF h;have I:=ZF c;have u:n.toNat<a.length:=%[|0]
   have z:a.getD n.toNat 0=a[n.toNat]:=by simp[List.getD,u]
   have k:atI (a.map D.int) n=some (.int (a.getD n.toNat 0)):=by have:=cL (xs:=a.map D.int) (j:=n.toNat) (v:=.int a[n.toNat]) (by rw[x5,y4 u];rfl);rw[Int.toNat_of_nonneg E]at this;rw[z];exact this
   have g:=hws.2 _ (List.getElem_mem u);rw[←z]at g;generalize a.getD n.toNat 0=w at k b g;walk_at "b";refine⟨_,k,?_⟩;walk_at "b";refine⟨_,k,?_⟩;walk_at "b";refine⟨rfl,_,_,_,rfl,?_⟩;walk_at "b";refine⟨λ r=>?_,λ r=>by rw[r]at b;exact b⟩;rw[r]at b;obtain⟨C,rfl,L,M⟩:=cM r;walk_at "b";refine dH (λ x=>.bl (isPlace d x)) %[|0] ?_ (c7 b);intro i e J Q H;walk_at "b";exact⟨rfl,_,_,rfl,s,G,H⟩
 | _=>walk_at "b";exact b
theorem Ab(F:Fun Ω.K "is_read" "is_read" jc f fd)(w:Ω.cd=none)(m:Cal Ω "is_whole" 1 1 c_whole)(l:Cal Ω "is_tuple_of" 1 3 c_tup)(j:Cal Ω "has_few_figures" 1 1 c_few)(k:Cal Ω "is_table_with_place" 4 4 c_tp):Ok Ω 5 f fd DQ c_read:=by
 refine au w (N:=Dv) F (Cz m l j k) (by kernel_rfl!) ?_;rintro o S W ⟨x,u,d,rfl,r,q,y,g⟩ z;walk_at "b";refine⟨rfl,_,_,_,rfl,?_⟩
 cases h:bB x 3 3 with
 | false=>
   have e:jF u d x=false:=by
    cases x with
    | tup o=>
      match o,h with
      | [a,b,c],h=>exact tf h
      | [],_=>rfl
      | [_],_=>rfl
      | [_,_],_=>rfl
      | _::_::_::_::_,_=>rfl
    | _=>rfl
   rw[e]at g;walk_at "b";exact g
 | true=>
   obtain⟨o,rfl,i,s⟩:=cM h;match o,i,s,g with
   | [f, t,p],_,_,g=>
     walk_at "b";refine⟨rfl,_,rfl,?_⟩;have e:jF u d (.tup [f,t,p])=(uG f&&jf t p u d):=rfl;rw[e]at g
     cases f with
     | int n=>
       walk_at "b";refine⟨rfl,_,rfl,?_⟩;have e:uG (.int n)=pP n:=rfl;rw[e]at g
       cases v:pP n with
       | true=>rw[v]at g;walk_at "b";exact⟨rfl,_,_,_,_,rfl,r,q,y,g⟩
       | false=>rw[v]at g;walk_at "b";exact g
     | _=>walk_at "b";exact g
   | [],i,_,_=>simp at i
   | [_],i,_,_=>simp at i
   | [_,_],i,_,_=>simp at i
   | _::_::_::_::es,_,s,_=>simp at s;omega
theorem v5(F:Fun Ω.K "is_reads" "is_reads" iQ f fd)(k:Ω.cd=none)(B:Bi Ω.mg)(b:Cal Ω "is_tuple_of" 1 3 c_tup)(a:Cal Ω "is_read" 5 3 c_read):Ok Ω 6 f fd zq c_reads:=by refine au k (N:=xH) F (Ci B b a) (by kernel_rfl!) ?_;rintro l S W ⟨x,o,d,rfl,j,g,m,c⟩ q;walk_at "b";refine⟨rfl,_,_,_,rfl,?_⟩;walk_at "b";unfold nO at c;refine⟨λ h=>?_,λ h=>by rw[h]at c;exact c⟩;rw[h]at c;obtain⟨l,rfl,r,s⟩:=cM h;walk_at "b";refine dH (λ x=>.bl (jF o d x)) %[|0] ?_ (c7 c);intro i e p Q n;walk_at "b";exact⟨rfl,_,_,_,rfl,j,g,m,n⟩
theorem Al(F:Fun Ω.K "is_deed" "is_deed" iZ f fd)(A:Ω.cd=none)(n:Cal Ω "is_tuple_of" 1 3 c_tup)(l:Cal Ω "is_start" 3 2 c_start)(m:Cal Ω "is_table_with_place" 4 4 c_tp)(k:Cal Ω "is_reads" 6 3 c_reads):Ok Ω 7 f fd Du c_deed:=by
 refine au A (N:=Dy) F (CW n l m k) (by kernel_rfl!) ?_;rintro u S W ⟨x,q,d,rfl,o,j,v,g⟩ B;walk_at "b";refine⟨rfl,_,_,_,rfl,?_⟩
 cases h:bB x 4 4 with
 | false=>
   have e:d9 q d x=false:=by
    cases x with
    | tup u=>
      match u,h with
      | [a,b,c,d],h=>exact tf h
      | [],_=>rfl
      | [_],_=>rfl
      | [_,_],_=>rfl
      | [_,_,_],_=>rfl
      | _::_::_::_::_::_,_=>rfl
    | _=>rfl
   rw[e]at g;walk_at "b";exact g
 | true=>
   obtain⟨u,rfl,i,w⟩:=cM h;match u,i,w,g with
   | [t, p,s,r],_,_,g=>
     have e:d9 q d (.tup [t,p,s,r])=(jf t p q d&&(isStart s d&&nO r q d)):=rfl;rw[e]at g;walk_at "b";refine⟨rfl,_,_,_,_,rfl,o,j,v,?_⟩
     cases y:jf t p q d with
     | false=>rw[y]at g;walk_at "b";exact g
     | true=>
       rw[y,Bool.true_and]at g;walk_at "b";refine⟨rfl,_,_,rfl,j,v,?_⟩
       cases z:isStart s d with
       | false=>rw[z]at g;walk_at "b";exact g
       | true=>rw[z,Bool.true_and]at g;walk_at "b";exact⟨rfl,_,_,_,rfl,o,j,v,g⟩
   | [],i,_,_=>simp at i
   | [_],i,_,_=>simp at i
   | [_,_],i,_,_=>simp at i
   | [_,_,_],i,_,_=>simp at i
   | _::_::_::_::_::es,_,w,_=>simp at w;omega
theorem yZ(F:Fun Ω.K "is_nest" "is_nest" je f fd)(u:Ω.cd=none)(B:Bi Ω.mg)(k:Cal Ω "is_tuple_of" 1 3 c_tup)(j:Cal Ω "is_loops" 5 1 c_loops)(g:Cal Ω "is_deed" 7 3 c_deed):Ok Ω 8 f fd Cw c_nest:=by
 refine au u (N:=Ck) F (DR B k j g) (by kernel_rfl!) ?_;rintro n S W ⟨x,m,rfl,r,c⟩ z;walk_at "b";refine⟨rfl,_,_,_,rfl,?_⟩
 cases h:bB x 2 2 with
 | false=>
   have e:ie m x=false:=by
    cases x with
    | tup n=>
      match n,h with
      | [a,b],h=>exact tf h
      | [],_=>rfl
      | [_],_=>rfl
      | _::_::_::_,_=>rfl
    | _=>rfl
   rw[e]at c;walk_at "b";exact c
 | true=>
   obtain⟨n,rfl,d,q⟩:=cM h;match n,d,q,c with
   | [l, dd],_,_,c=>
     have e:ie m (.tup [l,dd])=(fH l&&(bB dd 1 4&&(parts dd).all (d9 m ((parts l).length:Int)))):=rfl;rw[e]at c;walk_at "b";refine⟨rfl,_,rfl,?_⟩
     cases o:fH l with
     | false=>rw[o]at c;walk_at "b";exact c
     | true=>
       rw[o,Bool.true_and]at c
       cases l with
       | tup s=>have t:(s.length:Int)≤3:=ZF (aa (aa o).1).2;have c:W (.bl (bB dd 1 4&&(parts dd).all (d9 m (s.length:Int)))) S:=c;walk_at "b";refine⟨rfl,_,_,_,rfl,?_⟩;walk_at "b";refine⟨λ p=>?_,λ p=>by rw[p]at c;exact c⟩;rw[p]at c;obtain⟨v,rfl,d,q⟩:=cM p;walk_at "b";refine dH (λ x=>.bl (d9 m (s.length:Int) x)) %[|0] ?_ (c7 c);intro i e y Q w;walk_at "b";exact⟨rfl,_,_,_,rfl,r,%[|0],%[|0],w⟩
       | _=>exact ff o
   | [],d,_,_=>simp at d
   | [_],d,_,_=>simp at d
   | _::_::_::v,_,q,_=>simp at q;omega
theorem wB(F:Fun Ω.K "is_nests" "is_nests" iG f fd)(g:Ω.cd=none)(B:Bi Ω.mg)(b:Cal Ω "is_tuple_of" 1 3 c_tup)(a:Cal Ω "is_nest" 8 2 c_nest):Ok Ω 9 f fd yM c_nests:=by refine au g (N:=xT) F (Aa B b a) (by kernel_rfl!) ?_;rintro j S W ⟨x,l,rfl,d,c⟩ n;walk_at "b";refine⟨rfl,_,_,_,rfl,?_⟩;walk_at "b";unfold nH at c;refine⟨λ h=>?_,λ h=>by rw[h]at c;exact c⟩;rw[h]at c;obtain⟨j,rfl,o,p⟩:=cM h;walk_at "b";refine dH (λ x=>.bl (ie l x)) %[|0] ?_ (c7 c);intro i e m Q k;walk_at "b";exact⟨rfl,_,_,rfl,d,k⟩
structure Rd where
 fac:Int
 tab:Nat
 pl:List Fm
structure Dd where
 tab:Nat
 pl:List Fm
 st:Fm
 rds:List Rd
structure Ns where
 lps:List Lp
 dds:List Dd
structure Pg where
 ws:%[|1]
 nss:List Ns
def dP(pl:List Fm):D:=.tup (pl.map dF)
def dRd(r:Rd):D:=.tup [.int r.fac,.int r.tab,dP r.pl]
def dDd(x:Dd):D:=.tup [.int x.tab,dP x.pl,dF x.st,.tup (x.rds.map dRd)]
def dNs(n:Ns):D:=.tup [.tup (n.lps.map dL),.tup (n.dds.map dDd)]
def dWs(ws:%[|1]):D:=.tup (ws.map .int)
def dPg(p:Pg):D:=.tup [dWs p.ws,.tup (p.nss.map dNs)]
def many(nss:List Ns):Int:=(nss.map λ n=>((cnt n.lps).length:Int)*(n.dds.length:Int)).sum
def m9(n:Ns):Prop:=1≤n.lps.length/\Fits n.lps/\n.dds.length≤1000
def rB:Ct:=λ b S W=>∃a,b=[.tup (List.map dNs a)]/\a.length≤1000/\(∀n∈a,m9 n)/\flat S/\W (.int (many a)) S
def zx:Ct:=λ a S W=>∃p:Pg,a=[dWs p.ws,.tup (List.map dNs p.nss)]/\gQ (dWs p.ws)=true/\nH (.tup (p.nss.map dNs)) p.ws=true/\p.nss.length≤1000/\(∀n∈p.nss,m9 n)/\many p.nss≤60/\flat S/\W (dPg p) S
theorem Ks(h:gQ (dWs ws)=true):Ws ws:=by obtain⟨c,d⟩:=aa h;have:=vM c;refine⟨by simp at this;omega,λ w f=>?_⟩;have e:=List.all_eq_true.mp d (.int w) (ZO.mpr ⟨w,f,rfl⟩);obtain⟨a,b⟩:=aa e;exact⟨ZF a,ZF b⟩
theorem j9(F:Fun Ω.K "number_of_steps" "number_of_steps" cY f fd)(d:Ω.cd=none)(B:Bi Ω.mg)(a:Cal Ω "counts_of" 3 1 c_counts):Ok Ω 4 f fd lL rB:=by
 refine au d (N:=lW) F (lV B a) (by kernel_rfl!) ?_;rintro p S W ⟨c,rfl,s,b,k,o⟩ r;walk_at "b";refine jx (λ n=>.int (((cnt n.lps).length:Int)*(n.dds.length:Int))) %[|0] ?_ ?_
 . intro i n l Q m;obtain⟨h,h2,q⟩:=b n (y8 l);have j:=(h2.2 n.lps.length (x6 _)).1;rw[List.take_length]at j;walk_at "b";refine⟨rfl,?_⟩;walk_at "b";refine⟨rfl,_,rfl,h,h2,k,.inl ?_⟩;have e:(((cnt n.lps).map dC).length:Int)=((cnt n.lps).length:Int):=by rw[x4]
   have g:((n.dds.map dDd).length:Int)=(n.dds.length:Int):=by rw[x4]
   walk_at "n";rw[e,g];exact⟨.inl ⟨%[|0],%[|0]⟩,m⟩
 {exact⟨c.map λ(n:Ns)=>((cnt n.lps).length:Int)*(n.dds.length:Int),by rw[List.map_map];rfl,o⟩}
theorem rn(F:Fun Ω.K "program_of" "program_of" fC f fd)(h:Ω.cd=none)(B:Bi Ω.mg)(b:Cal Ω "is_widths" 2 1 c_widths)(a:Cal Ω "is_nests" 9 2 c_nests)(c:Cal Ω "number_of_steps" 4 1 rB):Ok Ω 10 f fd t8 zx:=by refine au h (N:=tM) F (uf B b a c) (by kernel_rfl!) ?_;rintro n S W ⟨p,rfl,g,i,m,d,j,k,l⟩ o;have e:=Ks g;walk_at "b";refine⟨rfl,_,rfl,?_⟩;rw[g];walk_at "b";refine⟨rfl,_,_,rfl,e,?_⟩;rw[i];walk_at "b";refine⟨rfl,_,rfl,m,d,k,?_⟩;walk_at "b";rw[ZH %[|0]];walk_at "b";exact l
abbrev Stp:=Nat×%[|1]×Nat
def dSt(s:Stp):D:=.tup [.int s.1,dC s.2.1,.int s.2.2]
def cG(i:Nat)(n:Ns):List Stp:=(cnt n.lps).flatMap λ a=>(List.range n.dds.length).map λ s=>(i,a,s)
def aG(nss:List Ns):List Stp:=(nss.mapIdx cG).flatten
inductive c_steps(ds:List D)(S:Store)(W:WD):Prop
 | mk(p:Pg):ds=[dPg p]->p.nss.length≤1000->(∀n∈p.nss,m9 n)->(aG p.nss).length≤1000000->flat S->hand W ((aG p.nss).map dSt) S->c_steps ds S W
theorem jb{nss:List Ns}{n:Ns}(h:nss[i]? =some n):aG (nss.take (i+1))=aG (nss.take i)++cG i n:=by unfold aG;rw[aA h,List.mapIdx_append,List.flatten_append];have a:=(z0.mp h).1;simp only[List.mapIdx_cons,List.mapIdx_nil,List.flatten_cons,List.flatten_nil,List.append_nil,List.length_take];rw[Nat.min_eq_left %[|0],Nat.zero_add]
theorem qK(xs:List Stp):aj (xs.map dSt)=true:=by
 induction xs with
 | nil=>rfl
 | cons x xs a=>simp only[List.map_cons,aj,a,Bool.and_true];have:=mW [x.2.1];simp only[List.map_cons,List.map_nil,aj,Bool.and_true]at this;show aj [D.int _,dC x.2.1,D.int _]=true;simp only[aj,this,Bool.and_true];rfl
theorem J6(h:flat S)(a:aj l=true):flat (S++[l]):=λ x b=>by rcases ZK.mp b with q | q;{exact h x q};{rw[ZL.mp q];exact a}
theorem JB{nss:List Ns}{n:Ns}(h:nss[i]? =some n):(aG (nss.take i)).length+(cG i n).length≤(aG nss).length:=by
 have e:∃a,aG nss=aG (nss.take (i+1))++a:=by
  unfold aG;conv=>enter [1,a,1,1];rw[←List.take_append_drop (i+1) nss]
  rw[List.mapIdx_append,List.flatten_append];exact⟨_,rfl⟩
 obtain⟨a,e⟩:=e;rw[e,jb h,v3,v3];omega
theorem wj(F:Fun Ω.K "steps_of" "steps_of" iM f fd)(z:Ω.cd=none)(B:Bi Ω.mg)(l:Cal Ω "counts_of" 3 1 c_counts):Ok Ω 4 f fd yw c_steps:=by
 refine au z (N:=Bb) F (Bl.frz (zZ B l)) (by kernel_rfl!) ?_;rintro J S W ⟨p,rfl,P,u,y,x,I⟩ M;walk_at "b";refine cF ⟨λ i a b=>(∃v w k g,a=[some (dPg p),some (.loc S.length),v,w,k,g])/\b=S++[(aG (p.nss.take i)).map dSt],⟨⟨_,_,_,_,rfl⟩,rfl⟩,?_,?_⟩
 . rintro i e a b o ⟨⟨v,w,k,g,rfl⟩,rfl⟩;obtain⟨K,q,rfl⟩:=Pk o;obtain⟨n,r,rfl⟩:=aR q;obtain⟨G,H,L⟩:=u n (y8 r);have Q:=JB r;walk_at "b";refine⟨rfl,?_⟩;walk_at "b";refine⟨rfl,_,rfl,G,H,J6 x (qK _),.inl ?_⟩;walk_at "n";refine cF ⟨λ j a b=>(∃k g,a=[some (dPg p),some (.loc S.length),some (.int (i:Int)),some (dNs n),k,g])/\b=S++[(aG (p.nss.take i)++((cnt n.lps).take j).flatMap λ h=>(List.range n.dds.length).map λ s=>(i,h,s)).map dSt],⟨⟨_,_,rfl⟩,by simp⟩,?_,?_⟩
   . rintro j e a b o ⟨⟨k,g,rfl⟩,rfl⟩;obtain⟨h,m,rfl⟩:=aR o;have A:((n.dds.map dDd).length:Int)=(n.dds.length:Int):=by rw[x4]
     have R:((cnt n.lps).take j |>.flatMap λ h=>(List.range n.dds.length).map λ s=>(i,h,s)).length+n.dds.length≤(cG i n).length:=by
      have:∃c,cG i n=((cnt n.lps).take (j+1) |>.flatMap λ h=>(List.range n.dds.length).map λ s=>(i,h,s))++c:=by
       unfold cG;conv=>enter [1,c,1,2];rw[←List.take_append_drop (j+1) (cnt n.lps)]
       rw[List.flatMap_append];exact⟨_,rfl⟩
      obtain⟨c,C⟩:=this;rw[C,aA m,List.flatMap_append,v3,v3];simp
     walk_at "b";rw[A];refine⟨⟨%[|0],%[|0]⟩,cF ⟨λ t a b=>(∃g,a=[some (dPg p),some (.loc S.length),some (.int (i:Int)),some (dNs n),some (dC h),g])/\b=S++[((aG (p.nss.take i)++((cnt n.lps).take j).flatMap λ h=>(List.range n.dds.length).map λ s=>(i,h,s))++(List.range t).map λ s=>(i,h,s)).map dSt],⟨⟨_,rfl⟩,by simp⟩,?_,?_⟩⟩
     . rintro t e a b o ⟨⟨g,rfl⟩,rfl⟩;obtain⟨O,rfl⟩:=bN o;have E:(0:Int)+(t:Int)=(t:Int):=%[|0]
       rw[E];walk_at "b";refine⟨_,bC _ _,by simp only[x4,v3,List.length_range];omega,?_⟩;refine⟨⟨_,rfl⟩,?_⟩;rw[cP,List.range_succ];simp only[List.map_append,List.map_cons,List.map_nil,List.append_assoc];rfl
     {rintro a b ⟨⟨g,rfl⟩,rfl⟩;refine⟨⟨_,_,rfl⟩,?_⟩;rw[aq,aA m,List.flatMap_append,List.flatMap_singleton,←List.append_assoc,Int.toNat_natCast]}
   {rintro a b ⟨⟨k,g,rfl⟩,rfl⟩;refine⟨⟨_,_,_,_,rfl⟩,?_⟩;rw[x4,List.take_length,jb r];rfl}
 . rintro a b ⟨⟨v,w,k,g,rfl⟩,rfl⟩;have e:((p.nss.map dNs).mapIdx λ i d=>D.tup [D.int (i:Int),d]).length=p.nss.length:=by simp
   rw[e,List.take_length];exact pL I (qK _) x
inductive c_deedof(ds:List D)(S:Store)(W:WD):Prop
 | mk(p:Pg)(s:Stp)(n:Ns)(x:Dd):ds=[dPg p,dSt s]->p.nss[s.1]? =some n->n.dds[s.2.2]? =some x->W (dDd x) S->c_deedof ds S W
abbrev Cell:=Nat×%[|1]
def aW(c:Cell):D:=.tup [.int c.1,.tup (c.2.map .int)]
def C64(cs:%[|1]):Prop:=∀c∈cs,-(2 ^ 64)<c/\c<2 ^ 64
def Gs(pl:List Fm):Prop:=pl.length≤1000/\∀f∈pl,f.2.length≤1000
def spot(t:Nat)(pl:List Fm)(cs:%[|1]):Cell:=(t,pl.map λ f=>atC f cs)
inductive c_cellat(ds:List D)(S:Store)(W:WD):Prop
 | mk(t:Nat)(pl:List Fm)(cs:%[|1]):ds=[.int t,dP pl,dC cs]->Gs pl->C64 cs->W (aW (spot t pl cs)) S->c_cellat ds S W
theorem zM(F:Fun Ω.K "deed_of" "deed_of" jm f fd)(a:Ω.cd=none):Ok Ω 1 f fd Cq c_deedof:=by refine au a (N:=CK) F (CP) (by kernel_rfl!) ?_;rintro j S W ⟨p,⟨i,h,t⟩,n,x,rfl,d,g,e⟩ k;have b:atI (p.nss.map dNs) ((i:Nat):Int)=some (dNs n):=cL (by rw[x5,d];rfl);have c:atI (n.dds.map dDd) ((t:Nat):Int)=some (dDd x):=cL (by rw[x5,g];rfl);walk_at "b";refine⟨_,b,?_⟩;walk_at "b";exact⟨_,c,e⟩
theorem xJ(F:Fun Ω.K "cell_at" "cell_at" ji f fd)(h:Ω.cd=none)(B:Bi Ω.mg)(a:Cal Ω "comes_to" 1 2 c_comes):Ok Ω 2 f fd Dc c_cellat:=by
 refine au h (N:=Cr) F (De B a) (by kernel_rfl!) ?_;rintro l S W ⟨t,g,b,rfl,hpl,c,d⟩ m;walk_at "b";refine jx (λ f=>.int (atC f b)) (by have:=hpl.1;omega) ?_ ?_;{intro i f j Q k;walk_at "b";exact⟨rfl,f.1,f.2,b,rfl,hpl.2 f (y8 j),c,k⟩}
 . walk_at "b";have e:(spot t g b).2.map D.int=g.map λ f=>D.int (atC f b):=by unfold spot;rw[List.map_map];rfl
   unfold aW at d;rw[e]at d;exact d
def dCs(x:Dd)(cs:%[|1]):D:=.tup [aW (spot x.tab x.pl cs),.lst (x.rds.map λ r=>aW (spot r.tab r.pl cs))]
def KC(x:Dd):Prop:=Gs x.pl/\x.rds.length≤1000/\∀r∈x.rds,Gs r.pl
inductive c_cellsStep(ds:List D)(S:Store)(W:WD):Prop
 | mk(p:Pg)(s:Stp)(n:Ns)(x:Dd):ds=[dPg p,dSt s]->p.nss[s.1]? =some n->n.dds[s.2.2]? =some x->KC x->C64 s.2.1->W (dCs x s.2.1) S->c_cellsStep ds S W
theorem mL(F:Fun Ω.K "cells_of_step" "cells_of_step" dz f fd)(e:Ω.cd=none)(b:Cal Ω "deed_of" 1 2 c_deedof)(a:Cal Ω "cell_at" 2 3 c_cellat):Ok Ω 3 f fd oJ c_cellsStep:=by refine au e (N:=oN) F (oU b a) (by kernel_rfl!) ?_;rintro o S W ⟨p,⟨i,d,t⟩,n,x,rfl,g,m,hok,c,l⟩ q;walk_at "b";refine⟨rfl,p,(i,d,t),n,x,rfl,g,m,?_⟩;walk_at "b";refine jx (λ r=>aW (spot r.tab r.pl d)) (by have:=hok.2.1;omega) ?_ ?_;{intro j r k Q h;walk_at "b";refine⟨rfl,?_⟩;walk_at "b";exact⟨rfl,r.tab,r.pl,d,rfl,hok.2.2 r (y8 k),c,h⟩};{walk_at "b";refine⟨rfl,x.tab,x.pl,d,rfl,hok.1,c,?_⟩;walk_at "b";exact l}
def jr(ns:%[|1])(c n:Int):List D:=[.int c,.int n,.lst (ns.map .int)]
def aH(S:Store)(k:Nat):Prop:=∃a c n,S[k]? =some (jr a c n)/\0≤n
def aO(S:Store)(k:Nat)(S':Store):Prop:=∃a c n,S'=S.set k (jr a c n)/\0≤n
theorem aO.trans{d:Store}(a:aO S k S1)(b:aO S1 k d):aO S k d:=by obtain⟨_,_,_,rfl,_⟩:=a;obtain⟨f,c,n,rfl,e⟩:=b;exact⟨f,c,n,by rw[List.set_set],e⟩
theorem aO.refl(p:aH S k):aO S k S:=by obtain⟨b,c,n,h,a⟩:=p;exact⟨b,c,n,by obtain⟨d,e⟩:=z0.mp h;rw[←e,List.set_getElem_self],a⟩
theorem aO.len(u:aO S k S'):S'.length=S.length:=by obtain⟨_,_,_,rfl,_⟩:=u;simp
theorem aO.pen(p:aH S k)(u:aO S k S'):aH S' k:=by obtain⟨_,_,_,h,_⟩:=p;obtain⟨b,c,n,rfl,a⟩:=u;exact⟨b,c,n,set_get h,a⟩
theorem aH.lt(p:aH S k):k<S.length:=by obtain⟨_,_,_,h,_⟩:=p;exact(z0.mp h).1
theorem aH.app(J:Store)(p:aH S k):aH (S++J) k:=by have a:=p.lt;obtain⟨d,c,n,h,b⟩:=p;exact⟨d,c,n,by rw[List.getElem?_append_left a];exact h,b⟩
theorem aO.split{T:Store}(p:aH S k)(u:aO (S++J) k T):∃S',T=S'++J/\aO S k S'/\aH S' k:=by have b:=p.lt;obtain⟨a,c,n,rfl,d⟩:=u;have u:aO S k (S.set k (jr a c n)):=⟨a,c,n,rfl,d⟩;exact⟨S.set k (jr a c n),by rw[List.set_append_left k _ b],u,u.pen p⟩
theorem bA(ns:%[|1]):aj (ns.map D.int)=true:=by
 induction ns with
 | nil=>rfl
 | cons y b a=>simp only[List.map_cons,aj,a,Bool.and_true];rfl
theorem pB(ns:%[|1])(c n:Int):aj (jr ns c n)=true:=by show(aj (ns.map D.int)&&true)=true;rw[bA];rfl
theorem aO.flat(u:aO S k S')(h:flat S):RF.flat S':=by obtain⟨b,c,n,rfl,_⟩:=u;intro l a;rcases List.mem_or_eq_of_mem_set a with a | rfl;{exact h l a};{exact pB ..}
inductive c_cellB(ds:List D)(S:Store)(W:WD):Prop
 | mk(ns k:_):ds=[.lst (List.map .int ns),.int k]->0≤k->(∀v,W (.int v) S)->c_cellB ds S W
inductive c_penB(ds:List D)(S:Store)(W:WD):Prop
 | mk(ns k:_):ds=[.lst (List.map .int ns),.int k]->0≤k->(∀c,W (.loc S.length) (S++[jr ns c k]))->c_penB ds S W
inductive c_takeB(ds:List D)(S:Store)(W:WD):Prop
 | mk(k m:_):ds=[.loc k,.int m]->aH S k->0<m->m<1000000000000000000000000000000000000000000000000000000000000->(∀v S',0≤v->v<m->aO S k S'->aH S' k->W (.int v) S')->c_takeB ds S W
theorem aK{m:Int}(b:aH S k)(a:0<m)(h1:m<1000000000000000000000000000000000000000000000000000000000000)(w:∀v S',0≤v->v<m->aO S k S'->aH S' k->W (.int v) S'):([D.loc k,.int m].length=2/\c_takeB [.loc k,.int m] S W):=⟨rfl,k,m,rfl,b,a,h1,w⟩
theorem Ir(F:Fun Ω.K "_law_cell" "_law_cell" pR f fd)(j:Ω.cd=none)(B:Bi Ω.mg):Ok Ω 1 f fd KY c_cellB:=by
 refine au j (N:=Nq) F (M3 B) (by kernel_rfl!) ?_;rintro ds S W ⟨c,k,rfl,m,i⟩ n;have a:∀v:Int,(sJ B).wp [some (.lst (c.map .int)),some (.int k),some (.int v)] S {nx:=λ _ g=>W .non g,rt:=W}:=by intro v;have e:=Int.emod_lt_of_pos ((v % 2147483629+6151*k+1)*48271) (b:=2147483647) %[|3];have l:=Int.emod_nonneg ((v % 2147483629+6151*k+1)*48271) (b:=2147483647) %[|3];walk_at "b";exact i _
 have d:∀v:Int,(qM B).wp [some (.lst (c.map .int)),some (.int k),some (.int v)] S {nx:=λ _ g=>W .non g,rt:=W}:=by intro v;walk_at "b";refine⟨λ q=>?_,λ q=>⟨λ z=>ff z,λ _=>a v⟩⟩;have q:=ZF q;obtain⟨x,h,e⟩:=iD (ds:=c.map D.int) (v:=0) %[|3] %[|0];obtain⟨y,_,rfl⟩:=ZO.mp (y8 e);walk_at "b";refine⟨_,h,?_⟩;walk_at "b";refine⟨λ _=>?_,λ _=>a v⟩;walk_at "b";exact i _
 walk_at "b";refine⟨λ q=>?_,λ q=>d 7⟩;have q:=ZF q;walk_at "b";obtain⟨x,h,e⟩:=iD (ds:=c.map D.int) (v:=k % ((c.map D.int).length:Int)) (Int.emod_nonneg _ %[|0]) (Int.emod_lt_of_pos _ q);obtain⟨y,_,rfl⟩:=ZO.mp (y8 e);exact⟨_,h,d y⟩
theorem Np(F:Fun Ω.K "_law_pen" "_law_pen" ur f fd)(b:Ω.cd=none)(a:Cal Ω "_law_cell" 1 2 c_cellB):Ok Ω 2 f fd QC c_penB:=by refine au b (N:=Px) F (Q0 a) (by kernel_rfl!) ?_;rintro h S W ⟨g,k,rfl,d,e⟩ i;walk_at "b";refine⟨rfl,g,k,rfl,d,λ c=>?_⟩;walk_at "b";exact e c
theorem Jw(F:Fun Ω.K "_law_take" "_law_take" pK f fd)(i:Ω.cd=none)(g:Cal Ω "_law_cell" 1 2 c_cellB):Ok Ω 2 f fd Nk c_takeB:=by
 refine au i (N:=K8) F (Mr g) (by kernel_rfl!) ?_;rintro s S W ⟨k,m,rfl,⟨e,c,n,o,p⟩,j,t,q⟩ u;have r:∀l:List D,(S.set k l)[k]? =some l:=λ l=>set_get o;have a:∀d b,0≤b->W (.int (c % m)) (S.set k (jr e d b)):=λ d b h=>
  q _ _ (Int.emod_nonneg _ %[|0]) (Int.emod_lt_of_pos _ j) ⟨e,d,b,rfl,h⟩ ⟨e,d,b,r _,h⟩;walk_at "b";refine⟨λ _=>?_,λ _=>a (c/m) n p⟩;walk_at "b";refine⟨rfl,e,n+1,rfl,%[|0],λ v=>?_⟩;walk_at "b";exact a v (n+1) %[|0]
theorem bZ{Ω:Wd}{b:Tg}{a:Bl Ω}{W:DL.Fin}(P:Nat->Gam->%[|4])(c:P 0 Γ S1)(e:∀I:Nat->Gam->%[|4],(∀i G T,P i G T->I i G T)->∀i d Γ' S',ds[i]? =some d->P i Γ' S'->b.wp d Γ' λ Γ2=>a.wp Γ2 S' {W with nx:=I (i+1),ct:=I (i+1),bk:=W.nx})(f:∀Γ' S',P ds.length Γ' S'->W.nx Γ' S'):iw Γ b a W ds S1:=
 cF ⟨P,c,e P λ _ _ _ h=>h,f⟩
theorem qg{Ω:Wd}{b:Tg}{a:Bl Ω}{W:DL.Fin}{kvs:Kc}(P:Nat->Gam->%[|4])(c:P 0 Γ S1)(f:∀i Γ' S',P i Γ' S'->S'[k]? =some (.non::kvs.map encC))(d:∀I:Nat->Gam->%[|4],(∀i G T,P i G T->I i G T)->∀i kv Γ' S',kvs[i]? =some kv->P i Γ' S'->b.wp (cD kv.1) Γ' λ Γ2=>a.wp Γ2 S' {W with nx:=I (i+1),ct:=I (i+1),bk:=W.nx})(e:∀Γ' S',P kvs.length Γ' S'->W.nx Γ' S'):yx Γ b a W k kvs S1:=
 QF ⟨P,c,f,d P λ _ _ _ h=>h,e⟩
theorem M5{Ω:Wd}{b:Tg}{a:Bl Ω}{W:DL.Fin}{kvs:Kc}(P:Nat->Gam->%[|4])(c:P 0 Γ S1)(f:∀i Γ' S',P i Γ' S'->S'[k]? =some (.non::kvs.map encC))(d:∀I:Nat->Gam->%[|4],(∀i G T,P i G T->I i G T)->∀i kv Γ' S',kvs[i]? =some kv->P i Γ' S'->b.wp (encC kv) Γ' λ Γ2=>a.wp Γ2 S' {W with nx:=I (i+1),ct:=I (i+1),bk:=W.nx})(e:∀Γ' S',P kvs.length Γ' S'->W.nx Γ' S'):yK Γ b a W k kvs S1:=
 Fy ⟨P,c,f,d P λ _ _ _ h=>h,e⟩
theorem bL(h:n=S.length):(S++[l])[n]? =some l:=by subst h;exact bC _ _
theorem fG{l':List D}(h:n=S.length):(S++[l]).set n l'=S++[l']:=by subst h;exact cP _ _ _
theorem dI(h:flat S)(b:aj l=true):flat (S++[l]):=by
 intro x a;rcases ZK.mp a with a | a;{exact h x a}
 . have:x=l:=by simpa using a
   subst this;exact b
theorem fj(f:Fm):ak (dF f)=true:=bA (f.1::f.2)
def K4(ns:%[|1]):Prop:=∀n∈ns,-99≤n/\n≤99
def FmB(d:Nat)(w:Int)(f:Fm):Prop:=f.2.length=d/\K4 f.2/\((-w≤f.1/\f.1≤w)∨(w=1/\ -99≤f.1/\f.1≤99))
inductive c_formB(ds:List D)(S:Store)(W:WD):Prop
 | mk(k d:Nat)(w:Int):ds=[.loc k,.int d,.int w]->aH S k->flat S->d≤10->1≤w->w<1000000000000000000000000000000->(∀f S',FmB d w f->aO S k S'->aH S' k->flat S'->W (dF f) S')->c_formB ds S W
theorem qt{P:Int->Prop}:∀{ys:List D},(∀(i:Nat)(y:D),ys[i]? =some y->∃n:Int,y=D.int n/\P n)->∃fs:%[|1],ys=fs.map D.int/\∀n∈fs,P n
 | [],_=>⟨[],rfl,by simp⟩
 | y::ys,h=>by obtain⟨n,rfl,d⟩:=h 0 y rfl;obtain⟨fs,rfl,c⟩:=qt (ys:=ys) λ i y b=>h (i+1) y (by simpa using b);exact⟨n::fs,rfl,by intro m a;rcases ZJ.mp a with rfl | a;{exact d};{exact c m a}⟩
theorem Ii(F:Fun Ω.K "_law_form" "_law_form" ql f fd)(V:Ω.cd=none)(B:Bi Ω.mg)(l:Cal Ω "_law_take" 2 2 c_takeB):Ok Ω 3 f fd M6 c_formB:=by
 refine au V (N:=Nu) F (Bl.drp (K6 B l)) (by kernel_rfl!) ?_;rintro ds S W ⟨k,d,w,rfl,K,I,hd,aa,ab,P⟩ hl;have E:∀H,aO S k H->aH H k->(qF B l).wp [some (.loc k),some (.int d),some (.int w),none,none] H {nx:=λ _ C=>W .non C,rt:=Drp S.length W}:=by
  intro H u0 p0;walk_at "b";refine aK p0 %[|0] %[|0] λ v C v0 v1 m J=>?_;have m:=u0.trans m;have f1:=m.flat I;have n1:=m.len;walk_at "b";refine⟨⟨%[|0],%[|0]⟩,cF ⟨λ i t T=>∃o b M,T=o++[D.int (v-w)::List.map D.int b]/\aO S k o/\aH o k/\b.length=i/\K4 b/\t=[some (.loc k),some (.int d),some (.int w),some (.loc S.length),M],⟨C,[],none,rfl,m,J,rfl,λ n h=>by simp at h,by rw[n1];rfl⟩,?_,?_⟩⟩
  . rintro i e t T he ⟨o,b,M,rfl,j,A,g,r,rfl⟩;obtain⟨hi,rfl⟩:=bN he;walk_at "b";refine aK (A.app _) %[|3] %[|3] λ x T3 x0 x1 s U=>?_;obtain⟨X,rfl,s,U⟩:=s.split A;have s:=j.trans s;walk_at "n";obtain⟨y,Y,Z⟩:=iD (ds:=[D.int 0,.int 1,.int 1,.int 0,.int (-1),.int 2,.int 0,.int 1]) x0 x1;have Q:=y8 Z;refine⟨y,Y,?_⟩;obtain⟨z,rfl,hz⟩:∃z:Int,y=.int z/\ -99≤z/\z≤99:=by simp only[List.mem_cons,List.not_mem_nil,or_false]at Q;rcases Q with rfl | rfl | rfl | rfl | rfl | rfl | rfl | rfl<;>exact⟨_,rfl,%[|3],%[|3]⟩
    refine⟨_,bL s.len.symm,by simp;omega,?_⟩;rw[fG s.len.symm];refine⟨X,b++[z],_,by rw[List.map_append];rfl,s,U,by simp[g],λ n h=>?_,rfl⟩;rcases ZK.mp h with h | h;{exact r n h}
    . have:n=z:=by simpa using h
      omega
  {rintro t T ⟨o,b,M,rfl,j,A,g,r,rfl⟩;rw[aq]at g;walk_at "b";refine⟨_,bL j.len.symm,.inr ⟨[_],o,rfl,by rw[j.len];exact x6 _,fj (v-w,b),j.flat I,P (v-w,b) _ ⟨by simpa using g,r,.inl ⟨?_,?_⟩⟩ j A (j.flat I)⟩⟩;{show-w≤v-w;omega};{show v-w≤w;omega}}
 walk_at "b";refine⟨λ q=>?_,λ q=>⟨λ z=>ff z,λ _=>E S (.refl K) K⟩⟩;have q:=ZF q;walk_at "b";refine aK K %[|3] %[|3] λ v C v0 v1 m J=>?_;walk_at "b";refine⟨λ _=>?_,λ _=>E C m J⟩;walk_at "b";refine⟨⟨%[|0],%[|0]⟩,mz (λ _ y=>∃n:Int,y=.int n/\(-99≤n/\n≤99)) (λ G=>aO S k G/\aH G k) (by rw[aq];omega) ⟨m,J⟩ ?_ ?_⟩;{rintro i d G hd ⟨u,p⟩ R hR;walk_at "b";refine aK p %[|3] %[|3] λ w o w0 w1 j A=>?_;walk_at "b";exact hR _ _ ⟨_,rfl,%[|0],%[|0]⟩ ⟨u.trans j,A⟩};rintro ys G c L ⟨u,p⟩;obtain⟨b,rfl,O⟩:=qt L;rw[aq,x4]at c
 cases b with
 | nil=>simp at c
 | cons a b=>walk_at "b";exact .inl (P (a,b) _ ⟨by simp at c;show b.length=d;omega,λ n h=>O n (x8 _ h),.inr ⟨%[|0],O a w9⟩⟩ u p (u.flat I))
theorem zj(ls:List Lp)(l:Lp):cnt (ls++[l])=aP l.1 l.2 (cnt ls):=by unfold cnt;rw[List.foldl_append];rfl
theorem g8(a:Int)(k:Nat)(cs:%[|1]):atC (a,List.replicate k 0) cs=a:=by
 unfold atC comesTo;have:∀(k:Nat)(cs:%[|1]),(List.zipWith (λ a b=>a*b) (List.replicate k (0:Int)) cs).sum=0:=by
  intro k
  induction k with
  | zero=>intro cs;simp
  | succ k d=>
    intro cs
    cases cs with
    | nil=>simp
    | cons c cs=>simp[List.replicate_succ,d]
 rw[this];show a+0=a;omega
theorem Ld(a:Int)(cs:%[|1])(c:Int):atC (a,List.replicate cs.length 0++[1]) (cs++[c])=a+c:=by
 unfold atC comesTo;have:∀cs:%[|1],(List.zipWith (λ a b=>a*b) (List.replicate cs.length (0:Int)++[1]) (cs++[c])).sum=c:=by
  intro cs
  induction cs with
  | nil=>simp
  | cons d cs e=>simp[List.replicate_succ,e]
 rw[this]
theorem Ky(a b:Int)(fs cs:%[|1]):atC (a+b,fs) cs=atC (a,fs) cs+b:=by unfold atC comesTo;dsimp only;omega
theorem Nr{ls:List Lp}{l:Lp}(h:cs∈cnt (ls++[l])):∃cs' c,cs'∈cnt ls/\cs=cs'++[c]/\atC l.1 cs'≤c/\c<atC l.2 cs':=by rw[zj]at h;obtain⟨d,e,h⟩:=List.mem_flatMap.mp h;unfold bj at h;obtain⟨c,a,rfl⟩:=ZO.mp h;unfold upI at a;obtain⟨k,b,rfl⟩:=ZO.mp a;have b:=List.mem_range.mp b;exact⟨d,_,e,rfl,%[|0],%[|0]⟩
theorem K3{ls:List Lp}{l:Lp}{a:Nat}(h:∀cs∈cnt ls,atC l.2 cs-atC l.1 cs≤(a:Int)):(cnt (ls++[l])).length≤(cnt ls).length*a:=by rw[zj];refine qm λ cs b=>?_;rw[cN];have:=h cs b;omega
def Bef(bf:D)(ls:List Lp):Prop:=bf=.non∨∃a b:Int,bf=.tup [.int a,.int b]/\ -3≤a/\a≤3/\1≤b/\b≤4/\1≤ls.length/\∀e∈cnt ls,∃d c,e=d++[c]/\a≤c/\c<a+b
def LpI(ls:List Lp):Prop:=∀(i:Nat)(l:Lp),ls[i]? =some l->BdF l.1 i/\BdF l.2 i
theorem LpI.snoc{ls:List Lp}{l:Lp}(h:LpI ls)(h1:BdF l.1 ls.length)(h2:BdF l.2 ls.length):LpI (ls++[l]):=by
 intro i x a;by_cases b:i<ls.length;{rw[List.getElem?_append_left b]at a;exact h i x a}
 . rw[List.getElem?_append_right %[|0]]at a;have:i=ls.length:=by have:=(z0.mp a).1;simp at this;omega
   subst this;simp at a;subst a;exact⟨h1,h2⟩
def nlO(o:Option D):Prop:=∀d,o=some d->ak d=true
theorem cQ:nlO none:=λ d h=>by cases h
theorem jJ(n:Int):nlO (some (.int n)):=λ d h=>by cases h;rfl
def Hi(n:Nat)(o:Option D):Prop:=nlO o∨∃j,o=some (.loc j)/\n≤j
theorem Es{J:List (List D)}{o:Option D}(h:nlO o):jk n J o=o:=by
 cases o with
 | none=>rfl
 | some d=>
   cases d with
   | loc j=>have:=h _ rfl;simp[ak]at this
   | _=>rfl
theorem Fp{j:Nat}{J:List (List D)}(h:j<n):jk n J (some (.loc j))=some (.loc j):=by simp[jk,h]
theorem uO{J:List (List D)}{o:Option D}(c:flat J)(h:Hi n o):nlO (jk n J o):=by
 rcases h with h | ⟨j,rfl,f⟩;{rw[Es h];exact h}
 . intro d a;have:¬j<n:=%[|0]
   simp only[jk,if_neg this]at a
   cases e:J[j-n]? with
   | none=>rw[e]at a;cases a
   | some b=>rw[e]at a;cases a;exact c b (y8 e)
theorem fO(ls:List Lp):aj (ls.map dL)=true:=by
 induction ls with
 | nil=>rfl
 | cons y b a=>simp only[List.map_cons,aj,a,Bool.and_true];show aj [dF y.1,dF y.2]=true;simp only[aj,fj,Bool.and_true]
inductive c_loopsB(ds:List D)(S:Store)(W:WD):Prop
 | mk(k:Nat)(m:Nat):ds=[.loc k,.int m]->aH S k->flat S->1≤m->m≤1000->(∀ls S',Lps ls->(cnt ls).length≤m->aO S k S'->aH S' k->flat S'->W (.tup (ls.map dL)) S')->c_loopsB ds S W
theorem zeros(n:Int):(List.replicate n.toNat [D.int 0]).flatten=(List.replicate n.toNat (0:Int)).map D.int:=by
 generalize n.toNat=m
 induction m with
 | zero=>rfl
 | succ m a=>simp[List.replicate_succ,a]
theorem RG{Ω:Wd}{b:Bl Ω}{W:DL.Fin}(h:b.wp Γ S {W with nx:=xV S.length W.nx}):b.fza.wp Γ S W:=h
theorem qI{j:Nat}{R:Gam->Prop}(h:R (Γ.set j (some d))):(Tg.nm j).wp d Γ R:=h
theorem aO.split2{T:Store}{a b:List D}(p:aH S k)(u:aO (S++[a]++[b]) k T):∃S',T=S'++[a]++[b]/\aO S k S'/\aH S' k:=by obtain⟨g,rfl,e,h⟩:=u.split (p.app _);obtain⟨c,rfl,f,d⟩:=e.split p;exact⟨c,rfl,f,d⟩
theorem cH(h:n=S.length):(S++[l]++J)[n]? =some l:=by subst h;rw[List.getElem?_append_left (by simp)];exact bC _ _
theorem dO{l':List D}(h:n=S.length):(S++[l]++J).set n l'=S++[l']++J:=by subst h;rw[List.set_append_left _ _ (by simp),cP]
theorem Ge(ls:List Lp):∀cs∈cnt ls,cs.length=ls.length:=by
 have:∀(ls:List Lp)(a:List %[|1])(n:Nat),(∀cs∈a,cs.length=n)->∀cs∈ls.foldl (λ a l=>aP l.1 l.2 a) a,cs.length=n+ls.length:=by
  intro ls
  induction ls with
  | nil=>intro a n h cs b;simpa using h cs b
  | cons l ls g=>intro a n h cs b;have:=g (aP l.1 l.2 a) (n+1) (λ i d=>by obtain⟨e,f,d⟩:=List.mem_flatMap.mp d;unfold bj at d;obtain⟨c,_,rfl⟩:=ZO.mp d;simp[h e f]) cs b;rw[this,List.length_cons];omega
 intro cs b;have:=this ls [[]] 0 (by simp) cs b;omega
inductive LoopI(S:Store)(k m i:Nat)(Γ':Gam)(T:Store):Prop
 | mk(S2 ls room bf o5 o6 o7 o8 o9 o10 o11:_):T=S2++[List.map dL ls]->aO S k S2->aH S2 k->ls.length=i->LpI ls->1≤room->(cnt ls).length*room≤m->Bef bf ls->ak bf=true->(nlO o5/\nlO o6/\nlO o7/\nlO o8/\nlO o9/\nlO o10/\nlO o11)->Γ'=[some (.loc k),some (.int m),some (.loc S.length),some (.int (room:Nat)),some bf,o5,o6,o7,o8,o9,o10,o11]->LoopI S k m i Γ' T
theorem yF{o:Option D}(h:Hi n o)(e:o=some d):ak d=true∨∃j,d=.loc j:=by rcases h with h | ⟨j,rfl,_⟩;{exact .inl (h d e)};{cases e;exact .inr ⟨j,rfl⟩}
theorem HX{g:Store}{room a:Nat}{ls:List Lp}{l:Lp}{j:D}{n v:Int}{C s t:Option D}(L:aH S k)(I:flat S)(u:aO S k g)(p:aH g k)(w:flat J)(e:ls.length=i)(A:LpI ls)(E:BdF l.1 i)(F:BdF l.2 i)(s1:1≤a)(s2:a≤room)(M:(cnt ls).length*room≤m)
 (K:∀cs∈cnt ls,atC l.2 cs-atC l.1 cs≤(a:Int))(y:Bef j (ls++[l]))(f:ak j=true)(B:Hi (S.length+1) C)(q:Hi (S.length+1) s)(r:Hi (S.length+1) t):
 xV (S.length+1) (LoopI S k m (i+1)) [some (.loc k),some (.int m),some (.loc S.length),some (.int ((room:Int)/(a:Int))),some j,some (.int i),some (.int a),some (.int n),some (.int v),C,s,t] (g++[(ls++[l]).map dL]++J):=by
 have z:=u.len;have P:=L.lt;have G:(room:Int)/(a:Int)=((room/a:Nat):Int):=(Int.natCast_ediv room a).symm;have c:(g++[(ls++[l]).map dL]).length=S.length+1:=by simp[z]
 refine .inr ⟨J,g++[(ls++[l]).map dL],rfl,by rw[c];exact x6 _,w,dI (u.flat I) (fO _),?_,?_⟩
 . intro x d b;match x,b with
   | 0,b=>cases b;exact .inr ⟨_,rfl⟩
   | 1,b=>cases b;exact .inl rfl
   | 2,b=>cases b;exact .inr ⟨_,rfl⟩
   | 3,b=>cases b;exact .inl rfl
   | 4,b=>cases b;exact .inl f
   | 5,b=>cases b;exact .inl rfl
   | 6,b=>cases b;exact .inl rfl
   | 7,b=>cases b;exact .inl rfl
   | 8,b=>cases b;exact .inl rfl
   | 9,b=>exact yF B (by simpa using b)
   | 10,b=>exact yF q (by simpa using b)
   | 11,b=>exact yF r (by simpa using b)
   | x+12,b=>simp at b
 . rw [c];refine⟨g,ls++[l],room/a,j,some (.int i),some (.int a),some (.int n),some (.int v),_,_,_,rfl,u,p,by simp[e],A.snoc (by rw[e];exact E) (by rw[e];exact F),Nat.div_pos s2 s1,?_,y,f,⟨jJ _,jJ _,jJ _,jJ _,uO w B,uO w q,uO w r⟩,?_⟩
   . have H:=K3 (l:=l) K;have N:=Nat.mul_le_mul_right (room/a) H;have O:(cnt ls).length*a*(room/a)≤(cnt ls).length*room:=by rw[Nat.mul_assoc];exact Nat.mul_le_mul_left _ (Nat.mul_div_le room a)
     omega
   {show[_,_,_,_,_,_,_,_,_,_,_,_]=[_,_,_,_,_,_,_,_,_,_,_,_];rw[Fp %[|0],Fp %[|0],Es (o:=some j) (λ d h=>by cases h;exact f),G];rfl}
theorem Gf(F:Fun Ω.K "_law_loops" "_law_loops" mR f fd)(N0:Ω.cd=none)(B:Bi Ω.mg)(o:Cal Ω "_law_take" 2 2 c_takeB):Ok Ω 3 f fd Ke c_loopsB:=by
 refine au N0 (N:=HS) F (Bl.drp (Jj B o)) (by kernel_rfl!) ?_;rintro ds S W ⟨k,m,rfl,hp,hS,aI,aV,hw⟩ hl;walk_at "b";refine aK (hp.app _) %[|3] %[|3] λ v T v0 v1 u1 p1=>?_;obtain⟨S1,rfl,u1,p1⟩:=u1.split hp;walk_at "b";refine⟨⟨%[|0],%[|0]⟩,cF ⟨LoopI S k m,⟨S1,[],m,.non,none,none,none,none,none,none,none,rfl,u1,p1,rfl,λ i l h=>by simp at h,aI,by simp[cnt],.inl rfl,rfl,⟨cQ,cQ,cQ,cQ,cQ,cQ,cQ⟩,rfl⟩,?_,?_⟩⟩
 . rintro i e aN T he ⟨S2,s,g,bf,o5,o6,o7,o8,o9,w,t,rfl,u2,p2,ao,ap,az,as,Q,ar,⟨n5,n6,n7,n8,n9,av,ae⟩,rfl⟩;obtain⟨hi,rfl⟩:=bN he;have aT:i≤2:=%[|0]
   have ez:(0:Int)+(i:Int)=(i:Int):=%[|0]
   rw[ez];have aE:(S2++[s.map dL]).length=S.length+1:=by simp[u2.len]
   suffices body:∀Wf:DL.Fin,(∀G T,xV (S.length+1) (LoopI S k m (i+1)) G T->Wf.nx G T)->(mH B o).wp [some (.loc k),some (.int m),some (.loc S.length),some (.int (g:Nat)),some bf,some (.int (i:Int)),o6,o7,o8,o9,w,t] (S2++[s.map dL]) Wf by refine qI (RG ?_);simp only[List.set_cons_succ,List.set_cons_zero];refine body _ λ G T h=>?_;rw[aE];exact h
   intro Wf aJ;walk_at "b";refine aK (p2.app _) (by split<;>omega) (by split<;>omega) λ x T3 x0 x1 u3 p3=>?_;obtain⟨S3,rfl,u3,p3⟩:=u3.split p2;have u3:=u2.trans u3;have hx:1+x≤(g:Int)/\1+x≤4:=by split at x1<;>omega
   clear x1;walk_at "b";refine aK (p3.app _) %[|3] %[|3] λ y T3 y0 y1 u4 p4=>?_;obtain⟨S4,rfl,u4,p4⟩:=u4.split p3;have u4:=u3.trans u4;walk_at "b";refine aK (p4.app _) %[|3] %[|3] λ E T3 w0 w1 U p5=>?_;obtain⟨M,rfl,U,p5⟩:=U.split p4;have U:=u4.trans U;walk_at "b";refine⟨_,_,rfl,rfl,⟨%[|0],%[|0]⟩,by simp;omega,?_⟩;rw[zeros,Int.toNat_natCast];obtain⟨C,aM⟩:∃n:Nat,1+x=(n:Int):=⟨(1+x).toNat,%[|0]⟩;rw[aM]at hx ⊢;have af:1≤C:=%[|0]
   have aA:C≤g:=%[|0]
   have aa:∀(S':Store)(l:Lp)(J:Store)(H:Nat)(ab:D)(o9 w t:Option D),aO S k S'->aH S' k->flat J->BdF l.1 i->BdF l.2 i->1≤H->H≤4->H≤g->(∀P∈cnt s,atC l.2 P-atC l.1 P≤(H:Int))->Bef ab (s++[l])->ak ab=true->Hi (S.length+1) o9->Hi (S.length+1) w->Hi (S.length+1) t->
    (bQ B o).wp [some (.loc k),some (.int m),some (.loc S.length),some (.int g),some ab,some (.int i),some (.int H),some (.int (y-3)),some (.int E),o9,w,t] (S'++[(s++[l]).map dL]++J) Wf:=by intro S' l J H ab o9 w t u p hJ b1 b2 s1 s4 s2 hc Q ar n9 av ae;walk_at "b";exact aJ _ _ (HX hp hS u p hJ ao ap b1 b2 s1 s2 as hc Q ar n9 av ae)
   have zl:(List.replicate i (0:Int)).length=i:=by simp
   have z9:Hi (S.length+1) (some (.lst ((List.replicate i (0:Int)).map D.int))):=.inl λ d h=>by cases h;exact bA _
   have zb:∀a:Int,-9≤a->a≤9->BdF (a,List.replicate i 0) i:=λ a Y h2=>⟨zl,Y,h2,λ n Z=>by have:=(List.mem_replicate.mp Z).2;omega⟩;have ac:∀r:DL.Fin,(∀G T,(bQ B o).wp G T Wf->r.nx G T)->(iu B o).wp [some (.loc k),some (.int m),some (.loc S.length),some (.int g),some bf,some (.int i),some (.int C),some (.int (y-3)),some (.int E),some (.lst ((List.replicate i (0:Int)).map D.int)),w,t] (M++[s.map dL]) r:=by
    intro r K;have app:∀h:Int,y-3≤h->h≤y-3+C->∃ds,(M++[s.map dL])[S.length]? =some ds/\ds.length<1000000/\r.nx [some (.loc k),some (.int m),some (.loc S.length),some (.int g),some (.tup [.int (y-3),.int C]),some (.int i),some (.int C),some (.int (y-3)),some (.int E),some (.lst ((List.replicate i (0:Int)).map D.int)),w,t] ((M++[s.map dL]).set S.length (ds++[dL ((y-3,List.replicate i 0),(h,List.replicate i 0))])):=by intro h Y h2;refine⟨_,bL U.len.symm,by simp;omega,?_⟩;rw[fG U.len.symm];have:=aa M ((y-3,List.replicate i 0),(h,List.replicate i 0)) [] C (.tup [.int (y-3),.int C]) (some (.lst ((List.replicate i (0:Int)).map D.int))) w t U p5 (λ l h=>by cases h) (zb _ %[|0] %[|0]) (zb _ %[|0] %[|0]) af %[|0] aA (λ P _=>by show atC (h,List.replicate i 0) P-atC (y-3,List.replicate i 0) P≤_;rw[g8,g8];omega) (.inr ⟨y-3,C,rfl,%[|0],%[|0],%[|0],%[|0],by simp,λ P R=>by obtain⟨I,c,_,e,h3,h4⟩:=Nr R;rw[g8]at h3 h4;exact⟨I,c,e,h3,%[|0]⟩⟩) rfl z9 (.inl av) (.inl ae);rw[List.append_nil,List.map_append]at this;exact K _ _ this
    walk_at "b";refine⟨_,_,rfl,rfl,by simp;omega,?_⟩;walk_at "b";have bb:∀b:Bool,y-3≤y-3+(C:Int)*(if b=true then 1 else 0)/\y-3+(C:Int)*(if b=true then 1 else 0)≤y-3+C:=λ b=>by cases b<;>simp<;>omega
    refine⟨λ q=>?_,λ q=>?_⟩;{walk_at "b";obtain⟨g1,g2⟩:=bb true;generalize (y-3+(C:Int)*(if true=true then 1 else 0))=h at g1 g2 ⊢;refine⟨_,_,rfl,rfl,by simp;omega,?_⟩;walk_at "b";obtain⟨ds,Y,h2,h3⟩:=app h g1 g2;refine⟨ds,Y,h2,?_⟩;walk_at "b";exact h3};{walk_at "b";obtain⟨g1,g2⟩:=bb (decide (y-3<3));generalize (y-3+(C:Int)*(if decide (y-3<3)=true then 1 else 0))=h at g1 g2 ⊢;refine⟨_,_,rfl,rfl,by simp;omega,?_⟩;walk_at "b";obtain⟨ds,Y,h2,h3⟩:=app h g1 g2;refine⟨ds,Y,h2,?_⟩;walk_at "b";exact h3}
   have aw:0<i->∀r:DL.Fin,(∀G T,(bQ B o).wp G T Wf->r.nx G T)->(gV B o).wp [some (.loc k),some (.int m),some (.loc S.length),some (.int g),some bf,some (.int i),some (.int C),some (.int (y-3)),some (.int E),some (.lst ((List.replicate i (0:Int)).map D.int)),w,t] (M++[s.map dL]) r:=by
    intro aR r K;walk_at "b";refine⟨_,_,rfl,rfl,⟨%[|0],%[|0]⟩,by simp;omega,?_⟩;rw[zeros,Int.toNat_natCast];walk_at "b";refine aK ((p5.app _).app _) %[|3] %[|3] λ a T6 a0 a1 u6 p6=>?_;obtain⟨S6,rfl,u6,p6⟩:=u6.split2 p5;have u6:=U.trans u6;walk_at "n";obtain⟨z,g1,g2⟩:=iD (ds:=[D.int 1,.int (-1),.int 2,.int (-2)]) a0 a1;have hz:=y8 g2;obtain⟨c,rfl,aF,aG⟩:∃c:Int,z=.int c/\ -2≤c/\c≤2:=by simp only[List.mem_cons,List.not_mem_nil,or_false]at hz;rcases hz with rfl | rfl | rfl | rfl<;>exact⟨_,rfl,%[|3],%[|3]⟩
    refine⟨_,g1,?_⟩;walk_at "b";refine aK ((p6.app _).app _) %[|0] %[|0] λ j T7 j0 j1 u7 p7=>?_;obtain⟨S7,rfl,u7,p7⟩:=u7.split2 p6;have u7:=u6.trans u7;walk_at "n";obtain⟨jn,rfl⟩:∃jn:Nat,j=(jn:Int):=⟨j.toNat,%[|0]⟩;have aU:jn<i:=%[|0]
    have V:(M++[s.map dL]).length=(S7++[s.map dL]).length:=by simp[U.len,u7.len]
    refine⟨_,jn,bL V,?_,?_⟩;{unfold ixN;simp;omega};rw[fG V];have e1:((List.replicate i (0:Int)).map D.int).set jn (D.int c)=((List.replicate i (0:Int)).set jn c).map D.int:=by rw[List.map_set]
    rw[e1];have am:∀n∈(List.replicate i (0:Int)).set jn c,-2≤n/\n≤2:=λ n Z=>by rcases List.mem_or_eq_of_mem_set Z with Z | rfl;{have:=(List.mem_replicate.mp Z).2;omega};{exact⟨aF,aG⟩}
    have an:((List.replicate i (0:Int)).set jn c).length=i:=by simp
    generalize (List.replicate i (0:Int)).set jn c=ah at am an;have l7:(M++[s.map dL]).length=S.length+1:=by simp[U.len]
    rw[l7]at V ⊢;have ga:(S7++[s.map dL]++[ah.map D.int])[S.length+1]? =some (ah.map D.int):=bL V;walk_at "b";refine⟨_,_,rfl,ga,by simp;omega,?_⟩;walk_at "b";refine⟨_,_,rfl,ga,by simp;omega,?_⟩;walk_at "b";refine⟨_,cH u7.len.symm,by simp;omega,?_⟩;rw[dO u7.len.symm];walk_at "b";have:=aa S7 ((y-3,ah),(y-3+C,ah)) [ah.map D.int] C .non (some (.lst ((List.replicate i (0:Int)).map D.int))) (some (.loc (S.length+1))) t u7 p7 (λ l h=>by
     have:l=ah.map D.int:=by simpa using h
     subst this;exact bA _) ⟨an,by show-9≤y-3;omega,by show y-3≤9;omega,am⟩ ⟨an,by show-9≤y-3+C;omega,by show y-3+(C:Int)≤9;omega,am⟩ af %[|0] aA (λ P _=>by show atC (y-3+C,ah) P-atC (y-3,ah) P≤_;rw[Ky];omega) (.inl rfl) rfl z9 (.inr ⟨_,rfl,x6 _⟩) (.inl ae);rw[List.map_append]at this;exact K _ _ this
   have aB:∀O b1:Int,bf=.tup [.int O,.int b1]->E<2->b1≤g->∀r:DL.Fin,(∀G T,(bQ B o).wp G T Wf->r.nx G T)->(mV B o).wp [some (.loc k),some (.int m),some (.loc S.length),some (.int g),some bf,some (.int i),some (.int C),some (.int (y-3)),some (.int E),some (.lst ((List.replicate i (0:Int)).map D.int)),w,t] (M++[s.map dL]) r:=by
    intro O b1 aC aP aQ r K;subst aC;rcases Q with Q | ⟨c0,c1,e,q1,q2,q3,q4,q5,q6⟩;{cases Q};cases e;walk_at "b";refine⟨_,_,rfl,rfl,⟨%[|0],%[|0]⟩,by simp;omega,?_⟩;have aS:1≤i:=%[|0]
    have eA:(List.replicate ((i:Int)-1).toNat [D.int 0]).flatten++[D.int 1]=(List.replicate (i-1) (0:Int)++[1]).map D.int:=by rw[zeros,show((i:Int)-1).toNat=i-1 by omega,List.map_append];rfl
    have ai:(List.replicate (i-1) (0:Int)++[1]).length=i:=by simp;omega
    have ag:∀n∈List.replicate (i-1) (0:Int)++[1],-2≤n/\n≤2:=λ n Z=>by
     rcases ZK.mp Z with Z | Z;{have:=(List.mem_replicate.mp Z).2;omega}
     . have:n=1:=by simpa using Z
       omega
    have al:∀(a:Int)(I:%[|1])(c:Int),I++[c]∈cnt s->atC (a,List.replicate (i-1) (0:Int)++[1]) (I++[c])=a+c:=λ a I c h=>by have Y:=Ge s _ h;rw[v3,List.length_singleton]at Y;rw[show i-1=I.length by omega];exact Ld a I c
    generalize hAA:List.replicate (i-1) (0:Int)++[1]=A at eA ai ag al;obtain⟨X,rfl⟩:∃X:Nat,b1=(X:Int):=⟨b1.toNat,%[|0]⟩;have l5:(M++[s.map dL]).length=S.length+1:=by simp[U.len]
    walk_at "b";refine⟨_,_,rfl,rfl,by simp;omega,?_⟩;rw[eA];have ga:∀J,(M++[s.map dL]++[A.map D.int]++J)[S.length+1]? =some (A.map D.int):=λ J=>cH l5.symm;have aD:(M++[s.map dL]++[A.map D.int])[S.length+1]? =some (A.map D.int):=bL l5.symm;have l6:(M++[s.map dL]++[A.map D.int]).length=S.length+2:=by simp[U.len]
    walk_at "n";rw[l5];walk_at "b";refine⟨_,_,rfl,rfl,by simp;omega,?_⟩;walk_at "b";refine⟨_,_,rfl,aD,by simp;omega,?_⟩;walk_at "b";rw[l6];refine⟨_,_,rfl,ga _,by simp;omega,?_⟩;walk_at "b";refine⟨[O,(X:Int)],rfl,?_⟩;walk_at "b";refine⟨_,_,rfl,rfl,by simp;omega,?_⟩;walk_at "b";refine⟨_,bL l6.symm,by simp,?_⟩;rw[fG l6.symm];walk_at "n";have aL:[O,(X:Int)].sum=O+(X:Int):=by simp
    rw[aL];have ay:∀(l:Lp)(St:List D),aj St=true->BdF l.1 i->BdF l.2 i->(∀P∈cnt s,atC l.2 P-atC l.1 P≤(X:Int))->∃ds,(M++[s.map dL]++[A.map D.int]++[St])[S.length]? =some ds/\ds.length<1000000/\r.nx [some (.loc k),some (.int m),some (.loc S.length),some (.int g),some .non,some (.int i),some (.int X),some (.int (y-3)),some (.int E),some (.lst ((List.replicate i (0:Int)).map D.int)),some (.loc (S.length+1)),some (.loc (S.length+2))] ((M++[s.map dL]++[A.map D.int]++[St]).set S.length (ds++[dL l])):=by
     intro l St ad c1 c2 c3;have e2:∀L:List D,M++[L]++[A.map D.int]++[St]=M++[L]++[A.map D.int,St]:=λ L=>by simp
     rw[e2];refine⟨_,cH U.len.symm,by simp;omega,?_⟩;rw[dO U.len.symm];have:=aa M l [A.map D.int,St] X .non (some (.lst ((List.replicate i (0:Int)).map D.int))) (some (.loc (S.length+1))) (some (.loc (S.length+2))) U p5 (λ x h=>by
      rcases ZJ.mp h with rfl | h;{exact bA _}
      . have:x=St:=by simpa using h
        subst this;exact ad) c1 c2 %[|0] %[|0] %[|0] c3 (.inl rfl) rfl z9 (.inr ⟨_,rfl,x6 _⟩) (.inr ⟨_,rfl,Nat.le_succ _⟩);rw[List.map_append]at this;exact K _ _ this
    have ad:aj ([dL ((O,List.replicate i 0),(1,A))]++[dL ((0,A),(O+(X:Int),List.replicate i 0))])=true:=fO [_,_];have:E=0∨E=1:=%[|0]
    rcases this with rfl | rfl;{refine⟨_,dL ((O,List.replicate i 0),(1,A)),bL l6.symm,rfl,?_⟩;obtain⟨ds,Y,h2,h3⟩:=ay ((O,List.replicate i 0),(1,A)) _ ad (zb O %[|0] %[|0]) ⟨ai,(%[|3]:(-9:Int)≤1),(%[|3]:(1:Int)≤9),ag⟩ (λ P R=>by obtain⟨I,c,rfl,g1,g2⟩:=q6 P R;show atC (1,A) _-atC (O,List.replicate i 0) _≤_;rw[al _ _ _ R,g8];omega);refine⟨ds,Y,h2,?_⟩;walk_at "b";exact h3};{refine⟨_,dL ((0,A),(O+(X:Int),List.replicate i 0)),bL l6.symm,rfl,?_⟩;obtain⟨ds,Y,h2,h3⟩:=ay ((0,A),(O+(X:Int),List.replicate i 0)) _ ad ⟨ai,(%[|3]:(-9:Int)≤0),(%[|3]:(0:Int)≤9),ag⟩ (zb _ %[|0] %[|0]) (λ P R=>by obtain⟨I,c,rfl,g1,g2⟩:=q6 P R;show atC (O+(X:Int),List.replicate i 0) _-atC (0,A) _≤_;rw[al _ _ _ R,g8];omega);refine⟨ds,Y,h2,?_⟩;walk_at "b";exact h3}
   have ax:∀r:DL.Fin,(∀G T,(bQ B o).wp G T Wf->r.nx G T)->(eY (W8 (XD (Xk (Xg .Lt (b7 8) (jl 4)) (Xq (Xg .Gt (b7 5) (jl 0))))) (gV B o) (iu B o)) j4).wp [some (.loc k),some (.int m),some (.loc S.length),some (.int g),some bf,some (.int i),some (.int C),some (.int (y-3)),some (.int E),some (.lst ((List.replicate i (0:Int)).map D.int)),w,t] (M++[s.map dL]) r:=by intro r K;walk_at "b";refine⟨λ q=>?_,λ q=>⟨λ z=>ff z,λ _=>ac _ K⟩⟩;walk_at "b";refine⟨λ q2=>aw (by have:=ZF q2;omega) _ K,λ q2=>ac _ K⟩
   walk_at "b";refine⟨λ q=>?_,λ q=>⟨λ z=>ff z,λ _=>ax _ λ G T h=>h⟩⟩;have q:=ZF q;rcases Q with rfl | ⟨O,b1,rfl,hb⟩;{walk_at "b";refine⟨λ q=>?_,λ q=>⟨λ z=>ff z,λ _=>ac _ λ G T h=>h⟩⟩;walk_at "b";exact⟨λ q2=>aw (by have:=ZF q2;omega) _ λ G T h=>h,λ q2=>ac _ λ G T h=>h⟩};{walk_at "b";exact⟨λ q2=>aB O b1 rfl q (ZF q2) _ λ G T h=>h,λ q2=>ax _ λ G T h=>h⟩}
 {rintro aN T ⟨S2,s,g,bf,o5,o6,o7,o8,o9,w,t,rfl,u2,p2,ao,ap,az,as,Q,ar,_,rfl⟩;rw[aq]at ao;walk_at "b";refine⟨_,bL u2.len.symm,.inr ⟨[_],S2,rfl,by rw[u2.len];exact x6 _,fO s,u2.flat hS,hw s _ ⟨%[|0],%[|0],ap⟩ ?_ u2 p2 (u2.flat hS)⟩⟩;exact Nat.le_trans (Nat.le_mul_of_pos_right _ az) as}
theorem rN{e:Type}{enc:e->D}{P:e->Prop}:∀{ys:List D},(∀(i:Nat)(y:D),ys[i]? =some y->∃a,y=enc a/\P a)->∃as,ys=List.map enc as/\∀a∈as,P a
 | [],_=>⟨[],rfl,by simp⟩
 | y::ys,h=>by obtain⟨a,rfl,g⟩:=h 0 y rfl;obtain⟨as,rfl,c⟩:=rN (enc:=enc) (P:=P) (ys:=ys) λ i y f=>h (i+1) y (by simpa using f);exact⟨a::as,rfl,by intro b d;rcases ZJ.mp d with rfl | d;{exact g};{exact c b d}⟩
def TpB(ws:%[|1])(d t:Nat)(pl:List Fm):Prop:=∃w,ws[t]? =some w/\(pl.length:Int)=w/\∀f∈pl,FmB d 1 f
def RdB(ws:%[|1])(d:Nat)(r:Rd):Prop:= -1000000000000000000000000000000<r.fac/\r.fac<1000000000000000000000000000000/\TpB ws d r.tab r.pl
def StB(d:Nat)(f:Fm):Prop:=f.2.length=d/\K4 f.2/\ -1000000000000000000000000000000<f.1/\f.1<1000000000000000000000000000000
def DdB(ws:%[|1])(d:Nat)(x:Dd):Prop:=TpB ws d x.tab x.pl/\StB d x.st/\x.rds.length≤3/\∀r∈x.rds,RdB ws d r
def WsB(ws:%[|1]):Prop:=1≤ws.length/\ws.length≤3/\∀w∈ws,1≤w/\w≤2
inductive c_deedB(ds:List D)(S:Store)(W:WD):Prop
 | mk(k d:Nat)(ws:%[|1]):ds=[.loc k,dWs ws,.int d]->aH S k->flat S->d≤10->WsB ws->(∀x S',DdB ws d x->aO S k S'->aH S' k->flat S'->W (dDd x) S')->c_deedB ds S W
theorem Og{t:Int}(hw:WsB ws)(c:0≤t)(h1:t<(ws.map D.int).length):∃w:Int,atI (ws.map D.int) t=some (.int w)/\ws[t.toNat]? =some w/\1≤w/\w≤2:=by
 obtain⟨x,a,b⟩:=iD c h1;rw[x5]at b
 cases e:ws[t.toNat]? with
 | none=>rw[e]at b;cases b
 | some w=>rw[e]at b;cases b;exact⟨w,a,rfl,hw.2.2 w (y8 e)⟩
theorem yh(a:List Fm):ak (dP a)=true:=by
 show aj (a.map dF)=true
 induction a with
 | nil=>rfl
 | cons y c b=>simp only[List.map_cons,aj,b,fj,Bool.and_true]
theorem rG(rs:List Rd):aj (rs.map dRd)=true:=by
 induction rs with
 | nil=>rfl
 | cons y b a=>simp only[List.map_cons,aj,a,Bool.and_true];show aj [D.int _,D.int _,dP y.pl]=true;simp only[aj,yh,Bool.and_true];rfl
theorem vU(x:Dd):ak (dDd x)=true:=by show aj [D.int _,dP x.pl,dF x.st,.tup (x.rds.map dRd)]=true;have:ak (.tup (x.rds.map dRd))=true:=rG x.rds;simp only[aj,yh,fj,this,Bool.and_true];rfl
theorem xm:(10:Int) ^ (30:Int).toNat=1000000000000000000000000000000:=%[|3]
inductive DeedI(S:Store)(k d:Nat)(ws:%[|1])(t:Int)(pl:List Fm)(st:Fm)(i:Nat)(Γ':Gam)(T:Store):Prop
 | mk(S2 rds o7 o8 o9 o10:_):T=S2++[List.map dRd rds]->aO S k S2->aH S2 k->rds.length=i->(∀r∈rds,RdB ws d r)->Γ'=[some (.loc k),some (dWs ws),some (.int d),some (.int t),some (.tup (pl.map dF)),some (dF st),some (.loc S.length),o7,o8,o9,o10]->DeedI S k d ws t pl st i Γ' T
theorem J9(F:Fun Ω.K "_law_deed" "_law_deed" qb f fd)(N0:Ω.cd=none)(B:Bi Ω.mg)(g:Cal Ω "_law_take" 2 2 c_takeB)(C:Cal Ω "_law_form" 3 3 c_formB):Ok Ω 4 f fd La c_deedB:=by
 refine au N0 (N:=Nh) F (Bl.drp (Ni B g C)) (by kernel_rfl!) ?_;rintro ds S W ⟨k,d,X,rfl,hp,Z,hd,L,hw⟩ hl;obtain⟨ao,ap,ar⟩:=id L;walk_at "b";have b:((X.map D.int).length:Int)=(X.length:Int):=by rw[x4]
 refine aK hp (by rw[b];omega) (by rw[b];omega) λ t S1 t0 t1 u1 p1=>?_;obtain⟨w,g1,g2,am,an⟩:=Og L t0 t1;walk_at "n";refine⟨_,g1,?_⟩;walk_at "b";refine⟨⟨%[|0],%[|0]⟩,mz (λ _ y=>∃f,y=dF f/\FmB d 1 f) (λ l=>aO S k l/\aH l k/\flat l) (by rw[aq];omega) ⟨u1,p1,u1.flat Z⟩ ?_ ?_⟩;{rintro i e l he ⟨u,p,f⟩ R hR;walk_at "b";exact⟨rfl,k,d,1,rfl,p,f,hd,%[|3],%[|3],λ f S4 hf A p4 f4=>hR _ _ ⟨f,rfl,hf⟩ ⟨u.trans A,p4,f4⟩⟩};rintro ys S2 M O ⟨u2,p2,f2⟩;obtain⟨m,rfl,ah⟩:=rN O;rw[aq,x4]at M;walk_at "b";rw[xm];refine aK p2 %[|3] %[|3] λ s S3 s0 s1 u3 p3=>?_;walk_at "n";obtain⟨z,h1,h2⟩:=iD (ds:=[D.int 1,.int 9,.int (1000000000000000000000000000000-1)]) s0 s1;have hz:=y8 h2;obtain⟨c,rfl,H,I⟩:∃c:Int,z=.int c/\1≤c/\c<1000000000000000000000000000000:=by simp only[List.mem_cons,List.not_mem_nil,or_false]at hz;rcases hz with rfl | rfl | rfl<;>exact⟨_,rfl,%[|3],%[|3]⟩
 refine⟨_,h1,?_⟩;have u3:=u2.trans u3;walk_at "b";refine⟨rfl,k,d,c,rfl,p3,u3.flat Z,hd,H,I,λ st S4 hst A p4 f4=>?_⟩;have A:=u3.trans A;walk_at "b";refine aK (p4.app _) %[|3] %[|3] λ n T n0 n1 U p5=>?_;obtain⟨S5,rfl,U,p5⟩:=U.split p4;have U:=A.trans U;walk_at "n";refine⟨⟨%[|0],%[|0]⟩,cF ⟨DeedI S k d X t m st,⟨S5,[],none,none,none,none,rfl,U,p5,rfl,λ r h=>(by cases h),by rw[←A.len];rfl⟩,?_,?_⟩⟩
 . rintro i e aj T he ⟨S6,a,o7,o8,o9,ab,rfl,V,p6,K,J,rfl⟩;obtain⟨hi,rfl⟩:=bN he;suffices body:∀Wf:DL.Fin,(∀G T,DeedI S k d X t m st (i+1) G T->Wf.nx G T)->(pG B g C).wp [some (.loc k),some (dWs X),some (.int d),some (.int t),some (.tup (m.map dF)),some (dF st),some (.loc S.length),some (.int (0+(i:Int))),o8,o9,ab] (S6++[a.map dRd]) Wf by refine qI ?_;simp only[List.set_cons_succ,List.set_cons_zero];exact body _ λ G T h=>h
   intro Wf ag;walk_at "b";refine aK (p6.app _) (by rw[b];omega) (by rw[b];omega) λ o T7 o0 o1 u7 p7=>?_;obtain⟨S7,rfl,u7,p7⟩:=u7.split p6;have u7:=V.trans u7;obtain⟨w',ae,af,ak,al⟩:=Og L o0 o1;walk_at "b";refine aK (p7.app _) %[|3] %[|3] λ ac T8 w0 w1 Y p8=>?_;obtain⟨S8,rfl,Y,p8⟩:=Y.split p7;have Y:=u7.trans Y;have x:∀(c:Int)(E:Store),aO S k E->aH E k-> -1000000000000000000000000000000<c->c<1000000000000000000000000000000->(lD B g C).wp [some (.loc k),some (dWs X),some (.int d),some (.int t),some (.tup (m.map dF)),some (dF st),some (.loc S.length),some (.int (0+(i:Int))),some (.int o),some (.int ac),some (.int c)] (E++[a.map dRd]) Wf:=by
    intro c E u9 p9 c1 c2;walk_at "n";refine⟨_,ae,?_⟩;walk_at "b";refine⟨⟨%[|0],%[|0]⟩,mz (λ _ y=>∃f,y=dF f/\FmB d 1 f) (λ T=>∃l,T=l++[a.map dRd]/\aO S k l/\aH l k) (by rw[aq];omega) ⟨E,rfl,u9,p9⟩ ?_ ?_⟩;{rintro j e T he ⟨l,rfl,u,p⟩ R hR;walk_at "b";refine⟨rfl,k,d,1,rfl,p.app _,dI (u.flat Z) (rG _),hd,%[|3],%[|3],λ f S4 hf A p4 f4=>?_⟩;obtain⟨S5,rfl,U,p5⟩:=A.split p;exact hR _ _ ⟨f,rfl,hf⟩ ⟨S5,rfl,u.trans U,p5⟩};rintro ys T M O ⟨ad,rfl,Q,ai⟩;obtain⟨P,rfl,aa⟩:=rN O;rw[aq,x4]at M;walk_at "b";refine⟨_,bL Q.len.symm,by simp;omega,?_⟩;rw[fG Q.len.symm];obtain⟨on,rfl⟩:∃on:Nat,o=(on:Int):=⟨o.toNat,%[|0]⟩;refine ag _ _ ⟨ad,a++[⟨c,on,P⟩],some (.int (0+(i:Int))),some (.int on),some (.int ac),some (.int c),by rw[List.map_append];rfl,Q,ai,by simp[K],λ r hr=>?_,rfl⟩;rcases ZK.mp hr with hr | hr;{exact J r hr}
    . have:r=⟨c,on,P⟩:=by simpa using hr
      subst this;exact⟨c1,c2,w',by simpa using af,by show(P.length:Int)=w';omega,aa⟩
   walk_at "n";obtain⟨z,h1,h2⟩:=iD (ds:=[D.int 1,.int (-1),.int 2,.int 3,.int 0,.int 1,.int (-5),.int 0]) w0 w1;have hz:=y8 h2;obtain⟨c,rfl,H,I⟩:∃c:Int,z=.int c/\ -1000000000000000000000000000000<c/\c<1000000000000000000000000000000:=by simp only[List.mem_cons,List.not_mem_nil,or_false]at hz;rcases hz with rfl | rfl | rfl | rfl | rfl | rfl | rfl | rfl<;>exact⟨_,rfl,%[|3],%[|3]⟩
   refine⟨(%[|3]:(8:Nat)≤1000000),?_⟩;walk_at "n";refine⟨_,h1,?_⟩;walk_at "b";refine⟨λ q=>?_,λ q=>x c S8 Y p8 H I⟩;walk_at "b";rw[xm];refine aK (p8.app _) %[|3] %[|3] λ v T9 v0 v1 u9 p9=>?_;obtain⟨E,rfl,u9,p9⟩:=u9.split p8;walk_at "b";rw[xm];exact x _ E (Y.trans u9) p9 %[|0] %[|0]
 {rintro aj T ⟨S6,a,o7,o8,o9,ab,rfl,V,p6,K,J,rfl⟩;rw[aq]at K;obtain⟨tn,rfl⟩:∃tn:Nat,t=(tn:Int):=⟨t.toNat,%[|0]⟩;walk_at "b";refine⟨_,bL V.len.symm,?_⟩;walk_at "b";have ok:DdB X d ⟨tn,m,st,a⟩:=⟨⟨w,by simpa using g2,by show(m.length:Int)=w;omega,ah⟩,⟨hst.1,hst.2.1,by have:=hst.2.2;show _<st.1;omega,by have:=hst.2.2;show st.1<_;omega⟩,by show a.length≤3;omega,J⟩;exact .inr ⟨[_],S6,rfl,by rw[V.len];exact x6 _,vU ⟨tn,m,st,a⟩,V.flat Z,hw ⟨tn,m,st,a⟩ _ ok V p6 (V.flat Z)⟩}
def NsB(ws:%[|1])(m:Nat)(n:Ns):Prop:=Lps n.lps/\1≤n.dds.length/\n.dds.length≤4/\(cnt n.lps).length≤max 1 (m/n.dds.length)/\∀x∈n.dds,DdB ws n.lps.length x
def PgB(m:Nat)(p:Pg):Prop:=WsB p.ws/\1≤p.nss.length/\p.nss.length≤3/\∀n∈p.nss,NsB p.ws (m/p.nss.length) n
inductive c_progB(ds:List D)(S:Store)(W:WD):Prop
 | mk(k m:Nat):ds=[.loc k,.int m]->aH S k->flat S->12≤m->m≤60->(∀p S',PgB m p->aO S k S'->aH S' k->flat S'->W (dPg p) S')->c_progB ds S W
theorem Hz(xs:List Dd):aj (xs.map dDd)=true:=by
 induction xs with
 | nil=>rfl
 | cons y b a=>simp only[List.map_cons,aj,a,vU,Bool.and_true]
theorem JC(n:Ns):ak (dNs n)=true:=by show aj [.tup (n.lps.map dL),.tup (n.dds.map dDd)]=true;have a:ak (.tup (n.lps.map dL))=true:=fO _;have b:ak (.tup (n.dds.map dDd))=true:=Hz _;simp only[aj,a,b,Bool.and_true]
theorem lw(xs:List Ns):aj (xs.map dNs)=true:=by
 induction xs with
 | nil=>rfl
 | cons y b a=>simp only[List.map_cons,aj,a,JC,Bool.and_true]
theorem mq(p:Pg):ak (dPg p)=true:=by show aj [dWs p.ws,.tup (p.nss.map dNs)]=true;have a:ak (dWs p.ws)=true:=bA _;have b:ak (.tup (p.nss.map dNs))=true:=lw _;simp only[aj,a,b,Bool.and_true]
inductive ProgI(S:Store)(k m:Nat)(ws:%[|1])(many:Nat)(i:Nat)(Γ':Gam)(T:Store):Prop
 | mk(S2 nss o5 o6 o7:_):T=S2++[List.map dNs nss]->aO S k S2->aH S2 k->nss.length=i->(∀n∈nss,NsB ws (m/many) n)->Γ'=[some (.loc k),some (.int m),some (dWs ws),some (.int many),some (.loc S.length),o5,o6,o7]->ProgI S k m ws many i Γ' T
theorem xR(F:Fun Ω.K "_law_program" "_law_program" jj f fd)(N0:Ω.cd=none)(B:Bi Ω.mg)(o:Cal Ω "_law_take" 2 2 c_takeB)(I:Cal Ω "_law_loops" 3 2 c_loopsB)(H:Cal Ω "_law_deed" 4 3 c_deedB):Ok Ω 5 f fd Cj c_progB:=by
 refine au N0 (N:=CQ) F (Bl.drp (Dl B o I H)) (by kernel_rfl!) ?_;rintro ds S W ⟨k,m,rfl,hp,U,ag,ab,hw⟩ hl;walk_at "b";refine aK hp %[|3] %[|3] λ v S1 v0 v1 u1 p1=>?_;walk_at "b";refine⟨⟨%[|0],%[|0]⟩,mz (λ _ y=>∃n:Int,y=.int n/\(1≤n/\n≤2)) (λ q=>aO S k q/\aH q k) (by rw[aq];omega) ⟨u1,p1⟩ ?_ ?_⟩;{rintro i d q hd ⟨u,p⟩ R Y;walk_at "b";refine aK p %[|3] %[|3] λ w S2 w0 w1 u2 p2=>?_;walk_at "b";exact Y _ _ ⟨_,rfl,%[|0],%[|0]⟩ ⟨u.trans u2,p2⟩};rintro ys S2 D E ⟨u2,p2⟩;obtain⟨g,rfl,ad⟩:=qt E;rw[aq,x4]at D;have hW:WsB g:=⟨%[|0],%[|0],ad⟩;walk_at "b";refine aK p2 %[|3] %[|3] λ mv S3 m0 m1 V p3=>?_;have V:=u2.trans V;obtain⟨a,z⟩:∃n:Nat,1+mv=(n:Int):=⟨(1+mv).toNat,%[|0]⟩;walk_at "b";rw[z];refine⟨⟨%[|0],%[|0]⟩,cF ⟨ProgI S k m g a,⟨S3,[],none,none,none,rfl,V,p3,rfl,λ r h=>(by cases h),by rw[←V.len];rfl⟩,?_,?_⟩⟩
 . rintro i e ae T he ⟨Q,b,o5,o6,o7,rfl,l,M,A,C,rfl⟩;obtain⟨hi,rfl⟩:=bN he;suffices body:∀X:DL.Fin,(∀G T,ProgI S k m g a (i+1) G T->X.nx G T)->(jC B o I H).wp [some (.loc k),some (.int m),some (dWs g),some (.int a),some (.loc S.length),some (.int (0+(i:Int))),o6,o7] (Q++[b.map dNs]) X by refine qI ?_;simp only[List.set_cons_succ,List.set_cons_zero];exact body _ λ G T h=>h
   intro X ac;walk_at "b";refine aK (M.app _) %[|3] %[|3] λ dv T5 d0 d1 s O=>?_;obtain⟨S5,rfl,s,O⟩:=s.split M;have s:=l.trans s;obtain⟨t,aa⟩:∃n:Nat,1+dv=(n:Int):=⟨(1+dv).toNat,%[|0]⟩;walk_at "b";rw[aa];have em:(if(m:Int)/(a:Int)/(t:Int)>1 then(m:Int)/(a:Int)/(t:Int)else 1)=((max 1 (m/a/t):Nat):Int):=by rw[←Int.natCast_ediv,←Int.natCast_ediv];split<;>omega
   have af:m/a/t≤60:=Nat.le_trans (Nat.div_le_self _ _) (Nat.le_trans (Nat.div_le_self _ _) ab);rw[em];refine⟨rfl,k,max 1 (m/a/t),rfl,O.app _,dI (s.flat U) (lw _),%[|0],%[|0],λ L T6 hls Z P p6 f6=>?_⟩;obtain⟨S6,rfl,P,p6⟩:=P.split O;have P:=s.trans P;walk_at "b";have l3:=hls.2.1;refine⟨⟨%[|0],%[|0]⟩,mz (λ _ y=>∃x,y=dDd x/\DdB g L.length x) (λ T=>∃q,T=q++[b.map dNs]/\aO S k q/\aH q k) (by rw[aq];omega) ⟨S6,rfl,P,p6⟩ ?_ ?_⟩;{rintro j e T he ⟨q,rfl,u,p⟩ R Y;walk_at "b";rw[x4];refine⟨rfl,k,L.length,g,rfl,p.app _,dI (u.flat U) (lw _),%[|0],hW,λ f Q hf l M f4=>?_⟩;obtain⟨S5,rfl,s,O⟩:=l.split p;exact Y _ _ ⟨f,rfl,hf⟩ ⟨S5,rfl,u.trans s,O⟩};rintro ys T D E ⟨S7,rfl,u7,p7⟩;obtain⟨c,rfl,J⟩:=rN E;rw[aq,x4]at D;walk_at "b";refine⟨_,bL u7.len.symm,by simp;omega,?_⟩;rw[fG u7.len.symm];refine ac _ _ ⟨S7,b++[⟨L,c⟩],some (.int (0+(i:Int))),some (.int t),some (.tup (L.map dL)),by rw[List.map_append];rfl,u7,p7,by simp[A],λ r K=>?_,rfl⟩;rcases ZK.mp K with K | K;{exact C r K}
   . have:r=⟨L,c⟩:=by simpa using K
     subst this;have e:c.length=t:=%[|0]
     exact⟨hls,by show 1≤c.length;omega,by show c.length≤4;omega,by show _≤max 1 (m/a/c.length);rw[e];exact Z,J⟩
 {rintro ae T ⟨Q,b,o5,o6,o7,rfl,l,M,A,C,rfl⟩;rw[aq]at A;walk_at "b";refine⟨_,bL l.len.symm,?_⟩;walk_at "b";have ok:PgB m ⟨g,b⟩:=⟨hW,by show 1≤b.length;omega,by show b.length≤3;omega,λ n hn=>by show NsB g (m/b.length) n;rw[show b.length=a by omega];exact C n hn⟩;exact .inr ⟨[_],Q,rfl,by rw[l.len];exact x6 _,mq ⟨g,b⟩,l.flat U,hw ⟨g,b⟩ _ ok l M (l.flat U)⟩}
inductive c_atB(ds:List D)(S:Store)(W:WD):Prop
 | mk(f:Fm)(cs:%[|1]):ds=[dF f,dC cs]->f.2.length=cs.length->cs.length≤10->C64 cs->W (.int (atC f cs)) S->c_atB ds S W
def rC(fs cs:%[|1]):D->D
 | .int i=>.int (fs.getD i.toNat 0*cs.getD i.toNat 0)
 | d=>d
theorem JN{fs:%[|1]}(h:fs.length=cs.length):(DL.upTo 0 cs.length).map (rC fs cs)=(List.zipWith (λ a b=>a*b) fs cs).map D.int:=by
 refine List.ext_getElem (by simp[h,aq]) λ i c f=>?_;have e:i<cs.length:=by simpa[aq]using c
 have d:i<fs.length:=%[|0]
 simp[DL.upTo,rC,List.getD,e,d]
theorem Qh(F:Fun Ω.K "_law_at" "_law_at" xG f fd)(l:Ω.cd=none)(B:Bi Ω.mg):Ok Ω 1 f fd TY c_atB:=by
 refine au l (N:=RN) F (Ug B) (by kernel_rfl!) ?_;rintro t S W ⟨⟨a,c⟩,b,rfl,g,v,p,s⟩ u;dsimp only at g;walk_at "b";refine⟨_,cL (j:=0) rfl,?_⟩;walk_at "b";have m:((b.map D.int).length:Int).toNat=b.length:=by simp
 refine⟨⟨%[|0],by simp;omega⟩,?_⟩;rw[m];refine dH (rC c b) (by rw[aq];omega) ?_ ?_
 . intro i e r Q k;obtain⟨h,rfl⟩:=bN r;have d:i<c.length:=%[|0]
   have n:atI (D.int a::c.map D.int) (1+(0+(i:Int)))=some (.int c[i]):=by
    have:(1+(0+(i:Int)))=((i+1:Nat):Int):=%[|0]
    rw[this];exact cL (by simp[d])
   have o:atI (b.map D.int) (0+(i:Int))=some (.int b[i]):=by
    have:(0+(i:Int))=((i:Nat):Int):=%[|0]
    rw[this];exact cL (by simp[h])
   have q:=p b[i] (List.getElem_mem _);walk_at "b";refine⟨_,n,?_⟩;walk_at "b";refine⟨_,o,?_⟩;walk_at "b";have e:rC c b (.int (0+(i:Int)))=.int (c[i]*b[i]):=by
    have:(0+(i:Int)).toNat=i:=%[|0]
    simp[rC,List.getD,h,d]
   rw[e]at k;exact k
 {rw[JN g];refine⟨_,rfl,?_⟩;walk_at "b";exact s}
inductive c_spotB(ds:List D)(S:Store)(W:WD):Prop
 | mk(t:Nat)(pl:List Fm)(cs:%[|1]):ds=[.int t,dP pl,dC cs]->pl.length≤1000->(∀f∈pl,f.2.length=cs.length)->cs.length≤10->C64 cs->W (aW (spot t pl cs)) S->c_spotB ds S W
theorem Jd(F:Fun Ω.K "_law_spot" "_law_spot" pO f fd)(k:Ω.cd=none)(B:Bi Ω.mg)(b:Cal Ω "_law_at" 1 2 c_atB):Ok Ω 2 f fd M9 c_spotB:=by
 refine au k (N:=Ml) F (Mj B b) (by kernel_rfl!) ?_;rintro o S W ⟨t,j,a,rfl,m,g,c,d,h⟩ p;walk_at "b";refine jx (λ f=>.int (atC f a)) %[|0] ?_ ?_;{intro i f l Q n;walk_at "b";exact⟨rfl,f,a,rfl,g f (y8 l),c,d,n⟩}
 . walk_at "b";have e:(spot t j a).2.map D.int=j.map λ f=>D.int (atC f a):=by unfold spot;rw[List.map_map];rfl
   unfold aW at h;rw[e]at h;exact h
theorem Cs.c64(h:Cs i cs):C64 cs:=λ c a=>by have:=h.2 c a;have:=sO i;omega
inductive c_cntB(ds:List D)(S:Store)(W:WD):Prop
 | mk(ls:_):ds=[.tup (List.map dL ls)]->Lps ls->flat S->W (.lst ((cnt ls).map dC)) S->c_cntB ds S W
theorem yX{o:Option D}(h:nlO o):ud k ds o=o:=by
 cases o with
 | none=>rfl
 | some d=>
   cases d with
   | loc j=>have:=h _ rfl;simp[ak]at this
   | _=>rfl
theorem Lw(cs:%[|1]):ak (dC cs)=true:=bA cs
theorem CZ(F:Fun Ω.K "_law_counts" "_law_counts" j8 f fd)(K:Ω.cd=none)(B:Bi Ω.mg)(w:Cal Ω "_law_at" 1 2 c_atB):Ok Ω 2 f fd GP c_cntB:=by
 refine au K (N:=Hb) F (Ha B w) (by kernel_rfl!) ?_;rintro ds S W ⟨r,rfl,hL,P,R⟩ hl;walk_at "b";refine bZ (λ i a p=>(∃H I J n g,a=[some (.tup (r.map dL)),some (.lst ((cnt (r.take i)).map dC)),H,I,J,n,g]/\nlO n/\nlO g)/\p=S) ⟨⟨_,_,_,_,_,rfl,cQ,cQ⟩,rfl⟩ ?_ ?_
 . rintro U z i e a p o ⟨⟨H,I,J,n,g,rfl,s,k⟩,rfl⟩;rw[x5]at o
   cases t:r[i]? with
   | none=>rw[t]at o;cases o
   | some l=>
     rw[t]at o;cases o;have hi:=(z0.mp t).1;have h3:=hL.2.1;obtain⟨lo,hi_⟩:=l;obtain⟨b1,b2⟩:=hL.2.2 i _ t;dsimp only at b1 b2;have E:=jL hL i %[|0];have v:=(hL.fits.2 (i+1) %[|0]).1;have q:=kO t;rw[q]at v;dsimp only at q v;generalize hG:cnt (r.take i)=G at*;walk_at "b";refine⟨rfl,?_⟩;walk_at "b";refine bZ (λ m a T=>(∃n g,a=[some (.tup (r.map dL)),some (.lst (G.map dC)),some (dF lo),some (dF hi_),some (.loc p.length),n,g]/\nlO n/\nlO g)/\T=p++[(aP lo hi_ (G.take m)).map dC]) ⟨⟨_,_,rfl,s,k⟩,rfl⟩ ?_ ?_
     . rintro V A m e a T o ⟨⟨n,g,rfl,s,k⟩,rfl⟩;obtain⟨b,y,rfl⟩:=aR o;have hc:=E b (y8 y);have hb:=sO (i+1);have Y:=jG %[|0] b1 hc;have Z:=jG %[|0] b2 hc;have lf:=zu (lo:=lo) (hi:=hi_) y;walk_at "b";refine⟨rfl,lo,b,rfl,by rw[b1.1,hc.1],by rw[hc.1];omega,hc.c64,?_⟩;walk_at "b";refine⟨rfl,hi_,b,rfl,by rw[b2.1,hc.1],by rw[hc.1];omega,hc.c64,?_⟩;walk_at "b";refine⟨⟨%[|0],%[|0],%[|0],%[|0]⟩,bZ (λ j a T=>(∃g,a=[some (.tup (r.map dL)),some (.lst (G.map dC)),some (dF lo),some (dF hi_),some (.loc p.length),some (dC b),g]/\nlO g)/\T=p++[(aP lo hi_ (G.take m)++(bj lo hi_ b).take j).map dC]) ⟨⟨_,rfl,k⟩,by simp⟩ ?_ ?_⟩
       . rintro X C j e a T o ⟨⟨g,rfl,k⟩,rfl⟩;obtain⟨Q,rfl⟩:=bN o;have u:j<(bj lo hi_ b).length:=by rw[cN];exact Q
         walk_at "b";refine⟨by rw[x4,hc.1,List.length_singleton];omega,_,bC _ _,by rw[x4,v3,List.length_take];omega,?_⟩;refine C _ _ _ ⟨⟨_,rfl,jJ _⟩,?_⟩;rw[cP];have L:(bj lo hi_ b)[j]? =some (b++[atC lo b+(j:Int)]):=by unfold bj;rw[x5,Em (by rw[cN]at u;exact u)];rfl
         have M:dC (b++[atC lo b+(j:Int)])=D.tup (b.map D.int++[D.int (atC lo b+(j:Int))]):=by unfold dC;rw[List.map_append];rfl
         rw[aA L,←List.append_assoc,List.map_append (l₂:=[_]),List.map_singleton,M]
       . rintro a T ⟨⟨g,rfl,k⟩,rfl⟩;refine A _ _ _ ⟨⟨_,_,rfl,λ d h=>by cases h;exact Lw b,k⟩,?_⟩;have O:(bj lo hi_ b).take (DL.upTo (atC lo b) (atC hi_ b-atC lo b).toNat).length=bj lo hi_ b:=by rw[aq];exact List.take_of_length_le (by rw[cN];exact x6 _)
         rw[O,gY y]
     . rintro a T ⟨⟨n,g,rfl,s,k⟩,rfl⟩;rw[x4,List.take_length,←q];walk_at "b";refine .inr ⟨_,_,rfl,x6 _,mW _,P,?_,z _ _ _ ⟨⟨some (dF lo),some (dF hi_),some (.lst ((cnt (r.take (i+1))).map dC)),n,g,?_,s,k⟩,rfl⟩⟩
       . intro x d c;match x,c with
         | 0,c=>cases c;exact .inl (fO _)
         | 1,c=>cases c;exact .inr ⟨_,rfl⟩
         | 2,c=>cases c;exact .inl (fj _)
         | 3,c=>cases c;exact .inl (fj _)
         | 4,c=>cases c;exact .inr ⟨_,rfl⟩
         | 5,c=>exact .inl (s d (by simpa using c))
         | 6,c=>exact .inl (k d (by simpa using c))
         | x+7,c=>simp at c
       {show[_,_,_,_,_,_,_]=[_,_,_,_,_,_,_];rw[yX s,yX k];simp[ud,dF]}
 {rintro a p ⟨⟨H,I,J,n,g,rfl,s,k⟩,rfl⟩;rw[x4,List.take_length];walk_at "b";exact R}
def dPt(cs:%[|1])(r:Rd):D:=.tup [.int r.fac,aW (spot r.tab r.pl cs)]
def eF(cs:%[|1])(x:Dd):D:=.tup [aW (spot x.tab x.pl cs),.int (atC x.st cs),.lst (x.rds.map (dPt cs))]
def qj(n:Ns):List D:=(cnt n.lps).flatMap λ a=>n.dds.map (eF a)
def ju(p:Pg):List D:=p.nss.flatMap qj
inductive c_stepsB(ds:List D)(S:Store)(W:WD):Prop
 | mk(p:Pg)(m:Nat):ds=[dPg p]->PgB m p->m≤60->flat S->hand W (ju p) S->c_stepsB ds S W
theorem qU{c e:Type}{f:c->List e}{b:Nat}:∀{l:List c},(∀a∈l,(f a).length≤b)->(l.flatMap f).length≤l.length*b
 | [],_=>by simp
 | a::l,h=>by have g:=qU (l:=l) λ x d=>h x (x8 _ d);have:=h a w9;rw[List.flatMap_cons,v3,List.length_cons,Nat.succ_mul];omega
theorem pg(c:Cell):ak (aW c)=true:=by have h:ak (.tup (c.2.map D.int))=true:=bA _;show aj [D.int _,.tup (c.2.map D.int)]=true;simp only[aj,h,Bool.and_true];rfl
theorem jT{b:Type}{f:b->D}(h:∀a,ak (f a)=true):∀l:List b,aj (l.map f)=true
 | []=>rfl
 | a::l=>by simp only[List.map_cons,aj,h,jT h l,Bool.and_true]
theorem IW(cs:%[|1])(r:Rd):ak (dPt cs r)=true:=by show aj [D.int _,aW _]=true;simp only[aj,pg,Bool.and_true];rfl
theorem sI(cs:%[|1])(x:Dd):ak (eF cs x)=true:=by have h:ak (.lst (x.rds.map (dPt cs)))=true:=jT (IW cs) _;show aj [aW _,D.int _,.lst (x.rds.map (dPt cs))]=true;simp only[aj,pg,h,Bool.and_true];rfl
theorem jX:∀{l:List D},(∀d∈l,ak d=true)->aj l=true
 | [],_=>rfl
 | d::l,h=>by simp only[aj,h d w9,jX λ x a=>h x (x8 _ a),Bool.and_true]
theorem pD(p:Pg):aj (ju p)=true:=jX λ d a=>by obtain⟨n,_,a⟩:=List.mem_flatMap.mp a;obtain⟨b,_,a⟩:=List.mem_flatMap.mp a;obtain⟨x,_,rfl⟩:=ZO.mp a;exact sI b x
theorem Ew{b c:Type}{f:b->List c}{l:List b}{a:b}(h:l[i]? =some a):(l.take (i+1)).flatMap f=(l.take i).flatMap f++f a:=by rw[aA h,List.flatMap_append];simp
theorem GC(F:Fun Ω.K "_law_steps" "_law_steps" nF f fd)(N0:Ω.cd=none)(L:Cal Ω "_law_at" 1 2 c_atB)(M:Cal Ω "_law_counts" 2 1 c_cntB)(D:Cal Ω "_law_spot" 2 3 c_spotB):Ok Ω 3 f fd Jv c_stepsB:=by
 refine au N0 (N:=Iv) F (Bl.frz (Jr L M D)) (by kernel_rfl!) ?_;rintro ds S W ⟨p,m,rfl,hP,hm,hS,Y⟩ hl;obtain⟨hW,aa,ab,J⟩:=hP;have E:∀n∈p.nss,(cnt n.lps).length≤60/\n.dds.length≤4:=λ n v=>by obtain⟨_,_,h4,hc,_⟩:=J n v;have h1:m/p.nss.length/n.dds.length≤60:=Nat.le_trans (Nat.div_le_self _ _) (Nat.le_trans (Nat.div_le_self _ _) hm);exact⟨%[|0],h4⟩
 have b1:∀(n:Ns)(j:Nat),n∈p.nss->(((cnt n.lps).take j).flatMap λ c=>n.dds.map (eF c)).length≤240:=λ n j v=>by obtain⟨h1,h2⟩:=E n v;have:=qU (l:=(cnt n.lps).take j) (f:=λ c=>n.dds.map (eF c)) (b:=4) (λ c _=>by rw[x4];exact h2);rw[List.length_take]at this;omega
 have b2:∀i:Nat,((p.nss.take i).flatMap qj).length≤720:=λ i=>by have:=qU (l:=p.nss.take i) (f:=qj) (b:=240) (λ n v=>by have:=b1 n (cnt n.lps).length (List.mem_of_mem_take v);rw[List.take_length]at this;exact this);rw[List.length_take]at this;omega
 walk_at "b";refine bZ (λ i a g=>(∃o2 o3 C k o q s u,a=[some (dPg p),some (.loc S.length),o2,o3,C,k,o,q,s,u])/\g=S++[(p.nss.take i).flatMap qj]) ⟨⟨_,_,_,_,_,_,_,_,rfl⟩,rfl⟩ ?_ ?_
 . rintro I1 O i e a g I ⟨⟨o2,o3,C,k,o,q,s,u,rfl⟩,rfl⟩;obtain⟨n,v,rfl⟩:=aR I;have B:=y8 v;obtain⟨hL,d1,d4,hc,T⟩:=J n B;obtain⟨g1,g2⟩:=E n B;have gb:=b2 i;walk_at "b";refine⟨rfl,?_⟩;walk_at "b";refine⟨rfl,n.lps,rfl,hL,dI hS ?_,?_⟩;{exact jX λ d H=>by obtain⟨n,_,H⟩:=List.mem_flatMap.mp H;obtain⟨c,_,H⟩:=List.mem_flatMap.mp H;obtain⟨x,_,rfl⟩:=ZO.mp H;exact sI c x};walk_at "n";refine bZ (λ j a g=>(∃C k o q s u,a=[some (dPg p),some (.loc S.length),some (.tup (n.lps.map dL)),some (.tup (n.dds.map dDd)),C,k,o,q,s,u])/\g=S++[(p.nss.take i).flatMap qj++((cnt n.lps).take j).flatMap λ c=>n.dds.map (eF c)]) ⟨⟨_,_,_,_,_,_,rfl⟩,by simp⟩ ?_ ?_
   . rintro I2 P j e a g I ⟨⟨C,k,o,q,s,u,rfl⟩,rfl⟩;obtain⟨c,G,rfl⟩:=aR I;have hC:Cs n.lps.length c:=jL hL n.lps.length (x6 _) c (by rw[List.take_length];exact y8 G);have A:c.length≤10:=by have:=hC.1;have:=hL.2.1;omega
     have gj:=b1 n j B;walk_at "b";refine bZ (λ t a g=>(∃k o q s u,a=[some (dPg p),some (.loc S.length),some (.tup (n.lps.map dL)),some (.tup (n.dds.map dDd)),some (dC c),k,o,q,s,u])/\g=S++[((p.nss.take i).flatMap qj++((cnt n.lps).take j).flatMap λ c=>n.dds.map (eF c))++(n.dds.take t).map (eF c)]) ⟨⟨_,_,_,_,_,rfl⟩,by simp⟩ ?_ ?_
     . rintro I3 R t e a g I ⟨⟨k,o,q,s,u,rfl⟩,rfl⟩;obtain⟨x,hx,rfl⟩:=aR I;obtain⟨⟨w,_,Z,U⟩,hst,ac,V⟩:=T x (y8 hx);have z:∀{t:Nat}{K:List Fm},TpB p.ws n.lps.length t K->K.length≤1000/\∀f∈K,f.2.length=c.length:=λ{t K} h=>by obtain⟨w,Y,hl,hf⟩:=h;have:=hW.2.2 w (y8 Y);exact⟨%[|0],λ f h=>by rw[(hf f h).1,hC.1]⟩
       walk_at "b";refine⟨rfl,?_⟩;walk_at "b";refine jx (dPt c) %[|0] ?_ ?_;{intro y r hr Q hq;obtain⟨_,_,X⟩:=V r (y8 hr);obtain⟨q1,q2⟩:=z X;walk_at "b";refine⟨rfl,?_⟩;walk_at "b";refine⟨rfl,r.tab,r.pl,c,rfl,q1,q2,A,hC.c64,?_⟩;walk_at "b";exact hq};obtain⟨q1,q2⟩:=z ⟨w,‹_›,Z,U⟩;walk_at "b";refine⟨rfl,x.tab,x.pl,c,rfl,q1,q2,A,hC.c64,?_⟩;walk_at "b";refine⟨rfl,x.st,c,rfl,by rw[hst.1,hC.1],A,hC.c64,?_⟩;walk_at "b";refine⟨_,bC _ _,by simp only[v3,x4,List.length_take];omega,?_⟩;rw[cP];refine R _ _ _ ⟨⟨_,_,_,_,_,rfl⟩,?_⟩;rw[aA hx,List.map_append (l₂:=[_]),List.append_assoc];rfl
     {rintro a g ⟨⟨k,o,q,s,u,rfl⟩,rfl⟩;refine P _ _ _ ⟨⟨_,_,_,_,_,_,rfl⟩,?_⟩;rw[x4,List.take_length,Ew G,←List.append_assoc]}
   {rintro a g ⟨⟨C,k,o,q,s,u,rfl⟩,rfl⟩;refine O _ _ _ ⟨⟨_,_,_,_,_,_,_,_,rfl⟩,?_⟩;rw[x4,List.take_length,Ew v];rfl}
 {rintro a g ⟨⟨o2,o3,C,k,o,q,s,u,rfl⟩,rfl⟩;rw[x4,List.take_length];exact pL Y (pD p) hS}
theorem all_map{b:Type}{enc:b->D}{q:D->Bool}{l:List b}(h:∀a∈l,q (enc a)=true):(l.map enc).all q=true:=by rw[List.all_eq_true];intro x d;obtain⟨a,c,rfl⟩:=ZO.mp d;exact h a c
theorem fP{c:Type}{enc:c->D}{l:List c}(h1:a≤(l.length:Int))(h2:(l.length:Int)≤b):bB (.tup (l.map enc)) a b=true:=by show(decide _&&decide _)=true;rw[x4,ZG h1,ZG h2];rfl
theorem uP{f:Fm}{d:Nat}(h:f.2.length=d):cR (dF f) (d:Int)=true:=by show(decide _&&((f.1::f.2).map D.int).all whole)=true;rw[ZG (by simp;omega),all_map (λ _ _=>rfl)];rfl
theorem Bg{n:Int}(h1:a≤n)(h2:n≤b):kZ a b (.int n)=true:=by show(decide _&&decide _)=true;rw[ZG h1,ZG h2];rfl
theorem Ng{f:Fm}{d:Nat}(h:FmB d 1 f):isPlace (d:Int) (dF f)=true:=by obtain⟨c,b,e⟩:=h;show(cR (dF f) (d:Int)&&((f.1::f.2).map D.int).all (kZ (-99) 99))=true;rw[uP c,all_map λ n a=>?_];{rfl};{rcases ZJ.mp a with rfl | a;{exact Bg %[|0] %[|0]};{exact Bg (b n a).1 (b n a).2}}
theorem Bm{n:Int}(h1: -1000000000000000000000000000000<n)(h2:n<1000000000000000000000000000000):pP n=true:=by unfold pP;rw[xm];exact ZG (by split<;>omega)
theorem KR{f:Fm}{d:Nat}(h:StB d f):isStart (dF f) (d:Int)=true:=by obtain⟨b,c,e,g⟩:=h;show(cR (dF f) (d:Int)&&((f.1::f.2).map D.int).all uG)=true;rw[uP b,all_map λ n a=>?_];{rfl};{rcases ZJ.mp a with rfl | a;{exact Bm e g};{have:=c n a;exact Bm %[|0] %[|0]}}
theorem NQ{d:Nat}{a:List Fm}(h:TpB ws d t a):jf (.int t) (dP a) ws (d:Int)=true:=by
 obtain⟨w,c,i,g⟩:=h;have j:=(z0.mp c).1;have e:ws.getD ((t:Int)).toNat 0=w:=by simp[List.getD,c]
 show((decide _&&decide _)&&(bB (.tup (a.map dF)) (ws.getD ((t:Int)).toNat 0) (ws.getD ((t:Int)).toNat 0)&&(a.map dF).all (isPlace d)))=true;rw[e,ZG (p:=(0:Int)≤t) %[|0],ZG (p:=(t:Int)<ws.length) %[|0],fP %[|0] %[|0],all_map λ f b=>Ng (g f b)];rfl
theorem Ow{d:Nat}{x:Dd}(h:DdB ws d x):d9 ws (d:Int) (dDd x)=true:=by obtain⟨e,f,j,g⟩:=h;show(jf (.int x.tab) (dP x.pl) ws d&&(isStart (dF x.st) d&&(bB (.tup (x.rds.map dRd)) 0 3&&(x.rds.map dRd).all (jF ws d))))=true;rw[NQ e,KR f,fP %[|0] %[|0],all_map λ r i=>?_];{rfl};{obtain⟨a,b,c⟩:=g r i;show(pP r.fac&&jf (.int r.tab) (dP r.pl) ws d)=true;rw[Bm a b,NQ c];rfl}
theorem xF{f:Fm}(h:BdF f i):b8 (dF f) (i:Int)=true:=by obtain⟨a,b,c,d⟩:=h;show(cR (dF f) (i:Int)&&(decide _&&(decide _&&(f.2.map D.int).all small)))=true;rw[uP a,ZG b,ZG c,all_map λ n e=>?_];{rfl};{have:=d n e;show(decide _&&decide _)=true;rw[ZG this.1,ZG this.2];rfl}
theorem Mx{ls:List Lp}(h:Lps ls):fH (.tup (ls.map dL))=true:=by
 obtain⟨g,j,c⟩:=h;show((decide _&&decide _)&&((ls.map dL).mapIdx λ i d=>gO d i).all id)=true;rw[x4,ZG %[|0],ZG %[|0],List.all_eq_true.mpr λ b f=>?_];{rfl}
 . obtain⟨i,a⟩:=ZR f;rw[List.getElem?_mapIdx,x5]at a
   cases e:ls[i]? with
   | none=>rw[e]at a;cases a
   | some l=>rw[e]at a;cases a;show(b8 (dF l.1) i&&b8 (dF l.2) i)=true;rw[xF (c i l e).1,xF (c i l e).2];rfl
theorem Rh{n:Ns}(h:NsB ws m n):ie ws (dNs n)=true:=by obtain⟨a,d,e,f,b⟩:=h;show(fH (.tup (n.lps.map dL))&&(bB (.tup (n.dds.map dDd)) 1 4&&(n.dds.map dDd).all (d9 ws ((n.lps.map dL).length:Int))))=true;rw[Mx a,fP %[|0] %[|0],x4,all_map λ x c=>Ow (b x c)];rfl
theorem PgB.widths{p:Pg}(h:PgB m p):gQ (dWs p.ws)=true:=by obtain⟨⟨c,d,a⟩,_⟩:=h;show(bB (.tup (p.ws.map D.int)) 1 3&&(p.ws.map D.int).all (kZ 1 2))=true;rw[fP %[|0] %[|0],all_map λ w b=>Bg (a w b).1 (a w b).2];rfl
theorem PgB.nests{p:Pg}(h:PgB m p):nH (.tup (p.nss.map dNs)) p.ws=true:=by obtain⟨_,c,d,a⟩:=h;show(bB (.tup (p.nss.map dNs)) 1 3&&(p.nss.map dNs).all (ie p.ws))=true;rw[fP %[|0] %[|0],all_map λ n b=>Rh (a n b)];rfl
theorem PgB.ok{p:Pg}(h:PgB m p):∀n∈p.nss,m9 n:=λ n a=>by obtain⟨h1,b,c,_⟩:=h.2.2.2 n a;exact⟨h1.1,h1.fits,%[|0]⟩
theorem Us{l:%[|1]}(h:∀x∈l,x≤b):l.sum≤(l.length:Int)*b:=by
 induction l with
 | nil=>simp
 | cons x l c=>have:=c λ y a=>h y (x8 _ a);have:=h x w9;rw[List.sum_cons,List.length_cons,Int.natCast_add,Int.add_mul];omega
theorem PgB.many{p:Pg}(h:PgB m p)(v:12≤m):many p.nss≤m:=by
 obtain⟨_,o,q,d⟩:=h;have r:4≤m/p.nss.length:=by rw[Nat.le_div_iff_mul_le %[|0]];omega
 have c:∀n∈p.nss,((cnt n.lps).length:Int)*(n.dds.length:Int)≤((m/p.nss.length:Nat):Int):=λ n a=>by
  obtain⟨_,j,k,u,_⟩:=d n a;have s:1≤m/p.nss.length/n.dds.length:=by rw[Nat.le_div_iff_mul_le %[|0]];omega
  have e:(cnt n.lps).length*n.dds.length≤m/p.nss.length:=by
   have f:(cnt n.lps).length≤m/p.nss.length/n.dds.length:=%[|0]
   exact Nat.le_trans (Nat.mul_le_mul_right _ f) (Nat.div_mul_le_self _ _)
  rw[←Int.natCast_mul];exact Int.ofNat_le.mpr e
 show(p.nss.map λ n=>((cnt n.lps).length:Int)*(n.dds.length:Int)).sum≤_;have:=Us (l:=p.nss.map λ n=>((cnt n.lps).length:Int)*(n.dds.length:Int)) (b:=((m/p.nss.length:Nat):Int)) (λ x i=>by obtain⟨n,a,rfl⟩:=ZO.mp i;exact c n a);rw[x4]at this;have g:p.nss.length*(m/p.nss.length)≤m:=Nat.mul_div_le _ _;have t:(p.nss.length:Int)*((m/p.nss.length:Nat):Int)≤(m:Int):=by rw[←Int.natCast_mul];exact Int.ofNat_le.mpr g
 omega
theorem Lr{p:Pg}(h:PgB m p)(a:12≤m)(b:m≤60)(c:flat S)(w:W (dPg p) S):zx [dWs p.ws,.tup (p.nss.map dNs)] S W:=
 ⟨p,rfl,h.widths,h.nests,by have:=h.2.2.1;omega,h.ok,by have:=h.many a;omega,c,w⟩
theorem vJ{nss:List Ns}{s:Stp}(h:s∈aG nss):∃n,nss[s.1]? =some n/\s.2.1∈cnt n.lps/\s.2.2<n.dds.length:=by unfold aG at h;obtain⟨l,d,a⟩:=List.mem_flatten.mp h;obtain⟨i,c,rfl⟩:=List.mem_mapIdx.mp d;unfold cG at a;obtain⟨f,b,a⟩:=List.mem_flatMap.mp a;obtain⟨t,e,rfl⟩:=ZO.mp a;exact⟨nss[i],y4 c,b,List.mem_range.mp e⟩
def gA(p:Pg)(s:Stp):D:=match p.nss[s.1]? with
 | some n=>(match n.dds[s.2.2]? with | some x=>dCs x s.2.1 | none=>.non)
 | none=>.non
inductive c_cellsOf(ds:List D)(S:Store)(W:WD):Prop
 | mk(p:Pg):ds=[dPg p]->p.nss.length≤1000->(∀n∈p.nss,m9 n/\∀x∈n.dds,KC x)->(aG p.nss).length≤1000000->flat S->W (.lst ((aG p.nss).map (gA p))) S->c_cellsOf ds S W
theorem m9.c64{n:Ns}(h:m9 n){cs:%[|1]}(b:cs∈cnt n.lps):C64 cs:=λ c a=>by have:=((h.2.1.2 n.lps.length (x6 _)).2 cs (by rw[List.take_length];exact b)).2 c a;omega
theorem wu(F:Fun Ω.K "cells_of" "cells_of" iH f fd)(j:Ω.cd=none)(c:Cal Ω "steps_of" 4 1 c_steps)(b:Cal Ω "cells_of_step" 3 2 c_cellsStep):Ok Ω 5 f fd BK c_cellsOf:=by
 refine au j (N:=An) F (Ai c b) (by kernel_rfl!) ?_;rintro y S W ⟨p,rfl,v,d,a,q,u⟩ z;walk_at "b";refine⟨rfl,p,rfl,v,λ n r=>(d n r).1,a,q,.inl ?_⟩;walk_at "n";refine jx (gA p) a ?_ u;intro i s t Q h;obtain⟨n,g,m,o⟩:=vJ (y8 t);obtain⟨w,k⟩:=d n (y8 g);have e:n.dds[s.2.2]? =some n.dds[s.2.2]:=y4 o;have l:gA p s=dCs n.dds[s.2.2] s.2.1:=by unfold gA;rw[g];show(match n.dds[s.2.2]? with | some x=>dCs x s.2.1 | none=>D.non)=_;rw[e]
 rw[l]at h;walk_at "b";exact⟨rfl,p,s,n,n.dds[s.2.2],rfl,g,e,k _ (List.getElem_mem _),w.c64 m,h⟩
theorem TpB.pl{d:Nat}{b:List Fm}(hW:WsB ws)(g:d≤3)(h:TpB ws d t b):Gs b:=by obtain⟨w,e,i,c⟩:=h;have:=hW.2.2 w (y8 e);exact⟨%[|0],λ f a=>by rw[(c f a).1];omega⟩
theorem PgB.deeds{p:Pg}(h:PgB m p):∀n∈p.nss,m9 n/\∀x∈n.dds,KC x:=λ n a=>by refine⟨h.ok n a,λ x f=>?_⟩;obtain⟨hL,_,_,_,d⟩:=h.2.2.2 n a;obtain⟨b,g,i,c⟩:=d x f;exact⟨b.pl h.1 hL.2.1,%[|0],λ r e=>(c r e).2.2.pl h.1 hL.2.1⟩
theorem Hr(i:Nat)(n:Ns):(cG i n).length=(cnt n.lps).length*n.dds.length:=by
 unfold cG;generalize cnt n.lps=l
 induction l with
 | nil=>simp
 | cons c l a=>rw[List.flatMap_cons,v3,a,List.length_cons,Nat.succ_mul];simp[Nat.add_comm]
theorem jQ(nss:List Ns):((aG nss).length:Int)=many nss:=by
 have:∀i,i≤nss.length->((aG (nss.take i)).length:Int)=many (nss.take i):=by
  intro i
  induction i with
  | zero=>intro _;rfl
  | succ i b=>intro c;have a:=y4 (l:=nss) (i:=i) %[|0];rw[jb a,v3,Int.natCast_add,b %[|0],Hr,aA a];unfold many;rw[List.map_append,List.sum_append];simp
 have:=this nss.length (x6 _);rw[List.take_length]at this;exact this
theorem J7{p:Pg}(h:PgB m p)(a:12≤m)(b:m≤60)(c:flat S)(w:W (.lst ((aG p.nss).map (gA p))) S):c_cellsOf [dPg p] S W:=
 ⟨p,rfl,by have:=h.2.2.1;omega,h.deeds,by have:=h.many a;have:=jQ p.nss;omega,c,w⟩
theorem Js{p:Pg}(h:PgB m p)(a:12≤m)(b:m≤60)(c:flat S)(w:hand W ((aG p.nss).map dSt) S):c_steps [dPg p] S W:=
 ⟨p,rfl,by have:=h.2.2.1;omega,h.ok,by have:=h.many a;have:=jQ p.nss;omega,c,w⟩
def toC(c:Cell):Int×%[|1]:=((c.1:Int),c.2)
def dCR(a:Cell×List Cell):D:=.tup [aW a.1,.lst (a.2.map aW)]
theorem mK:∀xs:%[|1],bW (xs.map D.int)=true
 | []=>rfl
 | x::xs=>by simp only[List.map_cons,bW,okD,mK xs,Bool.and_true]
theorem jV:∀xs:%[|1],bJ (xs.map D.int)=0
 | []=>rfl
 | x::xs=>by simp only[List.map_cons,bJ,deep,jV xs];rfl
def aU(p:Pg):List (Dd×%[|1]):=p.nss.flatMap λ n=>(cnt n.lps).flatMap λ a=>n.dds.map λ x=>(x,a)
def crs(x:Dd×%[|1]):Cell×List Cell:=(spot x.1.tab x.1.pl x.2,x.1.rds.map λ r=>spot r.tab r.pl x.2)
theorem QZ(x:Dd×%[|1]):dCR (crs x)=dCs x.1 x.2:=by unfold dCR crs dCs;rw[List.map_map];rfl
theorem ig{b d:Type}{f g:b->List d}:∀{l:List b},(∀a∈l,f a=g a)->l.flatMap f=l.flatMap g
 | [],_=>rfl
 | a::l,h=>by rw[List.flatMap_cons,List.flatMap_cons,h a w9,ig λ x c=>h x (x8 _ c)]
theorem Ak(p:Pg):ju p=(aU p).map λ x=>eF x.2 x.1:=by unfold ju aU;rw[List.map_flatMap];refine ig λ n _=>?_;unfold qj;rw[List.map_flatMap];refine ig λ a _=>?_;rw[List.map_map];rfl
theorem yz{p:Pg}{n:Ns}(h:p.nss[i]? =some n):(cG i n).map (gA p)=((cnt n.lps).flatMap λ cs=>n.dds.map λ x=>(x,cs)).map λ x=>dCR (crs x):=by
 unfold cG;rw[List.map_flatMap,List.map_flatMap];refine ig λ cs _=>?_;rw[List.map_map,List.map_map];apply List.ext_getElem;{simp}
 . intro s c a;have b:s<n.dds.length:=by simpa using a
   rw[List.getElem_map,List.getElem_map,List.getElem_range];show gA p (i,cs,s)=dCR (crs (n.dds[s],cs));rw[QZ];unfold gA;show(match p.nss[i]? with | some n=>(match n.dds[s]? with | some x=>dCs x cs | none=>D.non) | none=>D.non)=_;rw[h];show(match n.dds[s]? with | some x=>dCs x cs | none=>D.non)=_;rw[y4 b]
theorem vC(p:Pg):(aG p.nss).map (gA p)=(aU p).map λ x=>dCR (crs x):=by
 unfold aG aU;rw[List.map_flatten,List.map_flatMap,List.flatMap_def];congr 1;apply List.ext_getElem;{simp}
 . intro i c a;have b:i<p.nss.length:=by simpa using a
   rw[List.getElem_map,List.getElem_mapIdx,List.getElem_map];exact yz (y4 b)
theorem Ei{a:Type}[DecidableEq a](kvs:List (a×D))(ns:a)(d:D):(putD kvs ns d).length≤kvs.length+1:=by unfold putD;split<;>simp
def dN(l:List Nat):List D:=l.map λ(t:Nat)=>D.int (t:Int)
theorem mJ(l:List Nat):aj (dN l)=true:=by
 unfold dN
 induction l with
 | nil=>rfl
 | cons y b a=>exact a
theorem rQ(h:∀d∈l,ak d=true):aj l=true:=by
 induction l with
 | nil=>rfl
 | cons y c b=>simp only[aj,h y w9,b λ d a=>h d (x8 _ a),Bool.and_true]
def gq(n:Nat)(o:List Nat):Prop:=(∀t∈o,t<n)/\o.Nodup
theorem Dj(p:Pg):(aG p.nss).length=(aU p).length:=by have:=congrArg List.length (vC p);rw[x4,x4]at this;exact this
theorem nA(p:Pg):many p.nss=((aU p).length:Int):=by rw[←jQ,Dj]
theorem kJ{p:Pg}(c:PgB m p)(a:12≤m)(b:m≤60):(aU p).length≤60:=by have d:=c.many a;have e:=nA p;omega
theorem tR(l:List Nat):dN l=(l.map λ(t:Nat)=>(t:Int)).map D.int:=by unfold dN;rw[List.map_map];rfl
theorem fZ(l:List Nat):(dN l).length=l.length:=x4 _
theorem JV{l:List Nat}(h:(dN l)[i]? =some d):∃t,l[i]? =some t/\d=.int (t:Int):=by
 unfold dN at h;rw[x5]at h
 cases e:l[i]? with
 | none=>rw[e]at h;cases h
 | some t=>rw[e]at h;cases h;exact⟨t,rfl,rfl⟩
theorem rZ{c:Type}{l:List c}(h:l.Nodup){i j:Nat}(a:i<j)(b:j<l.length):l[i]?≠l[j]?:=by rw[y4 %[|0],y4 b];intro z;have z:=Option.some.inj z;have:=(List.pairwise_iff_getElem.mp h) i j %[|0] b a;exact this z
theorem Jo{ns:%[|1]}(h:ns.Nodup):unl ns=ns.length:=by
 unfold unl;have d:∀i,i≤ns.length->PyProof.Rows.firstMet (λ i=>ns.getD i 0) i=ns.take i:=by
  intro i
  induction i with
  | zero=>intro _;rfl
  | succ i g=>
    intro k;have b:i<ns.length:=%[|0]
    rw[PyProof.Rows.firstMet_succ,g %[|0],aA (y4 b)];have e:ns.getD i 0=ns[i]:=by simp[List.getD,b]
    unfold PyProof.Rows.step_dedup;rw[e,if_neg];intro z;rw[List.any_eq_true]at z;obtain⟨x,f,z⟩:=z;have z:=ZI z;subst z;obtain⟨j,a⟩:=ZR f;rw[List.getElem?_take]at a;split at a;{rename_i c;exact rZ h c b (by rw[a,y4 b])};{cases a}
 rw[d _ (x6 _),List.take_length]
theorem J1(h:o.Nodup):(o.map λ(t:Nat)=>(t:Int)).Nodup:=by
 induction o with
 | nil=>exact List.nodup_nil
 | cons x c b=>rw[List.nodup_cons]at h;rw[List.map_cons,List.nodup_cons];refine⟨λ z=>?_,b h.2⟩;obtain⟨y,a,e⟩:=ZO.mp z;exact h.1 (by rw[show x=y from %[|0]];exact a)
inductive c_isRow(ds:List D)(S:Store)(W:WD):Prop
 | mk(p:Pg)(m:Nat)(o:List Nat):ds=[dPg p,.lst (dN o)]->PgB m p->12≤m->m≤60->flat S->o.length≤60->gq (aU p).length o->W (.bl true) S->c_isRow ds S W
theorem HR{p:Pg}(hP:PgB m p)(a:flat S)(w:W (.int ((aU p).length:Int)) S):rB [.tup (p.nss.map dNs)] S W:=
 ⟨p.nss,rfl,by have:=hP.2.2.1;omega,λ n b=>(hP.deeds n b).1,a,by rw[nA];exact w⟩
theorem DN(F:Fun Ω.K "is_row" "is_row" lz f fd)(c:Ω.cd=none)(B:Bi Ω.mg)(a:Cal Ω "is_whole" 1 1 c_whole)(b:Cal Ω "number_of_steps" 4 1 rB):Ok Ω 5 f fd Hu c_isRow:=by
 refine au c (N:=Hx) F (HF B a b) (by kernel_rfl!) ?_;rintro r S W ⟨p,m,o,rfl,h,e,g,j,u,hO,q⟩ s;walk_at "b";refine⟨rfl,HR h j ?_⟩;walk_at "b";unfold dN;refine Pb (C0:=λ _=>True) (xs:=o) (enc:=λ(t:Nat)=>D.int (t:Int)) (λ _=>.bl true) %[|0] trivial ?_ (.inl ?_);{intro i t n Q l;have k:=hO.1 t (y8 n);walk_at "b";refine⟨rfl,_,rfl,?_⟩;walk_at "b";rw[ZG (show(t:Int)<((aU p).length:Int)from %[|0])];exact l};walk_at "b";refine⟨List.replicate o.length true,by rw[List.map_replicate,←List.map_const'],?_⟩;have d:(List.replicate o.length true).all id=true:=by simp
 rw[d];walk_at "b";refine⟨_,by show jg S (.lst (dN o))=_;rw[tR];rfl,by rw[x4];show _<4096;omega,?_⟩;rw[Jo (J1 hO.2),x4];walk_at "b";rw[x4,ZG rfl];exact q
abbrev Cel:=Int×%[|1]
abbrev Fz:=List (Cel×Int)
def bO(fa:Fz)(c:Cel):Option Int:=(fa.find? λ kv=>decide (kv.1=c)).map (·.2)
def mj(fa:Fz)(c:Cel)(v:Int):Fz:=if(fa.any λ kv=>decide (kv.1=c))=true then fa.map λ kv=>if kv.1=c then(kv.1,v)else kv else fa++[(c,v)]
def bH(fa:Fz):Kc:=fa.map λ kv=>(kv.1,D.int kv.2)
theorem dh(fa:Fz)(c:Cel):aD (bH fa) c=(bO fa c).map D.int:=by unfold aD bO bH;rw[List.find?_map];show Option.map _ (Option.map _ (fa.find? λ kv=>decide (kv.1=c)))=_;cases fa.find? λ kv=>decide (kv.1=c)<;>rfl
theorem Am(fa:Fz)(c:Cel)(v:Int):putD (bH fa) c (.int v)=bH (mj fa c v):=by unfold putD mj bH;rw[List.any_map];show(if(fa.any λ kv=>decide (kv.1=c))=true then _ else _)=_;split;{rw[List.map_map,List.map_map];refine List.map_congr_left λ kv _=>?_;show(if kv.1=c then(kv.1,D.int v)else(kv.1,D.int kv.2))=_;by_cases e:kv.1=c;{rw[if_pos e];show _=((if kv.1=c then(kv.1,v)else kv).1,D.int (if kv.1=c then(kv.1,v)else kv).2);rw[if_pos e]};{rw[if_neg e];show _=((if kv.1=c then(kv.1,v)else kv).1,D.int (if kv.1=c then(kv.1,v)else kv).2);rw[if_neg e]}};{rw[List.map_append];rfl}
def fzD(fa:Fz):List D:=.non::(bH fa).map encC
def jK(x:Int)(fa:Fz)(kv:Cel×Int):Fz:=mj fa kv.1 ((bO fa kv.1).getD 0+x*kv.2)
def bK(fa:Fz)(x:Int)(mo:Fz):Fz:=mo.foldl (jK x) fa
theorem vz{fa:Fz}{x:Int}{a:Fz}{b:Cel×Int}(h:a[i]? =some b):bK fa x (a.take (i+1))=jK x (bK fa x (a.take i)) b:=by unfold bK;rw[aA h,List.foldl_append];rfl
theorem M7(fa:Fz)(c:Cel)(v:Int):(mj fa c v).length≤fa.length+1:=by unfold mj;split<;>simp
theorem yW(x:Int)(a:Fz):∀fa:Fz,(bK fa x a).length≤fa.length+a.length:=by
 induction a with
 | nil=>intro fa;exact x6 _
 | cons kv a d=>intro fa;have c:=d (jK x fa kv);have f:=M7 fa kv.1 ((bO fa kv.1).getD 0+x*kv.2);have e:bK fa x (kv::a)=bK (jK x fa kv) x a:=rfl;have b:jK x fa kv=mj fa kv.1 ((bO fa kv.1).getD 0+x*kv.2):=rfl;rw[e,List.length_cons];rw[b]at c ⊢;omega
inductive c_addT(ds:List D)(S:Store)(W:WD):Prop
 | mk(f m:Nat)(x:Int)(fa mo:Fz):ds=[.dlo f,.int x,.dlo m]->f≠m->S[f]? =some (fzD fa)->S[m]? =some (fzD mo)->fa.length+mo.length≤1000->Grt x->(∀kv∈mo,Grt kv.2)->W .non (S.set f (fzD (bK fa x mo)))->c_addT ds S W
theorem t6(F:Fun Ω.K "add_times" "add_times" gn f fd)(u:Ω.cd=none):Ok Ω 1 f fd v7 c_addT:=by
 refine au u (N:=vW) F (wD) (by kernel_rfl!) ?_;rintro B S W ⟨f,m,x,b,a,rfl,l,q,t,s,A,p,z⟩ C;have d:=(z0.mp q).1;have v:S.set f (fzD b)=S:=by refine List.ext_getElem? λ i=>?_;by_cases e:f=i;{subst e;rw[List.getElem?_set_self d,q]};{rw[List.getElem?_set_ne e]}
 walk_at "b";refine⟨bH a,t,Fy ⟨λ i c T=>∃h j,T=S.set f (fzD (bK b x (a.take i)))/\c=[some (.dlo f),some (.int x),some (.dlo m),h,j],⟨_,_,by rw[List.take_zero];exact v.symm,rfl⟩,?_,?_,?_⟩⟩;{rintro i c T ⟨h,j,rfl,rfl⟩;rw[List.getElem?_set_ne l];exact t}
 . rintro i kv c T o ⟨h,j,rfl,rfl⟩;obtain⟨kv,r,rfl⟩:=aR o;have w:=yW x (a.take i) b;have y:(a.take i).length≤a.length:=by rw[List.length_take];omega
   have g:(S.set f (fzD (bK b x (a.take i))))[f]? =some (fzD (bK b x (a.take i))):=List.getElem?_set_self d;have n:=p kv (y8 r);walk_at "b";refine⟨rfl,?_⟩;walk_at "b";refine⟨by rw[List.length_set];exact d,?_⟩;walk_at "b";refine⟨kv.1,bH (bK b x (a.take i)),rfl,g,?_⟩;have k:(aD (bH (bK b x (a.take i))) kv.1).getD (D.int 0)=D.int ((bO (bK b x (a.take i)) kv.1).getD 0):=by rw[dh];cases bO (bK b x (a.take i)) kv.1<;>rfl
   walk_at "n";refine⟨⟨A,n⟩,?_⟩;rw[k];walk_at "b";refine⟨kv.1,bH (bK b x (a.take i)),rfl,g,?_⟩;refine⟨by show(List.map _ _).length<1000000;rw[x4];omega,?_⟩;refine⟨_,_,?_,rfl⟩;rw[List.set_set,vz r,Am];rfl
 {rintro c T ⟨h,j,rfl,rfl⟩;have e:(bH a).length=a.length:=x4 ..;rw[e,List.take_length];exact z}
inductive c_theld(ds:List D)(S:Store)(W:WD):Prop
 | mk(c:Cel)(h:Nat)(kvs:Kc):ds=[cD c,.dlo h]->S[h]? =some (.non::kvs.map encC)->W ((aD kvs c).getD (.tup [.int 0,.dlo S.length])) (S++[fzD [(c,1)]])->c_theld ds S W
theorem qY(F:Fun Ω.K "trace_held" "trace_held" eQ f fd)(e:Ω.cd=none):Ok Ω 1 f fd t7 c_theld:=by refine au e (N:=uw) F (tX) (by kernel_rfl!) ?_;rintro i S W ⟨c,h,b,rfl,d,g⟩ j;have a:=(z0.mp d).1;walk_at "b";refine⟨a,?_⟩;walk_at "b";refine⟨c,rfl,bC _ _,?_⟩;rw[cP];walk_at "b";refine⟨c,b,rfl,by rw[List.getElem?_append_left a];exact d,?_⟩;exact g
structure FzOk(U:List Cel)(B:Nat)(fa:Fz):Prop where
 nd:(fa.map (·.1)).Nodup
 sub:∀kv∈fa,kv.1∈U
 bd:∀kv∈fa,kv.2.natAbs≤B
theorem FzOk.nil(U:List Cel)(B:Nat):FzOk U B []:=⟨List.nodup_nil,(λ _ h=>nomatch h),(λ _ h=>nomatch h)⟩
theorem FzOk.mono{U:List Cel}{A:Nat}{fa:Fz}(h:FzOk U A fa)(a:A≤B):FzOk U B fa:=⟨h.nd,h.sub,λ c b=>Nat.le_trans (h.bd c b) a⟩
theorem Qe{U:List Cel}{fa:Fz}{c:Cel}{v:Int}(h:FzOk U B fa)(l:c∈U)(j:v.natAbs≤B):FzOk U B (mj fa c v):=by
 unfold mj;split
 . refine⟨?_,λ kv d=>?_,λ kv d=>?_⟩
   . rw[List.map_map];have e:fa.map ((λ x:Cel×Int=>x.1) ∘ λ kv=>if kv.1=c then(kv.1,v)else kv)=fa.map (·.1):=List.map_congr_left λ kv _=>by show(if kv.1=c then(kv.1,v)else kv).1=kv.1;split<;>rfl
     rw[e];exact h.nd
   {obtain⟨z,f,rfl⟩:=ZO.mp d;split;{exact h.sub z f};{exact h.sub z f}};{obtain⟨z,f,rfl⟩:=ZO.mp d;split;{exact j};{exact h.bd z f}}
 {rename_i g;have g:∀kv∈fa,kv.1≠c:=λ kv d e=>g (List.any_eq_true.mpr ⟨kv,d,ZG e⟩);refine⟨?_,λ kv d=>?_,λ kv d=>?_⟩;{rw[List.map_append,List.nodup_append];refine⟨h.nd,by simp,λ a k b i e=>?_⟩;obtain⟨kv,d,rfl⟩:=ZO.mp k;rw[List.map_cons,List.map_nil,List.mem_singleton]at i;exact g kv d (e.trans i)};{rcases ZK.mp d with d | d;{exact h.sub kv d};{rw[ZL.mp d];exact l}};{rcases ZK.mp d with d | d;{exact h.bd kv d};{rw[ZL.mp d];exact j}}}
theorem Kz{U:List Cel}{fa:Fz}(h:FzOk U B fa)(c:Cel):((bO fa c).getD 0).natAbs≤B:=by
 unfold bO
 cases q:fa.find? λ kv=>decide (kv.1=c)with
 | none=>exact Nat.zero_le _
 | some kv=>exact h.bd kv (List.mem_of_find?_eq_some q)
theorem Jq{U:List Cel}{A:Nat}{fa:Fz}{x:Int}{kv:Cel×Int}(h:FzOk U A fa)(a:kv.1∈U)(c:x.natAbs≤X)(b:kv.2.natAbs≤B):FzOk U (A+X*B) (jK x fa kv):=by
 refine Qe (h.mono (Nat.le_add_right _ _)) a ?_;have d:=Kz h kv.1;have e:(x*kv.2).natAbs≤X*B:=by rw[Int.natAbs_mul];exact Nat.mul_le_mul c b
 have f:=Int.natAbs_add_le ((bO fa kv.1).getD 0) (x*kv.2);omega
theorem PJ{U:List Cel}{x:Int}(g:x.natAbs≤X){a:Fz}(d:∀kv∈a,kv.1∈U)(c:∀kv∈a,kv.2.natAbs≤B):∀{A:Nat}{fa:Fz},FzOk U A fa->FzOk U (A+a.length*(X*B)) (bK fa x a):=by
 induction a with
 | nil=>intro A fa h;exact h.mono %[|0]
 | cons kv a i=>intro A fa h;have e:=Jq h (d kv w9) g (c kv w9);have f:=i (λ z b=>d z (x8 _ b)) (λ z b=>c z (x8 _ b)) e;refine f.mono ?_;rw[List.length_cons,Nat.succ_mul];omega
theorem sub_len{b:Type}[DecidableEq b]{l:List b}(nd:l.Nodup):∀{U:List b},(∀x∈l,x∈U)->l.length≤U.length:=by
 induction l with
 | nil=>intro U _;exact Nat.zero_le _
 | cons a l f=>intro U h;rw[List.nodup_cons]at nd;have c:=h a w9;have:=f nd.2 (U:=U.erase a) λ x d=>(List.mem_erase_of_ne (λ e:x=a=>nd.1 (e▸d))).mpr (h x (x8 _ d));rw[List.length_erase_of_mem c]at this;have:0<U.length:=List.length_pos_of_mem c;rw[List.length_cons];omega
theorem FzOk.len{U:List Cel}{fa:Fz}(h:FzOk U B fa):fa.length≤U.length:=by
 have:=sub_len h.nd (U:=U) λ x b=>by obtain⟨c,a,rfl⟩:=ZO.mp b;exact h.sub c a
 rw[x4]at this;exact this
abbrev Tr:=Int×Fz
def trH(Hf:Cel->Option Tr)(c:Cel):Tr:=(Hf c).getD (0,[(c,1)])
def jB(Hf:Cel->Option Tr)(acc:Tr)(rc:Int×Cel):Tr:=(acc.1+rc.1*(trH Hf rc.2).1,bK acc.2 rc.1 (trH Hf rc.2).2)
def trS(st:Int)(Hf:Cel->Option Tr)(rs:List (Int×Cel)):Tr:=rs.foldl (jB Hf) (st,[])
structure TrOk(U:List Cel)(B:Nat)(t:Tr):Prop where
 n:t.1.natAbs≤B
 z:FzOk U B t.2
def pN(U:List Cel)(B:Nat)(Hf:Cel->Option Tr):Prop:=∀c t,Hf c=some t->TrOk U B t
theorem yL{U:List Cel}{Hf:Cel->Option Tr}(h:pN U B Hf)(b:1≤B){c:Cel}(d:c∈U):TrOk U B (trH Hf c):=by
 unfold trH
 cases q:Hf c with
 | some t=>exact h c t q
 | none=>refine⟨Nat.zero_le _,by simp,λ e a=>?_,λ e a=>?_⟩;{rw[ZL.mp a];exact d};{rw[ZL.mp a];exact b}
theorem Im{U:List Cel}{A:Nat}{Hf:Cel->Option Tr}(h:pN U B Hf)(c:1≤B)(g:U.length≤180){acc:Tr}(a:TrOk U A acc){rc:Int×Cel}(b:rc.1.natAbs≤X)(d:rc.2∈U):TrOk U (A+180*(X*B)) (jB Hf acc rc):=by
 have t:=yL h c d;have i:=t.z.len;refine⟨?_,?_⟩
 . show(acc.1+rc.1*(trH Hf rc.2).1).natAbs≤_;have e:(rc.1*(trH Hf rc.2).1).natAbs≤X*B:=by rw[Int.natAbs_mul];exact Nat.mul_le_mul b t.n
   have f:=Int.natAbs_add_le acc.1 (rc.1*(trH Hf rc.2).1);have:=a.n;omega
 {refine(PJ b t.z.sub t.z.bd a.z).mono ?_;have:(trH Hf rc.2).2.length*(X*B)≤180*(X*B):=Nat.mul_le_mul_right _ %[|0];omega}
theorem yc{U:List Cel}{Hf:Cel->Option Tr}(h:pN U B Hf)(f:1≤B)(g:U.length≤180):∀(rs:List (Int×Cel)),(∀r∈rs,r.1.natAbs≤X/\r.2∈U)->∀{A:Nat}{acc:Tr},TrOk U A acc->TrOk U (A+rs.length*(180*(X*B))) (rs.foldl (jB Hf) acc):=by
 intro rs
 induction rs with
 | nil=>intro _ A acc a;exact⟨Nat.le_trans a.n %[|0],a.z.mono %[|0]⟩
 | cons r rs j=>
   intro b A acc a;obtain⟨c,d⟩:=b r w9;have:=j (λ z i=>b z (x8 _ i)) (Im h f g a c d);have e:A+180*(X*B)+rs.length*(180*(X*B))=A+(r::rs).length*(180*(X*B)):=by rw[List.length_cons,Nat.add_mul,Nat.one_mul];omega
   rw[e]at this;exact this
theorem zK{st:Int}{Hf:Cel->Option Tr}{rs:List (Int×Cel)}{r:Int×Cel}(h:rs[i]? =some r):trS st Hf (rs.take (i+1))=jB Hf (trS st Hf (rs.take i)) r:=by unfold trS;rw[aA h,List.foldl_append];rfl
theorem K7{a b:Cel}(h:ltC a b=true):ltC b a=false:=Kf h
def uA(l:List Cel):List Cel:=open Classical in if h:∃c:List Cel,c.Perm l/\c.Pairwise (λ a b=>ltC a b=true)then h.choose else[]
theorem Eo{l c:List Cel}(h1:c.Perm l)(h2:c.Pairwise λ a b=>ltC a b=true):c=uA l:=by unfold uA;have d:∃c:List Cel,c.Perm l/\c.Pairwise (λ a b=>ltC a b=true):=⟨c,h1,h2⟩;rw[dif_pos d];obtain⟨e,f⟩:=d.choose_spec;refine List.Perm.eq_of_pairwise (le:=λ a b=>ltC a b=true) (λ a b _ _ x y=>?_) h2 f (h1.trans e.symm);have:=K7 x;rw[this]at y;cases y
def tel(fz:Fz)(c:Cel):Option (Cel×Int):=if(bO fz c).getD 0=0 then none else some (c,(bO fz c).getD 0)
def telD(kv:Cel×Int):D:=.tup [cD kv.1,.int kv.2]
def tellZ(fz:Fz):List (Cel×Int):=(uA (fz.map (·.1))).filterMap (tel fz)
def cj(t:Tr):D:=.tup [.int t.1,.lst ((tellZ t.2).map telD)]
theorem sr{i:Int}(h:i.natAbs≤2 ^ n)(a:n<100000):Grt i:=Nat.lt_of_le_of_lt h (Nat.pow_lt_pow_right %[|3] a)
def aX(x:Dd)(cs:%[|1]):List (Int×Cel):=x.rds.map λ r=>(r.fac,toC (spot r.tab r.pl cs))
structure HeldR(h:Nat)(S:Store)(held:Kc)(Hf:Cel->Option Tr):Prop where
 at_:∀kv∈held,∃(n:Int) (j:Nat) (fz:Fz),kv.2=.tup [.int n,.dlo j]/\S[j]? =some (fzD fz)/\Hf kv.1=some (n,fz)/\h≠j
 no:∀c,(∀kv∈held,kv.1≠c)->Hf c=none
 nd:(held.map (·.1)).Nodup
theorem HeldR.look{held:Kc}{Hf:Cel->Option Tr}(h:HeldR k S held Hf)(c:Cel):(aD held c=none/\Hf c=none)∨∃(n:Int) (j:Nat) (fz:Fz),aD held c=some (.tup [.int n,.dlo j])/\S[j]? =some (fzD fz)/\Hf c=some (n,fz):=by
 unfold aD
 cases q:held.find? λ kv=>decide (kv.1=c)with
 | none=>exact .inl ⟨rfl,h.no c λ kv f e=>by have:=List.find?_eq_none.mp q kv f;simp[e]at this⟩
 | some kv=>
   have e:kv.1=c:=by have:=List.find?_some q;simpa using this
   obtain⟨n,j,fz,a,b,d,_⟩:=h.at_ kv (List.mem_of_find?_eq_some q);exact .inr ⟨n,j,fz,by show some kv.2=_;rw[a],b,by rw[←e];exact d⟩
inductive c_tstep(ds:List D)(S:Store)(W:WD):Prop
 | mk(x:Dd)(cs:%[|1])(h:Nat)(held:Kc)(Hf:Cel->Option Tr)(U:List Cel)(B:Nat):ds=[dDd x,dC cs,.lst (x.rds.map λ r=>aW (spot r.tab r.pl cs)),.dlo h]->x.st.2.length≤1000->C64 cs->S[h]? =some (.non::held.map encC)->HeldR h S held Hf->pN U B Hf->1≤B->B≤2 ^ 50000->U.length≤180->(∀r∈aX x cs,r.1.natAbs≤2 ^ 100/\r.2∈U)->x.rds.length≤3->(∀J:Store,W (.tup [.int (trS (atC x.st cs) Hf (aX x cs)).1,.dlo S.length]) (S++[fzD (trS (atC x.st cs) Hf (aX x cs)).2]++J))->c_tstep ds S W
theorem m8(F:Fun Ω.K "trace_of_step" "trace_of_step" di f fd)(N0:Ω.cd=none)(B:Bi Ω.mg)(l:Cal Ω "comes_to" 1 2 c_comes)(m:Cal Ω "trace_held" 1 2 c_theld)(k:Cal Ω "add_times" 1 3 c_addT):Ok Ω 2 f fd oM c_tstep:=by
 refine au N0 (N:=oX) F (oZ B l m k) (by kernel_rfl!) ?_;rintro ds S W ⟨x,a,h,b,Hf,U,B,rfl,C,v,Z,hR,Y,V,s,hU,o,h3,hw⟩ hl;have w:=(z0.mp Z).1;walk_at "b";refine⟨rfl,x.st.1,x.st.2,a,rfl,C,v,?_⟩;walk_at "b";have ez:List.zipWith (λ x y=>D.tup [x,y]) (x.rds.map dRd) (x.rds.map λ r=>aW (spot r.tab r.pl a))=x.rds.map λ r=>D.tup [dRd r,aW (spot r.tab r.pl a)]:=by rw[List.zipWith_map,List.zipWith_self]
 rw[ez];have q:comesTo x.st.1 x.st.2 a=atC x.st a:=rfl;rw[q];generalize atC x.st a=st at*;refine bZ (λ i g T=>∃J I K L,T=S++[fzD (trS st Hf ((aX x a).take i)).2]++J/\g=[some (dDd x),some (dC a),some (.lst (x.rds.map λ r=>aW (spot r.tab r.pl a))),some (.dlo h),some (.int (trS st Hf ((aX x a).take i)).1),some (.dlo S.length),I,K,L]) ⟨[],_,_,_,by simp only[List.append_nil];rfl,rfl⟩ ?_ ?_
 . rintro I1 t i e g T he ⟨J,I,K,L,rfl,rfl⟩;obtain⟨r,hr,rfl⟩:=aR he;have d:(aX x a)[i]? =some (r.fac,toC (spot r.tab r.pl a)):=by unfold aX;rw[x5,hr];rfl
   obtain⟨hf,u⟩:=o _ (y8 d);have M:TrOk U B (trH Hf (toC (spot r.tab r.pl a))):=yL Y V u;have acc:FzOk U _ (trS st Hf ((aX x a).take i)).2:=(yc (X:=2 ^ 100) Y V hU ((aX x a).take i) (λ z E=>o z (List.mem_of_mem_take E)) (A:=st.natAbs) (acc:=(st,[])) ⟨x6 _,FzOk.nil _ _⟩).z;have al:=acc.len;have tl:=M.z.len;have P:=zK (st:=st) (Hf:=Hf) d;generalize trS st Hf ((aX x a).take i)=t0 at*;rw[show D.tup [dRd r,aW (spot r.tab r.pl a)]=D.tup [dRd r,cD (toC (spot r.tab r.pl a))]from rfl];generalize toC (spot r.tab r.pl a)=c at*;have R:Grt r.fac:=sr hf %[|3];have Q:∀z:Int,z.natAbs≤B->Grt z:=λ z E=>sr (Nat.le_trans E s) %[|3];have lT:(S++[fzD t0.2]++J).length=S.length+1+J.length:=by simp;omega
   walk_at "b";refine⟨rfl,?_⟩;walk_at "b";refine⟨rfl,c,h,b,rfl,by rw[List.append_assoc,List.getElem?_append_left w];exact Z,?_⟩;obtain⟨n,j,e1,e2,O,e4⟩:∃(n:Int) (j:Nat),(aD b c).getD (.tup [.int 0,.dlo (S++[fzD t0.2]++J).length])=.tup [.int n,.dlo j]/\(S++[fzD t0.2]++J++[fzD [(c,1)]])[j]? =some (fzD (trH Hf c).2)/\n=(trH Hf c).1/\S.length≠j:=by rcases hR.look c with⟨G,p⟩ | ⟨n,j,fz,G,p,l3⟩;{rw[G];refine⟨0,_,rfl,?_,?_,by rw[lT];omega⟩;{rw[bC];unfold trH;rw[p];rfl};{unfold trH;rw[p];rfl}};{have hj:=(z0.mp p).1;rw[G];refine⟨n,j,rfl,?_,?_,%[|0]⟩;{rw[List.append_assoc,List.append_assoc,List.getElem?_append_left hj,p];unfold trH;rw[l3];rfl};{unfold trH;rw[l3];rfl}}
   rw[e1];walk_at "b";refine⟨⟨R,Q n (by rw[O];exact M.n)⟩,?_⟩;walk_at "b";have H:∀A:List D,(S++[A]++J++[fzD [(c,1)]])[S.length]? =some A:=λ A=>by rw[List.append_assoc];exact cH rfl
   refine⟨rfl,S.length,j,r.fac,t0.2,(trH Hf c).2,rfl,e4,H _,e2,%[|0],R,λ kv hk=>Q _ (M.z.bd kv hk),?_⟩;rw[List.append_assoc,dO rfl];refine t _ _ _ ⟨J++[fzD [(c,1)]],some (dRd r),some (cD c),some (.tup [.int n,.dlo j]),?_,?_⟩;{rw[P];rfl};{rw[P,O];rfl}
 . rintro g T ⟨J,I,K,L,rfl,rfl⟩;have e:(x.rds.map λ r=>D.tup [dRd r,aW (spot r.tab r.pl a)]).length=(aX x a).length:=by unfold aX;rw[x4,x4]
   rw[e,List.take_length];walk_at "b";exact hw J
theorem xK{a:Fz}{c:Cel}(h:c∈a.map (·.1)):∃v,bO a c=some v:=by
 unfold bO
 cases q:a.find? λ kv=>decide (kv.1=c)with
 | some kv=>exact⟨kv.2,rfl⟩
 | none=>obtain⟨kv,b,rfl⟩:=ZO.mp h;have:=List.find?_eq_none.mp q kv b;simp at this
def telL(fz:Fz)(ks:List Cel):List D:=(ks.filterMap (tel fz)).map telD
def gr(fz:Fz):List D:=(tellZ fz).map telD
inductive c_ttrace(ds:List D)(S:Store)(W:WD):Prop
 | mk(n:Int)(j:Nat)(fz:Fz):ds=[.tup [.int n,.dlo j]]->S[j]? =some (fzD fz)->fz.length≤1000->(fz.map (·.1)).Nodup->W (.tup [.int n,.loc S.length]) (S++[gr fz])->c_ttrace ds S W
theorem sE(F:Fun Ω.K "told_trace" "told_trace" eU f fd)(p:Ω.cd=none)(B:Bi Ω.mg):Ok Ω 1 f fd sX c_ttrace:=by
 refine au p (N:=uI) F (uT B) (by kernel_rfl!) ?_;rintro A S W ⟨n,j,b,rfl,l,h,t,u⟩ C;walk_at "b";refine⟨j,bH b,rfl,l,by show(List.map _ _).length≤1000;rw[x4];exact h,λ y d w=>?_⟩;have q:(bH b).map (·.1)=b.map (·.1):=by unfold bH;rw[List.map_map];rfl
 rw[q]at d;have r:=Eo d w;have x:=d.length_eq;rw[x4]at x;walk_at "n";refine pH ⟨by rw[x4];omega,λ i a g=>a=telL b (y.take i)/\S=g,⟨rfl,rfl⟩,λ _ _ _ _=>trivial,?_,?_⟩
 . rintro i e a g s ⟨rfl,rfl⟩;obtain⟨c,k,rfl⟩:=aR s;obtain⟨v,m⟩:=xK (d.mem_iff.mp (y8 k));have o:tel b c=if v=0 then none else some (c,v):=by unfold tel;rw[m];rfl
   walk_at "b";refine⟨c,bH b,rfl,l,.int v,by rw[dh,m];rfl,?_⟩;walk_at "b";by_cases z:v=0;{rw[ZG z];walk_at "b";refine⟨?_,rfl⟩;unfold telL;rw[aA k,List.filterMap_append,List.filterMap_cons,o,if_pos z];simp};{rw[ZH z];walk_at "b";refine⟨c,bH b,rfl,l,.int v,by rw[dh,m];rfl,?_⟩;walk_at "b";refine⟨?_,rfl⟩;unfold telL;rw[aA k,List.filterMap_append,List.filterMap_cons,o,if_neg z,List.map_append];rfl}
 {rintro a g ⟨rfl,rfl⟩;refine .inr ?_;rw[x4,List.take_length,r];walk_at "b";exact u}
def dOf(p:Pg)(s:Stp):Option (Dd×%[|1]):=(p.nss[s.1]?).bind λ n=>(n.dds[s.2.2]?).map λ x=>(x,s.2.1)
theorem KJ{p:Pg}{n:Ns}(h:p.nss[i]? =some n):(cG i n).map (dOf p)=((cnt n.lps).flatMap λ cs=>n.dds.map λ x=>(x,cs)).map some:=by
 unfold cG;rw[List.map_flatMap,List.map_flatMap];refine ig λ cs _=>?_;rw[List.map_map,List.map_map];apply List.ext_getElem;{simp}
 . intro s c a;have b:s<n.dds.length:=by simpa using a
   rw[List.getElem_map,List.getElem_map,List.getElem_range];show dOf p (i,cs,s)=some (n.dds[s],cs);unfold dOf;rw[h];show(n.dds[s]?).map _=_;rw[y4 b];rfl
theorem V2(p:Pg):(aG p.nss).map (dOf p)=(aU p).map some:=by
 unfold aG aU;rw[List.map_flatten,List.map_flatMap,List.flatMap_def];congr 1;apply List.ext_getElem;{simp}
 . intro i c a;have b:i<p.nss.length:=by simpa using a
   rw[List.getElem_map,List.getElem_mapIdx,List.getElem_map];exact KJ (y4 b)
theorem G7{p:Pg}{x:Dd×%[|1]}(h:(aU p)[t]? =some x):∃(s:Stp) (n:Ns),(aG p.nss)[t]? =some s/\p.nss[s.1]? =some n/\n.dds[s.2.2]? =some x.1/\s.2.1=x.2:=by
 have e:((aG p.nss).map (dOf p))[t]? =some (some x):=by rw[V2,x5,h];rfl
 obtain⟨s,c,a⟩:=aR e;obtain⟨n,b,f,d⟩:=vJ (y8 c);refine⟨s,n,c,b,?_⟩;unfold dOf at a;rw[b]at a;have a:some x=(n.dds[s.2.2]?).map λ x=>(x,s.2.1):=a;rw[y4 d]at a ⊢;have a:=Option.some.inj a;rw[a];exact⟨rfl,rfl⟩
def xNo:Dd×%[|1]:=(⟨0,[],(0,[]),[]⟩,[])
def xAt(p:Pg)(t:Nat):Dd×%[|1]:=((aU p)[t]?).getD xNo
theorem uh{p:Pg}(h:t<(aU p).length):(aU p)[t]? =some (xAt p t):=by unfold xAt;rw[y4 h];rfl
def wrH(x:Dd×%[|1]):Cel:=toC (spot x.1.tab x.1.pl x.2)
def nxH(Hf:Cel->Option Tr)(x:Dd×%[|1]):Tr:=trS (atC x.1.st x.2) Hf (aX x.1 x.2)
def fM(Hf:Cel->Option Tr)(x:Dd×%[|1]):Cel->Option Tr:=λ c=>if c=wrH x then some (nxH Hf x)else Hf c
def dw(xs:List (Dd×%[|1])):Cel->Option Tr:=xs.foldl fM λ _=>none
structure XOk(U:List Cel)(x:Dd×%[|1]):Prop where
 n2:x.1.st.2.length≤1000
 c64:C64 x.2
 st:(atC x.1.st x.2).natAbs≤2 ^ 100
 rs:∀r∈aX x.1 x.2,r.1.natAbs≤2 ^ 100/\r.2∈U
 l3:x.1.rds.length≤3
theorem zO(x:Dd)(cs:%[|1]):(aX x cs).length=x.rds.length:=x4 _
theorem MF{U:List Cel}{Hf:Cel->Option Tr}{x:Dd×%[|1]}(h:pN U B Hf)(f:1≤B)(i:U.length≤180)(d:XOk U x):pN U (2 ^ 110*B) (fM Hf x):=by
 intro c t a;unfold fM at a;by_cases e:c=wrH x
 . rw[if_pos e]at a;cases a;have:=yc (X:=2 ^ 100) h f i (aX x.1 x.2) d.rs (A:=2 ^ 100) (acc:=(atC x.1.st x.2,[])) ⟨d.st,FzOk.nil _ _⟩;have l:(aX x.1 x.2).length*(180*(2 ^ 100*B))≤3*(180*(2 ^ 100*B)):=Nat.mul_le_mul_right _ (by rw[zO];exact d.l3);have b:2 ^ 100+(aX x.1 x.2).length*(180*(2 ^ 100*B))≤2 ^ 110*B:=by
    have g:2 ^ 110*B=1024*(2 ^ 100*B):=by rw[←Nat.mul_assoc]
    have j:2 ^ 100≤2 ^ 100*B:=Nat.le_mul_of_pos_right _ f;rw[g];generalize 2 ^ 100*B=q at*;omega
   exact⟨Nat.le_trans this.n b,this.z.mono b⟩
 {rw[if_neg e]at a;have:=h c t a;have b:B≤2 ^ 110*B:=Nat.le_mul_of_pos_left _ (Nat.pow_pos %[|3]);exact⟨Nat.le_trans this.n b,this.z.mono b⟩}
theorem nu(xs:List (Dd×%[|1]))(x:Dd×%[|1]):dw (xs++[x])=fM (dw xs) x:=by unfold dw;rw[List.foldl_append];rfl
theorem jH{U:List Cel}(f:U.length≤180){xs:List (Dd×%[|1])}(h:∀x∈xs,XOk U x):∀i,pN U (2 ^ (110*i)) (dw (xs.take i)):=by
 intro i
 induction i with
 | zero=>intro c t a;cases a
 | succ i d=>
   have j:1≤2 ^ (110*i):=Nat.pow_pos %[|3];have e:2 ^ (110*(i+1))=2 ^ 110*2 ^ (110*i):=by rw[Nat.mul_succ,Nat.pow_add,Nat.mul_comm]
   rw[e]
   cases q:xs[i]? with
   | some x=>rw[aA q,nu];exact MF d j f (h x (y8 q))
   | none=>have g:=List.getElem?_eq_none_iff.mp q;rw[List.take_of_length_le %[|0]];rw[List.take_of_length_le g]at d;intro c t a;have:=d c t a;have b:2 ^ (110*i)≤2 ^ 110*2 ^ (110*i):=Nat.le_mul_of_pos_left _ (Nat.pow_pos %[|3]);exact⟨Nat.le_trans this.n b,this.z.mono b⟩
def rdU(p:Pg):List Cel:=(aU p).flatMap λ x=>(aX x.1 x.2).map (·.2)
theorem PK:∀{fs cs:%[|1]},(∀f∈fs,f.natAbs≤99)->(∀c∈cs,c.natAbs≤117)->(List.zipWith (λ a b=>a*b) fs cs).sum.natAbs≤fs.length*11583:=by
 intro fs
 induction fs with
 | nil=>intro cs _ _;simp
 | cons f fs h=>
   intro cs g e
   cases cs with
   | nil=>simp
   | cons c cs=>
     rw[List.zipWith_cons_cons,List.sum_cons,List.length_cons];have i:=h (λ z d=>g z (x8 _ d)) (λ z d=>e z (x8 _ d));have j:(f*c).natAbs≤99*117:=by rw[Int.natAbs_mul];exact Nat.mul_le_mul (g f w9) (e c w9)
     have k:=Int.natAbs_add_le (f*c) (List.zipWith (λ a b=>a*b) fs cs).sum;omega
theorem LK{p:Pg}{x:Dd×%[|1]}(h:x∈aU p):∃n∈p.nss,x.2∈cnt n.lps/\x.1∈n.dds:=by unfold aU at h;obtain⟨n,c,h⟩:=List.mem_flatMap.mp h;obtain⟨e,a,h⟩:=List.mem_flatMap.mp h;obtain⟨d,b,rfl⟩:=ZO.mp h;exact⟨n,c,a,b⟩
theorem Io{p:Pg}(hP:PgB m p){x:Dd×%[|1]}(h:x∈aU p):XOk (rdU p) x:=by
 obtain⟨n,s,g,l⟩:=LK h;obtain⟨hL,_,_,_,i⟩:=hP.2.2.2 n s;obtain⟨_,⟨j,w,C,D⟩,k,u⟩:=i x.1 l;have v:=hL.2.1;have hcs:=jL hL n.lps.length (x6 _) x.2 (by rw[List.take_length];exact g);have B:=sO n.lps.length;refine⟨by rw[j];omega,hcs.c64,?_,λ r d=>?_,k⟩
 . have z:=PK (fs:=x.1.st.2) (cs:=x.2) (λ f o=>by have:=w f o;omega) (λ c g=>by have:=hcs.2 c g;omega);rw[j]at z;have e:atC x.1.st x.2=x.1.st.1+(List.zipWith (λ a b=>a*b) x.1.st.2 x.2).sum:=rfl;rw[e];generalize (List.zipWith (λ a b=>a*b) x.1.st.2 x.2).sum=q at*;have:n.lps.length*11583≤3*11583:=Nat.mul_le_mul_right _ v;have:(2:Nat) ^ 100=1267650600228229401496703205376:=%[|3]
   omega
 . refine⟨?_,List.mem_flatMap.mpr ⟨x,h,ZO.mpr ⟨r,d,rfl⟩⟩⟩;unfold aX at d;obtain⟨q,t,rfl⟩:=ZO.mp d;obtain⟨y,A,_⟩:=u q t;show q.fac.natAbs≤_;have:(2:Nat) ^ 100=1267650600228229401496703205376:=%[|3]
   omega
theorem tD{p:Pg}(b:PgB m p)(a:12≤m)(d:m≤60):(rdU p).length≤180:=by
 have c:=b.many a;rw[nA]at c;have f:(rdU p).length≤(aU p).length*3:=qU λ x e=>by rw[x4,zO];exact(Io b e).l3
 omega
theorem yr{p:Pg}(a:PgB m p){o:List Nat}(hO:gq (aU p).length o):∀x∈o.map (xAt p),XOk (rdU p) x:=λ x c=>by obtain⟨t,b,rfl⟩:=ZO.mp c;exact Io a (y8 (uh (hO.1 t b)))
theorem Qu{kvs:Kc}{c:Cel}{kv:Cel×D}(h:kv∈putD kvs c d):(kv.1=c/\kv.2=d)∨(kv∈kvs/\kv.1≠c):=by unfold putD at h;split at h;{obtain⟨z,b,rfl⟩:=ZO.mp h;by_cases e:z.1=c;{rw[if_pos e];exact .inl ⟨e,rfl⟩};{rw[if_neg e];exact .inr ⟨b,e⟩}};{rename_i a;rcases ZK.mp h with h | h;{exact .inr ⟨h,λ e=>a (List.any_eq_true.mpr ⟨kv,h,ZG e⟩)⟩};{rw[ZL.mp h];exact .inl ⟨rfl,rfl⟩}}
theorem qp{kvs:Kc}{c:Cel}:(putD kvs c d).map (·.1)=if(kvs.any λ kv=>decide (kv.1=c))=true then kvs.map (·.1)else kvs.map (·.1)++[c]:=by unfold putD;split;{rw[List.map_map];refine List.map_congr_left λ kv _=>?_;show(if kv.1=c then(kv.1,d)else kv).1=kv.1;split<;>rfl};{rw[List.map_append];rfl}
theorem Uu{kvs:Kc}{c:Cel}(h:(kvs.map (·.1)).Nodup):((putD kvs c d).map (·.1)).Nodup:=by rw[qp];split;{exact h};{rename_i j;rw[List.nodup_append];refine⟨h,by simp,λ a g b f e=>?_⟩;obtain⟨k,i,rfl⟩:=ZO.mp g;rw[List.mem_singleton]at f;exact j (List.any_eq_true.mpr ⟨k,i,ZG (e.trans f)⟩)}
theorem Qi{kvs:Kc}{c:Cel}:c∈(putD kvs c d).map (·.1):=by rw[qp];split;{rename_i b;obtain⟨f,a,e⟩:=List.any_eq_true.mp b;exact ZO.mpr ⟨f,a,ZF e⟩};{simp}
theorem Pr{kvs:Kc}{c a:Cel}(h:a∈kvs.map (·.1)):a∈(putD kvs c d).map (·.1):=by rw[qp];split;{exact h};{exact List.mem_append_left _ h}
theorem HeldR.put{held:Kc}{Hf:Cel->Option Tr}(h:HeldR k S held Hf)(w:k<S.length){x:Dd×%[|1]}{t:Tr}(u:t=nxH Hf x){X:List D}:HeldR k ((S++[fzD t.2]++J).set k X) (putD held (wrH x) (.tup [.int t.1,.dlo S.length])) (fM Hf x):=by
 refine⟨λ f i=>?_,λ c q=>?_,Uu h.nd⟩;{rcases Qu i with⟨g,a⟩ | ⟨b,m⟩;{refine⟨t.1,S.length,t.2,a,?_,?_,%[|0]⟩;{rw[List.getElem?_set_ne %[|0]];exact cH rfl};{unfold fM;rw[if_pos g,u]}};{obtain⟨n,j,s,g,a,r,p⟩:=h.at_ f b;refine⟨n,j,s,g,?_,?_,p⟩;{rw[List.getElem?_set_ne p,List.append_assoc,List.getElem?_append_left (z0.mp a).1];exact a};{unfold fM;rw[if_neg m];exact r}}}
 . have v:c≠wrH x:=λ e=>by obtain⟨f,b,a⟩:=ZO.mp (Qi (kvs:=held) (c:=wrH x) (d:=.tup [.int t.1,.dlo S.length]));exact q f b (a.trans e.symm)
   unfold fM;rw[if_neg v];refine h.no c λ f b e=>?_;obtain⟨o,l,a⟩:=ZO.mp (Pr (c:=wrH x) (d:=.tup [.int t.1,.dlo S.length]) (ZO.mpr ⟨f,b,rfl⟩));exact q o l (a.trans e)
inductive c_refRow(ds:List D)(S:Store)(W:WD):Prop
 | mk(p:Pg)(m:Nat)(o:List Nat):ds=[dPg p,.lst (dN o)]->PgB m p->12≤m->m≤60->flat S->o.length≤60->gq (aU p).length o->W .non S->c_refRow ds S W
theorem mO(F:Fun Ω.K "refuse_no_row" "refuse_no_row" dB f fd)(d:Ω.cd=none)(a:Cal Ω "is_row" 5 2 c_isRow):Ok Ω 6 f fd oR c_refRow:=by refine au d (N:=oO) F (oW a) (by kernel_rfl!) ?_;rintro k S W ⟨p,m,o,rfl,g,b,c,h,i,e,j⟩ l;walk_at "b";refine⟨rfl,p,m,o,rfl,g,b,c,h,i,e,?_⟩;walk_at "b";exact j
theorem FZ{kvs:Kc}{c:Cel}(h:c∉kvs.map (·.1)):putD kvs c d=kvs++[(c,d)]:=by unfold putD;rw[if_neg];intro e;obtain⟨b,a,e⟩:=List.any_eq_true.mp e;exact h (ZO.mpr ⟨b,a,ZF e⟩)
structure TolR(S:Store)(t:Nat)(Hf:Cel->Option Tr)(tl:Kc):Prop where
 nd:(tl.map (·.1)).Nodup
 at_:∀kv∈tl,∃(n:Int) (j:Nat) (fz:Fz),kv.2=.tup [.int n,.loc j]/\Hf kv.1=some (n,fz)/\S[j]? =some (gr fz)/\t<j
 no:∀c,c∉tl.map (·.1)->Hf c=none
structure TolI(b:Nat)(Hf:Cel->Option Tr)(held tl:Kc)(Ls:Store)(i:Nat):Prop where
 ks:tl.map (·.1)=(held.take i).map (·.1)
 at_:∀kv∈tl,∃(n:Int) (q:Nat) (fz:Fz),kv.2=.tup [.int n,.loc (b+1+q)]/\Hf kv.1=some (n,fz)/\Ls[q]? =some (gr fz)
theorem TolI.next{b:Nat}{Hf:Cel->Option Tr}{held f:Kc}{c:Store}(h:TolI b Hf held f c i)(nd:(held.map (·.1)).Nodup){kv:Cel×D}(hi:held[i]? =some kv){n:Int}{d:Fz}(e:Hf kv.1=some (n,d)):
 putD f kv.1 (.tup [.int n,.loc (b+1+c.length)])=f++[(kv.1,.tup [.int n,.loc (b+1+c.length)])]/\TolI b Hf held (f++[(kv.1,.tup [.int n,.loc (b+1+c.length)])]) (c++[gr d]) (i+1):=by
 have r:kv.1∉f.map (·.1):=by rw[h.ks];intro p;obtain⟨z,a,e⟩:=ZO.mp p;obtain⟨j,g⟩:=ZR a;have k:=(z0.mp hi).1;rw[List.getElem?_take]at g;split at g;{refine rZ nd (by assumption) (by rw[x4];exact k) ?_;rw[x5,x5,g,hi];show some z.1=some kv.1;rw[e]};{cases g}
 refine⟨FZ r,by rw[List.map_append,h.ks,aA hi,List.map_append];rfl,λ z a=>?_⟩;rcases ZK.mp a with a | a;{obtain⟨n,q,d,m,o,l⟩:=h.at_ z a;exact⟨n,q,d,m,o,by rw[List.getElem?_append_left (z0.mp l).1];exact l⟩};{rw[ZL.mp a];exact⟨n,c.length,d,rfl,e,by simp⟩}
inductive c_traced(ds:List D)(S:Store)(W:WD):Prop
 | mk(p:Pg)(m:Nat)(o:List Nat):ds=[dPg p,.lst (dN o)]->PgB m p->12≤m->m≤60->flat S->gq (aU p).length o->(∀(J:Store)(t:Nat)(tl:Kc),S.length≤t->(S++J)[t]? =some (.non::tl.map encC)->TolR (S++J) t (dw (o.map (xAt p))) tl->W (.dlo t) (S++J))->c_traced ds S W
inductive TcA(S:Store)(p:Pg)(o:List Nat)(i:Nat)(Γ':Gam)(T:Store):Prop
 | mk(J held o5 o6:_):T=S++[.non::held.map encC]++J->HeldR S.length T held (dw ((o.map (xAt p)).take i))->held.length≤i->Γ'=[some (dPg p),some (.lst (dN o)),some (.lst ((aG p.nss).map dSt)),some (.lst ((aU p).map λ x=>dCR (crs x))),some (.dlo S.length),o5,o6,none,none,none]->TcA S p o i Γ' T
inductive TcB(S T:Store)(p:Pg)(o:List Nat)(Hf:Cel->Option Tr)(held:Kc)(o5 o6:Option D)(i:Nat)(Γ':Gam)(T':Store):Prop
 | mk(tl Ls o8 o9:_):T'=T++[.non::tl.map encC]++Ls->TolI T.length Hf held tl Ls i->Γ'=[some (dPg p),some (.lst (dN o)),some (.lst ((aG p.nss).map dSt)),some (.lst ((aU p).map λ x=>dCR (crs x))),some (.dlo S.length),o5,o6,some (.dlo T.length),o8,o9]->TcB S T p o Hf held o5 o6 i Γ' T'
theorem Dg(F:Fun Ω.K "traced" "traced" jN f fd)(N0:Ω.cd=none)(K:Cal Ω "steps_of" 4 1 c_steps)(H:Cal Ω "deed_of" 1 2 c_deedof)(G:Cal Ω "cells_of" 5 1 c_cellsOf)(I:Cal Ω "refuse_no_row" 6 2 c_refRow)(M:Cal Ω "trace_of_step" 2 4 c_tstep)(L:Cal Ω "told_trace" 1 1 c_ttrace):Ok Ω 7 f fd Gv c_traced:=by
 refine au N0 (N:=Hn) F (Gr K H G I M L) (by kernel_rfl!) ?_;rintro ds S W ⟨p,m,o,rfl,E,l,s,hS,hO,hw⟩ hl;have hN:=kJ E l s;have ho:o.length≤60:=by have:=sub_len hO.2 (U:=List.range (aU p).length) λ t w=>List.mem_range.mpr (hO.1 t w);rw[List.length_range]at this;omega
 have hU:=tD E l s;have hX:=yr E hO;walk_at "b";refine⟨rfl,p,m,o,rfl,E,l,s,hS,ho,hO,?_⟩;walk_at "b";refine⟨rfl,Js E l s hS (.inl ?_)⟩;walk_at "b";refine⟨rfl,J7 E l s hS ?_⟩;rw[vC];walk_at "b";refine bZ (TcA S p o) ⟨[],[],_,_,by simp,⟨(λ _ h=>nomatch h),λ _ _=>rfl,List.nodup_nil⟩,x6 _,rfl⟩ ?_ ?_
 . rintro I1 ac i e y T he ⟨J,a,o5,o6,rfl,v,O,rfl⟩;obtain⟨t,w,rfl⟩:=JV he;have ah:=hO.1 t (y8 w);have hi:=(z0.mp w).1;have hx:=uh ah;have u:=hX (xAt p t) (ZO.mpr ⟨t,y8 w,rfl⟩);have d:=jH hU hX i;have ab:2 ^ (110*i)≤2 ^ 50000:=Nat.pow_le_pow_right %[|3] %[|0];have et:dw ((o.map (xAt p)).take (i+1))=fM (dw ((o.map (xAt p)).take i)) (xAt p t):=by rw[aA (by rw[x5,w];rfl),nu]
   obtain⟨⟨si,sc,sd⟩,n,k1,k2,k3,k4⟩:=G7 hx;have k4:sc=(xAt p t).2:=k4;subst k4;have a1:atI ((aG p.nss).map dSt) ((t:Nat):Int)=some (dSt (si,(xAt p t).2,sd)):=cL (by rw[x5,k1];rfl);have Y:atI ((aU p).map λ x=>dCR (crs x)) ((t:Nat):Int)=some (dCR (crs (xAt p t))):=cL (by rw[x5,hx];rfl);generalize dw ((o.map (xAt p)).take i)=Hf at v d et;generalize xAt p t=x at hx u et k1 k2 k3 a1 Y;have g:(S++[.non::a.map encC]++J)[S.length]? =some (.non::a.map encC):=cH rfl;walk_at "b";refine⟨_,a1,?_⟩;walk_at "b";refine⟨rfl,p,(si,x.2,sd),n,x.1,rfl,k2,k3,?_⟩;walk_at "b";refine⟨_,Y,?_⟩;walk_at "b";refine⟨rfl,x.1,x.2,S.length,a,Hf,rdU p,2 ^ (110*i),?_,u.n2,u.c64,g,v,d,Nat.pow_pos %[|3],ab,hU,u.rs,u.l3,λ J2=>?_⟩
   . have e:(crs x).2.map aW=x.1.rds.map λ r=>aW (spot r.tab r.pl x.2):=by unfold crs;rw[List.map_map];rfl
     rw[e]
   have af:=v.put (J:=J2) (x:=x) (t:=nxH Hf x) (X:=.non::(putD a (wrH x) (.tup [.int (nxH Hf x).1,.dlo (S++[.non::a.map encC]++J).length])).map encC) (z0.mp g).1 rfl;have aj:=Ei a (wrH x) (.tup [.int (nxH Hf x).1,.dlo (S++[.non::a.map encC]++J).length]);have aa:(S++[.non::a.map encC]++J++[fzD (nxH Hf x).2]++J2).set S.length (.non::(putD a (wrH x) (.tup [.int (nxH Hf x).1,.dlo (S++[.non::a.map encC]++J).length])).map encC)=S++[.non::(putD a (wrH x) (.tup [.int (nxH Hf x).1,.dlo (S++[.non::a.map encC]++J).length])).map encC]++(J++[fzD (nxH Hf x).2]++J2):=by rw[List.append_assoc,List.append_assoc (S++[.non::a.map encC]),dO rfl,List.append_assoc J]
   walk_at "b";refine⟨_,Y,?_⟩;walk_at "b";refine⟨wrH x,a,rfl,?_,%[|0],ac _ _ _ ⟨J++[fzD (nxH Hf x).2]++J2,putD a (wrH x) (.tup [.int (nxH Hf x).1,.dlo (S++[.non::a.map encC]++J).length]),_,_,aa,?_,%[|0],rfl⟩⟩;{rw[List.append_assoc,List.append_assoc (S++[.non::a.map encC])];exact cH rfl};{rw[et];exact af}
 . rintro y T ⟨J,a,o5,o6,rfl,v,O,rfl⟩;have eo:(o.map (xAt p)).take (dN o).length=o.map (xAt p):=by rw[fZ,List.take_of_length_le (by rw[x4];exact x6 _)]
   have d:=jH hU hX o.length;rw[List.take_of_length_le (by rw[x4];exact x6 _)]at d;rw[eo]at v;generalize dw (o.map (xAt p))=Hf at v d hw;have g:(S++[.non::a.map encC]++J)[S.length]? =some (.non::a.map encC):=cH rfl;have B:S.length<(S++[.non::a.map encC]++J).length:=(z0.mp g).1;have ak:S.length≤(S++[.non::a.map encC]++J).length:=Nat.le_of_lt B;have ag:∃J2,S++[.non::a.map encC]++J=S++J2:=⟨_,by rw[List.append_assoc]⟩;walk_at "b";generalize S++[.non::a.map encC]++J=T at*;refine⟨a,by rw[List.getElem?_append_left B];exact g,M5 (TcB S T p o Hf a o5 o6) ⟨[],[],_,_,by rw[List.append_nil];rfl,⟨rfl,(λ _ h=>nomatch h)⟩,rfl⟩ ?_ ?_ ?_⟩;{rintro i y T' ⟨b,A,o8,o9,rfl,C,rfl⟩;rw[List.append_assoc,List.getElem?_append_left B];exact g}
   . rintro I2 ad i kv y T' k ⟨b,A,o8,o9,rfl,C,rfl⟩;obtain⟨n,j,V,Z,P,Q,e4⟩:=v.at_ kv (y8 k);have hj:=(z0.mp P).1;have hz:=(d _ _ Q).z;have ai:V.length≤(rdU p).length:=hz.len;obtain⟨hp,ae⟩:=C.next v.nd k Q;have al:b.length≤60:=by have:=congrArg List.length C.ks;rw[x4,x4,List.length_take]at this;rw[fZ]at O;omega
     have ek:encC kv=.tup [cD kv.1,.tup [.int n,.dlo j]]:=by show D.tup [cD kv.1,kv.2]=_;rw[Z]
     have R:(T++[.non::b.map encC]++A).length=T.length+1+A.length:=by simp;omega
     rw[ek];walk_at "b";refine⟨rfl,?_⟩;walk_at "b";refine⟨rfl,n,j,V,rfl,by rw[List.append_assoc,List.getElem?_append_left hj];exact P,%[|0],hz.nd,?_⟩;rw[R,List.append_assoc (T++[.non::b.map encC])];walk_at "b";refine⟨kv.1,b,rfl,cH rfl,%[|0],?_⟩;rw[dO rfl,hp];exact ad _ _ _ ⟨_,_,_,_,rfl,ae,rfl⟩
   . rintro y T' ⟨b,A,o8,o9,rfl,C,rfl⟩;obtain⟨J2,rfl⟩:=ag;have w:(S++J2++[.non::b.map encC]++A)[(S++J2).length]? =some (.non::b.map encC):=cH rfl;have hk:b.map (·.1)=a.map (·.1):=by rw[C.ks,List.take_length]
     have hT:TolR (S++J2++[.non::b.map encC]++A) (S++J2).length Hf b:=⟨by rw[hk];exact v.nd,λ kv k=>by
      obtain⟨n,q,V,Z,P,Q⟩:=C.at_ kv k;refine⟨n,_,V,Z,P,?_,%[|0]⟩;have R:(S++J2++[.non::b.map encC]).length=(S++J2).length+1:=by rw[v3];rfl
      rw[List.getElem?_append_right (by rw[R];omega),R,Nat.add_sub_cancel_left];exact Q,λ c hc=>v.no c λ kv k e=>hc (by rw[hk];exact ZO.mpr ⟨kv,k,e⟩)⟩;have es:S++J2++[.non::b.map encC]++A=S++(J2++[.non::b.map encC]++A):=by rw[List.append_assoc,List.append_assoc,List.append_assoc]
     rw[es]at w hT;walk_at "b";rw[es];exact hw _ _ _ (by rw[v3];omega) w hT
def tvH(Hf:Cel->Option Tr)(c:Cel):D:=cj ((Hf c).getD (0,[]))
def tlH(Hf:Cel->Option Tr)(held:Kc):Kc:=held.map λ kv=>(kv.1,tvH Hf kv.1)
theorem zH(Hf:Cel->Option Tr)(held:Kc):(tlH Hf held).map (·.1)=held.map (·.1):=by unfold tlH;rw[List.map_map];rfl
theorem Qq{Hf:Cel->Option Tr}{held:Kc}(nd:(held.map (·.1)).Nodup){i:Nat}{kv:Cel×D}(h:held[i]? =some kv):putD (tlH Hf (held.take i)) kv.1 (tvH Hf kv.1)=tlH Hf (held.take (i+1)):=by rw[FZ,aA h];{unfold tlH;rw[List.map_append];rfl};{rw[zH];intro c;obtain⟨z,d,e⟩:=ZO.mp c;obtain⟨j,a⟩:=ZR d;have b:=(z0.mp h).1;rw[List.getElem?_take]at a;split at a;{refine rZ nd (by assumption) (by rw[x4];exact b) ?_;rw[x5,x5,a,h];show some z.1=some kv.1;rw[e]};{cases a}}
theorem Lj{Hf:Cel->Option Tr}{held:Kc}(a:HeldR k S held Hf)(c:Cel):aD (tlH Hf held) c=(Hf c).map cj:=by
 have e:aD (tlH Hf held) c=(held.find? λ kv=>decide (kv.1=c)).map λ kv=>tvH Hf kv.1:=by unfold aD tlH;rw[List.find?_map,Option.map_map];rfl
 rw[e]
 cases q:held.find? λ kv=>decide (kv.1=c)with
 | none=>rw[a.no c λ kv f e=>by have:=List.find?_eq_none.mp q kv f;simp[e]at this];rfl
 | some kv=>
   have d:kv.1=c:=by have:=List.find?_some q;simpa using this
   obtain⟨n,j,i,g,h,b,_⟩:=a.at_ kv (List.mem_of_find?_eq_some q);show some (tvH Hf kv.1)=_;rw[←d];unfold tvH;rw[b];rfl
theorem lA(t:Tr):ak (cj t)=true:=by have:aj ((tellZ t.2).map telD)=true:=jT (λ kv=>by show aj [cD kv.1,.int kv.2]=true;simp only[aj,Bool.and_true];show(ak (cD kv.1)&&true)=true;rw[Bool.and_true];show aj [.int kv.1.1,.tup (kv.1.2.map .int)]=true;show(true&&(aj (kv.1.2.map .int)&&true))=true;rw[bA];rfl) _;show(true&&(aj ((tellZ t.2).map telD)&&true))=true;rw[this];rfl
theorem TQ(c:Cel):okD (cD c)=true:=by show(true&&(bW (c.2.map .int)&&true))=true;rw[mK];rfl
theorem DY(t:Tr):okD (cj t)=true/\deep (cj t)≤50:=by
 have h:∀l:List (Cel×Int),bW (l.map telD)=true/\bJ (l.map telD)≤3:=by
  intro l
  induction l with
  | nil=>exact⟨rfl,Nat.zero_le _⟩
  | cons kv l ih=>
    constructor;{show((okD (cD kv.1)&&(true&&true))&&bW (l.map telD))=true;rw[TQ,ih.1];rfl}
    . show max (max (deep (cD kv.1)) 0+1) (bJ (l.map telD))≤3;have:deep (cD kv.1)=2:=by show max 0 (max (bJ (kv.1.2.map .int)+1) 0)+1=2;rw[jV];rfl
      have:=ih.2;omega
 obtain⟨a,b⟩:=h (tellZ t.2);constructor;{show(true&&(bW ((tellZ t.2).map telD)&&true))=true;rw[a];rfl};{show max 0 (max (bJ ((tellZ t.2).map telD)+1) 0)+1≤50;omega}
structure Told(Hf:Cel->Option Tr)(tl:Kc):Prop where
 nd:(tl.map (·.1)).Nodup
 lk:∀c,aD tl c=(Hf c).map cj
 vl:∀kv∈tl,(Hf kv.1).map cj=some kv.2
 ok:kE tl
 nl:aj (.non::tl.map encC)=true
theorem Ql{Hf:Cel->Option Tr}{held:Kc}(b:HeldR k S held Hf):Told Hf (tlH Hf held):=by
 refine⟨by rw[zH];exact b.nd,Lj b,λ c a=>?_,λ c a=>?_,?_⟩;{unfold tlH at a;obtain⟨z,g,rfl⟩:=ZO.mp a;obtain⟨n,j,h,_,_,e,_⟩:=b.at_ z g;show(Hf z.1).map cj=some (tvH Hf z.1);unfold tvH;rw[e];rfl};{unfold tlH at a;obtain⟨z,_,rfl⟩:=ZO.mp a;exact DY _}
 . show(true&&aj ((tlH Hf held).map encC))=true;rw[Bool.true_and];refine rQ λ d f=>?_;obtain⟨c,a,rfl⟩:=ZO.mp f;unfold tlH at a;obtain⟨z,_,rfl⟩:=ZO.mp a;show(ak (cD z.1)&&(ak (cj _)&&true))=true;rw[lA];have:ak (cD z.1)=true:=by show(true&&(aj (z.1.2.map .int)&&true))=true;rw[bA];rfl
   rw[this];rfl
theorem JF{b:Fz}(nd:(b.map (·.1)).Nodup){kv:Cel×Int}(h:kv∈b):bO b kv.1=some kv.2:=by
 unfold bO
 cases q:b.find? λ z=>decide (z.1=kv.1)with
 | none=>have:=List.find?_eq_none.mp q kv h;simp at this
 | some z=>
   have e:z.1=kv.1:=by have:=List.find?_some q;simpa using this
   obtain⟨i,d⟩:=ZR h;obtain⟨j,a⟩:=ZR (List.mem_of_find?_eq_some q);have g:=(z0.mp d).1;have k:=(z0.mp a).1;have :i=j:=by by_cases c:i<j;{refine absurd ?_ (rZ nd c (by rw[x4];exact k));rw[x5,x5,d,a];show some kv.1=some z.1;rw[e]};{by_cases f:j<i;{refine absurd ?_ (rZ nd f (by rw[x4];exact g));rw[x5,x5,d,a];show some z.1=some kv.1;rw[e]};{omega}}
   subst this;rw[d]at a;cases a;rfl
inductive c_ltraces(ds:List D)(S:Store)(W:WD):Prop
 | mk(p:Pg)(m:Nat)(o:List Nat):ds=[.lst (ju p),.lst (dN o)]->PgB m p->12≤m->m≤60->flat S->gq (aU p).length o->(∀tl:Kc,Told (dw (o.map (xAt p))) tl->tl.length≤60->W (.dlo S.length) (S++[.non::tl.map encC]))->c_ltraces ds S W
inductive TrA(S:Store)(p:Pg)(o:List Nat)(i:Nat)(Γ':Gam)(T:Store):Prop
 | mk(J held o3 o4 o5 o6 o7 o8 o9 o10 o11 o12:_):T=S++[.non::held.map encC]++J->HeldR S.length T held (dw ((o.map (xAt p)).take i))->held.length≤i->Γ'=[some (.lst ((aU p).map λ x=>eF x.2 x.1)),some (.lst (dN o)),some (.dlo S.length),o3,o4,o5,o6,o7,o8,o9,o10,o11,o12,none]->TrA S p o i Γ' T
inductive TrB(S T:Store)(p:Pg)(o:List Nat)(t:Nat)(x:Dd×%[|1])(st:Int)(Hf:Cel->Option Tr)(k:Nat)(Γ':Gam)(T2:Store):Prop
 | mk(J2 o8 o9 o10 o11 o12:_):T2=T++[fzD (trS st Hf ((aX x.1 x.2).take k)).2]++J2->Γ'=[some (.lst ((aU p).map λ x=>eF x.2 x.1)),some (.lst (dN o)),some (.dlo S.length),some (.int (t:Int)),some (aW (spot x.1.tab x.1.pl x.2)),some (.int (trS st Hf ((aX x.1 x.2).take k)).1),some (.lst (x.1.rds.map (dPt x.2))),some (.dlo T.length),o8,o9,o10,o11,o12,none]->TrB S T p o t x st Hf k Γ' T2
inductive TrC(S T J2:Store)(p:Pg)(o:List Nat)(t:Nat)(x:Dd×%[|1])(t0:Tr)(r:Rd)(mo:Fz)(c:Cel)(n:Int)(j:Nat)(q:Nat)(Γ':Gam)(T3:Store):Prop
 | mk(o12:_):T3=T++[fzD (bK t0.2 r.fac (mo.take q))]++(J2++[fzD [(c,1)]])->Γ'=[some (.lst ((aU p).map λ x=>eF x.2 x.1)),some (.lst (dN o)),some (.dlo S.length),some (.int (t:Int)),some (aW (spot x.1.tab x.1.pl x.2)),some (.int (t0.1+r.fac*n)),some (.lst (x.1.rds.map (dPt x.2))),some (.dlo T.length),some (.int r.fac),some (cD c),some (.int n),some (.dlo j),o12,none]->TrC S T J2 p o t x t0 r mo c n j q Γ' T3
inductive TrD(S T:Store)(p:Pg)(o:List Nat)(Hf:Cel->Option Tr)(held:Kc)(o3 o6 o8 o9 o10 o11 o12:Option D)(i:Nat)(Γ':Gam)(T':Store):Prop
 | mk(o4 o5 o7:_):T'=T++[.non::(tlH Hf (held.take i)).map encC]->Γ'=[some (.lst ((aU p).map λ x=>eF x.2 x.1)),some (.lst (dN o)),some (.dlo S.length),o3,o4,o5,o6,o7,o8,o9,o10,o11,o12,some (.dlo T.length)]->TrD S T p o Hf held o3 o6 o8 o9 o10 o11 o12 i Γ' T'
theorem CN(F:Fun Ω.K "_law_traces" "_law_traces" kh f fd)(N0:Ω.cd=none)(B:Bi Ω.mg):Ok Ω 1 f fd HH c_ltraces:=by
 refine au N0 (N:=Gm) F (Bl.owq (G6 B)) (by kernel_rfl!) ?_;rintro ds S W ⟨p,m,o,rfl,hP,ab,ac,hS,hO,hw⟩ hl;have hN:=kJ hP ab ac;have ho:o.length≤60:=by have:=sub_len hO.2 (U:=List.range (aU p).length) λ t Z=>List.mem_range.mpr (hO.1 t Z);rw[List.length_range]at this;omega
 have hU:=tD hP ab ac;have hX:=yr hP hO;rw[Ak];walk_at "b";refine bZ (TrA S p o) ⟨[],[],_,_,_,_,_,_,_,_,_,_,by simp,⟨(λ _ h=>nomatch h),λ _ _=>rfl,List.nodup_nil⟩,x6 _,rfl⟩ ?_ ?_
 . rintro I1 am i e b T he ⟨J,a,o3,o4,o5,o6,o7,o8,o9,H,I,u,rfl,y,P,rfl⟩;obtain⟨t,Z,rfl⟩:=JV he;have aB:=hO.1 t (y8 Z);have hi:=(z0.mp Z).1;have hx:=uh aB;have ag:=hX (xAt p t) (ZO.mpr ⟨t,y8 Z,rfl⟩);have d:=jH hU hX i;have ad:2 ^ (110*i)≤2 ^ 50000:=Nat.pow_le_pow_right %[|3] %[|0];have hB:1≤2 ^ (110*i):=Nat.pow_pos %[|3];have V:dw ((o.map (xAt p)).take (i+1))=fM (dw ((o.map (xAt p)).take i)) (xAt p t):=by rw[aA (by rw[x5,Z];rfl),nu]
   have a1:atI ((aU p).map λ x=>eF x.2 x.1) ((t:Nat):Int)=some (eF (xAt p t).2 (xAt p t).1):=cL (by rw[x5,hx];rfl);generalize dw ((o.map (xAt p)).take i)=Hf at y d V;generalize xAt p t=x at hx ag V a1;generalize 2 ^ (110*i)=B at d ad hB;have s:(S++[.non::a.map encC]++J)[S.length]? =some (.non::a.map encC):=cH rfl;have g:=(z0.mp s).1;have aq:=λ J2=>y.put (J:=J2) (x:=x) (t:=nxH Hf x) (X:=.non::(putD a (wrH x) (.tup [.int (nxH Hf x).1,.dlo (S++[.non::a.map encC]++J).length])).map encC) g rfl;walk_at "b";refine⟨_,a1,?_⟩;walk_at "b";refine⟨rfl,?_⟩;walk_at "b";have ay:∀(J2 X:List D)(L:Store),(S++[J2]++J++[X]++L).set S.length X=(S++[J2]++J++[X]++L).set S.length X:=λ _ _ _=>rfl;have aa:∀(A X Y:List D)(L:Store),(S++[A]++J++[X]++L).set S.length Y=S++[Y]++(J++[X]++L):=λ A X Y L=>by rw[List.append_assoc,List.append_assoc (S++[A]),dO rfl,List.append_assoc J]
   have aI:=Ei a (wrH x) (.tup [.int (nxH Hf x).1,.dlo (S++[.non::a.map encC]++J).length]);have ak:nxH Hf x=trS (atC x.1.st x.2) Hf (aX x.1 x.2):=rfl;have af:=ag.rs;have O:=aa (.non::a.map encC);clear aa ay;generalize hT:S++[.non::a.map encC]++J=T at*;generalize atC x.1.st x.2=st at*;refine bZ (TrB S T p o t x st Hf) ⟨[],_,_,_,_,_,by simp only[List.append_nil];rfl,rfl⟩ ?_ ?_
   . rintro I2 an k e b T2 av ⟨J2,o8,o9,H,I,u,rfl,rfl⟩;obtain⟨r,hr,rfl⟩:=aR av;have K:(aX x.1 x.2)[k]? =some (r.fac,toC (spot r.tab r.pl x.2)):=by unfold aX;rw[x5,hr];rfl
     obtain⟨hf,as⟩:=af _ (y8 K);have tr:TrOk (rdU p) B (trH Hf (toC (spot r.tab r.pl x.2))):=yL d hB as;have acc:FzOk (rdU p) _ (trS st Hf ((aX x.1 x.2).take k)).2:=(yc (X:=2 ^ 100) d hB hU ((aX x.1 x.2).take k) (λ z G=>af z (List.mem_of_mem_take G)) (A:=st.natAbs) (acc:=(st,[])) ⟨x6 _,FzOk.nil _ _⟩).z;have al:=acc.len;have tl:=tr.z.len;have ek:=zK (st:=st) (Hf:=Hf) K;generalize trS st Hf ((aX x.1 x.2).take k)=t0 at*;rw[show dPt x.2 r=D.tup [.int r.fac,cD (toC (spot r.tab r.pl x.2))]from rfl];generalize toC (spot r.tab r.pl x.2)=c at*;have gf:Grt r.fac:=sr hf %[|3];have gB:∀z:Int,z.natAbs≤B->Grt z:=λ z G=>sr (Nat.le_trans G ad) %[|3];have lT:(T++[fzD t0.2]++J2).length=T.length+1+J2.length:=by simp;omega
     walk_at "b";refine⟨rfl,?_⟩;walk_at "b";refine⟨by rw[lT];omega,?_⟩;walk_at "b";refine⟨c,rfl,bC _ _,?_⟩;rw[cP];walk_at "b";refine⟨c,a,rfl,by rw[List.append_assoc,List.append_assoc,List.getElem?_append_left g];exact s,?_⟩;obtain⟨n,j,e1,e2,e3,e4⟩:∃(n:Int) (j:Nat),(aD a c).getD (.tup [.int 0,.dlo (T++[fzD t0.2]++J2).length])=.tup [.int n,.dlo j]/\(T++[fzD t0.2]++J2++[fzD [(c,1)]])[j]? =some (fzD (trH Hf c).2)/\n=(trH Hf c).1/\T.length≠j:=by rcases y.look c with⟨l1,R⟩ | ⟨n,j,w,l1,R,l3⟩;{rw[l1];refine⟨0,_,rfl,?_,?_,by rw[lT];omega⟩;{rw[bC];unfold trH;rw[R];rfl};{unfold trH;rw[R];rfl}};{have hj:=(z0.mp R).1;rw[l1];refine⟨n,j,rfl,?_,?_,%[|0]⟩;{rw[List.append_assoc,List.append_assoc,List.getElem?_append_left hj,R];unfold trH;rw[l3];rfl};{unfold trH;rw[l3];rfl}}
     rw[e1];walk_at "b";refine⟨rfl,?_⟩;walk_at "b";refine⟨⟨gf,gB n (by rw[e3];exact tr.n)⟩,?_⟩;walk_at "b";have Q:∀A:List D,(T++[A]++(J2++[fzD [(c,1)]]))[j]? =some (fzD (trH Hf c).2):=λ A=>by rw[←dO (l:=fzD t0.2) (l':=A) rfl,List.getElem?_set_ne e4,←List.append_assoc];exact e2
     have ax:∀kv∈(trH Hf c).2,bO (trH Hf c).2 kv.1=some kv.2/\Grt kv.2:=λ kv hk=>⟨JF tr.z.nd hk,gB _ (tr.z.bd kv hk)⟩;have ah:(jB Hf t0 (r.fac,c)).1=t0.1+r.fac*n:=by rw[e3];rfl
     have ai:(jB Hf t0 (r.fac,c)).2=bK t0.2 r.fac (trH Hf c).2:=rfl;generalize (trH Hf c).2=mo at*;rw[List.append_assoc (T++[fzD t0.2])];refine⟨bH mo,Q _,qg (TrC S T J2 p o t x t0 r mo c n j) ⟨_,rfl,rfl⟩ ?_ ?_ ?_⟩;{rintro q b T3 ⟨u,rfl,rfl⟩;exact Q _}
     . rintro I3 ao q kv b T3 E ⟨u,rfl,rfl⟩;obtain⟨z,G,rfl⟩:=aR E;obtain⟨aC,aE⟩:=ax z (y8 G);have aG:=yW r.fac (mo.take q) t0.2;have aH:(mo.take q).length≤mo.length:=by rw[List.length_take];omega
       have M:(T++[fzD (bK t0.2 r.fac (mo.take q))]++(J2++[fzD [(c,1)]]))[T.length]? =some (fzD (bK t0.2 r.fac (mo.take q))):=cH rfl;have aj:(aD (bH (bK t0.2 r.fac (mo.take q))) z.1).getD (D.int 0)=D.int ((bO (bK t0.2 r.fac (mo.take q)) z.1).getD 0):=by rw[dh];cases bO (bK t0.2 r.fac (mo.take q)) z.1<;>rfl
       have eT:=vz (fa:=t0.2) (x:=r.fac) G;walk_at "b";refine⟨(z0.mp M).1,?_⟩;walk_at "b";refine⟨z.1,bH (bK t0.2 r.fac (mo.take q)),rfl,M,?_⟩;walk_at "b";refine⟨z.1,bH mo,rfl,Q _,.int z.2,by rw[dh,aC];rfl,?_⟩;walk_at "n";refine⟨⟨gf,aE⟩,?_⟩;rw[aj];walk_at "b";refine⟨z.1,bH (bK t0.2 r.fac (mo.take q)),rfl,M,?_⟩;refine⟨by show(List.map _ _).length<1000000;rw[x4];omega,?_⟩;refine ao _ _ _ ⟨_,?_,rfl⟩;rw[dO rfl,eT,Am];rfl
     {rintro b T3 ⟨u,rfl,rfl⟩;have e:(bH mo).length=mo.length:=x4 ..;rw[e,List.take_length];refine an _ _ _ ⟨J2++[fzD [(c,1)]],some (.int r.fac),some (cD c),some (.int n),some (.dlo j),u,?_,?_⟩;{rw[ek,ai]};{rw[ek,ah]}}
   . rintro b T2 ⟨J2,o8,o9,H,I,u,rfl,rfl⟩;have e:(x.1.rds.map (dPt x.2)).length=(aX x.1 x.2).length:=by unfold aX;rw[x4,x4]
     rw[e,List.take_length,←ak];walk_at "b";have ae:=aq J2;rw[O]at ae;refine⟨wrH x,a,rfl,by rw[List.append_assoc,List.getElem?_append_left g];exact s,%[|0],am _ _ _ ⟨J++[fzD (nxH Hf x).2]++J2,putD a (wrH x) (.tup [.int (nxH Hf x).1,.dlo T.length]),_,_,_,_,_,_,_,_,_,_,O _ _ _,?_,%[|0],rfl⟩⟩;rw[V,O];exact ae
 . rintro b T ⟨J,a,o3,o4,o5,o6,o7,o8,o9,H,I,u,rfl,y,P,rfl⟩;have eo:(o.map (xAt p)).take (dN o).length=o.map (xAt p):=by rw[fZ,List.take_of_length_le (by rw[x4];exact x6 _)]
   have d:=jH hU hX o.length;rw[List.take_of_length_le (by rw[x4];exact x6 _)]at d;rw[eo]at y;generalize dw (o.map (xAt p))=Hf at y d hw;have hT:=Ql y;have s:(S++[.non::a.map encC]++J)[S.length]? =some (.non::a.map encC):=cH rfl;have g:S.length<(S++[.non::a.map encC]++J).length:=(z0.mp s).1;have az:S.length≤(S++[.non::a.map encC]++J).length:=Nat.le_of_lt g;have ar:∃J2,S++[.non::a.map encC]++J=S++J2:=⟨_,by rw[List.append_assoc]⟩;walk_at "b";generalize S++[.non::a.map encC]++J=T at*;refine⟨a,by rw[List.getElem?_append_left g];exact s,qg (TrD S T p o Hf a o3 o6 o8 o9 H I u) ⟨_,_,_,rfl,rfl⟩ ?_ ?_ ?_⟩;{rintro i b T' ⟨o4,o5,o7,rfl,rfl⟩;rw[List.getElem?_append_left g];exact s}
   . rintro I4 ap i kv b T' E ⟨o4,o5,o7,rfl,rfl⟩;obtain⟨n,j,w,aw,e2,e3⟩:∃(n:Int) (j:Nat) (w:Fz),aD a kv.1=some (.tup [.int n,.dlo j])/\T[j]? =some (fzD w)/\Hf kv.1=some (n,w):=by rcases y.look kv.1 with⟨l1,R⟩ | h;{obtain⟨_,_,_,_,_,e,_⟩:=y.at_ kv (y8 E);rw[R]at e;cases e};{exact h}
     have hj:=(z0.mp e2).1;have G:=(d _ _ e3).z;have aF:w.length≤(rdU p).length:=G.len;have ev:tvH Hf kv.1=cj (n,w):=by unfold tvH;rw[e3];rfl
     have hp:=Qq (Hf:=Hf) y.nd E;rw[ev]at hp;have aJ:(tlH Hf (a.take i)).length≤60:=by unfold tlH;rw[x4,List.length_take];rw[fZ]at P;omega
     have C:(T++[.non::(tlH Hf (a.take i)).map encC])[j]? =some (fzD w):=by rw[List.getElem?_append_left hj];exact e2
     have ek:(bH w).map (·.1)=w.map (·.1):=by unfold bH;rw[List.map_map];rfl
     walk_at "b";refine⟨kv.1,a,rfl,by rw[List.getElem?_append_left g];exact s,_,aw,?_⟩;walk_at "b";refine⟨rfl,?_⟩;walk_at "b";refine⟨j,bH w,rfl,C,?_⟩;walk_at "b";refine⟨w.map (·.1),_,rfl,by rw[x4];omega,G.nd,.inl (by rw[ek]),λ ks k1 k2=>?_⟩;have es:=Eo k1 k2;have kl:=k1.length_eq;rw[x4]at kl;walk_at "n";generalize hT1:T++[.non::(tlH Hf (a.take i)).map encC]=T1 at C ⊢;refine gD ⟨by rw[x4];omega,λ q acc S'=>acc=telL w (ks.take q)/\T1=S',⟨rfl,rfl⟩,?_,?_⟩
     . rintro q e acc S' he ⟨rfl,rfl⟩;obtain⟨c,hc,rfl⟩:=aR he;obtain⟨v,hv⟩:=xK (k1.mem_iff.mp (y8 hc));have V:tel w c=if v=0 then none else some (c,v):=by unfold tel;rw[hv];rfl
       walk_at "b";refine⟨c,bH w,rfl,C,.int v,by rw[dh,hv];rfl,?_⟩;walk_at "b";by_cases z:v=0;{rw[ZG z];walk_at "b";refine⟨?_,rfl⟩;unfold telL;rw[aA hc,List.filterMap_append,List.filterMap_cons,V,if_pos z];simp};{rw[ZH z];walk_at "b";refine⟨c,bH w,rfl,C,.int v,by rw[dh,hv];rfl,?_⟩;walk_at "b";refine⟨?_,rfl⟩;unfold telL;rw[aA hc,List.filterMap_append,List.filterMap_cons,V,if_neg z,List.map_append];rfl}
     {rintro acc S' ⟨rfl,rfl⟩;rw[x4,List.take_length,es];walk_at "b";refine⟨kv.1,tlH Hf (a.take i),rfl,by rw[←hT1];exact bC _ _,%[|0],ap _ _ _ ⟨_,_,_,?_,rfl⟩⟩;rw[←hT1,cP];exact congrArg (λ z:Kc=>T++[D.non::z.map encC]) hp}
   {rintro b T' ⟨o4,o5,o7,rfl,rfl⟩;rw[List.take_length];obtain⟨J2,rfl⟩:=ar;walk_at "b";exact .inr ⟨true,J2++[.non::(tlH Hf a).map encC],S,(S++J2).length,.non::(tlH Hf a).map encC,rfl,by rw[List.append_assoc],x6 _,az,bC _ _,hT.nl,hS,hw _ hT (by unfold tlH;rw[x4];rw[fZ]at P;omega)⟩}
theorem Fq(h:o.Perm (List.range n)):gq n o:=⟨λ t a=>List.mem_range.mp (h.mem_iff.mp a),h.nodup_iff.mpr List.nodup_range⟩
theorem zV(h:o.Perm (List.range n)):o.length=n:=h.length_eq.trans List.length_range
theorem vL{R:Store}{m:Int}(a:aH S k)(b:0<m)(h1:m<1000000000000000000000000000000000000000000000000000000000000)(w:∀v S',0≤v->v<m->aO S k S'->aH S' k->W (.int v) (S'++R)):([D.loc k,.int m].length=2/\c_takeB [.loc k,.int m] (S++R) W):=by refine aK (a.app R) b h1 λ v T e f u p=>?_;obtain⟨S',rfl,d,c⟩:=u.split a;exact w v S' e f d c
theorem qR(h:S.length=S'.length):(S'++[l])[S.length]? =some l:=by rw[h];simp
theorem U8{z:List D}(h:S.length=S'.length):(S'++[l]).set S.length z=S'++[z]:=by rw[h,List.set_append_right _ _ (x6 _),Nat.sub_self];rfl
theorem Li{v:Nat}(h:o.Perm (List.range i)):(o.take v++i::o.drop v).Perm (List.range (i+1)):=by refine List.perm_middle.trans ?_;rw[List.take_append_drop,List.range_succ];exact(List.Perm.cons _ h).trans (List.perm_append_singleton _ _).symm
theorem VD(n:Nat):DL.upTo 0 n=dN (List.range n):=by unfold DL.upTo dN;refine List.map_congr_left λ k _=>?_;rw[Int.zero_add]
theorem Fb(n:Nat)(S:Store)(o:List Nat):Rsvs n S (dN o) (dN o):=by
 unfold dN
 induction o with
 | nil=>exact .nil
 | cons t o a=>exact .cons (.ok rfl) a
theorem Nt(h:gq n o)(v:Nat):gq n (o.take v):=⟨λ t a=>h.1 t (List.mem_of_mem_take a),h.2.sublist (List.take_sublist _ _)⟩
inductive c_row(ds:List D)(S:Store)(W:WD):Prop
 | mk(k n:Nat):ds=[.loc k,.int (n:Int)]->aH S k->n≤60->flat S->(∀(o:List Nat) S',gq n o->aO S k S'->aH S' k->W (.lst (dN o)) S')->c_row ds S W
theorem MT(F:Fun Ω.K "_law_row" "_law_row" uQ f fd)(J:Ω.cd=none)(B:Bi Ω.mg)(m:Cal Ω "_law_take" 2 2 c_takeB):Ok Ω 3 f fd Ra c_row:=by
 refine au J (N:=Qt) F (Bl.frg (Q5 B m)) (by kernel_rfl!) ?_;rintro V S W ⟨k,n,rfl,Q,Y,I,A⟩ X;walk_at "b";refine aK Q %[|3] %[|3] λ h r Z y1 q u=>?_;obtain⟨c,z,q,u⟩:∃c,r=c/\aO S k c/\aH c k:=⟨r,rfl,q,u⟩;subst z;walk_at "b";by_cases G:h=0;{rw[ZG G];walk_at "b";refine⟨⟨%[|0],%[|0]⟩,?_⟩;refine .inl (.inl ?_);rw[Int.toNat_natCast,VD];exact A _ r (Fq (.refl _)) q u}
 . rw [ZH G];walk_at "b";refine⟨⟨%[|0],%[|0]⟩,cF ⟨λ i j T=>∃(x:Store) (o:List Nat) (C:Option D),j=[some (.loc k),some (.int (n:Int)),some (.int h),some (.loc S.length),C]/\T=x++[dN o]/\o.Perm (List.range i)/\aO S k x/\aH x k,⟨r,[],none,by rw[q.len];rfl,rfl,.refl _,q,u⟩,?_,?_⟩⟩
   . rintro i e j T O ⟨y,o,C,rfl,rfl,l,d,w⟩;obtain⟨P,rfl⟩:=bN O;have g:=zV l;have P:i<60:=%[|0]
     have K:(0+(i:Int))=((i:Nat):Int):=%[|0]
     rw[K];refine qI ?_;simp only[List.set_cons_succ,List.set_cons_zero];walk_at "b";refine⟨_,qR d.len.symm,?_⟩;walk_at "b";rw[fZ,g];refine vL w %[|0] %[|0] λ v s R U b E=>?_;have b:=d.trans b;obtain⟨a,rfl⟩:∃a:Nat,v=(a:Int):=⟨v.toNat,%[|0]⟩;walk_at "b";refine⟨a,dN o,rfl,qR b.len.symm,by rw[fZ];omega,by rw[fZ];omega,?_⟩;rw[U8 b.len.symm];walk_at "b";refine⟨s,o.take a++i::o.drop a,_,rfl,?_,Li l,b,E⟩;unfold dN;rw[List.map_append,List.map_cons,List.map_take,List.map_drop]
   . rintro j T ⟨y,o,C,rfl,rfl,l,d,w⟩;rw[aq,Int.toNat_natCast]at l;have p:=Fq l;walk_at "b";by_cases H:h=1
     . rw[ZG H];walk_at "b";refine vL w %[|0] %[|0] λ v s R U b E=>?_;have b:=d.trans b;obtain⟨a,rfl⟩:∃a:Nat,v=(a:Int):=⟨v.toNat,%[|0]⟩;walk_at "b";refine⟨_,qR b.len.symm,?_⟩;have M:cutD (dN o) none (some (a:Int))=dN (o.take a):=by
        have g:=zV l;unfold cutD dN;have z:HT.sIx (o.map λ(t:Nat)=>D.int (t:Int)).length 0 none=0:=rfl;have L:HT.sIx (o.map λ(t:Nat)=>D.int (t:Int)).length (o.map λ(t:Nat)=>D.int (t:Int)).length (some (a:Int))=a:=by rw[HT.sIx_nat,x4,g];omega
        rw[z,L,List.drop_zero,←List.map_take,Nat.sub_zero]
       walk_at "b";rw[M];exact .inr ⟨_,[dN o],s,rfl,by rw[b.len];exact x6 _,b.flat I,.lst (Fb _ _ _),A _ s (Nt p a) b E⟩
     {rw[ZH H];walk_at "b";exact .inr ⟨_,[dN o],y,rfl,by rw[d.len];exact x6 _,d.flat I,.loc (by rw[d.len];exact x6 _) (qR d.len.symm) (Fb _ _ _),A o y p d w⟩}
theorem telL_get{a:Fz}(h:(gr a)[i]? =some d):∃kv:Cel×Int,d=.tup [cD kv.1,.int kv.2]:=by unfold gr at h;obtain⟨kv,_,rfl⟩:=aR h;exact⟨kv,rfl⟩
inductive c_formed(ds:List D)(S:Store)(W:WD):Prop
 | mk(t:Nat)(tl:Kc)(Hf:Cel->Option Tr):ds=[.dlo t]->S[t]? =some (.non::tl.map encC)->TolR S t Hf tl->W (.bl true) S->c_formed ds S W
theorem Dw(F:Fun Ω.K "_law_formed" "_law_formed" kI f fd)(m:Ω.cd=none)(B:Bi Ω.mg):Ok Ω 1 f fd GR c_formed:=by refine au m (N:=GK) F (HJ B) (by kernel_rfl!) ?_;rintro x S W ⟨t,v,w,rfl,l,p,s⟩ D;walk_at "b";refine⟨v,l,Oz ⟨λ i a T=>∃e g b,T=S/\a=[some (.dlo t),e,g,b],⟨_,_,_,rfl,rfl⟩,?_,?_,?_⟩⟩;{rintro i a T ⟨e,g,b,rfl,rfl⟩;exact l};{rintro i u a T h ⟨e,g,b,rfl,rfl⟩;obtain⟨n,j,C,o,y,k,A⟩:=p.at_ u (y8 h);rw[o];walk_at "b";refine⟨rfl,?_⟩;walk_at "b";refine⟨_,k,QS ⟨λ q a c=>∃b,c=T/\a=[some (.dlo t),some (.int n),some (.loc j),b],⟨_,rfl,rfl⟩,?_,?_,?_⟩⟩;{rintro q a c ⟨b,rfl,rfl⟩;exact k};{rintro q d a c r ⟨b,rfl,rfl⟩;obtain⟨z,rfl⟩:=telL_get r;walk_at "b";exact⟨_,rfl,rfl⟩};{rintro a c ⟨b,rfl,rfl⟩;walk_at "b";exact⟨_,_,_,rfl,rfl⟩}};{rintro a T ⟨e,g,b,rfl,rfl⟩;walk_at "b";exact s}
theorem NP(t:Tr):eqD (cj t) (cj t)=true:=ik _ (lA t)
theorem Mu{kvs:Kc}{c:Cel}(h:aD kvs c=some d):c∈kvs.map (·.1):=by
 unfold aD at h
 cases q:kvs.find? λ kv=>decide (kv.1=c)with
 | none=>rw[q]at h;cases h
 | some kv=>
   have e:kv.1=c:=by have:=List.find?_some q;simpa using this
   exact ZO.mpr ⟨kv,List.mem_of_find?_eq_some q,e⟩
theorem yN{Hf:Cel->Option Tr}{f e:Kc}(a:Told Hf f)(b:Told Hf e):f.length≤e.length:=by
 have:=sub_len a.nd (U:=e.map (·.1)) λ c g=>by obtain⟨kv,h,rfl⟩:=ZO.mp g;exact Mu (d:=kv.2) (by rw[b.lk,a.vl kv h])
 rw[x4,x4]at this;exact this
theorem Rg{Hf:Cel->Option Tr}{c d:Kc}(a:Told Hf c)(b:Told Hf d):ue c d=true:=by
 unfold ue;rw[Bool.and_eq_true];constructor;{rw[Nat.le_antisymm (yN a b) (yN b a)];exact beq_self_eq_true _}
 . rw[List.all_eq_true];intro kv f;unfold uC;have e:=a.vl kv f;rw[b.lk,e];show eqD kv.2 kv.2=true
   cases q:Hf kv.1 with
   | none=>rw[q]at e;cases e
   | some t=>rw[q]at e;rw[←Option.some.inj e];exact NP t
theorem Qs(S:Store)(o:List Nat):bD S (dN o)=dN o:=by
 unfold dN
 induction o with
 | nil=>simp only[List.map_nil,bD]
 | cons a l b=>simp only[List.map_cons,bD,vwD,b]
theorem Lf(S:Store)(t:Tr):vwD S (cj t)=cj t:=by
 have c:∀l:%[|1],bD S (l.map .int)=l.map .int:=λ l=>by
  induction l with
  | nil=>simp only[List.map_nil,bD]
  | cons a l b=>simp only[List.map_cons,bD,vwD,b]
 have d:∀l:List (Cel×Int),bD S (l.map telD)=l.map telD:=λ l=>by
  induction l with
  | nil=>simp only[List.map_nil,bD]
  | cons kv l b=>
    rw[List.map_cons,bD,b];have:vwD S (telD kv)=telD kv:=by show vwD S (.tup [.tup [.int kv.1.1,.tup (kv.1.2.map .int)],.int kv.2])=_;simp only[vwD,bD,c];rfl
    rw[this]
 show vwD S (.tup [.int t.1,.lst ((tellZ t.2).map telD)])=_;simp only[vwD,bD,d];rfl
theorem Nb{Hf:Cel->Option Tr}{a:Kc}(h:Told Hf a):vwK S a=a:=by
 unfold vwK;refine(List.map_congr_left λ kv b=>?_).trans (List.map_id a);have:=h.vl kv b
 cases q:Hf kv.1 with
 | none=>rw[q]at this;cases this
 | some t=>rw[q]at this;show(kv.1,vwD S kv.2)=kv;rw[←Option.some.inj this,Lf,Option.some.inj this]
theorem QX{Hf:Cel->Option Tr}{b:Kc}(h:TolR S t Hf b){kv:Cel×D}(f:kv∈b):∃tr,Hf kv.1=some tr/\vwD S kv.2=cj tr:=by
 obtain⟨n,j,a,c,d,e,_⟩:=h.at_ kv f;refine⟨(n,a),d,?_⟩;rw[c];show D.tup [.int n,vwD S (.loc j)]=_;have:vwD S (.loc j)=.lst (gr a):=by simp only[vwD,e]
 rw[this];rfl
theorem Aj(S:Store)(a:Kc):(vwK S a).map (·.1)=a.map (·.1):=by unfold vwK;rw[List.map_map];rfl
theorem Lg(c:Cel):ak (cD c)=true:=by show(true&&(aj (c.2.map .int)&&true))=true;rw[bA];rfl
theorem Ik{Hf:Cel->Option Tr}{b:Kc}(h:TolR S t Hf b):Told Hf (vwK S b):=by
 have g:∀kv∈vwK S b,(Hf kv.1).map cj=some kv.2:=λ kv a=>by unfold vwK at a;obtain⟨z,n,rfl⟩:=ZO.mp a;obtain⟨i,k,l⟩:=QX h n;show(Hf z.1).map cj=some (vwD S z.2);rw[k,l];rfl
 refine⟨by rw[Aj];exact h.nd,λ c=>?_,g,λ kv a=>?_,?_⟩
 . cases q:aD (vwK S b) c with
   | some d=>
     unfold aD at q
     cases f:(vwK S b).find? λ kv=>decide (kv.1=c)with
     | none=>rw[f]at q;cases q
     | some kv=>
       rw[f]at q;have e:kv.1=c:=by have:=List.find?_some f;simpa using this
       have:=g kv (List.mem_of_find?_eq_some f);rw[←e,this];exact q.symm
   | none=>
     rw[h.no c λ j=>?_];{rfl}
     . rw[←Aj S b]at j;obtain⟨kv,a,e⟩:=ZO.mp j;unfold aD at q
       cases f:(vwK S b).find? λ kv=>decide (kv.1=c)with
       | some kv=>rw[f]at q;cases q
       | none=>have:=List.find?_eq_none.mp f kv a;simp[e]at this
 . have:=g kv a
   cases q:Hf kv.1 with
   | none=>rw[q]at this;cases this
   | some i=>rw[q]at this;rw[←Option.some.inj this];exact DY i
 . show(true&&aj ((vwK S b).map encC))=true;rw[Bool.true_and];refine rQ λ d m=>?_;obtain⟨kv,a,rfl⟩:=ZO.mp m;have:=g kv a
   cases q:Hf kv.1 with
   | none=>rw[q]at this;cases this
   | some i=>rw[q]at this;show(ak (cD kv.1)&&(ak kv.2&&true))=true;rw[←Option.some.inj this,lA,Lg];rfl
theorem MK(l:List Cel):(uA l).length≤l.length:=by unfold uA;split;{rename_i h;exact Nat.le_of_eq h.choose_spec.1.length_eq};{exact Nat.zero_le _}
theorem J5(a:Fz):(gr a).length≤a.length:=by unfold gr tellZ;rw[x4];have c:=List.length_filterMap_le (tel a) (uA (a.map (·.1)));have b:=MK (a.map (·.1));rw[x4]at b;omega
def pQ(S:Store)(t:Nat)(tl:Kc)(b:Nat):Prop:=S[t]? =some (.non::tl.map encC)/\∀kv∈tl,∃(n:Int) (j:Nat) (a:List D),kv.2=.tup [.int n,.loc j]/\S[j]? =some a/\a.length≤b/\t<j
theorem pQ.set{g:Kc}{b:Nat}(h:pQ S t g b){j:Nat}{ds:List D}{d:D}(m:S[j]? =some ds)(r:ds.length≤b)(s:t<j):pQ (S.set j (ds++[d])) t g (b+1):=by have a:=(z0.mp m).1;refine⟨by rw[List.getElem?_set_ne %[|0]];exact h.1,λ p o=>?_⟩;obtain⟨n,i,l,c,k,q,f⟩:=h.2 p o;by_cases e:j=i;{subst e;exact⟨n,j,_,c,List.getElem?_set_self a,by rw[v3,List.length_singleton];omega,f⟩};{exact⟨n,i,l,c,by rw[List.getElem?_set_ne e];exact k,%[|0],f⟩}
theorem pQ.look{a:Kc}{b:Nat}(h:pQ S t a b){c:Cel}(f:c∈a.map (·.1)):∃(n:Int) (j:Nat) (ds:List D),aD a c=some (.tup [.int n,.loc j])/\S[j]? =some ds/\ds.length≤b/\t<j:=by
 obtain⟨kv,g,rfl⟩:=ZO.mp f;unfold aD
 cases q:a.find? λ z=>decide (z.1=kv.1)with
 | none=>have:=List.find?_eq_none.mp q kv g;simp at this
 | some z=>obtain⟨n,j,ds,d,e⟩:=h.2 z (List.mem_of_find?_eq_some q);exact⟨n,j,ds,by show some z.2=_;rw[d],e⟩
inductive LwA(ns:%[|1])(p:Pg)(i:Nat)(Γ':Gam)(T:Store):Prop
 | mk(o5 o6 o7 o8 o9 o10 o11:_):aH T 0->flat T->Γ'=[some (.lst (ns.map .int)),some (.loc 0),some (dPg p),some (.lst (ju p)),some (dPg p),o5,o6,o7,o8,o9,o10,o11]->LwA ns p i Γ' T
inductive LwB(ns:%[|1])(p:Pg)(o:List Nat)(S4:Store)(K i:Nat)(q:Nat)(Γ':Gam)(T:Store):Prop
 | mk(o9 o10 o11:_):T=S4->Γ'=[some (.lst (ns.map .int)),some (.loc 0),some (dPg p),some (.lst (ju p)),some (dPg p),some (.int (0+(i:Int))),some (.lst (dN o)),some (.dlo K),some (.lst (dN o)),o9,o10,o11]->LwB ns p o S4 K i q Γ' T
inductive LwC(ns:%[|1])(p:Pg)(o:List Nat)(T:Store)(t:Nat)(tl:Kc)(K i q:Nat)(q2:Nat)(Γ':Gam)(T2:Store):Prop
 | mk(J2 o11:_):T2=T++J2->pQ T2 t tl (1000+q2)->Γ'=[some (.lst (ns.map .int)),some (.loc 0),some (dPg p),some (.lst (ju p)),some (dPg p),some (.int (0+(i:Int))),some (.lst (dN o)),some (.dlo K),some (.lst (dN o)),some (.int (0+(q:Int))),some (.dlo t),o11]->LwC ns p o T t tl K i q q2 Γ' T2
theorem Ux(F:Fun Ω.K "law" "law" jR f fd)(N0:Ω.cd=none)(B:Bi Ω.mg)(I:Cal Ω "program_of" 10 2 zx)(L:Cal Ω "traced" 7 2 c_traced)(aa:Cal Ω "_law_pen" 2 2 c_penB)(G:Cal Ω "_law_take" 2 2 c_takeB)(ab:Cal Ω "_law_program" 5 2 c_progB)(E:Cal Ω "_law_steps" 3 1 c_stepsB)(ac:Cal Ω "_law_row" 3 2 c_row)(H:Cal Ω "_law_traces" 1 2 c_ltraces)(Z:Cal Ω "_law_formed" 1 1 c_formed):Ok Ω 11 f fd Od nR:=by
 refine au N0 (N:=V5) F (U7 B I L aa G ab E ac H Z) (by kernel_rfl!) ?_;rintro ds S W ⟨u,rfl,hn,hw,ai⟩ hl;subst ai;walk_at "b";refine⟨rfl,u,1,rfl,%[|3],λ c=>?_⟩;have p0:aH ([]++[jr u c 1]) 0:=⟨u,c,1,by simp,%[|3]⟩;have f0:flat ([]++[jr u c 1]):=dI (λ l hl=>by cases hl) (pB ..);generalize ([]++[jr u c 1]:Store)=S0 at*;walk_at "b";refine aK p0 %[|3] %[|3] λ v S1 v0 v1 u1 p1=>?_;have f1:=u1.flat f0;obtain⟨m,hm,g,b⟩:∃m:Nat,atI [D.int 24,.int 24,.int 24,.int 60,.int 24,.int 24] v=some (.int (m:Int))/\12≤m/\m≤60:=by
  have hv:v=0∨v=1∨v=2∨v=3∨v=4∨v=5:=%[|0]
  rcases hv with h | h | h | h | h | h<;>subst h;{exact⟨24,rfl,%[|3],%[|3]⟩};{exact⟨24,rfl,%[|3],%[|3]⟩};{exact⟨24,rfl,%[|3],%[|3]⟩};{exact⟨60,rfl,%[|3],%[|3]⟩};{exact⟨24,rfl,%[|3],%[|3]⟩};{exact⟨24,rfl,%[|3],%[|3]⟩}
 walk_at "b";refine⟨_,hm,?_⟩;walk_at "b";refine⟨rfl,0,m,rfl,p1,f1,g,b,λ p S2 w u2 p2 f2=>?_⟩;walk_at "b";refine⟨rfl,p,m,rfl,w,b,f2,.inl ?_⟩;walk_at "b";refine⟨rfl,Lr w g b f2 ?_⟩;have hN:=kJ w g b;have an:(ju p).length=(aU p).length:=by rw[Ak,x4]
 walk_at "b";refine⟨⟨%[|3],%[|3]⟩,bZ (LwA u p) ⟨_,_,_,_,_,_,_,p2,f2,rfl⟩ ?_ ?_⟩
 . rintro I1 af i e r T he ⟨o5,o6,o7,o8,o9,y,k,pT,fT,rfl⟩;obtain⟨hi,rfl⟩:=bN he;walk_at "b";rw[an];refine⟨rfl,0,(aU p).length,rfl,pT,hN,fT,λ o C hO u3 p3=>?_⟩;have f3:=u3.flat fT;walk_at "b";refine⟨rfl,p,m,o,rfl,w,g,b,f3,hO,λ a P ao=>?_⟩;have f4:flat (C++[.non::a.map encC]):=dI f3 P.nl;have s:(C++[.non::a.map encC])[C.length]? =some (.non::a.map encC):=bC _ _;have p4:aH (C++[.non::a.map encC]) 0:=p3.app _;generalize C++[.non::a.map encC]=S4 at*;generalize C.length=K at*;have X:=(z0.mp s).1;walk_at "b";refine⟨⟨%[|3],%[|3]⟩,bZ (LwB u p o S4 K i) ⟨_,_,_,rfl,rfl⟩ ?_ ?_⟩
   . rintro I2 ag q e r T he ⟨o9,y,k,rfl,rfl⟩;obtain⟨hq,rfl⟩:=bN he;refine qI ?_;refine R6 ?_;simp only[List.set_cons_succ,List.set_cons_zero];walk_at "b";refine⟨rfl,p,m,o,rfl,w,g,b,f4,hO,λ J t A ap x Y=>?_⟩;have Q:=Ik Y;have ak:=Rg Q P;have M:vwK (T++J) a=a:=Nb P;walk_at "b";refine⟨t,K,A,a,rfl,rfl,x,by rw[List.getElem?_append_left X];exact s,Q.ok,by rw[M];exact P.ok,?_⟩;rw[M,ak];walk_at "b";have er:vwT (T++J) (.lst (dN o))=.lst (dN o):=by show D.lst (bD (T++J) (dN o))=_;rw[Qs]
     have U:okD (.lst (dN o))=true:=by show bW (dN o)=true;rw[tR];exact mK _
     have ad:deep (.lst (dN o))≤50:=by show bJ (dN o)+1≤50;rw[tR,jV];decide
     have ae:eqD (.lst (dN o)) (.lst (dN o))=true:=ik _ (by show aj (dN o)=true;exact mJ o);rw[er];refine⟨U,U,ad,?_⟩;rw[ae];walk_at "b";refine⟨rfl,t,A,_,rfl,x,Y,?_⟩;walk_at "b";have hU:=tD w g b;have O:=jH hU (yr w hO) o.length;rw[List.take_of_length_le (by rw[x4];exact x6 _)]at O;have hA:pQ (T++J) t A (1000+0):=⟨x,λ kv hk=>by obtain⟨n,j,fz,e1,e2,e3,e4⟩:=Y.at_ kv hk;have:=J5 fz;have:fz.length≤(rdU p).length:=(O _ _ e2).z.len;exact⟨n,j,_,e1,e3,%[|0],e4⟩⟩;have al:∀kv∈a,kv.1∈A.map (·.1):=λ kv hk=>Decidable.byContradiction λ hn=>by have:=P.vl kv hk;rw[Y.no _ hn]at this;cases this
     refine⟨a,by rw[List.getElem?_append_left X];exact s,qg (LwC u p o T t A K i q) ⟨J,_,rfl,hA,rfl⟩ ?_ ?_ ?_⟩;{rintro q2 r T2 ⟨V,k,rfl,hA,rfl⟩;rw[List.getElem?_append_left X];exact s};{rintro I3 ah q2 kv r T2 R ⟨V,k,rfl,hA,rfl⟩;have aq:=(z0.mp R).1;obtain⟨n,j,ds,l1,l2,l3,l4⟩:=hA.look (al kv (y8 R));walk_at "b";refine⟨kv.1,A,rfl,hA.1,_,l1,?_⟩;walk_at "b";refine⟨ds,l2,%[|0],ah _ _ _ ⟨V.set (j-T.length) _,_,List.set_append_right _ _ %[|0],hA.set l2 l3 l4,rfl⟩⟩};{rintro r T2 ⟨V,k,rfl,hA,rfl⟩;walk_at "b";refine⟨A,hA.1,?_⟩;walk_at "b";refine⟨V.set (t-T.length) [],T,[some (.lst (u.map .int)),some (.loc 0),some (dPg p),some (.lst (ju p)),some (dPg p),some (.int (0+(i:Int))),some (.lst (dN o)),some (.dlo K),some (.lst (dN o)),none,none,none],List.set_append_right _ _ %[|0],x6 _,f4,rfl,?_,ag _ _ _ ⟨none,none,none,rfl,rfl⟩⟩;have am:=(z0.mp (show T[0]? =some (T[0]'%[|0])from y4 _)).1;intro i1 d h;rcases i1 with _ | _ | _ | _ | _ | _ | _ | _ | _ | _ | _ | _ | i1;{cases h;exact⟨rfl,.inl (bA _)⟩};{cases h;exact⟨rfl,.inr ⟨0,.inl rfl,am⟩⟩};{cases h;exact⟨rfl,.inl (mq _)⟩};{cases h;exact⟨rfl,.inl (pD _)⟩};{cases h;exact⟨rfl,.inl (mq _)⟩};{cases h;exact⟨rfl,.inl rfl⟩};{cases h;exact⟨rfl,.inl (mJ _)⟩};{cases h;exact⟨rfl,.inr ⟨K,.inr rfl,X⟩⟩};{cases h;exact⟨rfl,.inl (mJ _)⟩};{cases h};{cases h};{cases h};{cases h}}
   {rintro r T ⟨o9,y,k,rfl,rfl⟩;walk_at "b";exact af _ _ _ ⟨_,_,_,_,_,_,_,p4,f4,rfl⟩}
 {rintro r T ⟨o5,o6,o7,o8,o9,y,k,pT,fT,rfl⟩;walk_at "b";exact hw _}
end K11
namespace K11
open PySem PySem.Spec L2 DL RF
open PyProof.Rows
variable {Ω : Wd} {f : Addr} {fd : FuncData}
theorem by1{G:List Value->Prop}(h:∀a0:Value,G [a0])(a:List Value)(e:a.length=1):G a:=by obtain⟨a0,a,rfl⟩:=List.exists_cons_of_length_eq_add_one e;replace e:=Nat.succ.inj e;obtain rfl:=List.eq_nil_of_length_eq_zero e;exact h a0
theorem by2{G:List Value->Prop}(h:∀a0 a1:Value,G [a0,a1])(a:List Value)(e:a.length=2):G a:=by obtain⟨a0,a,rfl⟩:=List.exists_cons_of_length_eq_add_one e;replace e:=Nat.succ.inj e;obtain⟨a1,a,rfl⟩:=List.exists_cons_of_length_eq_add_one e;replace e:=Nat.succ.inj e;obtain rfl:=List.eq_nil_of_length_eq_zero e;exact h a0 a1
theorem by3{G:List Value->Prop}(h:∀a0 a1 a2:Value,G [a0,a1,a2])(a:List Value)(e:a.length=3):G a:=by obtain⟨a0,a,rfl⟩:=List.exists_cons_of_length_eq_add_one e;replace e:=Nat.succ.inj e;obtain⟨a1,a,rfl⟩:=List.exists_cons_of_length_eq_add_one e;replace e:=Nat.succ.inj e;obtain⟨a2,a,rfl⟩:=List.exists_cons_of_length_eq_add_one e;replace e:=Nat.succ.inj e;obtain rfl:=List.eq_nil_of_length_eq_zero e;exact h a0 a1 a2
theorem by4{G:List Value->Prop}(h:∀a0 a1 a2 a3:Value,G [a0,a1,a2,a3])(a:List Value)(e:a.length=4):G a:=by obtain⟨a0,a,rfl⟩:=List.exists_cons_of_length_eq_add_one e;replace e:=Nat.succ.inj e;obtain⟨a1,a,rfl⟩:=List.exists_cons_of_length_eq_add_one e;replace e:=Nat.succ.inj e;obtain⟨a2,a,rfl⟩:=List.exists_cons_of_length_eq_add_one e;replace e:=Nat.succ.inj e;obtain⟨a3,a,rfl⟩:=List.exists_cons_of_length_eq_add_one e;replace e:=Nat.succ.inj e;obtain rfl:=List.eq_nil_of_length_eq_zero e;exact h a0 a1 a2 a3
def FI(K:PySem.W.Frag)(x:Str)(t:Stmt):Prop:=∃(f:Addr) (g:Value) (h:Option Addr) (e d i:Value) (b:Option Addr) (a c:Value) (j:Array (Option Value)),PySem.W.nsIn K mainGlobals x=some (some (.ref f))/\K.lookup f=some ⟨g,h,.func (PySem.W.fnOf x x (fK t) (cJ t) (aN t) .none e d i b a c),j⟩/\PySem.W.codeIn K a x=true/\PySem.W.keepIn K (.ref f)=true
theorem FI.mk{K:PySem.W.Frag}{x:Str}{t:Stmt}{f:Addr}{g:Value}{od:Option Addr}{e d h:Value}{b:Option Addr}{cd ct:Value}{i:Array (Option Value)}(a:PySem.W.nsIn K mainGlobals x=some (some (.ref f)))(l:K.lookup f=some ⟨g,od,.func (PySem.W.fnOf x x (fK t) (cJ t) (aN t) .none e d h b cd ct),i⟩)(c:PySem.W.codeIn K cd x=true)(k:PySem.W.keepIn K (.ref f)=true):FI K x t:=⟨f,g,od,e,d,h,b,cd,ct,i,a,l,c,k⟩
abbrev FU(Ω:Wd)(x:Str)(t:Stmt):Prop:=∃f a,Fun Ω.K x x t f a/\Ω.mg x=some (.ref f)
theorem FI.use{Ω:Wd}{h:Heap}{x:Str}{t:Stmt}(X:Ω.K.In h)(G:h.Ns mainGlobals Ω.mg)(q:FI Ω.K x t):FU Ω x t:=by obtain⟨f,j,m,i,g,n,b,d,e,o,a,l,c,k⟩:=q;exact⟨f,_,J4 (st:=t) l c k,PySem.W.mg_of X G a⟩
theorem U6{Ω:Wd}(B:Bi Ω.mg)
(u0:FU Ω "is_whole" iy)
(u1:FU Ω "is_tuple_of" dZ)
(u2:FU Ω "is_widths" gm)
(u3:FU Ω "is_form" jd)
(u4:FU Ω "is_bound" iK)
(u5:FU Ω "is_loop" jh)
(u6:FU Ω "is_loops" iC)
(u7:FU Ω "has_few_figures" cV)
(u8:FU Ω "is_start" iz)
(u9:FU Ω "is_place_form" dD)
(ab:FU Ω "is_table_with_place" bY)
(ac:FU Ω "is_read" jc)
(ad:FU Ω "is_reads" iQ)
(ae:FU Ω "is_deed" iZ)
(af:FU Ω "is_nest" je)
(ag:FU Ω "is_nests" iG)
(ah:FU Ω "comes_to" gP)
(ai:FU Ω "with_next_count" cU)
(aj:FU Ω "counts_of" f9)
(ak:FU Ω "number_of_steps" cY)
(al:FU Ω "program_of" fC)
(am:FU Ω "steps_of" iM)
(an:FU Ω "deed_of" jm)
(ao:FU Ω "cell_at" ji)
(ap:FU Ω "cells_of_step" dz)
(aq:FU Ω "cells_of" iH)
(ar:FU Ω "is_row" lz)
(as:FU Ω "refuse_no_row" dB)
(au:FU Ω "trace_held" eQ)
(av:FU Ω "add_times" gn)
(aw:FU Ω "trace_of_step" di)
(ax:FU Ω "told_trace" eU)
(ay:FU Ω "traced" jN)
(az:FU Ω "_law_cell" pR)
(aA:FU Ω "_law_pen" ur)
(aB:FU Ω "_law_take" pK)
(aC:FU Ω "_law_loops" mR)
(aD:FU Ω "_law_form" ql)
(aE:FU Ω "_law_deed" qb)
(aF:FU Ω "_law_program" jj)
(aG:FU Ω "_law_at" xG)
(aH:FU Ω "_law_counts" j8)
(aI:FU Ω "_law_spot" pO)
(aJ:FU Ω "_law_steps" nF)
(aK:FU Ω "_law_row" uQ)
(aL:FU Ω "_law_traces" kh)
(aM:FU Ω "_law_formed" kI)
{f:Addr}{fd:FuncData}(F:Fun Ω.K "law" "law" jR f fd)(c:Ω.cd=none):Ok Ω 11 f fd Od nR:=by obtain⟨_,_,a,b⟩:=u0;have g:=callee a (wV a c B) b (a.binds λ _ _ _ _ _ _=>by1 λ _=>rfl);obtain⟨_,_,a,b⟩:=u1;have d:=callee a (pX a c B) b (a.binds λ _ _ _ _ _ _=>by3 λ _ _ _=>rfl);obtain⟨_,_,a,b⟩:=u2;have L:=callee a (uJ a c B g d) b (a.binds λ _ _ _ _ _ _=>by1 λ _=>rfl);obtain⟨_,_,a,b⟩:=u3;have i:=callee a (Bd a c B g d) b (a.binds λ _ _ _ _ _ _=>by2 λ _ _=>rfl);obtain⟨_,_,a,b⟩:=u4;have y:=callee a (wN a c B i) b (a.binds λ _ _ _ _ _ _=>by2 λ _ _=>rfl);obtain⟨_,_,a,b⟩:=u5;have A:=callee a (zQ a c d y) b (a.binds λ _ _ _ _ _ _=>by2 λ _ _=>rfl);obtain⟨_,_,a,b⟩:=u6;have C:=callee a (ww a c B d A) b (a.binds λ _ _ _ _ _ _=>by1 λ _=>rfl);obtain⟨_,_,a,b⟩:=u7;have l:=callee a (kY a c B) b (a.binds λ _ _ _ _ _ _=>by1 λ _=>rfl);obtain⟨_,_,a,b⟩:=u8;have K:=callee a (wY a c B i l) b (a.binds λ _ _ _ _ _ _=>by2 λ _ _=>rfl);obtain⟨_,_,a,b⟩:=u9;have G:=callee a (mF a c B i) b (a.binds λ _ _ _ _ _ _=>by2 λ _ _=>rfl);obtain⟨_,_,a,b⟩:=ab;have m:=callee a (gR a c B g d G) b (a.binds λ _ _ _ _ _ _=>by4 λ _ _ _ _=>rfl);obtain⟨_,_,a,b⟩:=ac;have H:=callee a (Ab a c g d l m) b (a.binds λ _ _ _ _ _ _=>by3 λ _ _ _=>rfl);obtain⟨_,_,a,b⟩:=ad;have I:=callee a (v5 a c B d H) b (a.binds λ _ _ _ _ _ _=>by3 λ _ _ _=>rfl);obtain⟨_,_,a,b⟩:=ae;have z:=callee a (Al a c d K m I) b (a.binds λ _ _ _ _ _ _=>by3 λ _ _ _=>rfl);obtain⟨_,_,a,b⟩:=af;have D:=callee a (yZ a c B d C z) b (a.binds λ _ _ _ _ _ _=>by2 λ _ _=>rfl);obtain⟨_,_,a,b⟩:=ag;have E:=callee a (wB a c B d D) b (a.binds λ _ _ _ _ _ _=>by2 λ _ _=>rfl);obtain⟨_,_,a,b⟩:=ah;have h:=callee a (wW a c B) b (a.binds λ _ _ _ _ _ _=>by2 λ _ _=>rfl);obtain⟨_,_,a,b⟩:=ai;have S:=callee a (lr a c B h) b (a.binds λ _ _ _ _ _ _=>by3 λ _ _ _=>rfl);obtain⟨_,_,a,b⟩:=aj;have j:=callee a (sW a c S) b (a.binds λ _ _ _ _ _ _=>by1 λ _=>rfl);obtain⟨_,_,a,b⟩:=ak;have n:=callee a (j9 a c B j) b (a.binds λ _ _ _ _ _ _=>by1 λ _=>rfl);obtain⟨_,_,a,b⟩:=al;have M:=callee a (rn a c B L E n) b (a.binds λ _ _ _ _ _ _=>by2 λ _ _=>rfl);obtain⟨_,_,a,b⟩:=am;have o:=callee a (wj a c B j) b (a.binds λ _ _ _ _ _ _=>by1 λ _=>rfl);obtain⟨_,_,a,b⟩:=an;have k:=callee a (zM a c) b (a.binds λ _ _ _ _ _ _=>by2 λ _ _=>rfl);obtain⟨_,_,a,b⟩:=ao;have v:=callee a (xJ a c B h) b (a.binds λ _ _ _ _ _ _=>by3 λ _ _ _=>rfl);obtain⟨_,_,a,b⟩:=ap;have x:=callee a (mL a c k v) b (a.binds λ _ _ _ _ _ _=>by2 λ _ _=>rfl);obtain⟨_,_,a,b⟩:=aq;have w:=callee a (wu a c o x) b (a.binds λ _ _ _ _ _ _=>by1 λ _=>rfl);obtain⟨_,_,a,b⟩:=ar;have J:=callee a (DN a c B g n) b (a.binds λ _ _ _ _ _ _=>by2 λ _ _=>rfl);obtain⟨_,_,a,b⟩:=as;have N:=callee a (mO a c J) b (a.binds λ _ _ _ _ _ _=>by2 λ _ _=>rfl);obtain⟨_,_,a,b⟩:=au;have P:=callee a (qY a c) b (a.binds λ _ _ _ _ _ _=>by2 λ _ _=>rfl);obtain⟨_,_,a,b⟩:=av;have u:=callee a (t6 a c) b (a.binds λ _ _ _ _ _ _=>by3 λ _ _ _=>rfl);obtain⟨_,_,a,b⟩:=aw;have Q:=callee a (m8 a c B h P u) b (a.binds λ _ _ _ _ _ _=>by4 λ _ _ _ _=>rfl);obtain⟨_,_,a,b⟩:=ax;have O:=callee a (sE a c B) b (a.binds λ _ _ _ _ _ _=>by1 λ _=>rfl);obtain⟨_,_,a,b⟩:=ay;have R:=callee a (Dg a c o k w N Q O) b (a.binds λ _ _ _ _ _ _=>by2 λ _ _=>rfl);obtain⟨_,_,a,b⟩:=az;have q:=callee a (Ir a c B) b (a.binds λ _ _ _ _ _ _=>by2 λ _ _=>rfl);obtain⟨_,_,a,b⟩:=aA;have Y:=callee a (Np a c q) b (a.binds λ _ _ _ _ _ _=>by2 λ _ _=>rfl);obtain⟨_,_,a,b⟩:=aB;have e:=callee a (Jw a c q) b (a.binds λ _ _ _ _ _ _=>by2 λ _ _=>rfl);obtain⟨_,_,a,b⟩:=aC;have X:=callee a (Gf a c B e) b (a.binds λ _ _ _ _ _ _=>by2 λ _ _=>rfl);obtain⟨_,_,a,b⟩:=aD;have V:=callee a (Ii a c B e) b (a.binds λ _ _ _ _ _ _=>by3 λ _ _ _=>rfl);obtain⟨_,_,a,b⟩:=aE;have U:=callee a (J9 a c B e V) b (a.binds λ _ _ _ _ _ _=>by3 λ _ _ _=>rfl);obtain⟨_,_,a,b⟩:=aF;have Z:=callee a (xR a c B e X U) b (a.binds λ _ _ _ _ _ _=>by2 λ _ _=>rfl);obtain⟨_,_,a,b⟩:=aG;have p:=callee a (Qh a c B) b (a.binds λ _ _ _ _ _ _=>by2 λ _ _=>rfl);obtain⟨_,_,a,b⟩:=aH;have T:=callee a (CZ a c B p) b (a.binds λ _ _ _ _ _ _=>by1 λ _=>rfl);obtain⟨_,_,a,b⟩:=aI;have r:=callee a (Jd a c B p) b (a.binds λ _ _ _ _ _ _=>by3 λ _ _ _=>rfl);obtain⟨_,_,a,b⟩:=aJ;have s:=callee a (GC a c p T r) b (a.binds λ _ _ _ _ _ _=>by1 λ _=>rfl);obtain⟨_,_,a,b⟩:=aK;have aa:=callee a (MT a c B e) b (a.binds λ _ _ _ _ _ _=>by2 λ _ _=>rfl);obtain⟨_,_,a,b⟩:=aL;have t:=callee a (CN a c B) b (a.binds λ _ _ _ _ _ _=>by2 λ _ _=>rfl);obtain⟨_,_,a,b⟩:=aM;have W:=callee a (Dw a c B) b (a.binds λ _ _ _ _ _ _=>by1 λ _=>rfl);exact Ux F c B M R Y e Z s aa t W
theorem all_mk{l:PySem.W.OpenLaw}{w:World}{K:PySem.W.Frag}{h:Heap}{mg:Str->Option Value}{fa:Addr}(X:K.In h)(G:h.Ns mainGlobals mg)(F:mg "law"=some (.ref fa))(q:FI K "law" jR)
(q0:FI K "is_whole" iy)
(q1:FI K "is_tuple_of" dZ)
(q2:FI K "is_widths" gm)
(q3:FI K "is_form" jd)
(q4:FI K "is_bound" iK)
(q5:FI K "is_loop" jh)
(q6:FI K "is_loops" iC)
(q7:FI K "has_few_figures" cV)
(q8:FI K "is_start" iz)
(q9:FI K "is_place_form" dD)
(H:FI K "is_table_with_place" bY)
(I:FI K "is_read" jc)
(J:FI K "is_reads" iQ)
(L:FI K "is_deed" iZ)
(M:FI K "is_nest" je)
(N:FI K "is_nests" iG)
(O:FI K "comes_to" gP)
(P:FI K "with_next_count" cU)
(Q:FI K "counts_of" f9)
(R:FI K "number_of_steps" cY)
(S:FI K "program_of" fC)
(T:FI K "steps_of" iM)
(U:FI K "deed_of" jm)
(V:FI K "cell_at" ji)
(W:FI K "cells_of_step" dz)
(Y:FI K "cells_of" iH)
(Z:FI K "is_row" lz)
(aa:FI K "refuse_no_row" dB)
(ab:FI K "trace_held" eQ)
(ac:FI K "add_times" gn)
(ad:FI K "trace_of_step" di)
(ae:FI K "told_trace" eU)
(af:FI K "traced" jN)
(ag:FI K "_law_cell" pR)
(ah:FI K "_law_pen" ur)
(ai:FI K "_law_take" pK)
(aj:FI K "_law_loops" mR)
(ak:FI K "_law_form" ql)
(al:FI K "_law_deed" qb)
(am:FI K "_law_program" jj)
(ao:FI K "_law_at" xG)
(ap:FI K "_law_counts" j8)
(aq:FI K "_law_spot" pO)
(ar:FI K "_law_steps" nF)
(as:FI K "_law_row" uQ)
(au:FI K "_law_traces" kh)
(av:FI K "_law_formed" kI)
 {b:Tok}(d:PySem.W.nsIn K mainGlobals "MOST_STEPS"=some (some (.int 60 b)))
 (t:PySem.W.nsIn K mainGlobals "abs"=some none)
 (u:PySem.W.nsIn K mainGlobals "all"=some none)
 (o:PySem.W.nsIn K mainGlobals "bool"=some none)
 (p:PySem.W.nsIn K mainGlobals "dict"=some none)
 (i:PySem.W.nsIn K mainGlobals "enumerate"=some none)
 (x:PySem.W.nsIn K mainGlobals "int"=some none)
 (g:PySem.W.nsIn K mainGlobals "isinstance"=some none)
 (y:PySem.W.nsIn K mainGlobals "len"=some none)
 (r:PySem.W.nsIn K mainGlobals "list"=some none)
 (z:PySem.W.nsIn K mainGlobals "max"=some none)
 (A:PySem.W.nsIn K mainGlobals "min"=some none)
 (m:PySem.W.nsIn K mainGlobals "range"=some none)
 (C:PySem.W.nsIn K mainGlobals "set"=some none)
 (j:PySem.W.nsIn K mainGlobals "sorted"=some none)
 (D:PySem.W.nsIn K mainGlobals "sum"=some none)
 (n:PySem.W.nsIn K mainGlobals "tuple"=some none)
 (E:PySem.W.nsIn K mainGlobals "zip"=some none)
 :∃fd:FuncData,(∀(s:Shared)(v:Value),BindsTo s fd ⟨[v],[]⟩ [("_law_script",v)])/\∀base:Heap,K.In base->base.Ns mainGlobals mg->FnOk l.prog w K mg base CX0 11 fa fd ["_law_script"] (spC K 1 nR):=by obtain⟨f,oc,od,kV,dc,pm,an,cd,ct,sl,a,l',c,k⟩:=q;have e:=F.symm.trans (PySem.W.mg_of X G a);cases e;refine⟨PySem.W.fnOf "law" "law" (fK jR) (cJ jR) (aN jR) .none kV dc pm an cd ct,λ s v=>.of_eq rfl,λ base _ _=>?_⟩;have B:Bi mg:=⟨⟨_,PySem.W.mg_of X G d⟩,PySem.W.mg_none_of X G t,PySem.W.mg_none_of X G u,PySem.W.mg_none_of X G o,PySem.W.mg_none_of X G p,PySem.W.mg_none_of X G i,PySem.W.mg_none_of X G x,PySem.W.mg_none_of X G g,PySem.W.mg_none_of X G y,PySem.W.mg_none_of X G r,PySem.W.mg_none_of X G z,PySem.W.mg_none_of X G A,PySem.W.mg_none_of X G m,PySem.W.mg_none_of X G C,PySem.W.mg_none_of X G j,PySem.W.mg_none_of X G D,PySem.W.mg_none_of X G n,PySem.W.mg_none_of X G E⟩;exact U6 (Ω:=⟨_,w,K,mg,base,none⟩) B (q0.use X G) (q1.use X G) (q2.use X G) (q3.use X G) (q4.use X G) (q5.use X G) (q6.use X G) (q7.use X G) (q8.use X G) (q9.use X G) (H.use X G) (I.use X G) (J.use X G) (L.use X G) (M.use X G) (N.use X G) (O.use X G) (P.use X G) (Q.use X G) (R.use X G) (S.use X G) (T.use X G) (U.use X G) (V.use X G) (W.use X G) (Y.use X G) (Z.use X G) (aa.use X G) (ab.use X G) (ac.use X G) (ad.use X G) (ae.use X G) (af.use X G) (ag.use X G) (ah.use X G) (ai.use X G) (aj.use X G) (ak.use X G) (al.use X G) (am.use X G) (ao.use X G) (ap.use X G) (aq.use X G) (ar.use X G) (as.use X G) (au.use X G) (av.use X G) (J4 (st:=jR) l' c k) rfl
end K11
local macro_rules|`(universe $[$x]*)=>do return Lean.mkNullNode (←x.mapM fun i=>do
 let n:=Lean.mkIdent (.mkSimple s!"tw{i.getId.toString.toList.tail.foldl (fun a c=>a*62+c.toNat-if c.isDigit then 48 else if c.isUpper then 55 else 61) 0}")
 `(def $n:ident:=()))
namespace PySem.W.Fast
universe uwWJgzHIMu u2vKb8HZ8FNa uBoKoU5G5z8r uAZrbjqY4zzD uCXJIc9kkEiZ uEZaeWlAdNfH u4yxD1gDqyra u25cxaoebe7N uLJHzeR8RFX5 u3sfXSEf32dx uK22MyhiywCF uInMM7wz7sgt uLdkYTTfVJjc uDKpvSiHrhny u9dyJ6IqjKVI u20jxa6XfABf uBt3zGSR3dcB uG8KhahjS4lY uBECI0tsumLZ u1lLBe0bxsiq u2DVQ5sjPYRR u6btAFJ0zNMq uDQBq8kdZT86 u8zeaI6XQ7Tb u75hFWcIjrYW u5kGrAFodn32 uELi3lhTdq5A u4fUW9x9rwHS u3v4hi7cXyY5 u6isqipYrOvg uKEzgmGoEH8L uCkl4mlpPNRh uKmjWpQfcBdv u8r10JGSMZyF u7fcNS7EG9H6 u2o0kO4Q4xTC u9gUZNhW0JiW uKKrr79hAeLm uEXKhMrrcGPA uS4ULIgYp5W uHgnHjPr2NPS u9F9llgxV883 uBCnpuybk65p uI77etQbnL7b u9ZNKTUStX19 uJZBcVzqzB1S uK3tTElk2p3A u8NIjOErAIVm uGfL1c6tkH60 u3iF739i26YA u79PM0PmV0TB uFrm4kgkcknu ulqjQ6G9QYH uDKM0MSP63Gt uIXySvB06H4C uDtl4zRLEZKw u7QTy3IbNFP0 u2N6ljX9e2XT u11sSW4jxMTJ u9t5kPcJaher uHhhCVhIvvWc uJAnxyGNg88T uHrXVlLfBJl8 u8Jxhm8qeaMQ uGQG1UsZp1Ed uCbLbVoDbp4W uIaCz7SK41Jg uAkbxUjzHOxl uJc6YhT8kCaO u2eRbJGXsyok u2qlQCnq7RNQ u7eddYGf8Dek uHTw41Wj4wSM uFr97zHRz1J7 uKGLexMfoKqq uEkZWmgtBjs7 uLSeFagN6KaK u5BKsQq2ntZE uI6bVk0nVa1M udE0wBo45c1 uI0V7HwkeKRO uL0vQsREr3TW uEx87g8O4eY6 u4nmKA2StQrY u1xt8OfuJm6w u6ClO5pBeKC uKcn6JOkiFiZ u3HqN7gm8MAq uKqCinYHcL0Y uDpPVb6pvwDw uDVha8FSc1TD uD6P9dlDP4BL uA3YpSrnjuGb uISVN3wqqNg1 uIWtTFdlJVxx uA3JTddbKse8 uJ0ldSjd7rhg uH2gRvbtJlL2 uFTMkpmfAEoI u6yQpuWfUbyn uErO7sKPpdyY u4oFZJUuzPgY u9LCGtHYDKHH u7m4VKFEZHY8 uHc3jruTPvEe uDgfs4qaVD2Y u66fVSwp7rdp uC6FO5jv4Mru uCKxDX0wHp2N u8nFjQqz3HBq uCoDPziEjK9g uI408yaNVLiT uJ7R1kyr5xxW uDQeGmS1STCx uDLTGE5te4Jk u9pgWmn83HSk uDT0VcxvRVd2 u8Iyb2DjgQto uBF4J6c6IFgT uAqrVSLQarz2 u7st2lLr6B7E uGlGBfBgldOy u6xKN8EpHFSf u40nOsjj49uf uIdyJx3oogVR uKNa4x760J0W uGjpT9Yf5WgU u73G3p2hSHH6 uHaPMjiUZoT7 uIgqg1JQxX6z u23wEkSQWzHf u2jIisOhGzPD uB3bnK0OZcbq uB1VHCIlqb00 uDyWq6ihHWXX uD3EnmIpf7cM u7TnDmQi2K3X u1WcEeuhFr2q u90Xr4JbVbC7 u6aismk9uIfq u6KnV8gU2aS3 u6j3Li0ALUM3 uFMvV7HzHluB uABRUw5ClMOs uDeuj76LrdG7 u9ex2GxgUJt u6l1yhLwV3NA u2a4CJFE2mqN uG793ljNjayN uEm2kire8Vys uHKJhUv0R0Ft uIIlAEP32BzH uLaPreGhW4S5 uF26SCAhhB7O u6JLPUPTQMW2 u5hwqBYd1ZX0 uK2Y4NHedUlW uEOdHKHKBvo0 uL15e2rDXEds u8CIIpcrK0si u7wDQGWYbK4x uBJt2XqXWMhj uDV1bmSUubsm uBH4ucRLPq36 u52pgK7BIi4n uHwwZ9ickSvj uCGglr9RS8Z7 uGVc8Mph2dtf uKXsb2iDdtbd uEuM47gjiyHs uEgfz2xIzS2e uKGOriQz8xKJ u1IE1WaOYgwC uFGV5cRYzpeB u5GzWQlu0O58 uFFicRvu9Qiy uD7Y4LYqNK0n uHdWLdRSoKSU uAWLMWQHAI1o uLWN1AAU4a07 u3QsRftxtLcN unEws7h24Zx u2boj6mHCQVJ u9pU5ahNcWxV uCeWBnmwUuPH u2cDSIRnfGOP uEIyE3ClqKWa uIWWC6QFSZ4P u7gqBXmzqidE uLdqecFcIlOd u6YRufol72YH uHvjCrUngaRc u9OrrGS831b2 u5At4J9ZPVgy uLdq55RDgQks u71AY6jkVX8K uJrO5nQ25siR u7gG06o6Agfb u7h2mSW1n2d u2PGR8BPsyPl u4Lp9Z2Oiccp uKnkYYoSMq65 uAUrD13xQX9m u2Q80wdFbS60 u7Z0NB7JoiRm uHnEFlnk4m6a uBu6z2JWSOQR uBV4DOj8IXoS unuJ66fPOyC uFgqwOwJtQ5y u4NcVtiJp8NP uLFcr5ewk96P uA8o6YP4ZDe0 u6TnVQZAPQa9 u3NdriaaBajf u2mX85JS3k7q uA4LQskVoJqb uDLnUOwwvlnz u5n1GUEOgdgR uK5Ou7dDrqno uFbNLPZUVvuZ uEh1T0ReB03M uFyg96Lmdnb2 uEsTJAwTz2tI u2zgUwIlBRGc uAFsV5PG7GUi uEOKvI5QxafL uCqBGwaS7DZd uknUbMmrmT8 u1n7Eu37lb1P uILEtwPL7cgb unGE6ENzGq7 u14hDckhUOQR uDVyUZ01Bl87 uCIoh0xqOR1U u17mwiZgduye uEfynJHUrNQO uFrpoxXZDDjV uHPz3kUkCwe4 u2JlaK0gX7zD uDUegX6KIHp3 u2J7v9KtQXWa u8Qpw8KiXFVm u3WOVMs67Eto u3r6cDraxl2z uGcQNayZbSa0 uKw6LmrmzuoF u2HXKhxWYGT2 u7EwAG6F62u8 u3tY4RuWoqXr uIwUkv0DzJUx uDNTO90Naddn uKZYlUI3DjOh u65UvKDRKuKX uBYVrqUqBPvh u251gqWu7qMr u33uBNpuJYZn uBpmW25tWBnq u6Qyfjx7Zee1 u8JO3zzrIOmU uFdgCENgAaYF u4whrqE3mHfy u2F4UgQbIr2n uEastvDq2Pg1 u3mU1PjaYwkj uJ4tpYBB7bIu u8xjeo5DUtQW uKqJsxrTCqBy uC7EOds34Kdo u7pY2hL1yizC uLqEffMJbiwf uIfrDd8LOJS8 u9jBOw9aNF4C u5dMYAaP0Kf8 uASXpgon5GLN uJ0yp4sGJkR2 uJCC26gCLybZ uAtAxL9LpNar uKyuEO26zDNS u7GRa2bQxn5t u5VFm0m1Fmfn uHotYcWRuo1K uEMamecaJpSu uFMiS7Ycz1oy uLVp0B7Yv2wT uGlWVKxB06ZJ uHp2g86elyWd uA0eNE5tcYl uHxs2xnepDp8 uHarJuYOM9Nj u4RdjjwO27WP uFN2nFd20o4w uCaJ5h6s5CR uIBbyIjcJTvu uGEnzYEkHYRc uJDOhGTBO6BH u5opd7zfAK5s u8EqGLJn92Sx uJrsazAy7mug uALQhTE3SeCi u4YvOb9CaD9T u8btnt7ETaCq uLru2Mb3qftX ug3ydVd5Rf3 uDCD8e3cYPOy uIxp2wDepuZj u2EOOaI4xxxc uH4WiRwA1Oy0 umAleFz00MT uCKPzuLkjEMY uIRLCUgEWLSO uE1MOn9aCRts uCWyEErBGT15 uKcn8JH3M7xA u1Z0qZCK2404 uA0V0p5Ex8Cd uJr8AAfGVzMD uB0yKG0gi25Q u6iySA6U2Q3k
end PySem.W.Fast
open PySem PySem.W PyProof.Rows
set_option maxRecDepth 100000 in
set_option maxHeartbeats 0 in
theorem PySem.Challenge.cw_nestturn_k11_traces_told_holds : PySem.Challenge.rw_nestturn_k11_traces_told.Holds := by
 w_on; o_law; k_head; (case hw => w_witness2)
 k_fill
 refine RF.walk (l := PySem.Challenge.rw_nestturn_k11_traces_told) (lev := 11) (x := "_law_script") rfl rfl ⟨rfl, %[|3], %[|3]⟩ (λ w h Y => by first | exact PySem.W.kIn_of Y | exact PySem.W.km_in_of Y) ?F
 case F =>
  intro w mg fa h KX G hmg
  refine' K11.all_mk KX G hmg ?_ ?_ ?_ ?_ ?_ ?_ ?_ ?_ ?_ ?_ ?_ ?_ ?_ ?_ ?_ ?_ ?_ ?_ ?_ ?_ ?_ ?_ ?_ ?_ ?_ ?_ ?_ ?_ ?_ ?_ ?_ ?_ ?_ ?_ ?_ ?_ ?_ ?_ ?_ ?_ ?_ ?_ ?_ ?_ ?_ ?_ ?_ ?_ ?_ ?_ ?_ ?_ ?_ ?_ ?_ ?_ ?_ ?_ ?_ ?_ ?_ ?_ ?_ ?_ ?_ ?_
  all_goals try first | (refine' K11.FI.mk ?a ?l ?c ?k; (case a => k_is); (case l => k_is); (case c => k_is); (case k => k_is)) | (show _ = _; k_is)
