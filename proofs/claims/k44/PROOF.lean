import PyProof.Rows.All
import Wide.All
import OpenK.AllK
import Wide.FinOn
import Lean
import PyProof.EqAt
import PyProof.EqKinds
import PyProof.TupleCall
import KE.KEqDict
import PyProof.ZipIter
import PyProof.ListMulAny
import KE.KTryMore
import PyProof.NsDelKeeps
import KE.KUnpack
import KE.KRevIter
import PyProof.DictUpdate
import PyProof.ListRange
import PyProof.Rows.CallKwBuiltin
import PyProof.WalkInts
import KE.KSortTup
import KE.KLam
import KE.KNestM
import PyProof.CollectIter
import PySem.Challenge.RW_nestturn_k44_lines_that_are_free
set_option bootstrap.genMatcherCode false
set_option compiler.extract_closed false
set_option compiler.reuse false
set_option genSizeOfSpec false
set_option genSizeOf false
def ZA:=@PySem.wpAny_bind
def ZB:=@PySem.wpAny_pure
def ZC:=@PySem.Heap.get?_push_of_some
def ZD:=@PySem.Heap.get?_push_size
def ZE:=@PySem.Heap.lt_size
def ZF:=@of_decide_eq_true
def ZG:=@decide_eq_true
def ZH:=@decide_eq_false
def ZI:=@eq_of_beq
def ZJ:=@List.mem_cons
def ZK:=@List.mem_append
def ZL:=@List.mem_singleton
def ZM:=@Nat.lt_of_lt_of_le
def ZN:=@Nat.ne_of_lt
def ZO:=@List.mem_map
def ZP:=@PySem.wpAny_call_entry
def ZQ:=@PySem.wpAny_holding
def ZR:=@List.getElem?_of_mem
theorem fE{α:Prop}(h:false=true):α:=(Bool.false_ne_true h).elim
noncomputable section
set_option Elab.async false
set_option linter.all false
set_option hygiene false
local macro_rules
| `(%[|0]) => `(by omega)
| `(%[|1]) => `(List Str)
| `(%[|2]) => `(by decide)
| `(%[|3]) => `(List Int)
| `(%[|4]) => `(Ex.var 0)
| `(%[|5]) => `(Store->Prop)
| `(%[|6]) => `(Inv X pins σ H s)
| `(%[|7]) => `(List Value)
local macro_rules
| `(%[|8]) => `(model X.prog X.w)
| `(%[|9]) => `(by kernel_rfl!)
| `(%[|10]) => `(model prog w)
| `(%[|11]) => `(Value->Shared->Prop)
| `(%[|12]) => `(ZB ?_)
| `(%[|13]) => `(List (Addr×Obj))
| `(%[|14]) => `(by decide+kernel)
| `(%[|15]) => `(Str->%[|27])
local macro_rules
| `(%[|16]) => `(h pins s σ H O I env st)
| `(%[|17]) => `(Ar.cons (Ex.var 1) Ar.nil)
| `(%[|18]) => `(some (.loc S.length))
| `(%[|19]) => `(ZD _ rfl)
| `(%[|20]) => `(F0.binds %[|29])
| `(%[|21]) => `(.ref s.heap.objs.size)
| `(%[|22]) => `(Ar.cons %[|4] Ar.nil)
| `(%[|23]) => `(Cal Ω "_law_next" 2 2 Fq8)
local macro_rules
| `(%[|24]) => `(Cal Ω "is_tuple_of" 1 3 Fq43)
| `(%[|25]) => `({nx:=λ _ S1=>W .non S1,rt:=W})
| `(%[|26]) => `(h.push %[|28])
| `(%[|27]) => `(Option Value)
| `(%[|28]) => `({cls:=.type c1,data:=.fields #[.ref l1,.int 0 0]})
| `(%[|29]) => `(λ _ _ _ _ _ _=>by2 λ _ _=>rfl)
local macro_rules
| `(tactic| sleep 0) => `(tactic| (intro pins s σ H O I env st))
| `(tactic| sleep 1) => `(tactic| (intro X r top N nm e Γ S W A hl hc hw))
set_option hygiene true
def y3:=@List.getElem?_eq_some_iff
def y4:=@List.getElem?_eq_getElem
def y6:=@List.mem_of_getElem?
def y7:=@Bool.false_ne_true
def y8:=@List.length_map
def x5:=@List.getElem?_map
def x6:=@Nat.le_refl
def x8:=@List.mem_cons_of_mem
def x9:=@List.size_toArray
def v3:=@List.mem_cons_self
set_option bootstrap.genMatcherCode false
set_option maxRecDepth 100000
local macro_rules | `(tactic| omega) => `(tactic| first | with_reducible assumption | with_reducible exact Int.natCast_nonneg _ | with_reducible exact Nat.le_trans (by assumption) (by decide) | with_reducible exact Int.le_trans (by decide) (Int.natCast_nonneg _) | with_reducible exact Int.lt_of_le_of_lt (Int.ofNat_le.mpr (by assumption)) (by decide) | lia)
local macro_rules|`(def $i:declId $s:optDeclSig $v:declVal)=>`(noncomputable def $i:declId $s:optDeclSig $v:declVal)
local macro_rules|`(abbrev $i:declId $s:optDeclSig $v:declVal)=>`(noncomputable abbrev $i:declId $s:optDeclSig $v:declVal)
namespace L2
open PySem PySem.Spec PyProof.Rows
abbrev Key:=Sum Int Str
def Qp:Key->Value->Bool
 | .inl k,v=>Value.isInt k v
 | .inr x,v=>Value.isStrOf x v
def X6(w:World):Key->Int
 | .inl k=>hashInt k
 | .inr x=>hashStr w x
theorem bG:∀{k:Key}{v:Value},Qp k v=true->(∃i t,k=Sum.inl i/\v=Value.int i t)∨(∃x t,k=Sum.inr x/\v=Value.str x t)
 | .inl i,v,h=>by
   obtain⟨t,e⟩:=Value.isInt_shape (k:=i) (v:=v) h
   exact .inl ⟨i,t,rfl,e⟩
 | .inr x,v,h=>by
   obtain⟨t,e⟩:=Value.isStrOf_shape (x:=x) (v:=v) h
   exact .inr ⟨x,t,rfl,e⟩
theorem UG(a b:Int):decide ((Sum.inl a:Key)=Sum.inl b)=(a==b):=by
 by_cases e:a=b
 . subst e;simp
 . have h:¬(Sum.inl a:Key)=Sum.inl b:=λ q=>e (Sum.inl.inj q)
   rw[ZH h]
   exact(beq_eq_false_iff_ne.mpr e).symm
theorem VL(a b:Str):decide ((Sum.inr a:Key)=Sum.inr b)=decide (a=b):=by
 by_cases e:a=b
 . subst e;simp
 . have h:¬(Sum.inr a:Key)=Sum.inr b:=λ q=>e (Sum.inr.inj q)
   rw[ZH h,ZH e]
theorem Vd(a:Int)(b:Str):decide ((Sum.inl a:Key)=Sum.inr b)=false:=ZH (λ q=>nomatch q)
theorem Us(a:Str)(b:Int):decide ((Sum.inr a:Key)=Sum.inl b)=false:=ZH (λ q=>nomatch q)
def eH(prog:Program)(w:World):PySem.KeyKind prog w Key where
 is:=Qp
 hash:=X6 w
 inj:=λ v a b ha hb=>by
  rcases bG ha with⟨i,t,rfl,rfl⟩ | ⟨x,t,rfl,rfl⟩
  . rcases bG hb with⟨j,u,rfl,e⟩ | ⟨y,u,rfl,e⟩
    . injection e with e1 _;rw[e1]
    . exact nomatch e
  . rcases bG hb with⟨j,u,rfl,e⟩ | ⟨y,u,rfl,e⟩
    . exact nomatch e
    . injection e with e1 _;rw[e1]
 byValue:=λ k v h=>by
  rcases bG h with⟨i,t,rfl,rfl⟩ | ⟨x,t,rfl,rfl⟩<;>rfl
 pyHash:=λ hv h=>by
  rcases bG hv with⟨i,t,rfl,rfl⟩ | ⟨x,t,rfl,rfl⟩
  . exact wpAny_pyHash_int h
  . exact wpAny_pyHash_str h
 eqBool:=λ hu hv h=>by
  rcases bG hu with⟨i,t,rfl,rfl⟩ | ⟨x,t,rfl,rfl⟩
  . rcases bG hv with⟨j,u,rfl,rfl⟩ | ⟨y,u,rfl,rfl⟩
    . rw[UG]at h;exact wpAny_eqBool_int h
    . rw[Vd]at h;exact SeqAt.EqAt.int_str i t y u _ _ _ _ h
  . rcases bG hv with⟨j,u,rfl,rfl⟩ | ⟨y,u,rfl,rfl⟩
    . rw[Us]at h;exact SeqAt.EqAt.str_int x t j u _ _ _ _ h
    . rw[VL]at h;exact wpAny_eqBool_str h
 «strs»:=λ k x t v h=>by
  rcases bG h with⟨i,u,rfl,e⟩ | ⟨y,u,rfl,e⟩
  . exact nomatch e
  . injection e with e1 _
    subst e1
    cases v<;>rfl
variable {b : Addr}
inductive V where
 | non | bl(b:Bool) | int(i:Int) | str(x:Str) | byt(b:Array UInt8) | flt(b:UInt64) | ref(a:Addr) | ty(n:String)
 deriving DecidableEq
def RelV:V->Value->Prop
 | .non,u=>u=Value.none
 | .bl b,u=>u=Value.bool b
 | .int i,u=>∃t,u=Value.int i t
 | .str x,u=>∃t,u=Value.str x t
 | .byt b,u=>∃t,u=Value.bytes b t
 | .flt b,u=>∃t,u=Value.float b t
 | .ref a,u=>u=Value.ref a
 | .ty n,u=>u=Value.type n
abbrev Vals:List V->%[|7]->Prop:=Paired RelV
theorem Vals.length{xs:List V}{us:%[|7]}(r:Vals xs us):xs.length=us.length:=Paired.length r
theorem Vals.get:∀{xs:List V}{us:%[|7]}{i:Nat}{x:V},Vals xs us->xs[i]? =some x->∃u,us[i]? =some u/\RelV x u
 | _,_,_,_,.nil,e=>by simp at e
 | _,_,0,_,.cons r _,e=>by simp at e;subst e;exact⟨_,rfl,r⟩
 | _,_,i+1,x,.cons _ t,e=>by
   obtain⟨u,h1,h2⟩:=Vals.get (i:=i) (x:=x) t (by simpa using e)
   exact⟨u,by simpa using h1,h2⟩
theorem Vals.set{x:V}{u:Value}(r:RelV x u):∀{xs:List V}{us:%[|7]}(i:Nat),Vals xs us->Vals (xs.set i x) (us.set i u)
 | _,_,_,.nil=>.nil
 | _,_,0,.cons _ t=>.cons r t
 | _,_,i+1,.cons q t=>.cons q (Vals.set r i t)
theorem Vals.append:∀{xs ys:List V}{us ws:%[|7]},Vals xs us->Vals ys ws->Vals (xs++ys) (us++ws)
 | _,_,_,_,.nil,s=>s
 | _,_,_,_,.cons r t,s=>.cons r (Vals.append t s)
theorem Vals.take:∀{xs:List V}{us:%[|7]}(n:Nat),Vals xs us->Vals (xs.take n) (us.take n)
 | _,_,0,_=>.nil
 | _,_,_+1,.nil=>.nil
 | _,_,n+1,.cons r t=>.cons r (Vals.take n t)
theorem Vals.drop:∀{xs:List V}{us:%[|7]}(n:Nat),Vals xs us->Vals (xs.drop n) (us.drop n)
 | _,_,0,r=>r
 | _,_,_+1,.nil=>.nil
 | _,_,n+1,.cons _ t=>Vals.drop n t
def Ut:Option V->%[|27]->Prop
 | some v,some u=>RelV v u
 | none,none=>True
 | _,_=>False
def KV{κ:Type}:List (κ×V)->List (κ×Value)->Prop:=Paired λ(p:κ×V) (q:κ×Value)=>p.1=q.1/\RelV p.2 q.2
def kV:Key->V
 | .inl i=>.int i
 | .inr x=>.str x
inductive HO where
 /-- a list -/
 | lst(xs:List V)
 /-- a tuple (never changes) -/
 | tup(xs:List V)
 /-- a dict whose keys are ints and texts; one whose keys are tuples of ints and texts (the empty one is both) -/
 | dK(kvs:List (Key×V)) | dT(kvs:List (List Key×V))
 /-- a set of ints: its members, its size -/
 | set(S:Int->Bool)(n:Nat)
 /-- an instance of the class at C, its dict at dx, its attributes -/
 | ins(C dx:Addr)(fs:List (Str×V))
 /-- the dict of the instance at x -/
 | own(x:Addr)
 /-- the dict of an exception -/
 | xd(fs:List (Str×V))
 /-- a bound method, f of x -/
 | met(f x:Addr)
 /-- a range object lo, lo + 1, .. below hi -/
 | rng(lo hi:Int)
 /-- a thing that is known to the object (the script; a dict while a loop walks it): read, never written while it is so -/
 | frz(o:Obj)(u:HO)
 /-- a code object's table -/
 | tbl(ps:Array Value)
 /-- any other thing, by what is true of its one object (a def of one's own: SetO a S n := HO.ext λ h => ..) -/
 | ext(φ:Heap->Prop)
abbrev Hp:=Addr->Option HO
def upd(H:Hp)(a:Addr)(o:HO):Hp:=λ b=>if b=a then some o else H b
theorem aL{H:Hp}{a:Addr}{o:HO}:upd H a o a=some o:=by unfold upd;rw[if_pos rfl]
theorem ao{H:Hp}{a:Addr}{o:HO}(h:b≠a):upd H a o b=H b:=by unfold upd;rw[if_neg h]
theorem aC{H:Hp}{a:Addr}{o:HO}(h:H a=some o)(h':H b=none):a≠b:=by
 intro e;subst e;rw[h]at h';cases h'
section
variable (P : Program) (w : World)
def bu(H:Hp)(h:Heap)(a:Addr):HO->Prop
 | .lst xs=>xs.length≤sizeLine/\∃(its:%[|7]) (n:Nat),Vals xs its/\h.get? a=some {cls:=.type "list",data:=.seq its.toArray n}
 | .tup xs=>xs.length≤sizeLine/\∃its:%[|7],Vals xs its/\IsTup h a its.toArray
 | .dK kvs=>kvs.length≤sizeLine/\(a==sysModules)=false/\∃vs,KV kvs vs/\h.DictOf (eH P w) a vs
 | .dT kvs=>kvs.length≤sizeLine/\(a==sysModules)=false/\∃xs:List (List Key×Addr×Value),
  Paired (λ(p:List Key×V) (q:List Key×Addr×Value)=>p.1=q.1/\H q.2.1=some (.tup (p.1.map kV))/\RelV p.2 q.2.2) kvs xs/\
  ∃o es ep,h.get? a=some o/\o.ExactDict/\o.data=.dict es ep/\es.toList=xs.map (entryOfKey (tupleKind (eH P w)))/\(xs.map (·.1)).Nodup
 | .set S n=>h.SetOf (intKind P w) a S n
 | .ins C dx fs=>H dx=some (.own a)/\fs.length≤1000/\dx≠a/\h.get? a=some (PySem.W.instObj C dx)/\
  ∃mA,h.Ns1 dx mA/\(∀f,Ut (fs.lookup f) (mA f))/\PySem.Within mA (fs.map (·.1))
 | .own _=>∃o,h.get? a=some o
 | .xd fs=>∃mA,h.Ns1 a mA/\∀f,Ut (fs.lookup f) (mA f)
 | .rng lo hi=>∃t u v,h.get? a=some {cls:=.type "range",data:=.fields #[.int lo t,.int hi u,.int 1 v]}
 | .frz o u=>h.get? a=some o/\bu H h a u
 | .tbl ps=>h.get? a=some {cls:=.none,data:=.fields ps}
 | .met f x=>h.get? a=some (PySem.W.methodObj (.ref f) (.ref x))
 | .ext φ=>φ h/\(∃o,h.get? a=some o)/\∀h1 h2:Heap,φ h1->(∀o,h1.get? a=some o->h2.get? a=some o)->φ h2
def HOk(H:Hp)(h:Heap):Prop:=∀a o,H a=some o->bu P w H h a o
end
section
variable {P : Program} {w : World} {H H' : Hp} {h h' : Heap} {a : Addr} {o : HO}
theorem bu.lt(x:bu P w H h a o):a<h.objs.size:=by
 cases o with
 | lst xs=>obtain⟨_,_,_,_,e⟩:=x;exact ZE e
 | tup xs=>obtain⟨_,_,_,p⟩:=x;exact p.lt
 | dK kvs=>obtain⟨_,_,_,_,o,_,_,e,_⟩:=x;exact ZE e
 | dT kvs=>obtain⟨_,_,_,_,o,_,_,e,_⟩:=x;exact ZE e
 | set S n=>obtain⟨o,_,_,_,e,_⟩:=x;exact ZE e
 | ins C dx fs=>obtain⟨_,_,_,e,_⟩:=x;exact ZE e
 | own y=>obtain⟨_,e⟩:=x;exact ZE e
 | xd fs=>obtain⟨_,⟨_,_,_,e,_⟩,_⟩:=x;exact ZE e
 | rng lo hi=>obtain⟨_,_,_,e⟩:=x;exact ZE e
 | frz ob u=>obtain⟨e,_⟩:=x;exact ZE e
 | tbl ps=>exact ZE (show h.get? a=some _ from x)
 | met f y=>exact ZE (show h.get? a=some _ from x)
 | ext φ=>obtain⟨_,⟨_,e⟩,_⟩:=x;exact ZE e
theorem Paired.mapP{α β:Type}{F G:α->β->Prop}:∀{l₁:List α}{l₂:List β},Paired F l₁ l₂->(∀a b,F a b->G a b)->Paired G l₁ l₂
 | _,_,.nil,_=>.nil
 | _,_,.cons r t,f=>.cons (f _ _ r) (Paired.mapP t f)
theorem bu.stay(x:bu P w H h a o)(k:∀b u,(b=a∨H b=some (.own a))->h.get? b=some u->h'.get? b=some u)
 (ho:∀b,H b=some (.own a)->H' b=some (.own a))(ht:∀b xs,H b=some (.tup xs)->H' b=some (.tup xs)):bu P w H' h' a o:=by
 induction o with
 | lst xs=>obtain⟨z,its,n,r,e⟩:=x;exact⟨z,its,n,r,k _ _ (.inl rfl) e⟩
 | tup xs=>obtain⟨z,its,r,ob,e,c⟩:=x;exact⟨z,its,r,ob,k _ _ (.inl rfl) e,c⟩
 | dK kvs=>obtain⟨z,y,vs,r,ob,es,ep,e,c⟩:=x;exact⟨z,y,vs,r,ob,es,ep,k _ _ (.inl rfl) e,c⟩
 | dT kvs=>
   obtain⟨z,y,xs,r,ob,es,ep,e,c⟩:=x
   exact⟨z,y,xs,Paired.mapP r λ p q z=>⟨z.1,ht _ _ z.2.1,z.2.2⟩,ob,es,ep,k _ _ (.inl rfl) e,c⟩
 | set S n=>obtain⟨ob,es,ep,t,e,c⟩:=x;exact⟨ob,es,ep,t,k _ _ (.inl rfl) e,c⟩
 | ins C dx fs=>
   obtain⟨d,z,ne,e,mA,⟨od,es,ep,e2,c⟩,r⟩:=x
   exact⟨ho _ d,z,ne,k _ _ (.inl rfl) e,mA,⟨od,es,ep,k _ _ (.inr d) e2,c⟩,r⟩
 | own y=>obtain⟨ob,e⟩:=x;exact⟨ob,k _ _ (.inl rfl) e⟩
 | xd fs=>obtain⟨mA,⟨od,es,ep,e,c⟩,r⟩:=x;exact⟨mA,⟨od,es,ep,k _ _ (.inl rfl) e,c⟩,r⟩
 | rng lo hi=>obtain⟨t,u,v,e⟩:=x;exact⟨t,u,v,k _ _ (.inl rfl) e⟩
 | frz ob u ih=>obtain⟨e,q⟩:=x;exact⟨k _ _ (.inl rfl) e,ih q⟩
 | tbl ps=>
   have e:h.get? a=some {cls:=.none,data:=.fields ps}:=x
   show h'.get? a=some {cls:=.none,data:=.fields ps}
   exact k a _ (.inl rfl) e
 | met f y=>
   have e:h.get? a=some (PySem.W.methodObj (.ref f) (.ref y)):=x
   show h'.get? a=some (PySem.W.methodObj (.ref f) (.ref y))
   exact k a _ (.inl rfl) e
 | ext φ=>obtain⟨p,⟨o,e⟩,st⟩:=x;exact⟨st _ _ p λ o q=>k _ _ (.inl rfl) q,⟨o,k _ _ (.inl rfl) e⟩,st⟩
theorem HOk.lt(x:HOk P w H h)(e:H a=some o):a<h.objs.size:=(x a o e).lt
theorem HOk.fresh(x:HOk P w H h)(e:h.objs.size≤a):H a=none:=by
 cases q:H a with
 | none=>rfl
 | some u=>exact absurd (ZM (x.lt q) e) (Nat.lt_irrefl _)
theorem HOk.kept(x:HOk P w H h)(k:∀b u,h.get? b=some u->h'.get? b=some u):HOk P w H h':=λ a o e=>
 (x a o e).stay (λ b u _ q=>k b u q) (λ _ q=>q) λ _ _ q=>q
theorem HOk.laid(x:HOk P w H h)(k:∀b u,h.get? b=some u->h'.get? b=some u)(hp:h.objs.size≤a)(new:bu P w (upd H a o) h' a o):HOk P w (upd H a o) h':=λ b u e=>by
 have hn:=x.fresh hp
 by_cases hb:b=a
 . subst hb;rw[aL]at e;cases e;exact new
 . rw[ao hb]at e
   exact(x b u e).stay (λ c v _ q=>k c v q) (λ c q=>by rw[ao (aC q hn)];exact q) λ c xs q=>by rw[ao (aC q hn)];exact q
end
def Rd(H:Hp)(a:Addr)(u:HO):Prop:=H a=some u∨∃o,H a=some (.frz o u)
theorem Rd.ok{P:Program}{w:World}{H:Hp}{h:Heap}{a:Addr}{u:HO}(r:Rd H a u)(x:HOk P w H h):bu P w H h a u:=by
 rcases r with r | ⟨o,r⟩
 . exact x a u r
 . obtain⟨_,q⟩:=x a _ r
   exact q
def Mut:Option HO->Prop
 | some (.lst _)=>True
 | some (.dK _)=>True
 | some (.dT _)=>True
 | some (.set _ _)=>True
 | some (.ins _ _ _)=>True
 | some (.ext _)=>True
 | _=>False
section
variable {P : Program} {w : World} {H : Hp} {h h' : Heap} {x e : Addr} {o' : HO}
theorem HOk.write(ok:HOk P w H h)(mu:Mut (H x))(he:e=x∨H e=some (.own x))(k:∀b u,b≠e->h.get? b=some u->h'.get? b=some u)(heo:∃u,h'.get? e=some u)
 (new:bu P w (upd H x o') h' x o'):HOk P w (upd H x o') h':=λ b u q=>by
 have nown:∀c y,H c=some (.own y)->c≠x:=λ c y r z=>by subst z;rw[r]at mu;exact mu
 have ntup:∀c xs,H c=some (.tup xs)->c≠x:=λ c xs r z=>by subst z;rw[r]at mu;exact mu
 by_cases hb:b=x
 . subst hb;rw[aL]at q;cases q;exact new
 . rw [ao hb]at q
   by_cases hbe:b=e
   . have q':H b=some (.own x):=by
      rcases he with z | z
      . exact absurd (hbe.trans z) hb
      . rw[hbe];exact z
     rw[q]at q';cases q'
     obtain⟨v,hv⟩:=heo
     exact⟨v,by rw[hbe];exact hv⟩
   . refine(ok b u q).stay (λ c v hc r=>k c v ?_ r) (λ c r=>by rw[ao (nown c b r)];exact r) λ c xs r=>by rw[ao (ntup c xs r)];exact r
     rcases hc with rfl | hc
     . exact hbe
     . rintro rfl
       rcases he with z | z
       . exact nown c b hc z
       . rw[hc]at z;cases z;exact hb rfl
end
structure Un(fs ex:List Addr)(H H':Hp)(h h':Heap):Prop where
 keep:∀b o,h.get? b=some o->H b=none->b∉fs->b∉ex->h'.get? b=some o
 slot:∀b o,h.get? b=some o->H b=none->b∈fs->b∉ex->∃sl,h'.get? b=some {o with slots:=sl}
 free:∀b o,h.get? b=some o->H b=none->b∉ex->H' b=none
 there:∀b o,h.get? b=some o->b∉ex->∃o',h'.get? b=some o'
 tups:∀b xs,H b=some (.tup xs)->H' b=some (.tup xs)
 frzs:∀b o u,H b=some (.frz o u)->H' b=some (.frz o u)
 tbls:∀b ps,H b=some (.tbl ps)->∃more,H' b=some (.tbl (ps++more))
section
variable {fs fs' ex ex' : List Addr} {H H1 H2 : Hp} {h h1 h2 h' : Heap} {a x e : Addr} {o : HO}
theorem Un.any(u:Un fs ex H H1 h h1){b:Addr}{ob:Obj}(q:h.get? b=some ob)(n:H b=none)(hx:b∉ex):∃sl,h1.get? b=some {ob with slots:=sl}:=by
 by_cases hb:b∈fs
 . exact u.slot b ob q n hb hx
 . exact⟨ob.slots,u.keep b ob q n hb hx⟩
theorem Un.kept(k:∀b u,h.get? b=some u->h'.get? b=some u):Un fs ex H H h h':=
 ⟨λ b ob q _ _ _=>k b ob q,λ b ob q _ _ _=>⟨ob.slots,k b ob q⟩,λ _ _ _ n _=>n,λ b ob q _=>⟨ob,k b ob q⟩,λ _ _ q=>q,λ _ _ _ q=>q,λ _ ps q=>⟨#[],by rw[q];simp⟩⟩
theorem Un.refl:Un fs ex H H h h:=Un.kept λ _ _ q=>q
theorem Un.laid(k:∀b u,h.get? b=some u->h'.get? b=some u)(hp:h.objs.size≤a)(hn:H a=none):Un fs ex H (upd H a o) h h' where
 keep:=λ b u q _ _ _=>k b u q
 slot:=λ b u q _ _ _=>⟨u.slots,k b u q⟩
 free:=λ b u q n _=>by rw[ao (ZN (ZM (ZE q) hp))];exact n
 there:=λ b u q _=>⟨u,k b u q⟩
 tups:=λ b xs q=>by rw[ao (aC q hn)];exact q
 frzs:=λ b u xs q=>by rw[ao (aC q hn)];exact q
 tbls:=λ b ps q=>⟨#[],by rw[ao (aC q hn),q];simp⟩
theorem Un.write(mu:Mut (H x))(he:e=x∨H e=some (.own x))(k:∀b u,b≠e->h.get? b=some u->h'.get? b=some u)(heo:∃u,h'.get? e=some u):Un fs ex H (upd H x o) h h':=by
 have hx:∀b,H b=none->b≠x:=λ b n z=>by subst z;rw[n]at mu;exact mu
 have hb:∀b,H b=none->b≠e:=λ b n z=>by
  subst z
  rcases he with r | r
  . exact hx b n r
  . rw[n]at r;cases r
 have hm:∀b u,H b=some u->¬Mut (some u)->b≠x:=λ b u q nm z=>by subst z;rw[q]at mu;exact nm mu
 refine⟨λ b u q n _ _=>k b u (hb b n) q,λ b u q n _ _=>⟨u.slots,k b u (hb b n) q⟩,λ b u q n _=>by rw[ao (hx b n)];exact n,λ b u q _=>?_,
  λ b xs q=>by rw[ao (hm b _ q λ z=>z)];exact q,λ b u xs q=>by rw[ao (hm b _ q λ z=>z)];exact q,λ b ps q=>⟨#[],by rw[ao (hm b _ q λ z=>z),q];simp⟩⟩
 by_cases hbe:b=e
 . subst hbe;exact heo
 . exact⟨u,k b u hbe q⟩
end
def trk(h:Heap)(H:Hp):List Addr:=(List.range h.objs.size).filter λ a=>(H a).isSome
def lM(h:Heap)(H:Hp):Heap:=PySem.W.hideAll h (trk h H)
theorem Km(h:Heap)(H:Hp):(lM h H).objs.size=h.objs.size:=PySem.W.hideAll_size _ _
theorem NT{h:Heap}{H:Hp}{o:Obj}(e:h.get? b=some o)(n:H b=none):(lM h H).get? b=some o:=
 PySem.W.hideAll_get _ e λ hm=>by
  have q:(H b).isSome=true:=(List.mem_filter.mp hm).2
  rw[n]at q;simp at q
theorem RN{h:Heap}{H:Hp}{o:Obj}(e:(lM h H).get? b=some o):h.get? b=some o/\H b=none:=by
 have e':h.get? b=some o:=PySem.W.of_hideAll (trk h H) e
 refine⟨e',?_⟩
 cases q:H b with
 | none=>rfl
 | some x=>
   have hm:b∈trk h H:=List.mem_filter.mpr ⟨List.mem_range.mpr (ZE e'),by simp[q]⟩
   have z:(lM h H).get? b=none:=PySem.W.hideAll_none (trk h H) hm
   rw[z]at e;cases e
end L2
namespace L2
open PySem PySem.Spec PyProof.Rows
variable {t' : Nat}
structure Mod(K:PySem.W.Frag)(mg:%[|15])(base:Heap):Prop where
 kin:K.In base
 glob:base.Ns mainGlobals mg
 blt:∃mb,base.Ns builtinsNs mb/\∀x:Str,x≠"__name__"->mb x=bootBuiltins x
 nolimit:base.NoLimit
set_option genInjectivity false in
structure Cx where
 prog:Program
 w:World
 K:PySem.W.Frag
 mg:%[|15]
 base:Heap
 A:Around
 N:%[|1]
 s₀:Shared
 H₀:Hp
 env:Env
 outer:List Env
 stack:List Env
 ex:List Addr
 fn:Str->Bool
 calm:Bool
 pn:%[|13]
 xe:%[|11]
def frs(l:List Env):List Addr:=l.filterMap (·.frame)
abbrev Cx.fs(X:Cx):List Addr:=frs X.outer
def Vis(sc:Scope)(x:Str):Prop:=sc.names.lookup x=some .local∨sc.names.lookup x=some .cell∨sc.names.lookup x=some .free
def Loc(sc:Scope)(x:Str):Prop:=sc.names.lookup x=some .local∨sc.names.lookup x=some .cell
def Look(env:Env)(h:Heap)(m:%[|15])(x:Str)(u:Value):Prop:=
 (env.kindOf x=some .local/\m x=some u)∨((env.kindOf x=some .cell∨env.kindOf x=some .free)/\∃c,env.cells.lookup x=some c/\h.IsCell c (some u))
structure Cx.Ok(X:Cx):Prop where
 mod:Mod X.K X.mg X.base
 kind:X.env.scope.kind=.function
 glob:X.env.globals=mainGlobals
 blt:X.env.builtins=builtinsNs
 above:X.s₀.heap.objs.size≤X.env.locals
 inj:∀x y c,X.env.cells.lookup x=some c->X.env.cells.lookup y=some c->x=y
 has:∀x,(X.env.kindOf x=some .cell∨X.env.kindOf x=some .free)->∃c,X.env.cells.lookup x=some c
 cab:∀x c,X.fn x=true->X.env.cells.lookup x=some c->X.s₀.heap.objs.size≤c
 hd:X.calm=true->X.A.handled=none
 frames:X.A.frames=some X.stack
 stk:X.stack=X.outer∨(X.stack=X.env::X.outer/\X.env.frame=some X.env.locals)
 exf:∀b∈X.ex,b≠X.env.locals/\∀x c,X.env.cells.lookup x=some c->c≠b
 bs:∀b o,X.base.get? b=some o->X.s₀.heap.get? b=some o/\X.H₀ b=none
 bsz:X.base.objs.size≤X.s₀.heap.objs.size
 noex:∀b o,X.base.get? b=some o->b∉X.ex
 exfs:∀b∈X.ex,b∉X.fs
 funs:X.s₀.heap.FunFrames X.base X.outer
 frf:∀b∈X.fs,X.H₀ b=none
structure Inv(X:Cx)(pins:%[|13])(σ:List (Option V))(H:Hp)(s:Shared):Prop where
 ok:X.Ok
 os:s.os=X.s₀.os
 bare:AllBare s.gens
 base:Un X.fs X.ex X.H₀ H X.s₀.heap s.heap
 loc:∃m,s.heap.Ns X.env.locals m/\∀(i:Nat)(x:Str)(v:V),X.N[i]? =some x->σ[i]? =some (some v)->Vis X.env.scope x->∃u,RelV v u/\Look X.env s.heap m x u
 cell:∀x c,X.env.cells.lookup x=some c->∃v,s.heap.IsCell c v
 free:H X.env.locals=none
 freeC:∀x c,X.env.cells.lookup x=some c->H c=none
 pin:∀p∈X.pn++pins,s.heap.get? p.1=some p.2/\H p.1=none/\p.1≠X.env.locals/\p.1∉X.fs/\∀v,p.2.data≠.cell v
 hok:HOk X.prog X.w H s.heap
 len:σ.length=X.N.length
section
variable {X : Cx} {pins : List (Addr × Obj)} {σ : List (Option V)} {H H' : Hp} {s : Shared} {h' : Heap}
theorem Cx.Ok.nofr(ok:X.Ok){b:Addr}{o:Obj}(e:X.base.get? b=some o):b∉X.fs:=λ hb=>by
 have:=(ok.funs.mem hb).1
 rw[e]at this;cases this
theorem Inv.bs(I:%[|6]):∀b o,X.base.get? b=some o->s.heap.get? b=some o/\H b=none:=λ b o e=>
 ⟨I.base.keep b o (I.ok.bs b o e).1 (I.ok.bs b o e).2 (I.ok.nofr e) (I.ok.noex b o e),I.base.free b o (I.ok.bs b o e).1 (I.ok.bs b o e).2 (I.ok.noex b o e)⟩
theorem Inv.bk(I:%[|6]):∀b o,X.base.get? b=some o->s.heap.get? b=some o:=λ b o e=>(I.bs b o e).1
theorem Inv.mod(I:%[|6]):Mod X.K X.mg X.base:=I.ok.mod
theorem Inv.kIn(I:%[|6]):X.K.In s.heap:=I.ok.mod.kin.keeps I.bk
theorem Inv.lt(I:%[|6]):X.env.locals<s.heap.objs.size:=let ⟨_,hn,_⟩:=I.loc;hn.lt
theorem Inv.sz(I:%[|6]):X.s₀.heap.objs.size≤s.heap.objs.size:=Nat.le_trans I.ok.above (Nat.le_of_lt I.lt)
theorem Inv.nofs(I:%[|6]){a:Addr}(h:s.heap.objs.size≤a):a∉X.fs:=λ hb=>by
 obtain⟨_,o,ho,_⟩:=I.ok.funs.mem hb
 exact absurd (ZM (ZE ho) (Nat.le_trans I.sz h)) (Nat.lt_irrefl _)
theorem Inv.cne(I:%[|6]):∀x c,X.env.cells.lookup x=some c->c≠X.env.locals:=λ x c e z=>by
 obtain⟨v,o,ho,hd⟩:=I.cell x c e
 obtain⟨m,⟨o',es,ep,ho',hd',_⟩,_⟩:=I.loc
 rw[z,ho']at ho;cases ho;rw[hd']at hd;cases hd
theorem Inv.funs(I:%[|6]):s.heap.FunFrames X.base X.outer:=by
 have all:∀(l:List Env),(∀b∈frs l,b∈X.fs)->X.s₀.heap.FunFrames X.base l->s.heap.FunFrames X.base l:=by
  intro l
  induction l with
  | nil=>intro _ _;trivial
  | cons env r ih=>
    intro hs hl
    obtain⟨hk,⟨L,o,hf,hn,ho,hd⟩,hr⟩:=hl
    have hL:L∈X.fs:=hs L (by unfold frs;rw[List.filterMap_cons,hf];exact v3)
    obtain⟨sl,e⟩:=I.base.slot L o ho (I.ok.frf L hL) hL λ z=>I.ok.exfs L z hL
    exact⟨hk,⟨L,_,hf,hn,e,hd⟩,ih (λ b hb=>hs b (by unfold frs;rw[List.filterMap_cons,hf];exact x8 _ hb)) hr⟩
 exact all X.outer (λ _ hb=>hb) I.ok.funs
theorem Inv.stack(I:%[|6]):s.heap.FunFrames X.base X.stack:=by
 rcases I.ok.stk with e | ⟨e,hf⟩
 . rw[e];exact I.funs
 . rw[e]
   obtain⟨m,hn,_⟩:=I.loc
   refine .cons (by rw[I.ok.kind];decide) hf hn ?_ I.funs
   exact Heap.get?_none_of_le (Nat.le_trans I.ok.bsz I.ok.above)
theorem Inv.stkSub(I:%[|6]):∀b∈frs X.stack,b∈X.env.locals::X.fs:=λ b hb=>by
 rcases I.ok.stk with e | ⟨e,hf⟩
 . rw[e]at hb;exact x8 _ hb
 . rw[e]at hb
   unfold frs at hb
   rw[List.filterMap_cons,hf]at hb
   exact hb
theorem Inv.stkFree(I:%[|6]):∀b∈frs X.stack,H b=none:=λ b hb=>by
 rcases ZJ.mp (I.stkSub b hb)with e | hb
 . rw[e];exact I.free
 . obtain⟨_,o,ho,_⟩:=I.ok.funs.mem hb
   exact I.base.free b o ho (I.ok.frf b hb) λ z=>I.ok.exfs b z hb
theorem Inv.step{g':Array GenState}{d':Drawn}{ch:List Addr}(I:%[|6])
 (hch:∀b∈ch,(b∈X.ex∨X.s₀.heap.objs.size≤b)/\b≠X.env.locals/\(∀x c,X.env.cells.lookup x=some c->c≠b)/\∀p∈X.pn++pins,p.1≠b)
 (keep:∀b o,b≠X.env.locals->b∉X.fs->b∉ch->s.heap.get? b=some o->H b=none->h'.get? b=some o)
 (slot:∀b o,b≠X.env.locals->b∈X.fs->b∉ch->s.heap.get? b=some o->H b=none->∃sl,h'.get? b=some {o with slots:=sl})(free:∀b o,b∉ch->s.heap.get? b=some o->H b=none->H' b=none)
 (there:∀b o,b∉ch->s.heap.get? b=some o->∃o',h'.get? b=some o')
 (tups:∀b xs,H b=some (.tup xs)->H' b=some (.tup xs))(frzs:∀b o u,H b=some (.frz o u)->H' b=some (.frz o u))(tbls:∀b ps,H b=some (.tbl ps)->∃more,H' b=some (.tbl (ps++more)))
 (ns:∀m,s.heap.Ns X.env.locals m->h'.Ns X.env.locals m)(hok:HOk X.prog X.w H' h')(hg:AllBare g'):
 Inv X pins σ H' {s with heap:=h',gens:=g',drawn:=d',toks:=t'}:=by
 have neL:∀b o,X.s₀.heap.get? b=some o->b≠X.env.locals:=λ b o e=>ZN (ZM (ZE e) I.ok.above)
 have neC:∀b o,X.s₀.heap.get? b=some o->b∉X.ex->b∉ch:=λ b o e hx hb=>by
  rcases(hch b hb).1 with z | z
  . exact hx z
  . exact absurd (ZM (ZE e) z) (Nat.lt_irrefl _)
 have cellK:∀x c,X.env.cells.lookup x=some c->∀v,s.heap.IsCell c v->h'.IsCell c v:=λ x c e v ⟨o,ho,hd⟩=>by
  have nch:c∉ch:=λ z=>(hch c z).2.2.1 x c e rfl
  by_cases hc:c∈X.fs
  . obtain⟨sl,q⟩:=slot c o (I.cne x c e) hc nch ho (I.freeC x c e)
    exact⟨_,q,hd⟩
  . exact⟨o,keep c o (I.cne x c e) hc nch ho (I.freeC x c e),hd⟩
 refine⟨I.ok,I.os,hg,⟨λ b o e n hb hx=>?_,λ b o e n hb hx=>?_,λ b o e n hx=>?_,λ b o e hx=>?_,λ b xs e=>tups b xs (I.base.tups b xs e),λ b o xs e=>frzs b o xs (I.base.frzs b o xs e),λ b ps e=>?_⟩,?_,λ x c e=>?_,?_,λ x c e=>?_,λ p hp=>?_,hok,I.len⟩
 . exact keep b o (neL b o e) hb (neC b o e hx) (I.base.keep b o e n hb hx) (I.base.free b o e n hx)
 . obtain⟨sl,e1⟩:=I.base.slot b o e n hb hx
   obtain⟨sl',e2⟩:=slot b _ (neL b o e) hb (neC b o e hx) e1 (I.base.free b o e n hx)
   exact⟨sl',e2⟩
 . obtain⟨o',e1⟩:=I.base.there b o e hx
   exact free b o' (neC b o e hx) e1 (I.base.free b o e n hx)
 . obtain⟨o',e1⟩:=I.base.there b o e hx
   exact there b o' (neC b o e hx) e1
 . obtain⟨m1,e1⟩:=I.base.tbls b ps e
   obtain⟨m2,e2⟩:=tbls b _ e1
   exact⟨m1++m2,by rw[e2,Array.append_assoc]⟩
 . obtain⟨m,hn,hl⟩:=I.loc
   refine⟨m,ns m hn,λ i x v e1 e2 e3=>?_⟩
   obtain⟨u,r,l⟩:=hl i x v e1 e2 e3
   refine⟨u,r,?_⟩
   rcases l with l | ⟨k,c,e,z⟩
   . exact .inl l
   . exact .inr ⟨k,c,e,cellK x c e _ z⟩
 . obtain⟨v,z⟩:=I.cell x c e
   exact⟨v,cellK x c e v z⟩
 . obtain⟨m,⟨o,_,_,ho,_⟩,_⟩:=I.loc
   exact free _ o (λ z=>(hch _ z).2.1 rfl) ho I.free
 . obtain⟨v,o,ho,hd⟩:=I.cell x c e
   exact free c o (λ z=>(hch c z).2.2.1 x c e rfl) ho (I.freeC x c e)
 . obtain⟨e,n,ne,nf,d⟩:=I.pin p hp
   have nch:p.1∉ch:=λ z=>(hch p.1 z).2.2.2 p hp rfl
   exact⟨keep p.1 p.2 ne nf nch e n,free p.1 p.2 nch e n,ne,nf,d⟩
theorem Inv.un(I:%[|6])(u:Un X.fs [] H H' s.heap h')(hok:HOk X.prog X.w H' h'):Inv X pins σ H' {s with heap:=h',toks:=t'}:=by
 obtain⟨m,⟨o,es,ep,ho,r⟩,_⟩:=id I.loc
 obtain⟨sl,hL⟩:=u.any ho I.free (by simp)
 exact I.step (g':=s.gens) (d':=s.drawn) (ch:=[]) (λ _ z=>nomatch z) (λ b o _ hb _ e n=>u.keep b o e n hb (by simp)) (λ b o _ hb _ e n=>u.slot b o e n hb (by simp)) (λ b o _ e n=>u.free b o e n (by simp)) (λ b o _ e=>u.there b o e (by simp)) u.tups u.frzs u.tbls (λ m' hm=>by
  obtain⟨o',es',ep',ho',r'⟩:=hm
  rw[ho]at ho';cases ho'
  exact⟨_,es',ep',hL,r'⟩) hok I.bare
theorem Inv.call{g':Array GenState}{d':Drawn}{ch:List Addr}(I:%[|6])(u:Un (frs X.stack) ch H H' s.heap h')(hok:HOk X.prog X.w H' h')(hg:AllBare g')
 (hch:∀b∈ch,(b∈X.ex∨X.s₀.heap.objs.size≤b)/\b≠X.env.locals/\(∀x c,X.env.cells.lookup x=some c->c≠b)/\∀p∈X.pn++pins,p.1≠b):
 Inv X pins σ H' {s with heap:=h',gens:=g',drawn:=d',toks:=t'}:=by
 obtain⟨m,⟨o,es,ep,ho,r⟩,_⟩:=id I.loc
 obtain⟨sl,hL⟩:=u.any ho I.free λ z=>(hch _ z).2.1 rfl
 exact I.step (ch:=ch) hch (λ b o hL hb hc e n=>u.keep b o e n (λ z=>(ZJ.mp (I.stkSub b z)).elim hL hb) hc) (λ b o _ _ hc e n=>u.any e n hc) (λ b o hc e n=>u.free b o e n hc) (λ b o hc e=>u.there b o e hc) u.tups u.frzs u.tbls (λ m' hm=>by
  obtain⟨o',es',ep',ho',r'⟩:=hm
  rw[ho]at ho';cases ho'
  exact⟨_,es',ep',hL,r'⟩) hok hg
theorem Inv.turned{it:Addr}(I:%[|6])(k:∀b o,b≠it->s.heap.get? b=some o->h'.get? b=some o)(hn:H it=none)(hL:it≠X.env.locals)
 (h1:it∈X.ex∨X.s₀.heap.objs.size≤it)(h2:∀x c,X.env.cells.lookup x=some c->c≠it)(h3:∀p∈X.pn++pins,p.1≠it):Inv X pins σ H {s with heap:=h',toks:=t'}:=by
 have nit:∀b u,H b=some u->b≠it:=λ b u e z=>by rw[z,hn]at e;cases e
 refine I.step (g':=s.gens) (d':=s.drawn) (ch:=[it]) (λ b hb=>?_) (λ b o _ _ hc e _=>k b o (λ z=>hc (by simp[z])) e) (λ b o _ _ hc e _=>⟨o.slots,k b o (λ z=>hc (by simp[z])) e⟩) (λ _ _ _ _ n=>n)
  (λ b o hc e=>⟨o,k b o (λ z=>hc (by simp[z])) e⟩) (λ _ _ e=>e) (λ _ _ _ e=>e) (λ b ps e=>⟨#[],by rw[e];simp⟩) (λ m hm=>?_) (λ b u e=>?_) I.bare
 . have e:b=it:=by simpa using hb
   subst e
   exact⟨h1,hL,h2,h3⟩
 . obtain⟨o,es,ep,ho,r⟩:=hm
   exact⟨o,es,ep,k _ o (Ne.symm hL) ho,r⟩
 . refine(I.hok b u e).stay (λ c v hc q=>k c v ?_ q) (λ _ q=>q) λ _ _ q=>q
   rcases hc with z | z
   . rw[z];exact nit b u e
   . exact nit c _ z
theorem Inv.tok(I:%[|6])(t:Nat):Inv X pins σ H {s with toks:=t}:=I.un (h':=s.heap) (t':=t) Un.refl I.hok
theorem Inv.kept(I:%[|6])(k:∀b u,s.heap.get? b=some u->h'.get? b=some u):Inv X pins σ H {s with heap:=h',toks:=t'}:=I.un (Un.kept k) (I.hok.kept k)
theorem Inv.laid{a:Addr}{o:HO}(I:%[|6])(k:∀b u,s.heap.get? b=some u->h'.get? b=some u)(hp:s.heap.objs.size≤a)(new:bu X.prog X.w (upd H a o) h' a o):
 Inv X pins σ (upd H a o) {s with heap:=h',toks:=t'}:=I.un (Un.laid k hp (I.hok.fresh hp)) (I.hok.laid k hp new)
theorem Inv.write{x e:Addr}{o:HO}(I:%[|6])(mu:Mut (H x))(he:e=x∨H e=some (.own x))(k:∀b u,b≠e->s.heap.get? b=some u->h'.get? b=some u)(heo:∃u,h'.get? e=some u)
 (new:bu X.prog X.w (upd H x o) h' x o):Inv X pins σ (upd H x o) {s with heap:=h',toks:=t'}:=I.un (Un.write mu he k heo) (I.hok.write mu he k heo new)
theorem Inv.pins_of{pins':%[|13]}(I:%[|6])(h:∀p∈pins',s.heap.get? p.1=some p.2/\H p.1=none/\p.1≠X.env.locals/\p.1∉X.fs/\∀v,p.2.data≠.cell v):Inv X pins' σ H s:=
 ⟨I.ok,I.os,I.bare,I.base,I.loc,I.cell,I.free,I.freeC,λ p hp=>(ZK.mp hp).elim (λ z=>I.pin p (List.mem_append_left _ z)) (h p),I.hok,I.len⟩
theorem rC{N:%[|1]}(hN:N.Nodup){i j:Nat}{x:Str}(a:N[i]? =some x)(b:N[j]? =some x):i=j:=by
 obtain⟨h1,e1⟩:=y3.mp a
 obtain⟨h2,e2⟩:=y3.mp b
 exact(List.getElem_inj hN).mp (e1.trans e2.symm)
theorem wC{M:Model}{A:Around}{E:%[|11]}{i:Nat}{x:Str}{v:V}{u:Value}{Q:Unit->Shared->Prop}(I:%[|6])(hN:X.N.Nodup)(hi:X.N[i]? =some x)(hx:Loc X.env.scope x)(r:RelV v u)
 (h:∀s',Inv X pins (σ.set i (some v)) H s'->(∃a,Heap.SameBut a s.heap s'.heap/\(a=X.env.locals∨X.env.cells.lookup x=some a))->Q () s')(hf:X.fn x=true∨X.env.scope.names.lookup x=some .local:=by first | exact .inl rfl | exact .inr rfl | assumption):wpAny M A (storeName X.env x u) Q E s:=by
 obtain⟨m,hn,hl⟩:=id I.loc
 have hcls:(X.env.scope.kind==.class||(X.env.scope.kind==.module&&X.env.locals !=X.env.globals))=false:=by rw[I.ok.kind];rfl
 have hiσ:i<σ.length:=by rw[I.len];exact(y3.mp hi).1
 have cne:=I.cne
 have tracked:∀{a:Addr}{h':Heap},(∃o,s.heap.get? a=some o/\H a=none)->Heap.SameBut a s.heap h'->HOk X.prog X.w H h':=λ{a h'} ha hs b ob e=>by
  obtain⟨_,_,hfree⟩:=ha
  refine(I.hok b ob e).stay (λ c w' hc q=>(hs.2 c ?_).trans q) (λ _ q=>q) λ _ _ q=>q
  rintro rfl
  rcases hc with rfl | hc
  . rw[hfree]at e;cases e
  . rw[hfree]at hc;cases hc
 rcases hx with hk | hk
 . refine wpAny_storeName_local hk hn (λ h' hn' hs=>?_) hcls
   obtain⟨oL,_,_,hoL,_⟩:=id hn
   refine h _ ⟨I.ok,I.os,I.bare,⟨λ b o e n hb hx=>?_,λ b o e n hb hx=>?_,I.base.free,λ b o e hx=>?_,I.base.tups,I.base.frzs,I.base.tbls⟩,⟨_,hn',λ j y v' e1 e2 e3=>?_⟩,λ y c e=>?_,I.free,I.freeC,λ p hp=>?_,tracked ⟨oL,hoL,I.free⟩ hs,by simpa using I.len⟩ ⟨_,hs,.inl rfl⟩
   . exact(hs.2 b (ZN (ZM (ZE e) I.ok.above))).trans (I.base.keep b o e n hb hx)
   . obtain⟨sl,e1⟩:=I.base.slot b o e n hb hx
     exact⟨sl,(hs.2 b (ZN (ZM (ZE e) I.ok.above))).trans e1⟩
   . obtain⟨o',e1⟩:=I.base.there b o e hx
     exact⟨o',(hs.2 b (ZN (ZM (ZE e) I.ok.above))).trans e1⟩
   . by_cases hj:j=i
     . subst hj
       rw[hi]at e1;cases e1
       rw[List.getElem?_set_self hiσ]at e2
       cases e2
       exact⟨u,r,.inl ⟨hk,by simp⟩⟩
     . rw[List.getElem?_set_ne (Ne.symm hj)]at e2
       obtain⟨u',r',q⟩:=hl j y v' e1 e2 e3
       refine⟨u',r',?_⟩
       rcases q with⟨k,e⟩ | ⟨k,c,e,z⟩
       . refine .inl ⟨k,?_⟩
         have:y≠x:=λ e=>hj (rC hN e1 (e▸hi))
         simp[this,e]
       . exact .inr ⟨k,c,e,z.sameBut hs (cne y c e)⟩
   . obtain⟨w',z⟩:=I.cell y c e
     exact⟨w',z.sameBut hs (cne y c e)⟩
   . obtain⟨e,n,ne,nf,d⟩:=I.pin p hp
     exact⟨(hs.2 p.1 ne).trans e,n,ne,nf,d⟩
 . have hfn:X.fn x=true:=by
    rcases hf with z | z
    . exact z
    . rw[z]at hk;cases hk
   obtain⟨c,hc⟩:=I.ok.has x (.inl hk)
   obtain⟨w',z⟩:=I.cell x c hc
   refine wpAny_storeName_cell I.ok.kind hk hc z (λ h' hc' hs=>?_)
   obtain⟨oc,hoc,hocd⟩:=id z
   refine h {s with heap:=h'} ⟨I.ok,I.os,I.bare,⟨λ b o e n hb hx=>?_,λ b o e n hb hx=>?_,I.base.free,λ b o e hx=>?_,I.base.tups,I.base.frzs,I.base.tbls⟩,⟨m,hn.sameBut hs (Ne.symm (cne x c hc)),λ j y v' e1 e2 e3=>?_⟩,λ y c' e=>?_,I.free,I.freeC,λ p hp=>?_,tracked ⟨oc,hoc,I.freeC x c hc⟩ hs,by simpa using I.len⟩ ⟨c,hs,.inr hc⟩
   . exact(hs.2 b (ZN (ZM (ZE e) (I.ok.cab x c hfn hc)))).trans (I.base.keep b o e n hb hx)
   . obtain⟨sl,e1⟩:=I.base.slot b o e n hb hx
     exact⟨sl,(hs.2 b (ZN (ZM (ZE e) (I.ok.cab x c hfn hc)))).trans e1⟩
   . obtain⟨o',e1⟩:=I.base.there b o e hx
     exact⟨o',(hs.2 b (ZN (ZM (ZE e) (I.ok.cab x c hfn hc)))).trans e1⟩
   . by_cases hj:j=i
     . subst hj
       rw[hi]at e1;cases e1
       rw[List.getElem?_set_self hiσ]at e2
       cases e2
       exact⟨u,r,.inr ⟨.inl hk,c,hc,hc'⟩⟩
     . rw[List.getElem?_set_ne (Ne.symm hj)]at e2
       obtain⟨u',r',q⟩:=hl j y v' e1 e2 e3
       refine⟨u',r',?_⟩
       rcases q with q | ⟨k,c',e,z'⟩
       . exact .inl q
       . refine .inr ⟨k,c',e,z'.sameBut hs ?_⟩
         rintro rfl
         exact hj (rC hN e1 (I.ok.inj _ _ _ e hc▸hi))
   . by_cases hcc:c'=c
     . subst hcc;exact⟨_,hc'⟩
     . obtain⟨w2,z2⟩:=I.cell y c' e
       exact⟨w2,z2.sameBut hs hcc⟩
   . obtain⟨e,n,ne,nf,d⟩:=I.pin p hp
     refine⟨(hs.2 p.1 ?_).trans e,n,ne,nf,d⟩
     intro q
     rw[q,hoc]at e
     have q':oc=p.2:=Option.some.inj e
     exact d w' (by rw[←q'];exact hocd)
theorem iC{M:Model}{A:Around}{E:%[|11]}{i:Nat}{x:Str}{v:V}{u:Value}{Q:Unit->Shared->Prop}(I:%[|6])(hN:X.N.Nodup)(hi:X.N[i]? =some x)(hx:Loc X.env.scope x)(r:RelV v u)
 (h:∀s',Inv X pins (σ.set i (some v)) H s'->Q () s')(hf:X.fn x=true∨X.env.scope.names.lookup x=some .local:=by first | exact .inl rfl | exact .inr rfl | assumption):wpAny M A (storeName X.env x u) Q E s:=
 wC I hN hi hx r (λ s' I' _=>h s' I') hf
theorem Inv.call'{s':Shared}{ch:List Addr}(I:%[|6])(ho:s'.os=s.os)(u:Un (frs X.stack) ch H H' s.heap s'.heap)(hok:HOk X.prog X.w H' s'.heap)(hg:AllBare s'.gens)
 (hch:∀b∈ch,(b∈X.ex∨X.s₀.heap.objs.size≤b)/\b≠X.env.locals/\(∀x c,X.env.cells.lookup x=some c->c≠b)/\∀p∈X.pn++pins,p.1≠b):Inv X pins σ H' s':=by
 obtain⟨h',g',d',t',o'⟩:=s'
 have e:o'=s.os:=ho
 subst e
 exact I.call (g':=g') (t':=t') (d':=d') u hok hg hch
end
abbrev XK:=Value->Option Addr->Hp->Prop
abbrev St:=List (Option V)
abbrev VK:=V->Hp->Prop
abbrev TE:=St->Hp->VK->Prop
abbrev TT:=St->Hp->(Bool->Hp->Prop)->Prop
abbrev TA:=St->Hp->(List V->Hp->Prop)->Prop
structure Ends where
 nx:St->Hp->Prop
 rt:VK
 bk:St->Hp->Prop:=λ _ _=>False
 ct:St->Hp->Prop:=λ _ _=>False
abbrev TS:=Ends->St->Hp->Prop
def EP(X:Cx)(pins:%[|13])(σ:St)(Q:VK)(u:Value)(s':Shared):Prop:=∃v H',Inv X pins σ H' s'/\RelV v u/\Q v H'
def TP(X:Cx)(pins:%[|13])(σ:St)(Q:Bool->Hp->Prop)(b:Bool)(s':Shared):Prop:=∃H',Inv X pins σ H' s'/\Q b H'
def AP(X:Cx)(pins:%[|13])(σ:St)(Q:List V->Hp->Prop)(us:%[|7])(s':Shared):Prop:=∃vs H',Inv X pins σ H' s'/\Vals vs us/\Q vs H'
def SP(X:Cx)(pins:%[|13])(D:Ends)(f:Flow)(s':Shared):Prop:=
 match f with
 | .next=>∃σ' H',Inv X pins σ' H' s'/\D.nx σ' H'
 | .brk=>∃σ' H',Inv X pins σ' H' s'/\D.bk σ' H'
 | .cont=>∃σ' H',Inv X pins σ' H' s'/\D.ct σ' H'
 | .ret u=>∃v σ' H',Inv X pins σ' H' s'/\RelV v u/\D.rt v H'
def PE(X:Cx)(e:Expr)(t:TE):Prop:=
 ∀(pins:%[|13])(s:Shared)(σ:St)(H:Hp)(Q:VK),%[|6]->t σ H Q->wpAny %[|8] X.A (eval e X.env) (EP X pins σ Q) X.xe s
def PA(X:Cx)(es:List Expr)(t:TA):Prop:=
 ∀(pos:Pos)(pins:%[|13])(s:Shared)(σ:St)(H:Hp)(Q:List V->Hp->Prop),%[|6]->t σ H Q->wpAny %[|8] X.A (spliced (backTo pos (starEach es X.env))) (AP X pins σ Q) X.xe s
def PS(X:Cx)(st:Stmt)(t:TS):Prop:=
 ∀(pins:%[|13])(s:Shared)(σ:St)(H:Hp)(D:Ends),%[|6]->t D σ H->wpAny %[|8] X.A (exec st X.env) (SP X pins D) X.xe s
def PSs(X:Cx)(st:List Stmt)(t:TS):Prop:=
 ∀(pins:%[|13])(s:Shared)(σ:St)(H:Hp)(D:Ends),%[|6]->t D σ H->wpAny %[|8] X.A (execs st X.env) (SP X pins D) X.xe s
theorem thn{α:Type}{t:Sem α}{Q Q':α->Shared->Prop}{M:Model}{A:Around}{E:%[|11]}{s:Shared}(h:wpAny M A t Q E s)(hQ:∀a s,Q a s->Q' a s):wpAny M A t Q' E s:=wpAny_mono h hQ λ _ _ x=>x
end L2
namespace L2
open PySem PySem.Spec PyProof.Rows
variable {x : Str} {u : Value}
section
variable {X : Cx}
def Xg(i:Nat):TE:=λ σ H Q=>∃v,σ[i]? =some (some v)/\Q v H
def tC(v:V):TE:=λ _ H Q=>Q v H
theorem ud{i:Nat}{pos:Pos}(hN:X.N[i]? =some x)(hv:Vis X.env.scope x)(hd:(x==("__debug__":Str))=false:=by decide)(hcd:(x==("__classdict__":Str))=false:=by decide):PE X (.Name x pos) (Xg i):=by
 intro pins s σ H Q I h
 obtain⟨v,e,h⟩:=h
 obtain⟨m,hn,hl⟩:=I.loc
 obtain⟨u,r,l⟩:=hl i x v hN e hv
 have fin:EP X pins σ Q u s:=⟨v,H,I,r,h⟩
 rcases l with⟨hk,hm⟩ | ⟨hk,c,hc,hcell⟩
 . exact wpAny_Name (wpAny_loadName_local I.ok.kind hk hn hm fin) hd
 . rcases hk with hk | hk
   . exact wpAny_Name (wpAny_loadName_cell I.ok.kind hk hc hcell fin) hd
   . exact wpAny_Name (wpAny_loadName_free I.ok.kind hk hc hcell fin hcd) hd
theorem Uu{i j pos}:PE X (.Constant (.int i) j pos) (tC (.int i)):=λ _ _ _ H _ I h=>wpAny_Constant_int ⟨.int i,H,I.tok _,⟨_,rfl⟩,h⟩
theorem Qc{b j pos}:PE X (.Constant (.bool b) j pos) (tC (.bl b)):=λ _ _ _ H _ I h=>Constant_bool ⟨.bl b,H,I,rfl,h⟩
theorem Kq{j pos}:PE X (.Constant .none j pos) (tC .non):=λ _ _ _ H _ I h=>Constant_none ⟨.non,H,I,rfl,h⟩
theorem Jc{x j pos}:PE X (.Constant (.str x) j pos) (tC (.str x)):=λ _ _ _ H _ I h=>Calls.Constant_str ⟨.str x,H,I.tok _,⟨_,rfl⟩,h⟩
def Gl(X:Cx)(x:Str):Prop:=X.env.kindOf x=some .globalImplicit
theorem jZ{E:%[|11]}{pins:%[|13]}{s:Shared}{σ:St}{H:Hp}{pos:Pos}{Q:%[|11]}(I:%[|6])(hg:Gl X x)(hm:X.mg x=some u)(h:Q u s)
 (hd:(x==("__debug__":Str))=false:=by decide):wpAny %[|8] X.A (eval (.Name x pos) X.env) Q E s:=
 Calls.Name_function_global I.ok.kind hg (Calls.loadGlobal_global (by rw[I.ok.glob];exact I.mod.glob.keeps I.bk) hm h) hd
theorem cB{E:%[|11]}{pins:%[|13]}{s:Shared}{σ:St}{H:Hp}{pos:Pos}{Q:%[|11]}(I:%[|6])(hg:Gl X x)(hm:X.mg x=none)(hv:bootBuiltins x=some u)(h:Q u s)
 (hn:x≠"__name__":=by decide)(hd:(x==("__debug__":Str))=false:=by decide):wpAny %[|8] X.A (eval (.Name x pos) X.env) Q E s:=by
 obtain⟨mb,h1,h2⟩:=I.mod.blt
 exact Calls.Name_function_global I.ok.kind hg (Calls.loadGlobal_builtin (by rw[I.ok.glob];exact I.mod.glob.keeps I.bk) hm (by rw[I.ok.blt];exact h1.keeps I.bk) ((h2 x hn).trans hv) h) hd
theorem Gr{v:V}{pos:Pos}(hg:Gl X x)(hm:X.mg x=some u)(r:RelV v u)(hd:(x==("__debug__":Str))=false:=by decide):PE X (.Name x pos) (tC v):=
 λ _ _ _ H _ I h=>jZ I hg hm ⟨v,H,I,r,h⟩ hd
theorem vM{v:V}{pos:Pos}(hg:Gl X x)(hm:X.mg x=none)(hv:bootBuiltins x=some u)(r:RelV v u)(hn:x≠"__name__":=by decide)(hd:(x==("__debug__":Str))=false:=by decide):PE X (.Name x pos) (tC v):=
 λ _ _ _ H _ I h=>cB I hg hm hv ⟨v,H,I,r,h⟩ hn hd
variable {a b : Expr} {ta tb : TE} {pos : Pos}
variable {tA tB' : TT} {rest : List Expr}
end
end L2
namespace L2
open PySem PySem.Spec PyProof.Rows
variable {K : PySem.W.Frag} {tg : Expr}
def SqL(K:PySem.W.Frag)(H:Hp)(a:Addr)(xs:List V):Prop:=
 Rd H a (.lst xs)∨
  ∃(o:Obj) (its:Array Value) (n:Nat),K.lookup a=some o/\o.cls=.type "list"/\o.dict=none/\o.data=.seq its n/\its.size≤sizeLine/\Vals xs its.toList
def SqT(K:PySem.W.Frag)(H:Hp)(a:Addr)(xs:List V):Prop:=
 Rd H a (.tup xs)∨
  ∃(o:Obj) (its:Array Value) (n:Nat),K.lookup a=some o/\o.cls=.type "tuple"/\o.data=.seq its n/\its.size≤sizeLine/\Vals xs its.toList
def XF:Value->Option V
 | .none=>some .non
 | .bool b=>some (.bl b)
 | .int i _=>some (.int i)
 | .str x _=>some (.str x)
 | .bytes b _=>some (.byt b)
 | .float b _=>some (.flt b)
 | .ref a=>some (.ref a)
 | .type n=>some (.ty n)
 | _=>none
theorem RelV.abs{x:V}{u:Value}(r:RelV x u):XF u=some x:=by
 cases x with
 | non=>cases r;rfl
 | bl _=>cases r;rfl
 | int _=>obtain⟨t,rfl⟩:=r;rfl
 | str _=>obtain⟨t,rfl⟩:=r;rfl
 | byt _=>obtain⟨t,rfl⟩:=r;rfl
 | flt _=>obtain⟨t,rfl⟩:=r;rfl
 | ref _=>cases r;rfl
 | ty _=>cases r;rfl
theorem RelV.inj{x y:V}{u:Value}(r:RelV x u)(q:RelV y u):x=y:=Option.some.inj (r.abs.symm.trans q.abs)
theorem Vals.inj:∀{xs ys:List V}{us:%[|7]},Vals xs us->Vals ys us->xs=ys
 | _,_,_,.nil,.nil=>rfl
 | _,_,_,.cons r t,.cons r' t'=>by rw[r.inj r',Vals.inj t t']
section
variable {X : Cx} {pins : List (Addr × Obj)} {σ : St} {H : Hp} {s : Shared} {a : Addr} {xs ys : List V}
theorem SqL.of(h:H a=some (.lst xs)):SqL K H a xs:=.inl (.inl h)
theorem SqT.of(h:H a=some (.tup xs)):SqT K H a xs:=.inl (.inl h)
theorem Inv.list(I:%[|6])(h:SqL X.K H a xs):∃its:%[|7],Vals xs its/\PlainL s.heap a its.toArray/\xs.length≤sizeLine:=by
 rcases h with h | ⟨o,its,n,hk,hc,hd,hs,hz,r⟩
 . obtain⟨z,its,n,r,e⟩:=h.ok I.hok
   exact⟨its,r,⟨_,n,e,rfl,rfl,rfl⟩,z⟩
 . refine⟨its.toList,r,⟨o,n,I.kIn a o hk,hc,hd,by simpa using hs⟩,?_⟩
   have e:=r.length
   simp only[Array.length_toList]at e
   omega
theorem Inv.tuple(I:%[|6])(h:SqT X.K H a xs):∃its:%[|7],Vals xs its/\IsTup s.heap a its.toArray/\xs.length≤sizeLine:=by
 rcases h with h | ⟨o,its,n,hk,hc,hs,hz,r⟩
 . obtain⟨z,its,r,p⟩:=h.ok I.hok
   exact⟨its,r,p,z⟩
 . refine⟨its.toList,r,⟨o,I.kIn a o hk,hc,n,by simpa using hs⟩,?_⟩
   have e:=r.length
   simp only[Array.length_toList]at e
   omega
theorem Inv.list_inj(I:%[|6])(h:SqL X.K H a xs)(h':SqL X.K H a ys):xs=ys:=by
 obtain⟨its,r,⟨o,n,e,_,_,d⟩,_⟩:=I.list h
 obtain⟨its',r',⟨o',n',e',_,_,d'⟩,_⟩:=I.list h'
 rw[e]at e';cases e'
 rw[d]at d'
 injection d' with d1 _
 have:its=its':=by simpa using congrArg Array.toList d1
 subst this
 exact r.inj r'
theorem Inv.tuple_inj(I:%[|6])(h:SqT X.K H a xs)(h':SqT X.K H a ys):xs=ys:=by
 obtain⟨its,r,⟨o,e,_,n,d⟩,_⟩:=I.tuple h
 obtain⟨its',r',⟨o',e',_,n',d'⟩,_⟩:=I.tuple h'
 rw[e]at e';cases e'
 rw[d]at d'
 injection d' with d1 _
 have:its=its':=by simpa using congrArg Array.toList d1
 subst this
 exact r.inj r'
end
abbrev Cx.wish(X:Cx)(E:%[|11]):Cx:={X with xe:=E}
abbrev Cx.nox(X:Cx):Cx:=X.wish λ _ _=>False
theorem Cx.Ok.wish{X:Cx}(ok:X.Ok)(E:%[|11]):(X.wish E).Ok:=
 ⟨ok.mod,ok.kind,ok.glob,ok.blt,ok.above,ok.inj,ok.has,ok.cab,ok.hd,ok.frames,ok.stk,ok.exf,ok.bs,ok.bsz,ok.noex,ok.exfs,ok.funs,ok.frf⟩
theorem Cx.Ok.unwish{X:Cx}{E:%[|11]}(ok:(X.wish E).Ok):X.Ok:=
 ⟨ok.mod,ok.kind,ok.glob,ok.blt,ok.above,ok.inj,ok.has,ok.cab,ok.hd,ok.frames,ok.stk,ok.exf,ok.bs,ok.bsz,ok.noex,ok.exfs,ok.funs,ok.frf⟩
section
variable {X : Cx} {pins : List (Addr × Obj)} {σ : St} {H : Hp} {s : Shared} {E : Value -> Shared -> Prop}
theorem Inv.wish(I:%[|6])(E:%[|11]):Inv (X.wish E) pins σ H s:=⟨I.ok.wish E,I.os,I.bare,I.base,I.loc,I.cell,I.free,I.freeC,I.pin,I.hok,I.len⟩
theorem Inv.unwish(I:Inv (X.wish E) pins σ H s):%[|6]:=⟨I.ok.unwish,I.os,I.bare,I.base,I.loc,I.cell,I.free,I.freeC,I.pin,I.hok,I.len⟩
theorem SP.unwish{D:Ends}{f:Flow}{s':Shared}(h:SP (X.wish E) pins D f s'):SP X pins D f s':=by
 cases f with
 | next=>obtain⟨σ',H',I,q⟩:=h;exact⟨σ',H',I.unwish,q⟩
 | brk=>obtain⟨σ',H',I,q⟩:=h;exact⟨σ',H',I.unwish,q⟩
 | cont=>obtain⟨σ',H',I,q⟩:=h;exact⟨σ',H',I.unwish,q⟩
 | ret u=>obtain⟨v,σ',H',I,r,q⟩:=h;exact⟨v,σ',H',I.unwish,r,q⟩
theorem PSs.nox{st:List Stmt}{t:TS}(h:PSs X.nox st t):PSs X st t:=λ pins s σ H D I hw=>
 wpAny_mono (h pins s σ H D (I.wish _) hw) (λ _ _ q=>q.unwish) λ _ _ z=>False.elim z
end
section
variable {X : Cx} {st : Stmt} {rest : List Stmt} {t u : TS} {e : Expr} {te : TE} {pos : Pos}
theorem Inv.quiet{pins:%[|13]}{σ:St}{H:Hp}{s:Shared}(I:%[|6]):interactive X.env=false:=by simp[interactive,I.ok.kind]
end
abbrev TG:=V->St->Hp->(St->Hp->Prop)->Prop
def PG(X:Cx)(target:Expr)(t:TG):Prop:=
 ∀ (pins:%[|13])(s:Shared)(σ:St)(H:Hp)(v:V)(u:Value)(Q:St->Hp->Prop),%[|6]->RelV v u->t v σ H Q->
   wpAny %[|8] X.A (assign target X.env u) (λ _ s'=>∃σ' H',Inv X pins σ' H' s'/\Q σ' H') X.xe s
abbrev Xi:=V->V->V->Hp->(Hp->Prop)->Prop
def XM(X:Cx)(t:Xi):Prop:=
 ∀ (pins:%[|13])(s:Shared)(σ:St)(H:Hp)(o i v:V)(ov iv u:Value)(Q:Hp->Prop),%[|6]->RelV o ov->RelV i iv->RelV v u->t o i v H Q->
   wpAny %[|8] X.A (setItem ov iv u) (λ _ s'=>∃H',Inv X pins σ H' s'/\Q H') X.xe s
structure It where
 go:Nat->Hp->Prop
 yld:Nat->Hp->V->Hp->Prop
 stop:Nat->Hp->Prop
def fY(X:Cx)(pins:%[|13])(H:Hp)(b:Addr):Prop:=
 H b=none/\b≠X.env.locals/\b∉X.fs/\(b∈X.ex∨X.s₀.heap.objs.size≤b)/\(∀x c,X.env.cells.lookup x=some c->c≠b)/\∀p∈X.pn++pins,p.1≠b
theorem Inv.fpOk{X:Cx}{pins:%[|13]}{σ:St}{H H':Hp}{s:Shared}{b:Addr}(I:%[|6])(hb:s.heap.objs.size≤b)(hn:H' b=none):fY X pins H' b:=by
 refine⟨hn,Nat.ne_of_gt (ZM I.lt hb),I.nofs hb,.inr (Nat.le_trans I.sz hb),λ x c e z=>?_,λ p hp z=>?_⟩
 . obtain⟨v,q⟩:=I.cell x c e
   exact absurd (ZM q.lt (by rw[z];exact hb)) (Nat.lt_irrefl _)
 . exact absurd (ZM (ZE (I.pin p hp).1) (by rw[z];exact hb)) (Nat.lt_irrefl _)
structure Turn(P:Program)(w:World)(K:PySem.W.Frag)(tg:Expr)(J:It)(fp:List Addr)(it:Addr)(tn:Nat->Heap->Prop):Prop where
 mem:it∈fp
 obj:∀i h,tn i h->∀b∈fp,∃o,h.get? b=some o/\∀v,o.data≠.cell v
 keep:∀i h h',tn i h->(∀b∈fp,∀o,h.get? b=some o->h'.get? b=some o)->tn i h'
 item:∀(X:Cx),X.prog=P->X.w=w->X.K=K->X.calm=true->∀(i:Nat)(pins:%[|13])(s:Shared)(σ:St)(H:Hp)(E:%[|11]),%[|6]->(∀b∈fp,fY X pins H b)->tn i s.heap->J.go i H->
  wpAny (model P w) X.A (pyNext (.ref it)) (λ r s1=>∃u,r=some u/\
   wpAny (model P w) X.A (letOwnedTupleGo tg (.ref it) u) (λ _ s2=>∃x H',Inv X pins σ H' s2/\RelV x u/\J.yld i H x H'/\tn (i+1) s2.heap/\∀b∈fp,H' b=none) E s1) E s
 done:∀(X:Cx),X.prog=P->X.w=w->X.K=K->X.calm=true->∀(i:Nat)(pins:%[|13])(s:Shared)(σ:St)(H:Hp)(E:%[|11]),%[|6]->(∀b∈fp,fY X pins H b)->tn i s.heap->J.stop i H->
  wpAny (model P w) X.A (pyNext (.ref it)) (λ r s1=>r=none/\Inv X pins σ H s1) E s
 self:∀(A:Around)(i:Nat)(s:Shared)(Q:%[|11])(E:%[|11]),tn i s.heap->Q (.ref it) s->wpAny (model P w) A (pyIter (.ref it)) Q E s
abbrev TI:=St->Hp->(It->Hp->Prop)->Prop
def PIE(X:Cx)(pins:%[|13])(σ:St)(tg:Expr)(R:It->Hp->Prop)(itv:Value)(s2:Shared):Prop:=
 ∃(it:Addr) (fp:List Addr) (tn:Nat->Heap->Prop) (J:It) (H':Hp),itv=.ref it/\Inv X pins σ H' s2/\Turn X.prog X.w X.K tg J fp it tn/\tn 0 s2.heap/\(∀b∈fp,fY X pins H' b)/\R J H'
def PI(X:Cx)(tg iter:Expr)(wi:TI):Prop:=
 ∀ (pins:%[|13])(s:Shared)(σ:St)(H:Hp)(R:It->Hp->Prop),%[|6]->wi σ H R->
   wpAny %[|8] X.A (eval iter X.env) (λ v s1=>wpAny %[|8] X.A (pyIter v) (PIE X pins σ tg R) X.xe s1) X.xe s
theorem HX{M:Model}{A:Around}{E:%[|11]}{s:Shared}{it:Addr}{u:Value}{o:Obj}{n:String}{vs:Array Value}{Q:Unit->Shared->Prop}(ho:s.heap.get? it=some o)(hc:o.cls=.type n)(hd:o.data=.fields vs)
 (hn:["enumerate","zip","dict_itemiterator","dict_reverseitemiterator","odict_iterator","itertools.zip_longest","itertools.pairwise"].contains n=false)(hQ:Q () s):wpAny M A (letOwnedTupleGo tg (.ref it) u) Q E s:=by
 unfold letOwnedTupleGo
 cases tg<;>first
  | exact ZB hQ
  | (cases u<;>first
   | exact ZB hQ
   | (refine ZA (wpAny_load ho ?_)
      rw[hc,hd]
      show wpAny M A (if(["enumerate","zip","dict_itemiterator","dict_reverseitemiterator","odict_iterator","itertools.zip_longest","itertools.pairwise"].contains n&&vs[0]? ==some (rawInt _))=true then _ else _) Q E s
      rw[if_neg (by intro h;rw[hn,Bool.false_and]at h;cases h)]
      exact ZB hQ))
def Itl(K:PySem.W.Frag)(a:Addr):It:=
 ⟨λ i H=>∃xs x,SqL K H a xs/\xs[i]? =some x,λ i H x H'=>H'=H/\∀xs,SqL K H a xs->xs[i]? =some x,λ i H=>∃xs,SqL K H a xs/\xs.length≤i⟩
def Itt(K:PySem.W.Frag)(a:Addr):It:=
 ⟨λ i H=>∃xs x,SqT K H a xs/\xs[i]? =some x,λ i H x H'=>H'=H/\∀xs,SqT K H a xs->xs[i]? =some x,λ i H=>∃xs,SqT K H a xs/\xs.length≤i⟩
def Itr(lo:Int)(n:Nat):It:=⟨λ i _=>i<n,λ i H x H'=>H'=H/\x=.int (lo+i),λ i _=>n≤i⟩
theorem nT{P:Program}{w:World}(a it:Addr):Turn P w K tg (Itl K a) [it] it (λ i h=>h.IsListIter it a i) where
 mem:=by simp
 obj:=λ i h st b hb=>by
  have e:b=it:=by simpa using hb
  subst e
  obtain⟨o,e,c,d⟩:=st
  exact⟨o,e,λ v z=>by rw[d]at z;cases z⟩
 keep:=λ i h h' st k=>st.at λ o e=>k it (by simp) o e
 item:=by
  intro X hP hw hK hc i pins s σ H E I hf st hg
  subst hP hw hK
  obtain⟨xs,x,hq,hx⟩:=hg
  obtain⟨its,rv,p,hz⟩:=I.list hq
  obtain⟨u,hu,ru⟩:=rv.get hx
  obtain⟨f0,f1,f2,f3,f4,f5⟩:=hf it (by simp)
  refine wpAny_pyNext_list_item st p.isList (x:=u) (by simpa using hu) λ h' st' sb=>?_
  have I1:Inv X pins σ H {s with heap:=h'}:=I.turned (t':=s.toks) (λ b o hb e=>(sb.2 b hb).trans e) f0 f1 f3 f4 f5
  obtain⟨o,e,c,d⟩:=id st'
  exact⟨u,rfl,HX (s:={s with heap:=h'}) e c d %[|2] ⟨x,H,I1,ru,⟨rfl,λ ys hy=>by rw[I.list_inj hy hq];exact hx⟩,st',λ b hb=>(hf b hb).1⟩⟩
 done:=by
  intro X hP hw hK hc i pins s σ H E I hf st hg
  subst hP hw hK
  obtain⟨xs,hq,hx⟩:=hg
  obtain⟨its,rv,p,hz⟩:=I.list hq
  obtain⟨f0,f1,f2,f3,f4,f5⟩:=hf it (by simp)
  have hl:=rv.length
  exact wpAny_pyNext_list_end (I.ok.hd hc) st p.isList (by simp;omega) λ h' eb=>⟨rfl,I.turned (t':=s.toks) (λ b o hb e=>eb b o hb e) f0 f1 f3 f4 f5⟩
 self:=λ _ _ _ _ _ st h=>wpAny_pyIter_listiter st h
theorem uf{P:Program}{w:World}(a it:Addr):Turn P w K tg (Itt K a) [it] it (λ i h=>h.IsTupleIter it a i) where
 mem:=by simp
 obj:=λ i h st b hb=>by
  have e:b=it:=by simpa using hb
  subst e
  obtain⟨o,e,c,d⟩:=st
  exact⟨o,e,λ v z=>by rw[d]at z;cases z⟩
 keep:=λ i h h' st k=>st.at λ o e=>k it (by simp) o e
 item:=by
  intro X hP hw hK hc i pins s σ H E I hf st hg
  subst hP hw hK
  obtain⟨xs,x,hq,hx⟩:=hg
  obtain⟨its,rv,p,hz⟩:=I.tuple hq
  obtain⟨u,hu,ru⟩:=rv.get hx
  obtain⟨f0,f1,f2,f3,f4,f5⟩:=hf it (by simp)
  refine wpAny_pyNext_tuple_item st (show s.heap.IsTuple a its.toArray from p) (x:=u) (by simpa using hu) λ h' st' sb=>?_
  have I1:Inv X pins σ H {s with heap:=h'}:=I.turned (t':=s.toks) (λ b o hb e=>(sb.2 b hb).trans e) f0 f1 f3 f4 f5
  obtain⟨o,e,c,d⟩:=id st'
  exact⟨u,rfl,HX (s:={s with heap:=h'}) e c d %[|2] ⟨x,H,I1,ru,⟨rfl,λ ys hy=>by rw[I.tuple_inj hy hq];exact hx⟩,st',λ b hb=>(hf b hb).1⟩⟩
 done:=by
  intro X hP hw hK hc i pins s σ H E I hf st hg
  subst hP hw hK
  obtain⟨xs,hq,hx⟩:=hg
  obtain⟨its,rv,p,hz⟩:=I.tuple hq
  obtain⟨f0,f1,f2,f3,f4,f5⟩:=hf it (by simp)
  have hl:=rv.length
  exact wpAny_pyNext_tuple_end (I.ok.hd hc) st (show s.heap.IsTuple a its.toArray from p) (by simp;omega) λ h' eb=>⟨rfl,I.turned (t':=s.toks) (λ b o hb e=>eb b o hb e) f0 f1 f3 f4 f5⟩
 self:=λ _ _ _ _ _ st h=>wpAny_pyIter_tupleiter st h
theorem Io{P:Program}{w:World}(it:Addr)(lo:Int)(n:Nat):Turn P w K tg (Itr lo n) [it] it (λ i h=>IsRangeIter h it (lo+(i:Nat)*1) ((n:Int)-(i:Nat)) 1) where
 mem:=by simp
 obj:=λ i h st b hb=>by
  have e:b=it:=by simpa using hb
  subst e
  exact⟨_,st,λ v z=>by
   have z':Data.fields _=Data.cell v:=z
   cases z'⟩
 keep:=λ i h h' st k=>k it (by simp) _ st
 item:=by
  intro X hP hw hK hc i pins s σ H E I hf st hg
  subst hP hw hK
  obtain⟨f0,f1,f2,f3,f4,f5⟩:=hf it (by simp)
  have W:=Walks.range (prog:=X.prog) (w:=X.w) (I.ok.hd hc) it lo 1 n
  refine W.item i s _ _ hg st λ v h' tk hv st' kk=>?_
  obtain⟨t,rfl⟩:=hv
  have I1:Inv X pins σ H {s with heap:=h',toks:=tk}:=I.turned (λ b o hb e=>kk b o (by simpa using hb) e) f0 f1 f3 f4 f5
  refine⟨_,rfl,HX (s:={s with heap:=h',toks:=tk}) (n:="range_iterator") st' rfl rfl %[|2] ⟨.int (lo+i),H,I1,⟨t,?_⟩,⟨rfl,rfl⟩,st',λ b hb=>(hf b hb).1⟩⟩
  rw[Int.mul_one]
 done:=by
  intro X hP hw hK hc i pins s σ H E I hf st hg
  subst hP hw hK
  obtain⟨f0,f1,f2,f3,f4,f5⟩:=hf it (by simp)
  exact wpAny_pyNext_range_end (I.ok.hd hc) st (by have:n≤i:=hg;omega) λ h' eb=>⟨rfl,I.turned (t':=s.toks) (λ b o hb e=>eb b o hb e) f0 f1 f3 f4 f5⟩
 self:=λ _ _ _ _ _ st h=>wpAny_pyIter_rangeiter st h
end L2
namespace L2
open PySem PySem.Spec PyProof.Rows
section
variable {X : Cx} {tg : Expr}
theorem zW{pins:%[|13]}{σ:St}{H:Hp}{s:Shared}{R:It->Hp->Prop}{E:%[|11]}{lo hi:Int}{t u v:Tok}{tk:Nat}(I:%[|6])(h1: -(2 ^ 62)≤lo)(h2:lo<2 ^ 62)(h3: -(2 ^ 62)≤hi)(h4:hi<2 ^ 62)
 (q:R (Itr lo (hi-lo).toNat) H):wpAny %[|8] X.A (pyIter %[|21]) (PIE X pins σ tg R) E {s with heap:=s.heap.push {cls:=.type "range",data:=.fields #[.int lo t,.int hi u,.int 1 v]},toks:=tk}:=by
 refine wpAny_pyIter_range (IsRange.new ..) (small_one h1 h2 h3 h4) ?_
 have I1:Inv X pins σ H {s with heap:=s.heap.push {cls:=.type "range",data:=.fields #[.int lo t,.int hi u,.int 1 v]},toks:=tk}:=I.kept λ b o e=>ZC _ e
 refine⟨(s.heap.push {cls:=.type "range",data:=.fields #[.int lo t,.int hi u,.int 1 v]}).objs.size,[(s.heap.push {cls:=.type "range",data:=.fields #[.int lo t,.int hi u,.int 1 v]}).objs.size],_,_,H,rfl,
  I1.kept (t':=tk) λ b o e=>ZC _ e,Io _ lo (hi-lo).toNat,?_,λ b hb=>?_,q⟩
 . have e1:lo+((0:Nat):Int)*1=lo:=by simp
   have e2:(((hi-lo).toNat:Nat):Int)-((0:Nat):Int)=Builtin.Range.rangeSize lo hi 1:=by rw[rangeSize_one];split<;>omega
   show IsRangeIter _ _ (lo+((0:Nat):Int)*1) ((((hi-lo).toNat:Nat):Int)-((0:Nat):Int)) 1
   rw[e1,e2]
   exact %[|19]
 . have e:b=(s.heap.push {cls:=.type "range",data:=.fields #[.int lo t,.int hi u,.int 1 v]}).objs.size:=by simpa using hb
   subst e
   exact I1.fpOk (x6 _) (I1.hok.fresh (x6 _))
def WP(ta:TA):TI:=λ σ H R=>ta σ H λ vs H1=>∃j:Int,vs=[.int j]/\ -(2 ^ 62)≤j/\j<2 ^ 62/\R (Itr 0 j.toNat) H1
def WL(ta:TA):TI:=λ σ H R=>ta σ H λ vs H1=>∃i j:Int,vs=[.int i,.int j]/\(-(2 ^ 62)≤i/\i<2 ^ 62/\ -(2 ^ 62)≤j/\j<2 ^ 62)/\R (Itr i (j-i).toNat) H1
theorem JL{a:Expr}{ta:TA}{p pos:Pos}(hg:Gl X "range")(hm:X.mg "range"=none)(ha:PA X [a] ta)(hs:starEach [a] X.env=[(false,eval a X.env)]:=by rfl):PI X tg (.Call (.Name "range" p) [a] [] pos) (WP ta):=by
 intro pins s σ H R I h
 refine Call_ (cB I hg hm boot_range (PyProof.Rows.callWith_type1 (thn (ha pos pins s σ H _ I h) λ us s1 ⟨vs,H1,I1,r1,q1⟩=>?_) hs rfl))
 obtain⟨j,e,q1,q2,q⟩:=q1
 subst e
 cases r1 with
 | cons r rr=>
   cases rr
   obtain⟨t,rfl⟩:=r
   exact call_range_1 (zW I1 %[|0] %[|0] q1 q2 (by simpa using q))
theorem IK{a b:Expr}{ta:TA}{p pos:Pos}(hg:Gl X "range")(hm:X.mg "range"=none)(ha:PA X [a,b] ta)(hs:starEach [a,b] X.env=[(false,eval a X.env),(false,eval b X.env)]:=by rfl)(hs2:starEach [b] X.env=[(false,eval b X.env)]:=by rfl):
 PI X tg (.Call (.Name "range" p) [a,b] [] pos) (WL ta):=by
 intro pins s σ H R I h
 refine Call_ (cB I hg hm boot_range (PyProof.Rows.callWith_type1 (thn (ha pos pins s σ H _ I h) λ us s1 ⟨vs,H1,I1,r1,q1⟩=>?_) (by rw[hs,hs2]) (by rw[hs2];rfl)))
 obtain⟨i,j,e,⟨q1,q2,q3,q4⟩,q⟩:=q1
 subst e
 cases r1 with
 | cons r rr=>
   cases rr with
   | cons r' rr=>
     cases rr
     obtain⟨t,rfl⟩:=r
     obtain⟨t',rfl⟩:=r'
     exact call_range_2 (zW I1 q1 q2 q3 q4 q)
def X4(wi:TI)(g:TG)(tb:TS):TS:=λ D σ H=>wi σ H λ J H1=>∃W:Nat->Nat->St->Hp->Prop,(∃m,W 0 m σ H1)/\∀i m σ H,W i m σ H->
 (J.stop i H/\D.nx σ H)∨(J.go i H/\∃N:St->Hp->Prop,(∀σ' H',N σ' H'->∃m',m'<m/\W (i+1) m' σ' H')/\∀x H',J.yld i H x H'->g x σ H' λ σ2 H2=>tb {D with nx:=N,ct:=N,bk:=D.nx} σ2 H2)
def nF(fp:List Addr)(h:Heap):%[|13]:=fp.filterMap λ b=>(h.get? b).map λ o=>(b,o)
theorem gP{fp:List Addr}{h:Heap}{b:Addr}{o:Obj}(hb:b∈fp)(e:h.get? b=some o):(b,o)∈nF fp h:=List.mem_filterMap.mpr ⟨b,hb,by rw[e];rfl⟩
theorem Iz{fp:List Addr}{h:Heap}{p:Addr×Obj}(hp:p∈nF fp h):p.1∈fp/\h.get? p.1=some p.2:=by
 obtain⟨b,hb,e⟩:=List.mem_filterMap.mp hp
 cases q:h.get? b with
 | none=>rw[q]at e;cases e
 | some o=>
   rw[q]at e
   have e':(b,o)=p:=Option.some.inj e
   subst e'
   exact⟨hb,q⟩
theorem Inv.pinned{pins:%[|13]}{σ:St}{H:Hp}{s:Shared}{fp:List Addr}(I:%[|6])(hf:∀b∈fp,fY X pins H b)(ho:∀b∈fp,∃o,s.heap.get? b=some o/\∀v,o.data≠.cell v):Inv X (pins++nF fp s.heap) σ H s:=
 I.pins_of λ p hp=>(ZK.mp hp).elim (λ z=>I.pin p (List.mem_append_right _ z)) λ z=>by
  obtain⟨hb,e⟩:=Iz z
  obtain⟨f0,f1,f2,_⟩:=hf p.1 hb
  obtain⟨o,e',d⟩:=ho p.1 hb
  rw[e]at e';cases e'
  exact⟨e,f0,f1,f2,d⟩
theorem Inv.unpinned{pins pl:%[|13]}{σ:St}{H:Hp}{s:Shared}(I:Inv X (pins++pl) σ H s):%[|6]:=I.pins_of λ p hp=>I.pin p (List.mem_append_right _ (List.mem_append_left _ hp))
theorem JX{iter:Expr}{body:List Stmt}{wi:TI}{g:TG}{tb:TS}{pos:Pos}(hp:PassesOwn %[|8] X.A X.env X.xe)(hc:X.calm=true)(hi:PI X tg iter wi)(hg:PG X tg g)(hb:PSs X body tb)
 (hs:∀x,foldedSetIterable iter X.env x=pure x:=by intro _;rfl):PS X (.For tg iter body [] pos) (X4 wi g tb):=by
 intro pins s σ H D I h
 refine wpAny_For (thn (hi pins s σ H _ I h) λ v s1 h1=>thn h1 λ itv s2 h2=>?_) hs
 obtain⟨it,fp,tn,J,H2,e,I2,T,st2,f2,W,⟨m0,w0⟩,turn⟩:=h2
 subst e
 have stat:∀{H':Hp},(∀b∈fp,H' b=none)->∀b∈fp,fY X pins H' b:=λ hn b hb=>⟨hn b hb,(f2 b hb).2⟩
 refine codeAny_forLoop_any (λ n s'=>∃i σ' H',Inv X pins σ' H' s'/\tn i s'.heap/\(∀b∈fp,H' b=none)/\W i n σ' H') ?_ m0 ⟨0,σ,H2,I2,st2,λ b hb=>(f2 b hb).1,w0⟩
 rintro n s3 ⟨i,σ3,H3,I3,st3,fr3,w3⟩
 rcases turn i n σ3 H3 w3 with⟨stop,qn⟩ | ⟨go,N,hN,step⟩
 . refine wpAny_passesOwn hp (thn (T.done X rfl rfl rfl hc i pins s3 σ3 H3 X.xe I3 (stat fr3) st3 stop) λ r s4 ⟨hr,I4⟩=>?_)
   subst hr
   exact wpAny_execs_nil ⟨σ3,H3,I4,qn⟩
 . refine wpAny_passesOwn hp (thn (T.item X rfl rfl rfl hc i pins s3 σ3 H3 X.xe I3 (stat fr3) st3 go) λ r s4 ⟨u,hr,h4⟩=>?_)
   subst hr
   refine wpAny_passesOwn hp (thn h4 λ _ s5 ⟨x,H5,I5,r5,y5,st5,fr5⟩=>?_)
   have I5':=I5.pinned (stat fr5) (T.obj _ _ st5)
   refine wpAny_passesOwn hp (thn (hg _ s5 σ3 H5 x u _ I5' r5 (step x H5 y5)) λ _ s6 ⟨σ6,H6,I6,q6⟩=>?_)
   refine wpAny_passesOwn hp (thn (hb _ s6 σ6 H6 _ I6 q6) λ f s7 q7=>?_)
   have again:∀{σ7:St}{H7:Hp},Inv X (pins++nF fp s5.heap) σ7 H7 s7->N σ7 H7->∃m,m<n/\∃i σ' H',Inv X pins σ' H' s7/\tn i s7.heap/\(∀b∈fp,H' b=none)/\W i m σ' H':=λ{σ7 H7} I7 n7=>by
    obtain⟨m',hm,w7⟩:=hN σ7 H7 n7
    refine⟨m',hm,i+1,σ7,H7,I7.unpinned,T.keep _ _ _ st5 λ b hb o e=>(I7.pin (b,o) (List.mem_append_right _ (List.mem_append_right _ (gP hb e)))).1,λ b hb=>?_,w7⟩
    obtain⟨o,e,d⟩:=T.obj _ _ st5 b hb
    exact(I7.pin (b,o) (List.mem_append_right _ (List.mem_append_right _ (gP hb e)))).2.1
   cases f with
   | next=>obtain⟨σ7,H7,I7,n7⟩:=q7;exact again I7 n7
   | cont=>obtain⟨σ7,H7,I7,n7⟩:=q7;exact again I7 n7
   | brk=>obtain⟨σ7,H7,I7,q7⟩:=q7;exact⟨σ7,H7,I7.unpinned,q7⟩
   | ret v=>obtain⟨x7,σ7,H7,I7,r7,q7⟩:=q7;exact⟨x7,σ7,H7,I7.unpinned,r7,q7⟩
end
abbrev R2:=V->V->Hp->VK->Prop
def OpR(X:Cx)(f:Value->Value->Sem Value)(r:R2):Prop:=
 ∀ (pins:%[|13])(s:Shared)(σ:St)(H:Hp)(x y:V)(v u:Value)(Q:VK),%[|6]->RelV x v->RelV y u->r x y H Q->
   wpAny %[|8] X.A (f v u) (EP X pins σ Q) X.xe s
def UnR(X:Cx)(f:Value->Sem Value)(r:V->Hp->VK->Prop):Prop:=
 ∀ (pins:%[|13])(s:Shared)(σ:St)(H:Hp)(x:V)(v:Value)(Q:VK),%[|6]->RelV x v->r x H Q->
   wpAny %[|8] X.A (f v) (EP X pins σ Q) X.xe s
def cQ(X:Cx)(f:Value)(r:List V->Hp->VK->Prop):Prop:=
 ∀ (pins:%[|13])(s:Shared)(σ:St)(H:Hp)(xs:List V)(us:%[|7])(Q:VK),%[|6]->Vals xs us->r xs H Q->
   wpAny %[|8] X.A (call f us) (EP X pins σ Q) X.xe s
def tOp(r:R2)(ta tb:TE):TE:=λ σ H Q=>ta σ H λ x H1=>tb σ H1 λ y H2=>r x y H2 Q
def rI(C:Int->Int->Prop)(g:Int->Int->V):R2:=λ x y H Q=>∃i j,x=.int i/\y=.int j/\C i j/\Q (g i j) H
def rI0(g:Int->Int->V):R2:=λ x y H Q=>∃i j,x=.int i/\y=.int j/\Q (g i j) H
def rU(g:Int->V):V->Hp->VK->Prop:=λ x H Q=>∃i,x=.int i/\Q (g i) H
section
variable {X : Cx} {a b c : Expr} {ta tb tc : TE} {pos : Pos}
theorem XC(ha:PE X a ta)(hb:PE X b tb){pins:%[|13]}{s:Shared}{σ:St}{H:Hp}{R:V->V->Hp->Prop}(I:%[|6])
 (h:ta σ H λ x H1=>tb σ H1 λ y H2=>R x y H2){Q:%[|11]}{f:Value->Value->Sem Value}
 (hf:∀v u s2 x y H2,Inv X pins σ H2 s2->RelV x v->RelV y u->R x y H2->wpAny %[|8] X.A (f v u) Q X.xe s2):
 wpAny %[|8] X.A (eval a X.env) (λ v s₁=>wpAny %[|8] X.A (eval b X.env) (λ u s₂=>wpAny %[|8] X.A (f v u) Q X.xe s₂) X.xe s₁) X.xe s:=by
 refine thn (ha pins s σ H _ I h) λ v s1 ⟨x,H1,I1,r1,q1⟩=>?_
 refine thn (hb pins s1 σ H1 _ I1 q1) λ u s2 ⟨y,H2,I2,r2,q2⟩=>?_
 exact hf v u s2 x y H2 I2 r1 r2 q2
theorem opI{f:Value->Value->Sem Value}{C:Int->Int->Prop}{g:Int->Int->Int}
 (rule:∀(i j:Int)(t u:Tok)(s:Shared)(Q:%[|11])(E:%[|11]),C i j->Q (.int (g i j) s.toks) {s with toks:=s.toks+1}->wpAny %[|8] X.A (f (.int i t) (.int j u)) Q E s):
 OpR X f (rI C λ i j=>.int (g i j)):=by
 intro pins s σ H x y v u Q I rx ry h
 obtain⟨i,j,rfl,rfl,hc,q⟩:=h
 obtain⟨t,rfl⟩:=rx
 obtain⟨t',rfl⟩:=ry
 exact rule i j t t' s _ _ hc ⟨.int (g i j),H,I.tok _,⟨_,rfl⟩,q⟩
theorem Vm{f:Value->Value->Sem Value}{g:Int->Int->Int}
 (rule:∀(i j:Int)(t u:Tok)(s:Shared)(Q:%[|11])(E:%[|11]),Q (.int (g i j) s.toks) {s with toks:=s.toks+1}->wpAny %[|8] X.A (f (.int i t) (.int j u)) Q E s):
 OpR X f (rI0 λ i j=>.int (g i j)):=by
 intro pins s σ H x y v u Q I rx ry h
 obtain⟨i,j,rfl,rfl,q⟩:=h
 obtain⟨t,rfl⟩:=rx
 obtain⟨t',rfl⟩:=ry
 exact rule i j t t' s _ _ ⟨.int (g i j),H,I.tok _,⟨_,rfl⟩,q⟩
theorem Hl{f:Value->Value->Sem Value}{g:Int->Int->Bool}
 (rule:∀(i j:Int)(t u:Tok)(s:Shared)(Q:%[|11])(E:%[|11]),Q (.bool (g i j)) s->wpAny %[|8] X.A (f (.int i t) (.int j u)) Q E s):
 OpR X f (rI0 λ i j=>.bl (g i j)):=by
 intro pins s σ H x y v u Q I rx ry h
 obtain⟨i,j,rfl,rfl,q⟩:=h
 obtain⟨t,rfl⟩:=rx
 obtain⟨t',rfl⟩:=ry
 exact rule i j t t' s _ _ ⟨.bl (g i j),H,I,rfl,q⟩
def Xy(i j:Int):Prop:=0<j/\j<1073741824
def CPow(i j:Int):Prop:=0≤j/\j≤1000000/\i.natAbs<2 ^ 64
def CMul(i j:Int):Prop:=(-(2 ^ 64)<i/\i<2 ^ 64)∨(-(2 ^ 64)<j/\j<2 ^ 64)
theorem CMul.ok{i j:Int}(h:CMul i j):IntMulOk i j:=by
 rcases h with⟨h1,h2⟩ | ⟨h1,h2⟩
 . exact .of_left (intBits_le_64 h1 h2)
 . exact .of_right (intBits_le_64 h1 h2)
theorem Vz:OpR X (binaryOp .Add) (rI0 λ i j=>.int (i+j)):=Vm λ _ _ _ _ _ _ _ q=>add_int q
theorem Vy:OpR X (binaryOp .Sub) (rI0 λ i j=>.int (i-j)):=Vm λ _ _ _ _ _ _ _ q=>sub_int q
theorem Vi:OpR X (binaryOp .Mult) (rI CMul λ i j=>.int (i*j)):=opI λ _ _ _ _ _ _ _ hc q=>mul_int q hc.ok
theorem Q0:OpR X (binaryOp .FloorDiv) (rI Xy λ i j=>.int (i/j)):=opI λ i j _ _ _ _ _ hc q=>by
 have h1:(0:Int)<j:=hc.1
 have h2:j<1073741824:=hc.2
 exact floordiv_int %[|0] (by rw[Int.fdiv_eq_ediv_of_nonneg i %[|0]];exact q) (.inl (PyProof.noPylong_small %[|0]))
theorem Uz:OpR X (binaryOp .Mod) (rI (λ _ j=>0<j) λ i j=>.int (i % j)):=opI λ i j _ _ _ _ _ hc q=>by
 have h1:(0:Int)<j:=hc
 exact mod_int' %[|0] (by rw[Int.fmod_eq_emod_of_nonneg i %[|0]];exact q)
theorem Up:OpR X (binaryOp .Pow) (rI CPow λ i j=>.int (i ^ j.toNat)):=opI λ _ _ _ _ _ _ _ hc q=>pow_int_small hc.1 hc.2.1 hc.2.2 q
theorem unI{f:Value->Sem Value}{g:Int->Int}
 (rule:∀(i:Int)(t:Tok)(s:Shared)(Q:%[|11])(E:%[|11]),Q (.int (g i) s.toks) {s with toks:=s.toks+1}->wpAny %[|8] X.A (f (.int i t)) Q E s):
 UnR X f (rU λ i=>.int (g i)):=by
 intro pins s σ H x v Q I rx h
 obtain⟨i,rfl,q⟩:=h
 obtain⟨t,rfl⟩:=rx
 exact rule i t s _ _ ⟨.int (g i),H,I.tok _,⟨_,rfl⟩,q⟩
theorem Vk:UnR X (unaryOp .USub) (rU λ i=>.int (-i)):=unI λ _ _ _ _ _ q=>neg_int q
end
def Vn:V->V->Bool
 | .non,.non=>true | .non,.int _=>true | .int _,.non=>true | .non,.bl _=>true | .bl _,.non=>true | .non,.str _=>true | .str _,.non=>true
 | .int _,.int _=>true | .bl _,.bl _=>true | .str _,.str _=>true | .byt _,.byt _=>true
 | .int _,.str _=>true | .str _,.int _=>true | .bl _,.str _=>true | .str _,.bl _=>true
 | _,_=>false
def rEq:R2:=λ x y H Q=>Vn x y=true/\Q (.bl (decide (x=y))) H
def rNe:R2:=λ x y H Q=>Vn x y=true/\Q (.bl (!decide (x=y))) H
theorem pI{i j:Int}:decide (V.int i=V.int j)=(i==j):=by
 rw[Bool.eq_iff_iff]
 simp
theorem nH{i j:Bool}:decide (V.bl i=V.bl j)=(i==j):=by
 rw[Bool.eq_iff_iff]
 simp
theorem EY{i j:Str}:decide (V.str i=V.str j)=(i==j):=by
 rw[Bool.eq_iff_iff]
 simp
theorem FP{i j:Array UInt8}:decide (V.byt i=V.byt j)=(i.toList==j.toList):=by
 rw[Bool.eq_iff_iff]
 cases i
 cases j
 simp
section
variable {X : Cx} {a b c : Expr} {ta tb tc : TE} {pos : Pos}
theorem aG{pins:%[|13]}{σ:St}{H:Hp}{s:Shared}{Q:VK}{k k':Bool}(I:%[|6])(q:Q (.bl k) H)(e:k=k'):EP X pins σ Q (.bool k') s:=by
 subst e
 exact⟨.bl k,H,I,rfl,q⟩
theorem Gz:OpR X (compareOp .Eq) rEq:=by
 intro pins s σ H x y v u Q I rx ry h
 obtain⟨hs,q⟩:=h
 cases x with
 | non=>
   cases rx
   cases y with
   | non=>cases ry;exact PySem.EqNone.eq_none_none (aG I q (by simp))
   | bl j=>cases ry;exact PySem.EqNone.eq_none_bool (aG I q (by simp))
   | int j=>obtain⟨t',rfl⟩:=ry;exact PySem.EqNone.eq_none_int (aG I q (by simp))
   | str j=>obtain⟨t',rfl⟩:=ry;exact PySem.EqNone.eq_none_str (aG I q (by simp))
   | _=>exact absurd (show false=true from hs) y7
 | bl i=>
   cases rx
   cases y with
   | non=>cases ry;exact PySem.EqNone.eq_bool_none (aG I q (by simp))
   | bl j=>cases ry;exact eq_bool (aG I q nH)
   | str j=>obtain⟨t',rfl⟩:=ry;exact PySem.EqMixed.eq_bool_str (aG I q (by simp))
   | _=>exact absurd (show false=true from hs) y7
 | int i=>
   obtain⟨t,rfl⟩:=rx
   cases y with
   | non=>cases ry;exact PySem.EqNone.eq_int_none (aG I q (by simp))
   | int j=>obtain⟨t',rfl⟩:=ry;exact eq_int (aG I q pI)
   | str j=>obtain⟨t',rfl⟩:=ry;exact PySem.EqMixed.eq_int_str (aG I q (by simp))
   | _=>exact absurd (show false=true from hs) y7
 | str i=>
   obtain⟨t,rfl⟩:=rx
   cases y with
   | non=>cases ry;exact PySem.EqNone.eq_str_none (aG I q (by simp))
   | bl j=>cases ry;exact PySem.EqMixed.eq_str_bool (aG I q (by simp))
   | int j=>obtain⟨t',rfl⟩:=ry;exact PySem.EqMixed.eq_str_int (aG I q (by simp))
   | str j=>obtain⟨t',rfl⟩:=ry;exact eq_str (aG I q EY)
   | _=>exact absurd (show false=true from hs) y7
 | byt i=>
   obtain⟨t,rfl⟩:=rx
   cases y with
   | byt j=>obtain⟨t',rfl⟩:=ry;exact PySem.W.eq_bytes (aG I q FP)
   | _=>exact absurd (show false=true from hs) y7
 | _=>cases y<;>exact absurd (show false=true from hs) y7
theorem Qe:OpR X (compareOp .NotEq) rNe:=by
 intro pins s σ H x y v u Q I rx ry h
 obtain⟨hs,q⟩:=h
 cases x with
 | non=>
   cases rx
   cases y with
   | non=>cases ry;exact PySem.EqNone.ne_none_none (aG I q (by simp))
   | bl j=>cases ry;exact PySem.EqNone.ne_none_bool (aG I q (by simp))
   | int j=>obtain⟨t',rfl⟩:=ry;exact PySem.EqNone.ne_none_int (aG I q (by simp))
   | str j=>obtain⟨t',rfl⟩:=ry;exact PySem.EqNone.ne_none_str (aG I q (by simp))
   | _=>exact absurd (show false=true from hs) y7
 | bl i=>
   cases rx
   cases y with
   | non=>cases ry;exact PySem.EqNone.ne_bool_none (aG I q (by simp))
   | bl j=>cases ry;exact ne_bool (aG I q (congrArg not nH))
   | str j=>obtain⟨t',rfl⟩:=ry;exact PySem.EqMixed.ne_bool_str (aG I q (by simp))
   | _=>exact absurd (show false=true from hs) y7
 | int i=>
   obtain⟨t,rfl⟩:=rx
   cases y with
   | non=>cases ry;exact PySem.EqNone.ne_int_none (aG I q (by simp))
   | int j=>obtain⟨t',rfl⟩:=ry;exact ne_int (aG I q (congrArg not pI))
   | str j=>obtain⟨t',rfl⟩:=ry;exact PySem.EqMixed.ne_int_str (aG I q (by simp))
   | _=>exact absurd (show false=true from hs) y7
 | str i=>
   obtain⟨t,rfl⟩:=rx
   cases y with
   | non=>cases ry;exact PySem.EqNone.ne_str_none (aG I q (by simp))
   | bl j=>cases ry;exact PySem.EqMixed.ne_str_bool (aG I q (by simp))
   | int j=>obtain⟨t',rfl⟩:=ry;exact PySem.EqMixed.ne_str_int (aG I q (by simp))
   | str j=>obtain⟨t',rfl⟩:=ry;exact ne_str (aG I q (congrArg not EY))
   | _=>exact absurd (show false=true from hs) y7
 | byt i=>
   obtain⟨t,rfl⟩:=rx
   cases y with
   | byt j=>obtain⟨t',rfl⟩:=ry;exact PySem.W.ne_bytes (aG I q (congrArg not FP))
   | _=>exact absurd (show false=true from hs) y7
 | _=>cases y<;>exact absurd (show false=true from hs) y7
theorem Wz:OpR X (compareOp .Lt) (rI0 λ i j=>.bl (decide (i<j))):=Hl λ _ _ _ _ _ _ _ q=>lt_int q
theorem W5:OpR X (compareOp .LtE) (rI0 λ i j=>.bl (decide (i≤j))):=Hl λ _ _ _ _ _ _ _ q=>le_int q
theorem WW:OpR X (compareOp .Gt) (rI0 λ i j=>.bl (decide (j<i))):=Hl λ _ _ _ _ _ _ _ q=>gt_int q
theorem WR:OpR X (compareOp .GtE) (rI0 λ i j=>.bl (decide (j≤i))):=Hl λ _ _ _ _ _ _ _ q=>ge_int q
theorem UV:OpR X (compareOp .Is) (λ x y H Q=>y=.non/\Q (.bl (decide (x=.non))) H):=by
 intro pins s σ H x y v u Q I rx ry h
 obtain⟨rfl,q⟩:=h
 cases ry
 refine is_none_gen (aG I q ?_)
 cases x<;>first
  | (cases rx;rfl)
  | (obtain⟨t,rfl⟩:=rx;rfl)
theorem QH:OpR X (compareOp .IsNot) (λ x y H Q=>y=.non/\Q (.bl (!decide (x=.non))) H):=by
 intro pins s σ H x y v u Q I rx ry h
 obtain⟨rfl,q⟩:=h
 cases ry
 refine isnot_none_gen (aG I q ?_)
 cases x<;>first
  | (cases rx;rfl)
  | (obtain⟨t,rfl⟩:=rx;rfl)
theorem ue:(sizeLine:Nat)<2 ^ 63:=by rw[sizeLine_eq];decide
theorem vals1{x:V}{us:%[|7]}(r:Vals [x] us):∃u,us=[u]/\RelV x u:=by
 cases r with
 | cons r1 r2=>cases r2;exact⟨_,rfl,r1⟩
theorem vals2{x y:V}{us:%[|7]}(r:Vals [x,y] us):∃u w',us=[u,w']/\RelV x u/\RelV y w':=by
 cases r with
 | cons r1 r2=>
   cases r2 with
   | cons r3 r4=>cases r4;exact⟨_,_,rfl,r1,r3⟩
theorem M5:cQ X (.builtin "abs") (λ xs H Q=>∃i,xs=[.int i]/\Q (.int (if i<0 then-i else i)) H):=by
 intro pins s σ H xs us Q I r h
 obtain⟨i,rfl,q⟩:=h
 obtain⟨u,rfl,t,rfl⟩:=vals1 r
 exact call_abs_int λ u tk=>⟨.int (if i<0 then-i else i),H,I.tok _,⟨_,rfl⟩,q⟩
theorem KR(hc:X.calm=true):cQ X (.builtin "max") (λ xs H Q=>∃i j,xs=[.int i,.int j]/\Q (.int (if j>i then j else i)) H):=by
 intro pins s σ H xs us Q I r h
 obtain⟨i,j,rfl,q⟩:=h
 obtain⟨u,w',rfl,⟨t,rfl⟩,⟨t',rfl⟩⟩:=vals2 r
 refine max_two_ints (I.ok.hd hc) λ h' tk k=>⟨_,H,I.kept k,?_,q⟩
 by_cases hj:j>i
 . rw[if_pos hj,if_pos hj];exact⟨_,rfl⟩
 . rw[if_neg hj,if_neg hj];exact⟨_,rfl⟩
theorem Jv(hc:X.calm=true):cQ X (.builtin "min") (λ xs H Q=>∃i j,xs=[.int i,.int j]/\Q (.int (if j<i then j else i)) H):=by
 intro pins s σ H xs us Q I r h
 obtain⟨i,j,rfl,q⟩:=h
 obtain⟨u,w',rfl,⟨t,rfl⟩,⟨t',rfl⟩⟩:=vals2 r
 refine min_two_ints (I.ok.hd hc) λ h' tk k=>⟨_,H,I.kept k,?_,q⟩
 by_cases hj:j<i
 . rw[if_pos hj,if_pos hj];exact⟨_,rfl⟩
 . rw[if_neg hj,if_neg hj];exact⟨_,rfl⟩
theorem oY:cQ X (.type "int") (λ xs H Q=>(∃i,xs=[.int i]/\Q (.int i) H)∨∃k,xs=[.bl k]/\Q (.int (if k then 1 else 0)) H):=by
 intro pins s σ H xs us Q I r h
 rcases h with⟨i,rfl,q⟩ | ⟨k,rfl,q⟩
 . obtain⟨u,rfl,t,rfl⟩:=vals1 r
   exact call_int_int ⟨.int i,H,I,⟨_,rfl⟩,q⟩
 . obtain⟨u,rfl,r1⟩:=vals1 r
   cases r1
   exact call_int_bool ⟨.int (if k then 1 else 0),H,I.tok _,⟨_,rfl⟩,q⟩
end
structure Room(k:Nat)(A:Around):Prop where
 hd:A.handled=none
 dp:A.depth+3*k+5<recursionLimit
 un:A.units+16*k+200<cLine
theorem Room.mono{j k:Nat}{A:Around}(r:Room k A)(h:j≤k):Room j A:=⟨r.hd,by have:=r.dp;omega,by have:=r.un;omega⟩
theorem Room.deeper{k:Nat}{A:Around}(r:Room (k+1) A)(env:Env):Room k (A.deeper env):=
 ⟨r.hd,by have:=r.dp;show A.depth+1+3*k+5<_;omega,by have:=r.un;show A.units+3+16*k+200<_;omega⟩
theorem Room.depth{k:Nat}{A:Around}(r:Room k A):A.depth<recursionLimit:=by have:=r.dp;omega
def XJ:TA:=λ _ H Q=>Q [] H
def W2(ta:TE)(tr:TA):TA:=λ σ H Q=>ta σ H λ x H1=>tr σ H1 λ xs H2=>Q (x::xs) H2
section
variable {X : Cx} {e : Expr} {es : List Expr} {te : TE} {t : TA} {pos : Pos}
theorem fH:PA X [] XJ:=λ _ _ _ _ H Q I h=>Calls.spliced_nil ⟨[],H,I,.nil,h⟩
theorem bL(ha:PE X e te)(hr:PA X es t)(hs:starEach (e::es) X.env=(false,eval e X.env)::starEach es X.env:=by rfl):PA X (e::es) (W2 te t):=by
 intro pos pins s σ H Q I h
 rw[hs]
 show wpAny _ _ (spliced ((false,eval e X.env)::backTo pos (starEach es X.env))) _ _ s
 refine Calls.spliced_cons (thn (ha pins s σ H _ I h) λ u s1 ⟨x,H1,I1,r1,q1⟩=>?_)
 exact thn (hr pos pins s1 σ H1 _ I1 q1) λ us s2 ⟨xs,H2,I2,r2,q2⟩=>⟨x::xs,H2,I2,.cons r1 r2,q2⟩
def XX(t:TA):TE:=λ σ H Q=>t σ H λ xs H1=>xs.length≤sizeLine/\∀p,H1 p=none->Q (.ref p) (upd H1 p (.tup xs))
def Xm(t:TA):TE:=λ σ H Q=>t σ H λ xs H1=>xs.length≤sizeLine/\∀p,H1 p=none->Q (.ref p) (upd H1 p (.lst xs))
theorem SX{x1}(h:PA X es t):PE X (.Tuple es x1 pos) (XX t):=by
 intro pins s σ H Q I hq
 refine wpAny_Tuple_spliced (thn (h pos pins s σ H _ I hq) λ us s1 ⟨xs,H1,I1,r,z,q⟩=>⟨by rw[←r.length];exact z,?_⟩)
 have hf:H1 s1.heap.objs.size=none:=I1.hok.fresh (x6 _)
 refine⟨.ref s1.heap.objs.size,upd H1 s1.heap.objs.size (.tup xs),I1.laid (t':=s1.toks) (λ b u e=>ZC _ e) (x6 _) ?_,rfl,q _ hf⟩
 exact⟨z,us,r,⟨_,%[|19],rfl,_,rfl⟩⟩
theorem SQ(h:PA X es t):PE X (.List es pos) (Xm t):=by
 intro pins s σ H Q I hq
 refine wpAny_List_spliced (thn (h pos pins s σ H _ I hq) λ us s1 ⟨xs,H1,I1,r,z,q⟩=>⟨by rw[←r.length];exact z,?_⟩)
 have hf:H1 s1.heap.objs.size=none:=I1.hok.fresh (x6 _)
 refine⟨.ref s1.heap.objs.size,upd H1 s1.heap.objs.size (.lst xs),I1.laid (t':=s1.toks) (λ b u e=>ZC _ e) (x6 _) ?_,rfl,q _ hf⟩
 exact⟨z,us,0,r,%[|19]⟩
end
abbrev Sp:=List V->Hp->VK->XK->Prop
abbrev CXT:=List Env->Hp->Shared->XK->%[|11]
structure Env0(P:Program)(w:World)(K:PySem.W.Frag)(mg:%[|15])(base:Heap)(A:Around)(outer:List Env)(s:Shared)(H:Hp):Prop where
 frames:A.frames=some outer
 mod:Mod K mg base
 bs:∀b o,base.get? b=some o->s.heap.get? b=some o/\H b=none
 bsz:base.objs.size≤s.heap.objs.size
 funs:s.heap.FunFrames base outer
 frf:∀b∈frs outer,H b=none
 hok:HOk P w H s.heap
 bare:AllBare s.gens
def CE(outer:List Env)(P:Program)(w:World)(H:Hp)(s:Shared)(Q:VK)(u:Value)(s':Shared):Prop:=
 ∃v H',s'.os=s.os/\AllBare s'.gens/\Un (frs outer) [] H H' s.heap s'.heap/\HOk P w H' s'.heap/\RelV v u/\Q v H'
def CR(CX:CXT)(outer:List Env)(P:Program)(w:World)(H:Hp)(s:Shared)(Q:VK)(E:XK)(r:Result)(s':Shared):Prop:=
 match r with
 | .ok (.ret u)=>CE outer P w H s Q u s'
 | .ok _=>False
 | .error e=>CX outer H s E e s'
structure FnOk(P:Program)(w:World)(K:PySem.W.Frag)(mg:%[|15])(base:Heap)(CX:CXT)(k:Nat)(f:Addr)(fd:FuncData)(ps:%[|1])(sp:Sp):Prop where
 len:∀vs H Q E,sp vs H Q E->vs.length=ps.length
 run:∀(A:Around)(outer:List Env)(s:Shared)(H:Hp)(args:Args)(us:%[|7])(vs:List V)(Q:VK)(E:XK),Room k A->Env0 P w K mg base A outer s H->BindsTo s fd args (ps.zip us)->Vals vs us->sp vs H Q E->
  codeAny (model P w) A (.call (.ref f) args) (CR CX outer P w H s Q E) s
section
variable {X : Cx} {pins : List (Addr × Obj)} {σ : St} {H : Hp} {s s' : Shared}
theorem Inv.env0(I:%[|6]):Env0 X.prog X.w X.K X.mg X.base X.A X.stack s H:=
 ⟨I.ok.frames,I.ok.mod,I.bs,Nat.le_trans I.ok.bsz I.sz,I.stack,I.stkFree,I.hok,I.bare⟩
theorem Inv.after{Q:VK}{u:Value}(I:%[|6])(h:CE X.stack X.prog X.w H s Q u s'):EP X pins σ Q u s':=by
 obtain⟨v,H',os,bare,un,hok,r,q⟩:=h
 obtain⟨hh,g,d,t,os'⟩:=s'
 obtain rfl:os'=s.os:=os
 exact⟨v,H',I.call (h':=hh) (g':=g) (d':=d) (t':=t) (ch:=[]) un hok bare (λ b z=>absurd z (by simp)),r,q⟩
end
def Binds(K:PySem.W.Frag)(fd:FuncData)(ps:%[|1])(ds:%[|7]):Prop:=
 ∀(s:Shared)(us:%[|7]),K.In s.heap->(us++ds).length=ps.length->BindsTo s fd ⟨us,[]⟩ (ps.zip (us++ds))
theorem Binds.all{K:PySem.W.Frag}{fd:FuncData}{ps:%[|1]}(h:∀us:%[|7],us.length=ps.length->bindArgs fd ⟨us,[]⟩=pure (ps.zip us)):Binds K fd ps []:=λ s us _ hl=>by
 rw[List.append_nil]at hl ⊢
 exact .of_eq (h us hl)
def Lr(CX:CXT)(X:Cx)(E:XK):Prop:=∀(pins:%[|13])(σ:St)(H:Hp)(s:Shared)(e:Value)(s':Shared),%[|6]->CX X.stack H s E e s'->X.xe e s'
section
variable {X : Cx} {CX : CXT} {k : Nat} {f C : Addr} {fd : FuncData} {ps : %[|1]} {sp : Sp} {dvs : List V} {ds : %[|7]} {E : XK} {x m : Str} {p pos apos : Pos} {e o : Expr} {es : List Expr} {ta : TE} {t : TA}
theorem Ux{pins:%[|13]}{σ:St}{H:Hp}{s:Shared}{Q:VK}{us:%[|7]}{vs:List V}(F:FnOk X.prog X.w X.K X.mg X.base CX k f fd ps sp)(hr:Room k X.A)(hb:Binds X.K fd ps ds)(hd:Vals dvs ds)(hx:Lr CX X E)
 (I:%[|6])(r:Vals vs us)(h:sp (vs++dvs) H Q E):wpAny %[|8] X.A (call (.ref f) us) (EP X pins σ Q) X.xe s:=by
 have r2:Vals (vs++dvs) (us++ds):=r.append hd
 have hl:(us++ds).length=ps.length:=by rw[←r2.length];exact F.len _ _ _ _ h
 refine wpAny_call (codeAny_mono (F.run X.A X.stack s H ⟨us,[]⟩ (us++ds) (vs++dvs) Q E hr I.env0 (hb s us I.kIn hl) r2 h) λ r s' hq=>?_)
 cases r with
 | error e=>exact hx pins σ H s e s' I hq
 | ok fl=>
   cases fl with
   | ret u=>exact I.after hq
   | next=>exact False.elim hq
   | brk=>exact False.elim hq
   | cont=>exact False.elim hq
end
structure FnScope(N P:%[|1])(sc:Scope):Prop where
 kind:sc.kind=.function
 co:sc.isCoroutine=false
 gen:sc.isGenerator=false
 nd:N.Nodup
 pre:N.take P.length=P
 par:∀x∈P,sc.names.lookup x=some .local∨sc.names.lookup x=some .cell
 nofree:∀y∈sc.names,y.2≠.free
theorem vR{kindOf:Str->Option NameKind}{x:Str}:∀{binds:List (Str×Value)}{m:%[|15]},(∀v,(x,v)∉binds)->bindL kindOf binds m x=m x
 | [],_,_=>rfl
 | (n,v)::r,m,h=>by
   unfold bindL
   rw[vR λ w hw=>h w (x8 _ hw)]
   split
   . have:x≠n:=by rintro rfl;exact h v v3
     simp[this]
   . rfl
theorem v6{kindOf:Str->Option NameKind}{x:Str}:∀{binds:List (Str×Value)}{m:%[|15]},(∀v,(x,v)∉binds)->bindC kindOf binds m x=m x
 | [],_,_=>rfl
 | (n,v)::r,m,h=>by
   unfold bindC
   rw[v6 λ w hw=>h w (x8 _ hw)]
   split
   . rfl
   . have:x≠n:=by rintro rfl;exact h v v3
     simp[this]
theorem vY{kindOf:Str->Option NameKind}{x:Str}{v:Value}:∀{P:%[|1]}{vs:%[|7]}{i:Nat}{m:%[|15]},P.Nodup->P[i]? =some x->vs[i]? =some v->kindOf x=some .local->
 bindL kindOf (P.zip vs) m x=some v
 | [],_,_,_,_,h,_,_=>by simp at h
 | _::_,[],_,_,_,_,h,_=>by simp at h
 | p::P,w::vs,0,m,nd,h1,h2,hk=>by
   simp at h1 h2;subst h1;subst h2
   show bindL kindOf ((p,w)::P.zip vs) m p=_
   unfold bindL
   rw[vR λ v hv=>(List.nodup_cons.mp nd).1 (List.of_mem_zip hv).1,if_pos hk]
   simp
 | p::P,w::vs,i+1,m,nd,h1,h2,hk=>by
   show bindL kindOf ((p,w)::P.zip vs) m x=_
   unfold bindL
   exact vY (i:=i) (List.nodup_cons.mp nd).2 (by simpa using h1) (by simpa using h2) hk
theorem wG{kindOf:Str->Option NameKind}{x:Str}{v:Value}:∀{P:%[|1]}{vs:%[|7]}{i:Nat}{m:%[|15]},P.Nodup->P[i]? =some x->vs[i]? =some v->kindOf x≠some .local->
 bindC kindOf (P.zip vs) m x=some v
 | [],_,_,_,_,h,_,_=>by simp at h
 | _::_,[],_,_,_,_,h,_=>by simp at h
 | p::P,w::vs,0,m,nd,h1,h2,hk=>by
   simp at h1 h2;subst h1;subst h2
   show bindC kindOf ((p,w)::P.zip vs) m p=_
   unfold bindC
   rw[v6 λ v hv=>(List.nodup_cons.mp nd).1 (List.of_mem_zip hv).1,if_neg hk]
   simp
 | p::P,w::vs,i+1,m,nd,h1,h2,hk=>by
   show bindC kindOf ((p,w)::P.zip vs) m x=_
   unfold bindC
   exact wG (i:=i) (List.nodup_cons.mp nd).2 (by simpa using h1) (by simpa using h2) hk
def start(N:%[|1])(vs:List V):St:=vs.map some++List.replicate (N.length-vs.length) none
def dB(CX:CXT)(P:Program)(w:World)(K:PySem.W.Frag)(mg:%[|15])(base:Heap)(N:%[|1])(qual:Str)(scope:Scope)(f:Addr)(cd:Value)(A:Around)(outer:List Env)(s:Shared)(H:Hp)(E:XK):Cx where
 prog:=P
 w:=w
 K:=K
 mg:=mg
 base:=base
 A:=A.deeper (envOfC qual scope s.heap.objs.size f cd)
 N:=N
 s₀:=s
 H₀:=H
 env:=envOfC qual scope s.heap.objs.size f cd
 outer:=outer
 stack:=envOfC qual scope s.heap.objs.size f cd::outer
 ex:=[]
 calm:=true
 fn:=λ _=>true
 pn:=[]
 xe:=λ e s'=>wpAny (model P w) (A.deeper (envOfC qual scope s.heap.objs.size f cd)) (leaving (envOfC qual scope s.heap.objs.size f cd) e) (λ _ s''=>CX outer H s E e s'') (λ e' s''=>CX outer H s E e' s'') s'
theorem yJ{sc:Scope}{n:Nat}{x:Str}(h:sc.names.lookup x=some .cell):∃c,(cellsFrom n sc.names []).lookup x=some c:=by
 have q:=PySem.W.cellsFrom_some sc.names n [] (.inl h)
 exact Option.isSome_iff_exists.mp q
theorem Kz{CX:CXT}{P:Program}{w:World}{K:PySem.W.Frag}{mg:%[|15]}{base:Heap}{N ps:%[|1]}{qual:Str}{scope:Scope}{f:Addr}{cd:Value}{A:Around}{outer:List Env}{s s1:Shared}{H:Hp}{E:XK}{us:%[|7]}{vs:List V}
 (S:FnScope N ps scope)(hd:A.handled=none)(e0:Env0 P w K mg base A outer s H)(hl:vs.length=ps.length)(r:Vals vs us)
 (x:InCallC s s.heap.objs.size (bindL (envOfC qual scope s.heap.objs.size f cd).kindOf (ps.zip us) λ _=>none) (cellsFrom (s.heap.objs.size+1) scope.names []) (bindC (envOfC qual scope s.heap.objs.size f cd).kindOf (ps.zip us) λ _=>none) s1):
 Inv (dB CX P w K mg base N qual scope f cd A outer s H E) [] (start N vs) H s1:=by
 have hpl:ps.length≤N.length:=by have:=congrArg List.length S.pre;rw[List.length_take]at this;omega
 obtain⟨h1,tk,rfl,hk⟩:=x.done
 have noA:∀b:Addr,b∉(dB CX P w K mg base N qual scope f cd A outer s H E).ex:=λ b z=>absurd (show b∈([]:List Addr)from z) (by simp)
 refine⟨⟨e0.mod,S.kind,rfl,rfl,x6 _,λ y z c h1 h2=>?_,λ y hy=>?_,λ y c _ h=>?_,λ _=>hd,Around.frames_deeper e0.frames,.inr ⟨rfl,rfl⟩,λ b z=>absurd z (noA b),e0.bs,e0.bsz,λ b _ _=>noA b,λ b z=>absurd z (noA b),e0.funs,e0.frf⟩,
  rfl,e0.bare,Un.kept hk,⟨_,x.toInCall.ns,λ i y v h1 h2 h3=>?_⟩,λ y c h=>⟨_,x.cell y c h⟩,e0.hok.fresh (x6 _),λ y c h=>?_,λ p hp=>absurd (show p∈([]:%[|13])from hp) (by simp),e0.hok.kept hk,?_⟩
 . exact name_of_addr x.apart (PySem.mem_of_lookup h1) (PySem.mem_of_lookup h2)
 . have hy:scope.names.lookup y=some .cell∨scope.names.lookup y=some .free:=hy
   rcases hy with hy | hy
   . exact yJ hy
   . exact absurd rfl (S.nofree _ (PySem.mem_of_lookup hy))
 . exact Nat.le_of_lt (x.above y c (PySem.mem_of_lookup h))
 . have hi:i<vs.length:=by
    unfold start at h2
    by_cases hi:i<vs.length
    . exact hi
    . rw[List.getElem?_append_right (by simpa using hi)]at h2
      rw[List.getElem?_replicate]at h2
      split at h2<;>cases h2
   have ha:vs[i]? =some v:=by
    unfold start at h2
    rw[List.getElem?_append_left (by simpa using hi),x5]at h2
    cases e:vs[i]? with
    | none=>rw[e]at h2;cases h2
    | some a=>rw[e]at h2;cases h2;rfl
   obtain⟨u,hu,rv⟩:=r.get ha
   have hp:ps[i]? =some y:=by
    rw[←S.pre,List.getElem?_take_of_lt %[|0]];exact h1
   have ndP:ps.Nodup:=by rw[←S.pre];exact S.nd.sublist (List.take_sublist _ _)
   refine⟨u,rv,?_⟩
   rcases S.par y (y6 hp)with k | k
   . exact .inl ⟨k,vY ndP hp hu k⟩
   . obtain⟨c,e⟩:=yJ (n:=s.heap.objs.size+1) k
     refine .inr ⟨.inl k,c,e,?_⟩
     have q:=x.cell y c e
     rw[wG ndP hp hu (by show scope.names.lookup y≠_;rw[k];decide)]at q
     exact q
 . exact e0.hok.fresh (Nat.le_of_lt (x.above y c (PySem.mem_of_lookup h)))
 . unfold start
   show _=N.length
   rw[List.length_append,y8,List.length_replicate]
   omega
theorem Qi{CX:CXT}{P:Program}{w:World}{K:PySem.W.Frag}{mg:%[|15]}{base:Heap}{k:Nat}{f:Addr}{name qual:Str}{params:Arguments}{body:List Stmt}{scope:Scope}{dV kV doc pm cdv ct oc:Value}{an od:Option Addr}
 {osl:Array %[|27]}{N ps:%[|1]}{sp:Sp}(lk:K.lookup f=some ⟨oc,od,.func (PySem.W.fnOf name qual params body scope dV kV doc pm an cdv ct),osl⟩)(hcd:PySem.W.codeIn K cdv qual=true)(S:FnScope N ps scope)
 (len:∀vs H Q E,sp vs H Q E->vs.length=ps.length)
 (hbody:∀(A:Around)(outer:List Env)(s:Shared)(H:Hp)(vs:List V)(Q:VK)(E:XK),Room k (A.deeper (envOfC qual scope s.heap.objs.size f cdv))->sp vs H Q E->
  ∃t,PSs (dB CX P w K mg base N qual scope f cdv A outer s H E) body t/\t {nx:=λ _ H'=>Q .non H',rt:=Q} (start N vs) H):
 FnOk P w K mg base CX (k+1) f (PySem.W.fnOf name qual params body scope dV kV doc pm an cdv ct) ps sp:=by
 refine⟨len,λ A outer s H args us vs Q E hr e0 hb r hsp=>?_⟩
 have hl:=len _ _ _ _ hsp
 have KX:K.In s.heap:=e0.mod.kin.keeps λ b o e=>(e0.bs b o e).1
 have lim:s.heap.NoLimit:=e0.mod.nolimit.keeps λ b o e=>(e0.bs b o e).1
 have hkind:∀y∈ps.zip us,scope.names.lookup y.1=some .local∨(scope.names.lookup y.1=some .cell/\((cellsFrom (s.heap.objs.size+1) scope.names []).lookup y.1).isSome=true):=λ⟨n,v⟩ hy=>by
  rcases S.par n (List.of_mem_zip hy).1 with q | q
  . exact .inl q
  . exact .inr ⟨q,PySem.W.cellsFrom_some _ _ _ (.inl q)⟩
 refine codeAny_call_function hr.depth (KX _ _ lk) rfl S.co S.gen rfl (PySem.W.codeRec_of KX hcd) (hb _ _ _ _ ?_)
 refine wpAny_newFunctionEnv_cells S.kind hkind λ env he s1 x=>?_
 subst he
 refine⟨lim.keeps x.toInCall.keep,codeAny_func ?_⟩
 obtain⟨t,ht,hq⟩:=hbody A outer s H vs Q E (hr.deeper _) hsp
 have I:Inv (dB CX P w K mg base N qual scope f cdv A outer s H E) [] (start N vs) H s1:=Kz S hr.hd e0 hl r x
 refine wpAny_mono (ht [] s1 (start N vs) H _ I hq) (λ fl s' hs=>?_) λ e s' hs=>hs
 have fin:∀{σ':St}{H':Hp}{v:V}{u:Value},Inv (dB CX P w K mg base N qual scope f cdv A outer s H E) [] σ' H' s'->RelV v u->Q v H'->CE outer P w H s Q u s':=
  λ{σ' H' v u} J rv q=>⟨v,H',J.os,J.bare,J.base,J.hok,rv,q⟩
 cases fl with
 | ret u=>
   obtain⟨v,σ',H',J,rv,q⟩:=hs
   exact fin J rv q
 | next=>
   obtain⟨σ',H',J,q⟩:=hs
   exact fin (v:=V.non) (u:=Value.none) J rfl q
 | brk=>
   obtain⟨_,_,_,q⟩:=hs
   exact False.elim q
 | cont=>
   obtain⟨_,_,_,q⟩:=hs
   exact False.elim q
section
variable {X : Cx} {x : Str} {p pos : Pos} {e : Expr} {es : List Expr} {t : TA} {id T : String} {r : List V -> Hp -> VK -> Prop}
def tCB(r:List V->Hp->VK->Prop)(t:TA):TE:=λ σ H Q=>t σ H λ vs H1=>r vs H1 Q
theorem kZ(hc:cQ X (.builtin id) r)(hg:Gl X x)(hm:X.mg x=none)(hv:bootBuiltins x=some (.builtin id))(ha:PA X (e::es) t)(hn:x≠"__name__":=by decide)(hdb:(x==("__debug__":Str))=false:=by decide)
 (he:starEach (e::es) X.env=(false,eval e X.env)::starEach es X.env:=by rfl)(hpl:(backTo pos (starEach es X.env)).any (·.1)=false:=by rfl):PE X (.Call (.Name x p) (e::es) [] pos) (tCB r t):=by
 intro pins s σ H Q I h
 refine wpAny_Call_Name_kw (cB I hg hm hv ?_ hn hdb)
 exact PyProof.Rows.callWith_builtin1 (thn (ha pos pins s σ H _ I h) λ us s1 ⟨vs,H1,I1,r1,q1⟩=>hc pins s1 σ H1 vs us Q I1 r1 q1) he hpl
theorem JN(hc:cQ X (.type T) r)(hg:Gl X x)(hm:X.mg x=none)(hv:bootBuiltins x=some (.type T))(ha:PA X (e::es) t)(hn:x≠"__name__":=by decide)(hdb:(x==("__debug__":Str))=false:=by decide)
 (he:starEach (e::es) X.env=(false,eval e X.env)::starEach es X.env:=by rfl)(hpl:(backTo pos (starEach es X.env)).any (·.1)=false:=by rfl):PE X (.Call (.Name x p) (e::es) [] pos) (tCB r t):=by
 intro pins s σ H Q I h
 refine wpAny_Call_Name_kw (cB I hg hm hv ?_ hn hdb)
 exact PyProof.Rows.callWith_type1 (thn (ha pos pins s σ H _ I h) λ us s1 ⟨vs,H1,I1,r1,q1⟩=>hc pins s1 σ H1 vs us Q I1 r1 q1) he hpl
end
end L2
namespace HT
open PySem PyProof.Rows
section
variable {prog : Program} {w : World} {A : Around} {E : Value -> Shared -> Prop} {s : Shared}
theorem cat_tup{t b:Addr}{vs ws:%[|7]}{Q:%[|11]}(ht:IsTup s.heap t vs.toArray)(hb:IsTup s.heap b ws.toArray)(hv:vs≠[])
 (h1:ws=[]->Q (.ref t) s)(h2:ws≠[]->Q %[|21] {s with heap:=s.heap.push {cls:=.type "tuple",data:=.seq (vs++ws).toArray}})
 (hsz:vs.length+ws.length≤sizeLine):wpAny %[|10] A (binaryOp .Add (.ref t) (.ref b)) Q E s:=by
 obtain⟨⟨cls,dd,data,sl⟩,ho,hc,n,hd⟩:=id ht
 obtain⟨⟨cls2,dd2,data2,sl2⟩,ho2,hc2,n2,hd2⟩:=id hb
 simp only at hc hd hc2 hd2
 subst hc hd hc2 hd2
 have e:vs.toArray++ws.toArray=(vs++ws).toArray:=by simp
 by_cases hw:ws=[]
 . exact concat_meets ⟨_,ho,rfl⟩ ⟨_,ho2,rfl⟩ noFill_tuple_add seq_tuple_add PySem.F.slot_tuple_add PySem.F.entry_tuple_add (PySem.F.args_tuple_add_2 _ _)
    (tuple_addW1 t b vs.toArray ws.toArray n n2 dd dd2 sl sl2 (by simpa using hv) (by simp[hw])) ⟨ho,ho2,h1 hw⟩
 . refine concat_meets ⟨_,ho,rfl⟩ ⟨_,ho2,rfl⟩ noFill_tuple_add seq_tuple_add PySem.F.slot_tuple_add PySem.F.entry_tuple_add (PySem.F.args_tuple_add_2 _ _)
    (tuple_addW2 t b vs.toArray ws.toArray n n2 dd dd2 sl sl2 (by simpa using hv) (by simpa using hw) (by rw[x9,x9];exact hsz)) ⟨ho,ho2,?_⟩
   rw[e]
   exact h2 hw
def sIx(n d:Nat):Option Int->Nat
 | none=>d
 | some v=>if v<0 then(v+(n:Int)).toNat else min v.toNat n
theorem sIx_none(n d:Nat):sIx n d none=d:=rfl
theorem sIx_nat(n d k:Nat):sIx n d (some (k:Int))=min k n:=by
 show(if(k:Int)<0 then((k:Int)+(n:Int)).toNat else min (k:Int).toNat n)=min k n
 rw[if_neg %[|0],Int.toNat_natCast]
theorem UT(n d:Nat)(hd:d≤n)(o:Option Int):sIx n d o≤n:=by
 cases o with
 | none=>exact hd
 | some v=>
   show(if v<0 then(v+(n:Int)).toNat else min v.toNat n)≤n
   by_cases hv:v<0
   . rw[if_pos hv];omega
   . rw[if_neg hv];exact Nat.min_le_right _ _
theorem Eo(v:Int)(n d:Nat):(if v<0 then max (v+(n:Int)) 0 else min v (n:Int))=((sIx n d (some v):Nat):Int):=by
 show(if v<0 then max (v+(n:Int)) 0 else min v (n:Int))=(((if v<0 then(v+(n:Int)).toNat else min v.toNat n):Nat):Int)
 by_cases hv:v<0
 . simp only[if_pos hv];omega
 . simp only[if_neg hv];omega
theorem Hj(lo hi:Option Int)(n:Nat):Builtin.Slice.sliceAdjust lo hi 1 (n:Int)=(((sIx n 0 lo:Nat):Int),((sIx n n hi:Nat):Int)):=by
 have h1:¬((1:Int)<0):=%[|0]
 unfold Builtin.Slice.sliceAdjust
 simp only[h1,if_false]
 refine Prod.ext ?_ ?_
 . cases lo with
   | none=>rfl
   | some v=>exact Eo v n 0
 . cases hi with
   | none=>rfl
   | some v=>exact Eo v n n
theorem Ho(i j:Nat):Builtin.Slice.slicePlaces (i:Int) (j:Int) 1=j-i:=by
 unfold Builtin.Slice.slicePlaces
 have h1:(1:Int)>0:=%[|0]
 simp only[h1,if_true,Int.ediv_one]
 split<;>omega
theorem sW{v:Value}{o:Option Int}{Q:Option Int->Shared->Prop}(p:IsPart v o)(h:Q o s):wpAny %[|10] A (Builtin.Slice.slicePartIndex v) Q E s:=by
 cases p with
 | none=>exact slicePart_none h
 | int i t=>exact slicePart_int h
theorem sliceApplied_gen{sl:Addr}{vl vu:Value}{lo hi:Option Int}{n:Nat}{Q:Int×Int×Nat->Shared->Prop}(hs:s.heap.IsSliceOf sl vl vu .none)(pl:IsPart vl lo)(pu:IsPart vu hi)
 (h:Q (((sIx n 0 lo:Nat):Int),1,sIx n n hi-sIx n 0 lo) s):wpAny %[|10] A (Builtin.Slice.sliceApplied (.ref sl) (pure (n:Int))) Q E s:=by
 obtain⟨os,hos,hcs,hds⟩:=id hs
 unfold Builtin.Slice.sliceApplied Builtin.Slice.sliceFields
 refine ZA (ZA (wpAny_field hos hds (x:=vl) rfl (ZA (wpAny_field hos hds (x:=vu) rfl (ZA (wpAny_field hos hds (x:=.none) rfl %[|12]))))))
 refine ZA (slicePart_none ?_)
 show wpAny _ _ (if((1:Int)==0)=true then _ else _) _ _ s
 rw[if_neg %[|2]]
 refine ZA (sW pl (ZA (sW pu (ZA %[|12]))))
 show wpAny _ _ (match Builtin.Slice.sliceAdjust lo hi 1 (n:Int)with | (lo,hi)=>pure (lo,(1:Int),Builtin.Slice.slicePlaces lo hi 1)) _ _ s
 rw[Hj lo hi n]
 show wpAny _ _ (pure (((sIx n 0 lo:Nat):Int),(1:Int),Builtin.Slice.slicePlaces ((sIx n 0 lo:Nat):Int) ((sIx n n hi:Nat):Int) 1)) _ _ s
 rw[Ho]
 exact ZB h
theorem Nz(xs:Array Value)(i k:Nat):((List.range k).filterMap λ(m:Nat)=>xs[((i:Int)+(m:Int)*1).toNat]?).toArray=((xs.toList.drop i).take k).toArray:=by
 have e:(λ(m:Nat)=>xs[((i:Int)+(m:Int)*1).toNat]?)=λ m=>xs[i+m]?:=by
  funext m
  have:((i:Int)+(m:Int)*1).toNat=i+m:=%[|0]
  rw[this]
 rw[e]
 have:=pick_run xs i k
 rw[List.filterMap_map]at this
 have e2:((λ x=>xs[x]?) ∘ λ x=>i+x)=λ m=>xs[i+m]?:=rfl
 rw[e2]at this
 rw[this]
theorem getItem_tuple_cut{t sl:Addr}{items:Array Value}{vl vu:Value}{lo hi:Option Int}{Q:%[|11]}(ht:IsTup s.heap t items)(hs:s.heap.IsSliceOf sl vl vu .none)(pl:IsPart vl lo)(pu:IsPart vu hi)
 (hw:¬(sIx items.size 0 lo=0/\sIx items.size items.size hi=items.size))
 (h:Q %[|21] {s with heap:=s.heap.push {cls:=.type "tuple",data:=.seq ((items.toList.drop (sIx items.size 0 lo)).take (sIx items.size items.size hi-sIx items.size 0 lo)).toArray}})
 (hsz:items.size≤sizeLine):wpAny %[|10] A (getItem (.ref t) (.ref sl)) Q E s:=by
 have htake:sizeOk (.seq ((items.toList.drop (sIx items.size 0 lo)).take (sIx items.size items.size hi-sIx items.size 0 lo)).toArray):=by
  show((items.toList.drop (sIx items.size 0 lo)).take (sIx items.size items.size hi-sIx items.size 0 lo)).toArray.size≤sizeLine
  rw[x9,List.length_take,List.length_drop,Array.length_toList]
  omega
 have hj:sIx items.size items.size hi≤items.size:=UT _ _ (x6 _) hi
 obtain⟨os,hos,hcs,hds⟩:=id hs
 have hTs:s.TypeIs (.ref sl) "slice":=⟨os,hos,hcs⟩
 unfold getItem
 try with_reducible refine ZQ ?_
 first | refine ZA %[|12] | skip
 refine ZA (wpAny_sequenceKey ht.typeIs %[|2] ?_)
 refine ZA (wpAny_callSpecial?_slot (name:=Str.ofString "__getitem__") ht.typeIs PyProof.Rows.slot_tuple_getitem
  (ZP PyProof.Rows.slot_tuple_getitem ht.typeIs entry_tuple_getitem ?_ (args_tuple_getitem _ _)))
 show wpAny _ _ (Builtin.Tuple.tupleItemsOf (.ref t)>>=_) _ _ s
 refine ZA (tupleItemsOf_ ht ?_)
 refine ZA (wpAny_typeOf hTs ?_)
 rw[if_pos %[|2]]
 refine ZA (sliceApplied_gen hs pl pu ?_)
 have hno:¬((((sIx items.size 0 lo:Nat):Int)==0&&(1:Int)==1&&(sIx items.size items.size hi-sIx items.size 0 lo)==items.size)=true):=by
  intro q
  rw[Bool.and_eq_true,Bool.and_eq_true]at q
  have q1:((sIx items.size 0 lo:Nat):Int)=0:=ZI q.1.1
  have q2:sIx items.size items.size hi-sIx items.size 0 lo=items.size:=ZI q.2
  exact hw ⟨%[|0],%[|0]⟩
 show wpAny _ _ (if(((sIx items.size 0 lo:Nat):Int)==0&&(1:Int)==1&&(sIx items.size items.size hi-sIx items.size 0 lo)==items.size)=true then _ else _) _ _ s
 rw[if_neg hno,Nz]
 first
  | exact ZA (m:=Builtin.Tuple.tupleExact _) (wpAny_newObj_type (ZB ⟨_,rfl,ZB h⟩) htake)
  | exact ZA (m:=Builtin.Tuple.tupleExact _) (wpAny_newObj_type (ZA (ZB (ZB ⟨_,rfl,ZB h⟩))) htake)
  | exact ZA (ZA (m:=Builtin.Tuple.tupleExact _) (wpAny_newObj_type (ZB (ZB ⟨_,rfl,ZB h⟩)) htake))
  | exact ZA (ZA (m:=Builtin.Tuple.tupleExact _) (wpAny_newObj_type (ZB ⟨_,rfl,ZB h⟩) htake))
end
end HT
namespace L2
open PySem PySem.Spec PyProof.Rows
abbrev TO:=St->Hp->(Option Int->Hp->Prop)->Prop
theorem intsAre_of{ns:%[|3]}:∀{us:%[|7]},Vals (ns.map V.int) us->IntsAre us ns:=by
 induction ns with
 | nil=>intro us r;rw[List.map_nil]at r;cases r;exact .nil
 | cons n ns ih=>
   intro us r
   rw[List.map_cons]at r
   cases r with
   | cons r1 r2=>
     obtain⟨t,e⟩:=r1
     subst e
     exact .cons n t (ih r2)
section
variable {X : Cx} {e : Expr} {te : TE} {lo hi : Option Expr} {tl th : TO} {pos p2 : Pos}
def SlR(X:Cx)(r:V->Option Int->Option Int->Hp->VK->Prop):Prop:=
 ∀ (pins:%[|13])(s:Shared)(σ:St)(H:Hp)(x:V)(v vl vu:Value)(lo hi:Option Int)(sl:Addr)(Q:VK),%[|6]->RelV x v->s.heap.IsSliceOf sl vl vu .none->IsPart vl lo->IsPart vu hi->r x lo hi H Q->
   ∃T id,typeLookup (.type T) "__getitem__"=pure (some (.builtin id))/\s.TypeIs v T/\wpAny %[|8] X.A (getItem v (.ref sl)) (EP X pins σ Q) X.xe s
def nG(xs:List V)(lo hi:Option Int):List V:=(xs.drop (HT.sIx xs.length 0 lo)).take (HT.sIx xs.length xs.length hi-HT.sIx xs.length 0 lo)
theorem qC(xs:List V)(lo hi:Option Int):(nG xs lo hi).length≤xs.length:=by
 unfold nG
 rw[List.length_take,List.length_drop]
 omega
def XH(K:PySem.W.Frag):V->Option Int->Option Int->Hp->VK->Prop:=λ x lo hi H Q=>∃a xs,x=.ref a/\SqT K H a xs/\
 ¬(HT.sIx xs.length 0 lo=0/\HT.sIx xs.length xs.length hi=xs.length)/\∀p,H p=none->Q (.ref p) (upd H p (.tup (nG xs lo hi)))
theorem Ug:SlR X (XH X.K):=by
 intro pins s σ H x v vl vu lo hi sl Q I rx hs pl pu h
 obtain⟨a,xs,rfl,hx,hw,q⟩:=h
 cases rx
 obtain⟨its,r,ht,hz⟩:=I.tuple hx
 have hlen:its.toArray.size=xs.length:=by rw[x9];exact r.length.symm
 refine⟨"tuple",_,PyProof.Rows.slot_tuple_getitem.lookup,ht.typeIs,?_⟩
 refine HT.getItem_tuple_cut ht hs pl pu (by rw[hlen];exact hw) ?_ (by rw[hlen];exact hz)
 rw[hlen]
 refine⟨%[|21],_,I.laid (t':=s.toks) (o:=.tup (nG xs lo hi)) (λ b ob q=>ZC _ q) (x6 _) ?_,rfl,q _ (I.hok.fresh (x6 _))⟩
 exact⟨Nat.le_trans (qC xs lo hi) hz,_,(r.drop (HT.sIx xs.length 0 lo)).take (HT.sIx xs.length xs.length hi-HT.sIx xs.length 0 lo),IsTup.new _ _⟩
def V3(K:PySem.W.Frag):R2:=λ x y H Q=>∃a b xs ys,x=.ref a/\y=.ref b/\SqT K H a xs/\SqT K H b ys/\xs≠[]/\xs.length+ys.length≤sizeLine/\
 (ys=[]->Q (.ref a) H)/\(ys≠[]->∀p,H p=none->Q (.ref p) (upd H p (.tup (xs++ys))))
theorem Vals.nil_iff{xs:List V}{us:%[|7]}(r:Vals xs us):us=[]↔xs=[]:=by
 cases r with
 | nil=>simp
 | cons _ _=>simp
theorem R3:OpR X (binaryOp .Add) (V3 X.K):=by
 intro pins s σ H x y v u Q I rx ry h
 obtain⟨a,b,xs,ys,rfl,rfl,ha,hb,hx,hz,q1,q2⟩:=h
 cases rx
 cases ry
 obtain⟨its,r1,p1,_⟩:=I.tuple ha
 obtain⟨its2,r2,p2,_⟩:=I.tuple hb
 refine HT.cat_tup p1 p2 (λ z=>hx (r1.nil_iff.mp z)) (λ z=>⟨.ref a,H,I,rfl,q1 (r2.nil_iff.mp z)⟩) (λ z=>?_) (by rw[←r1.length,←r2.length];exact hz)
 refine⟨%[|21],_,I.laid (t':=s.toks) (o:=.tup (xs++ys)) (λ b ob q=>ZC _ q) (x6 _) ?_,rfl,q2 (λ w=>z (r2.nil_iff.mpr w)) _ (I.hok.fresh (x6 _))⟩
 exact⟨by rw[List.length_append];exact hz,_,r1.append r2,IsTup.new _ _⟩
end
def ixN(n:Nat)(i:Int):Option Nat:=if 0≤i then(if i<n then some i.toNat else none)else if-(n:Int)≤i then some (i+n).toNat else none
def atI{α:Type}(xs:List α)(i:Int):Option α:=(ixN xs.length i).bind λ j=>xs[j]?
theorem Gm{n:Nat}{i:Int}{j:Nat}(h:ixN n i=some j):seqIndex? i n=some j/\j<n/\ -(n:Int)≤i/\i<n:=by
 unfold ixN at h
 by_cases h0:0≤i
 . rw[if_pos h0]at h
   by_cases h1:i<n
   . rw[if_pos h1]at h
     have e:i.toNat=j:=Option.some.inj h
     exact⟨by rw[seqIndex_of h0 h1,e],%[|0],%[|0],h1⟩
   . rw[if_neg h1]at h;cases h
 . rw[if_neg h0]at h
   by_cases h1: -(n:Int)≤i
   . rw[if_pos h1]at h
     have e:(i+n).toNat=j:=Option.some.inj h
     exact⟨by rw[seqIndex_neg %[|0] h1,e],%[|0],h1,%[|0]⟩
   . rw[if_neg h1]at h;cases h
theorem Eu{α:Type}{xs:List α}{i:Int}{v:α}(h:atI xs i=some v):∃j,seqIndex? i xs.length=some j/\xs[j]? =some v/\j<xs.length/\ -(xs.length:Int)≤i/\i<xs.length:=by
 unfold atI at h
 cases e:ixN xs.length i with
 | none=>rw[e]at h;cases h
 | some j=>
   rw[e]at h
   obtain⟨h1,h2,h3,h4⟩:=Gm e
   exact⟨j,h1,h,h2,h3,h4⟩
theorem dm{α:Type}{xs:List α}{j:Nat}{v:α}(h:xs[j]? =some v):atI xs (j:Int)=some v:=by
 have hj:j<xs.length:=(y3.mp h).1
 have e:ixN xs.length (j:Int)=some j:=by
  unfold ixN
  rw[if_pos %[|0],if_pos %[|0]];simp
 unfold atI;rw[e];exact h
def vp(b:Expr):Prop:=∀o i,subscripted b false o i=operate [o,i] (getItem o i)
def IxR(X:Cx)(r:R2):Prop:=
 ∀ (value slice:Expr)(pins:%[|13])(s:Shared)(σ:St)(H:Hp)(x y:V)(v u:Value)(Q:VK),%[|6]->RelV x v->RelV y u->r x y H Q->
   subscripted slice false v u=operate [v,u] (getItem v u)->wpAny %[|8] X.A (subscriptTail value slice v u) (EP X pins σ Q) X.xe s
def MtR(X:Cx)(id:String)(r:V->List V->Hp->VK->Prop):Prop:=
 ∀ (pins:%[|13])(s:Shared)(σ:St)(H:Hp)(x:V)(xs:List V)(v:Value)(us:%[|7])(Q:VK),%[|6]->RelV x v->Vals xs us->r x xs H Q->
   wpAny %[|8] X.A (call (.builtin id) (v::us)) (EP X pins σ Q) X.xe s
section
variable {X : Cx} {a b : Expr} {ta tb : TE} {pos : Pos}
theorem WQ{r:R2}(hr:IxR X r)(ha:PE X a ta)(hb:PE X b tb)(hs:vp b):PE X (.Subscript a b pos) (tOp r ta tb):=by
 intro pins s σ H Q I h
 exact Subscript_ (XC ha hb I h λ v u s2 x y H2 I2 rx ry q=>hr a b pins s2 σ H2 x y v u Q I2 rx ry q (hs _ _))
def Xf(K:PySem.W.Frag):R2:=λ x y H Q=>∃p xs i v,x=.ref p/\y=.int i/\SqL K H p xs/\atI xs i=some v/\Q v H
def X3(K:PySem.W.Frag):R2:=λ x y H Q=>∃p xs i v,x=.ref p/\y=.int i/\SqT K H p xs/\atI xs i=some v/\Q v H
theorem vD:IxR X (Xf X.K):=by
 intro value slice pins s σ H x y v u Q I rx ry h hs
 obtain⟨p,xs,i,z,rfl,rfl,hq,he,q⟩:=h
 cases rx
 obtain⟨t,rfl⟩:=ry
 obtain⟨its,r,pl,hz⟩:=I.list hq
 obtain⟨j,h1,h2,h3,h4,h5⟩:=Eu he
 obtain⟨w,ew,rw'⟩:=r.get h2
 have hl:=r.length
 have hn:=ue
 have fin:EP X pins σ Q w s:=⟨z,H,I,rw',q⟩
 by_cases h0:0≤i
 . have hj:i.toNat=j:=by
    rw[seqIndex_of h0 h5]at h1
    exact Option.some.inj h1
   exact item_listR pl.isList h0 %[|0] (by rw[hj];simpa using ew) fin hs
 . have hj:(i+(its.toArray.size:Int)).toNat=j:=by
    rw[seqIndex_neg %[|0] h4]at h1
    rw[x9,←hl]
    exact Option.some.inj h1
   exact subscriptTail_builtinR (x:=w) pl.isList.typeIs slot_list_getitem.lookup
    (wpAny_getItem_list_neg (Q:=λ r s'=>r=w/\EP X pins σ Q r s') pl.isList %[|0] (by rw[x9]<;>omega) %[|0] (by rw[hj];simpa using ew) ⟨rfl,fin⟩) hs
theorem Vr:IxR X (X3 X.K):=by
 intro value slice pins s σ H x y v u Q I rx ry h hs
 obtain⟨p,xs,i,z,rfl,rfl,hq,he,q⟩:=h
 cases rx
 obtain⟨t,rfl⟩:=ry
 obtain⟨its,r,pl,hz⟩:=I.tuple hq
 obtain⟨j,h1,h2,h3,h4,h5⟩:=Eu he
 obtain⟨w,ew,rw'⟩:=r.get h2
 have hl:=r.length
 have hn:=ue
 have fin:EP X pins σ Q w s:=⟨z,H,I,rw',q⟩
 exact subscriptTail_builtinR (x:=w) pl.typeIs slot_tuple_getitem.lookup
  (getItem_tuple (j:=j) (Q:=λ r s'=>r=w/\EP X pins σ Q r s') pl %[|0] %[|0] (by rw[x9,←hl];exact h1) (by simpa using ew) ⟨rfl,fin⟩) hs
theorem Hk(its:%[|7])(n j:Nat)(u:Value):Obj.mapSeq (·.setIfInBounds j u) {cls:=.type "list",data:=.seq its.toArray n}={cls:=.type "list",data:=.seq (its.set j u).toArray n}:=by
 simp[Obj.mapSeq]
theorem Inv.lst{pins:%[|13]}{σ:St}{H:Hp}{s:Shared}{p:Addr}{xs:List V}(I:%[|6])(h:H p=some (.lst xs)):
 ∃(its:%[|7]) (n:Nat),Vals xs its/\s.heap.get? p=some {cls:=.type "list",data:=.seq its.toArray n}/\xs.length≤sizeLine:=by
 obtain⟨z,its,n,r,e⟩:=I.hok p _ h
 exact⟨its,n,r,e,z⟩
theorem Inv.lstUpd{pins:%[|13]}{σ:St}{H:Hp}{s:Shared}{p:Addr}{xs ys:List V}{its its':%[|7]}{n n':Nat}{f:Obj->Obj}(I:%[|6])(h:H p=some (.lst xs))
 (ho:s.heap.get? p=some {cls:=.type "list",data:=.seq its.toArray n})(hf:f {cls:=.type "list",data:=.seq its.toArray n}={cls:=.type "list",data:=.seq its'.toArray n'})(r:Vals ys its')(hz:ys.length≤sizeLine)(t:Nat):
 Inv X pins σ (upd H p (.lst ys)) {s with heap:=s.heap.update p f,toks:=t}:=by
 have e:(s.heap.update p f).get? p=some {cls:=.type "list",data:=.seq its'.toArray n'}:=by
  rw[Heap.get?_update_self f ho (by rw[hf]<;>rfl),hf]
 refine I.write (x:=p) (e:=p) (by rw[h];trivial) (.inl rfl) (λ b u hb q=>(Heap.get?_update_other _ _ (Ne.symm hb)).trans q) ⟨_,e⟩ ?_
 exact⟨hz,its',n',r,e⟩
def Wj:V->V->V->Hp->(Hp->Prop)->Prop:=λ o i v H Q=>∃p xs k j,o=.ref p/\i=.int k/\H p=some (.lst xs)/\ixN xs.length k=some j/\Q (upd H p (.lst (xs.set j v)))
theorem set_list:XM X Wj:=by
 intro pins s σ H o i v ov iv u Q I ro ri rv h
 obtain⟨p,xs,k,j,rfl,rfl,hp,hj,q⟩:=h
 cases ro
 obtain⟨t,rfl⟩:=ri
 obtain⟨its,n,r,ho,hz⟩:=I.lst hp
 obtain⟨h1,h2,h3,h4⟩:=Gm hj
 have hl:=r.length
 have hn:=ue
 have I':Inv X pins σ (upd H p (.lst (xs.set j v))) {s with heap:=s.heap.update p (Obj.mapSeq (·.setIfInBounds j u))}:=
  I.lstUpd hp ho (Hk its n j u) (r.set rv j) (by rw[List.length_set];exact hz) s.toks
 by_cases h0:0≤k
 . have hk:k.toNat=j:=by
    rw[seqIndex_of h0 h4]at h1
    exact Option.some.inj h1
   exact PySem.W.ki_setAt ho h0 %[|0] (by rw[x9,←hl];exact h4) (by rw[hk];exact⟨_,I',q⟩)
 . have hk:(k+(its.toArray.size:Int)).toNat=j:=by
    rw[seqIndex_neg %[|0] h3]at h1
    rw[x9,←hl]
    exact Option.some.inj h1
   exact PySem.W.ki_setBack ho %[|0] (by rw[x9,←hl];exact h3) %[|0] (by rw[hk];exact⟨_,I',q⟩)
theorem zJ(lo hi:Option Int)(n:Nat):(sliceBounds lo hi none n).1=((HT.sIx n 0 lo:Nat):Int)/\(sliceBounds lo hi none n).2.1=((HT.sIx n n hi:Nat):Int)/\(sliceBounds lo hi none n).2.2=1:=by
 refine⟨?_,?_,rfl⟩
 . cases lo with
   | none=>simp[sliceBounds,HT.sIx]
   | some i=>
     simp only[sliceBounds,HT.sIx,Option.getD_none,show(1:Int)>0 by decide,if_true]
     by_cases h:i<0
     . simp only[h,if_true]<;>omega
     . simp only[h,if_false]<;>omega
 . cases hi with
   | none=>simp[sliceBounds,HT.sIx]
   | some i=>
     simp only[sliceBounds,HT.sIx,Option.getD_none,show(1:Int)>0 by decide,if_true]
     by_cases h:i<0
     . simp only[h,if_true]<;>omega
     . simp only[h,if_false]<;>omega
theorem wV(its:%[|7])(lo hi:Option Int):slicePick its.toArray lo hi none=((its.drop (HT.sIx its.length 0 lo)).take (HT.sIx its.length its.length hi-HT.sIx its.length 0 lo)).toArray:=by
 obtain⟨h1,h2,h3⟩:=zJ lo hi its.toArray.size
 unfold slicePick
 rw[h1,h2,h3]
 simp only[sliceRange_one,pick_run,x9]<;>rfl
def Xx(K:PySem.W.Frag):V->Option Int->Option Int->Hp->VK->Prop:=λ x lo hi H Q=>∃a xs,x=.ref a/\SqL K H a xs/\∀p,H p=none->Q (.ref p) (upd H p (.lst (nG xs lo hi)))
theorem FN:SlR X (Xx X.K):=by
 intro pins s σ H x v vl vu lo hi sl Q I rx hs pl pu h
 obtain⟨a,xs,rfl,hx,q⟩:=h
 cases rx
 obtain⟨its,r,ht,hz⟩:=I.list hx
 have hlen:=r.length
 refine⟨"list",_,slot_list_getitem.lookup,ht.isList.typeIs,?_⟩
 refine wpAny_getItem_list_slice ht.isList hs pl pu .none (by simp) ?_ (by rw[x9]<;>omega)
 rw[wV,←hlen]
 refine⟨%[|21],_,I.laid (t':=s.toks) (o:=.lst (nG xs lo hi)) (λ b ob q=>ZC _ q) (x6 _) ?_,rfl,q _ (I.hok.fresh (x6 _))⟩
 exact⟨Nat.le_trans (qC xs lo hi) hz,_,0,(r.drop (HT.sIx xs.length 0 lo)).take (HT.sIx xs.length xs.length hi-HT.sIx xs.length 0 lo),%[|19]⟩
theorem iR:cQ X (.builtin "len") (λ xs H Q=>∃p ys,xs=[.ref p]/\(SqL X.K H p ys∨SqT X.K H p ys)/\Q (.int ys.length) H):=by
 intro pins s σ H xs us Q I r h
 obtain⟨p,ys,rfl,hq,q⟩:=h
 obtain⟨u,rfl,rx⟩:=vals1 r
 cases rx
 have hn:=ue
 rcases hq with hq | hq
 . obtain⟨its,r',pl,hz⟩:=I.list hq
   have hlen:=r'.length
   exact Calls.call_len_list pl.isList (by simp only[x9]<;>omega) ⟨.int ys.length,H,I.tok _,⟨s.toks+1,by rw[x9,hlen]⟩,q⟩
 . obtain⟨its,r',pl,hz⟩:=I.tuple hq
   have hlen:=r'.length
   exact len_tuple pl (by simp only[x9]<;>omega) ⟨.int ys.length,H,I.tok _,⟨s.toks+1,by rw[x9,hlen]⟩,q⟩
theorem fC:cQ X (.type "list") (λ xs H Q=>∃p ys,xs=[.ref p]/\(SqL X.K H p ys∨SqT X.K H p ys)/\∀l,H l=none->Q (.ref l) (upd H l (.lst ys))):=by
 intro pins s σ H xs us Q I r h
 obtain⟨p,ys,rfl,hq,q⟩:=h
 obtain⟨u,rfl,rx⟩:=vals1 r
 cases rx
 have fin:∀(its:%[|7]),Vals ys its->ys.length≤sizeLine->∀(h':Heap)(c':Nat),(∀b o',s.heap.get? b=some o'->h'.get? b=some o')->
  h'.get? s.heap.objs.size=some {cls:=.type "list",dict:=none,data:=.seq its.toArray c',slots:=#[]}->EP X pins σ Q %[|21] {s with heap:=h'}:=λ its r' hz h' c' kp e=>
  ⟨%[|21],_,I.laid (t':=s.toks) kp (x6 _) (show bu X.prog X.w _ h' _ (.lst ys)from⟨hz,its,c',r',e⟩),rfl,q _ (I.hok.fresh (x6 _))⟩
 rcases hq with hq | hq
 . obtain⟨its,r',pl,hz⟩:=I.list hq
   have hlen:=r'.length
   obtain⟨o,ho,hc,n,hd⟩:=pl.isList
   exact call_list_seq p (.inl rfl) ho hc hd (λ h' c' kp e=>fin its r' hz h' c' kp e) (by simp only[x9]<;>omega)
 . obtain⟨its,r',pl,hz⟩:=I.tuple hq
   have hlen:=r'.length
   obtain⟨o,ho,hc,n,hd⟩:=pl
   exact call_list_seq p (.inr rfl) ho hc hd (λ h' c' kp e=>fin its r' hz h' c' kp e) (by simp only[x9]<;>omega)
theorem mj:cQ X (.type "tuple") (λ xs H Q=>∃p ys,xs=[.ref p]/\((SqL X.K H p ys/\∀l,H l=none->Q (.ref l) (upd H l (.tup ys)))∨(SqT X.K H p ys/\Q (.ref p) H))):=by
 intro pins s σ H xs us Q I r h
 obtain⟨p,ys,rfl,h⟩:=h
 obtain⟨u,rfl,rx⟩:=vals1 r
 cases rx
 rcases h with⟨hq,q⟩ | ⟨hq,q⟩
 . obtain⟨its,r',pl,hz⟩:=I.list hq
   have hlen:=r'.length
   refine call_tuple_list pl.isList (λ h' kp=>?_) (by simp only[x9]<;>omega)
   have I1:Inv X pins σ H {s with heap:=h'}:=I.kept (t':=s.toks) kp
   have I2:Inv X pins σ (upd H h'.objs.size (.tup ys)) {s with heap:=h'.push {cls:=.type "tuple",data:=.seq its.toArray}}:=
    I1.laid (t':=s.toks) (λ b o e=>ZC _ e) (x6 _) (show bu X.prog X.w _ _ _ (.tup ys)from⟨hz,its,r',IsTup.new _ _⟩)
   exact⟨.ref h'.objs.size,_,I2,rfl,q _ (I1.hok.fresh (x6 _))⟩
 . obtain⟨its,r',pl,hz⟩:=I.tuple hq
   exact call_tuple_same pl ⟨.ref p,H,I,rfl,q⟩
def tyV(K:PySem.W.Frag)(T:String)(x:V)(H:Hp):Prop:=match x with
 | .str _=>T="str"
 | .int _=>T="int"
 | .ref p=>(T="list"/\∃xs,SqL K H p xs)∨(T="tuple"/\∃o,K.lookup p=some o/\o.cls=.type "tuple"/\o.dict=none)∨
  (T="dict"/\((∃kvs,H p=some (.dK kvs))∨∃kvs,H p=some (.dT kvs)))∨(T="set"/\∃S n,H p=some (.set S n))
 | _=>False
theorem Jw{pins:%[|13]}{σ:St}{H:Hp}{s:Shared}{T:String}{x:V}{v:Value}(I:%[|6])(r:RelV x v)(ty:tyV X.K T x H):
 s.TypeIs v T/\∀a,v=.ref a->∃ob,s.heap.get? a=some ob/\ob.dict=none:=by
 cases x with
 | str z=>
   obtain⟨t,rfl⟩:=r
   cases (show T="str" from ty)
   exact⟨typeIs_str s z t,λ _ e=>nomatch e⟩
 | int i=>
   obtain⟨t,rfl⟩:=r
   cases (show T="int" from ty)
   exact⟨typeIs_int s i t,λ _ e=>nomatch e⟩
 | ref p=>
   cases r
   rcases ty with⟨rfl,xs,hq⟩ | ⟨rfl,o,hk,hc,hd⟩ | ⟨rfl,hk⟩ | ⟨rfl,S,n,hk⟩
   . obtain⟨its,_,pl,_⟩:=I.list hq
     refine⟨pl.isList.typeIs,λ a e=>?_⟩
     cases e
     obtain⟨o,n,e,c,hd,_⟩:=pl
     exact⟨o,e,hd⟩
   . refine⟨⟨o,I.kIn p o hk,hc⟩,λ a e=>?_⟩
     cases e
     exact⟨o,I.kIn _ o hk,hd⟩
   . have z:∃o,s.heap.get? p=some o/\o.ExactDict:=by
      rcases hk with⟨kvs,hk⟩ | ⟨kvs,hk⟩
      . obtain⟨_,_,_,_,o,_,_,e,ex,_⟩:=I.hok p _ hk
        exact⟨o,e,ex⟩
      . obtain⟨_,_,_,_,o,_,_,e,ex,_⟩:=I.hok p _ hk
        exact⟨o,e,ex⟩
     obtain⟨o,e,ex⟩:=z
     refine⟨⟨o,e,ex.1⟩,λ a e2=>?_⟩
     cases e2
     exact⟨o,e,ex.2.1⟩
   . obtain⟨o,_,_,_,e,ex,_⟩:=I.hok p _ hk
     refine⟨⟨o,e,ex.1⟩,λ a e2=>?_⟩
     cases e2
     exact⟨o,e,ex.2.1⟩
 | _=>exact False.elim ty
def Xp(K:PySem.W.Frag)(T:String)(r:V->List V->Hp->VK->Prop)(to:TE):TE:=λ σ H Q=>to σ H λ x H1=>tyV K T x H1/\r x [] H1 Q
def tBM(K:PySem.W.Frag)(T:String)(r:V->List V->Hp->VK->Prop)(to:TE)(t:TA):TE:=λ σ H Q=>to σ H λ x H1=>tyV K T x H1/\t σ H1 λ xs H2=>r x xs H2 Q
variable {o e : Expr} {es : List Expr} {to : TE} {t : TA} {name : Str} {apos cpos : Pos} {T id : String} {r : V -> List V -> Hp -> VK -> Prop}
theorem Tf(pa:PlainAttrs T)(slot:Slot T name id)(hty:typeOf (.builtin id)=pure (.type "method_descriptor"))(hm:MtR X id r)(ho:PE X o to)
 (hbase:attributeBase o name X.env (eval o X.env)=eval o X.env:=by rfl)(hline:(apos.endLine==cpos.line)=true:=by rfl):PE X (.Call (.Attribute o name apos) [] [] cpos) (Xp X.K T r to):=by
 intro pins s σ H Q I h
 refine wpAny_Call_method0_late hbase hline (thn (ho pins s σ H _ I h) λ v s1 ⟨x,H1,I1,r1,ty,q1⟩=>?_)
 obtain⟨h1,h2⟩:=Jw I1 r1 ty
 exact⟨T,id,pa,slot,hty,h1,h2,Calls.callWith_builtin rfl (PySem.evalArgs_none (hm pins s1 σ H1 x [] v [] Q I1 r1 .nil q1))⟩
theorem PT(pa:PlainAttrs T)(slot:Slot T name id)(hty:typeOf (.builtin id)=pure (.type "method_descriptor"))(hm:MtR X id r)(ho:PE X o to)(ha:PA X (e::es) t)
 (hbase:attributeBase o name X.env (eval o X.env)=eval o X.env:=by rfl)
 (hfew:((backTo cpos (starEach (e::es) X.env)).all (λ x=>!x.1)&&(backToKw cpos (keywordEach [] X.env)).all (λ x=>x.1.isSome)
  &&decide ((e::es).length+([]:List Keyword).length+(if([]:List Keyword).isEmpty then 0 else 1)<30))=true:=by rfl)
 (hline:(apos.endLine==cpos.line)=true:=by rfl)(hs:starEach (e::es) X.env=(false,eval e X.env)::starEach es X.env:=by rfl)(hplain:(backTo cpos (starEach es X.env)).any (·.1)=false:=by rfl):
 PE X (.Call (.Attribute o name apos) (e::es) [] cpos) (tBM X.K T r to t):=by
 intro pins s σ H Q I h
 refine wpAny_Call_method_late hbase hfew hline rfl (thn (ho pins s σ H _ I h) λ v s1 ⟨x,H1,I1,r1,ty,q1⟩=>?_)
 obtain⟨h1,h2⟩:=Jw I1 r1 ty
 refine⟨T,id,pa,slot,hty,h1,h2,?_⟩
 have hA:=ha cpos pins s1 σ H1 _ I1 q1
 rw[hs]at hA ⊢
 refine Calls.callWith_builtin (by show(false||(backTo cpos (starEach es X.env)).any (·.1))=false;rw[hplain]<;>rfl) (Calls.evalArgs_plain ?_)
 exact thn hA λ us s2 ⟨vs,H2,I2,r2,q2⟩=>hm pins s2 σ H2 x vs v us Q I2 r1 r2 q2
end
def MtM(X:Cx)(id:String)(r:V->List V->Hp->VK->Prop):Prop:=
 ∀ (pins:%[|13])(s:Shared)(σ:St)(H:Hp)(x:V)(xs:List V)(v:Value)(us:%[|7])(Q:VK),%[|6]->RelV x v->Vals xs us->r x xs H Q->
   wpAny %[|8] X.A (call (.builtin id) (v::us)) (EP X pins σ Q) X.xe s
theorem Vals.one:∀{x:V}{us:%[|7]},Vals [x] us->∃u,us=[u]/\RelV x u
 | _,_,.cons r .nil=>⟨_,rfl,r⟩
theorem Vals.zero:∀{us:%[|7]},Vals [] us->us=[]
 | _,.nil=>rfl
theorem Vals.dropLast{xs:List V}{us:%[|7]}(h:Vals xs us):Vals xs.dropLast us.dropLast:=by
 induction h with
 | nil=>exact .nil
 | cons r t ih=>
   cases t with
   | nil=>exact .nil
   | cons q t'=>exact .cons r ih
theorem Vals.rep{xs:List V}{us:%[|7]}(h:Vals xs us):∀k:Nat,Vals (List.replicate k xs).flatten (List.replicate k us).flatten
 | 0=>.nil
 | k+1=>by
   rw[List.replicate_succ,List.replicate_succ,List.flatten_cons,List.flatten_cons]
   exact Vals.append h (Vals.rep h k)
theorem Hv{α:Type}(l:List α):l.eraseIdx (l.length-1)=l.dropLast:=by
 induction l with
 | nil=>rfl
 | cons a r ih=>
   cases r with
   | nil=>rfl
   | cons b r=>
     have e:(a::b::r).length-1=((b::r).length-1)+1:=by
      have h1:(a::b::r).length=r.length+2:=rfl
      have h2:(b::r).length=r.length+1:=rfl
      omega
     rw[e,List.eraseIdx_cons_succ,ih]
     all_goals rfl
theorem foldl_rep(its:%[|7]):∀(k:Nat)(acc:%[|7]),
 List.foldl (λ x1 x2=>x1++x2) acc.toArray (List.replicate k its.toArray)=(acc++(List.replicate k its).flatten).toArray
 | 0,acc=>by simp
 | k+1,acc=>by
   have e:acc.toArray++its.toArray=(acc++its).toArray:=by simp
   have e2:(acc++its)++(List.replicate k its).flatten=acc++(List.replicate (k+1) its).flatten:=by
    rw[List.replicate_succ,List.flatten_cons,List.append_assoc]
   rw[←e2,←foldl_rep its k (acc++its),←e,List.replicate_succ,List.foldl_cons]
section
variable {X : Cx} {pins : List (Addr × Obj)} {σ : St} {H : Hp} {s : Shared} {l b : Addr} {xs ys zs : List V}
theorem Inv.lset{its its':%[|7]}{n:Nat}{f:Array Value->Array Value}{t':Nat}(I:%[|6])(hH:H l=some (.lst xs))
 (e:s.heap.get? l=some {cls:=.type "list",data:=.seq its.toArray n})(hf:f its.toArray=its'.toArray)(hv:Vals ys its')(hz:ys.length≤sizeLine):
 Inv X pins σ (upd H l (.lst ys)) {s with heap:=s.heap.update l (Obj.mapSeq f),toks:=t'}:=by
 have q:=PySem.IsL.update e f
 rw[hf]at q
 refine I.write (x:=l) (e:=l) (by rw[hH];exact trivial) (.inl rfl) (λ b' u hb hu=>(Heap.get?_update_other s.heap (Obj.mapSeq f) (Ne.symm hb)).trans hu) ⟨_,q⟩ ?_
 exact⟨hz,its',_,hv,q⟩
theorem Inv.lnew{its:%[|7]}{t':Nat}(I:%[|6])(hv:Vals ys its)(hz:ys.length≤sizeLine):
 Inv X pins σ (upd H s.heap.objs.size (.lst ys)) {s with heap:=s.heap.push {cls:=.type "list",data:=.seq its.toArray},toks:=t'}:=
 I.laid (λ _ _ q=>ZC _ q) (x6 _) ⟨hz,its,0,hv,%[|19]⟩
theorem Inv.fresh(I:%[|6]):H s.heap.objs.size=none:=I.hok.fresh (x6 _)
theorem Inv.lstM(I:%[|6])(hH:H l=some (.lst xs)):xs.length≤sizeLine/\∃(its:%[|7]) (n:Nat),Vals xs its/\xs.length=its.length/\s.heap.get? l=some {cls:=.type "list",data:=.seq its.toArray n}:=by
 obtain⟨z,its,n,r,e⟩:=I.hok l _ hH
 exact⟨z,its,n,r,r.length,e⟩
theorem LC{n:Nat}(h:n≤sizeLine):Builtin.List.listTooLong n=false:=by
 unfold Builtin.List.listTooLong
 exact ZH %[|0]
end
section
variable {X : Cx}
def Qv:V->List V->Hp->VK->Prop:=λ x vs H Q=>∃l xs y,x=.ref l/\vs=[y]/\H l=some (.lst xs)/\xs.length<sizeLine/\Q .non (upd H l (.lst (xs++[y])))
theorem vX:MtM X "list.append" Qv:=by
 intro pins s σ H x vs v us Q I rx rv h
 obtain⟨l,xs,y,rfl,rfl,hH,hz,q⟩:=h
 cases rx
 obtain⟨u,rfl,ru⟩:=rv.one
 obtain⟨z,its,n,r,hl,e⟩:=I.lstM hH
 refine call_meets F.slot_list_append ⟨_,e,rfl⟩ F.entry_list_append (F.args_list_append_2 _ _) (PySem.list_append l its.toArray n u (by rw[x9];omega)) ⟨e,?_⟩
 refine⟨.non,_,I.lset (its':=its++[u]) hH e (by simp) (r.append (.cons ru .nil)) ?_,rfl,q⟩
 rw[List.length_append,List.length_singleton]
 omega
def XN:V->List V->Hp->VK->Prop:=λ x vs H Q=>∃l xs y,x=.ref l/\vs=[]/\H l=some (.lst xs)/\xs[xs.length-1]? =some y/\Q y (upd H l (.lst xs.dropLast))
theorem VB:MtM X "list.pop" XN:=by
 intro pins s σ H x vs v us Q I rx rv h
 obtain⟨l,xs,y,rfl,rfl,hH,hy,q⟩:=h
 cases rx
 have hus:=rv.zero
 subst hus
 obtain⟨z,its,n,r,hl,e⟩:=I.lstM hH
 obtain⟨u,hu,ru⟩:=r.get hy
 have hy':its.toArray[its.toArray.size-1]? =some u:=by
  show its.toArray[its.length-1]? =some u
  rw[←Array.getElem?_toList,←hl]
  exact hu
 refine call_meets F.slot_list_pop ⟨_,e,rfl⟩ F.entry_list_pop (F.args_list_pop_1 _) (MeetsSeq.list_pop_last l its.toArray n u hy' (by rw[x9];omega)) ⟨e,?_⟩
 refine⟨y,_,I.lset (its':=its.dropLast) hH e ?_ r.dropLast ?_,ru,q⟩
 . show its.toArray.eraseIdxIfInBounds (its.toArray.size-1)=its.dropLast.toArray
   rw[x9,List.eraseIdxIfInBounds_toArray,Hv]
 . rw[List.length_dropLast]
   omega
theorem len_rep{α:Type}(xs:List α)(k:Nat):(List.replicate k xs).flatten.length=k*xs.length:=by
 induction k with
 | zero=>simp
 | succ k ih=>rw[List.replicate_succ,List.flatten_cons,List.length_append,ih,Nat.succ_mul,Nat.add_comm]
end
end L2
namespace Att
open PySem PySem.W PySem.Calls PyProof.Rows
theorem sS{P:Params}{h:Heap}:∀(ns:%[|3])(vs:%[|7]),WellAll P h vs (ns.map WData.int)->IntsAre vs ns:=by
 intro ns
 induction ns with
 | nil=>
   intro vs w
   rw[List.map_nil]at w
   cases w
   exact .nil
 | cons n ns ih=>
   intro vs w
   rw[List.map_cons]at w
   cases w with
   | cons a b=>
     cases a
     exact .cons _ _ (ih _ b)
theorem Iw{l:OpenLaw}{n:Nat}(hn:l.most=some n){P:Params}{h:Heap}{args:List WData}{vals:%[|7]}
 (hpre:l.row.toRowW.claim.pre args=true)(hwl:WellAll P h vals args):
 ∃a vs ns,vals=[Value.ref a]/\args=[WData.list (ns.map WData.int)]/\h.get? a=some {cls:=.type "list",data:=.seq vs.toArray}/\IntsAre vs ns/\ns.length≤n:=by
 have hsh:WShape.hasAll [] args [.list .int]=true:=(pre_splitW hpre).1
 have hc:l.pre.holds [] {args:=args}=true:=(pre_splitW hpre).2
 obtain⟨d,r,rfl,h1,h2⟩:=hasAllW_cons hsh
 obtain rfl:=hasAllW_nil h2
 obtain⟨xs,rfl,h3⟩:=hasW_list h1
 obtain⟨ns,rfl⟩:=items_int h3
 have hlen:ns.length≤n:=by
  unfold OpenLaw.pre at hc
  have h4:(WTm.not (.lt (.lit (.int (n:Int))) (.len (.arg 0)))).holds [] {args:=[.list (ns.map .int)]}=true:=by
   have h4:=(holds_andW hc).1
   rw[hn]at h4
   exact h4
  have h5:=condW_of h4 (w_not (w_lt w_lit (w_len_list (w_arg rfl))))
  rw[y8]at h5
  refine Nat.le_of_not_lt λ q=>?_
  have q':(n:Int)<((ns.length:Nat):Int):=%[|0]
  first
   | (rw[ZG q']at h5;exact absurd h5 %[|2])
   | (simp at h5;omega)
 cases hwl with
 | cons w1 w2=>
   cases w2
   cases w1 with
   | list ho hall=>exact⟨_,_,ns,rfl,rfl,ho,sS ns _ hall,hlen⟩
theorem J9(l:OpenLaw)(args:List WData):l.row.toRowW.claim.post args (.bool true) args=true:=
 postW_of (r:=l.row.toRowW) (X:=(true==true))
  (show WShape.has [] (.bool true) .bool=true by first | rfl | decide | simp[WShape.has,WShape.arms,WShape.armsAll])
  (show(WTm.eq .res (.lit (.bool true))).value [] {args:=args,res:=some (.bool true),after:=args}=some (.bool (true==true))from w_eq_bool (w_res rfl) w_lit) rfl
theorem attach_call{l:OpenLaw}{n:Nat}{q:Program}{loose:%[|1]}{XP:%[|15]->Heap->Prop}{YP:World->Heap->Prop}{d:DefRec}
 (hn:l.most=some n)(hdf:d.params.defaults=[])
 (call:∀(w:World)(s₀ s₁:Shared)(mg mb:%[|15])(fa:Addr)(o:Obj)(pm cd doc:Value)(a:Addr)(vs:%[|7])(ns:%[|3]),
  Ground q loose [] XP w s₀ mg mb s₁.heap->YP w s₁.heap->
  s₁.heap.get? fa=some o->o.data=.func (docDef d.name d.params d.body d.scope pm cd doc)->s₁.heap.CodeRec cd d.name->mg d.name=some (.ref fa)->
  s₁.heap.get? a=some {cls:=.type "list",data:=.seq vs.toArray}->IntsAre vs ns->ns.length≤n->s₁.gens=#[]->
  codeAny (model l.prog w) callerA (.call (.ref fa) ⟨[.ref a],[]⟩) (λ r s'=>r=.ok (.ret (.bool true))/\OldK s₁.heap s'.heap/\s'.os=s₁.os/\AllBare s'.gens) s₁):
 WalkO q loose XP YP l.row.toRowW d [] (λ f vs=>PySem.call f vs):=by
 intro w s₀ s₁ mg mb G Y fa o pm cd doc dV kV ho hd hcd hD hmg hg args vals as hpre hlay hrd hwl hlo
 obtain rfl:dV=.none:=Dflts.none hD hdf
 obtain rfl:kV=.none:=Dflts.noKw hD
 obtain⟨a,vs,ns,rfl,rfl,hobj,hints,hlen⟩:=Iw hn hpre hwl
 refine enter_call (codeAny_mono (call w s₀ s₁ mg mb fa o pm cd doc a vs ns G Y ho (fd_plain hd) hcd hmg hobj hints hlen hg) λ r s' hq=>?_)
 obtain⟨rfl,h2,h3,h4⟩:=hq
 exact⟨.inl ⟨.bool true,.bool true,[],rfl,λ _=>rfl,.bool true,J9 l _,λ _=>⟨List.Pairwise.nil,λ _ hm=>(nomatch hm)⟩⟩,h2,h3,h4⟩
end Att
namespace L2
open PySem PySem.Spec PyProof.Rows
theorem wz:∀{vs:%[|7]}{ns:%[|3]},IntsAre vs ns->Vals (ns.map V.int) vs
 | _,_,.nil=>.nil
 | _,_,.cons n t h=>.cons ⟨t,rfl⟩ (wz h)
def Only(H:Hp):Prop:=∀b,H b=none∨∃o xs,H b=some (.frz o (.lst xs))
theorem M3{P:Program}{w:World}{K:PySem.W.Frag}{mg mb:%[|15]}{CX:CXT}{k:Nat}{fa a:Addr}{fd:FuncData}{x:Str}{sp:Sp}{s₁:Shared}{vs:%[|7]}{ns:%[|3]}
 (KX:K.In s₁.heap)(hns:s₁.heap.Ns mainGlobals mg)(hb:s₁.heap.Ns builtinsNs mb)(hbb:∀x:Str,x≠"__name__"->mb x=bootBuiltins x)(hlim:s₁.heap.NoLimit)(hg:s₁.gens=#[])
 (ha:s₁.heap.get? a=some {cls:=.type "list",data:=.seq vs.toArray})(hi:IntsAre vs ns)(hl:ns.length≤sizeLine)(hr:Room k callerA)
 (F:∀base:Heap,K.In base->base.Ns mainGlobals mg->FnOk P w K mg base CX k fa fd [x] sp)(hbind:∀(s:Shared)(u:Value),BindsTo s fd ⟨[u],[]⟩ [(x,u)])
 (hsp:∀H:Hp,Only H->SqL K H a (ns.map V.int)->sp [.ref a] H (λ v _=>v=.bl true) λ _ _ _=>False)
 (hCX:∀H e s',CX [] H s₁ (λ _ _ _=>False) e s'->False):
 codeAny (model P w) callerA (.call (.ref fa) ⟨[.ref a],[]⟩) (λ r s'=>r=.ok (.ret (.bool true))/\OldK s₁.heap s'.heap/\s'.os=s₁.os/\AllBare s'.gens) s₁:=by
 have rv:=wz hi
 have lenV:=hi.length
 have core:∀H:Hp,Only H->SqL K H a (ns.map V.int)->HOk P w H s₁.heap->(∀b,H b≠none->b=a)->(H a≠none->K.lookup a=none)->
  codeAny (model P w) callerA (.call (.ref fa) ⟨[.ref a],[]⟩) (λ r s'=>r=.ok (.ret (.bool true))/\OldK s₁.heap s'.heap/\s'.os=s₁.os/\AllBare s'.gens) s₁:=by
  intro H hO hS hok hA hK
  have base_of:∀{b:Addr}{o:Obj},s₁.heap.get? b=some o->H b=none->(lM s₁.heap H).get? b=some o:=λ e n=>NT e n
  have noA:∀{b:Addr}{o:Obj}{es:Array DictEntry}{ep:Nat},s₁.heap.get? b=some o->o.data=.dict es ep->H b=none:=λ{b o es ep} e d=>by
   cases q:H b with
   | none=>rfl
   | some u=>
     have e':b=a:=hA b (by rw[q];simp)
     subst e'
     rw[ha]at e;cases e
     have d':Data.seq vs.toArray _=Data.dict es ep:=d
     cases d'
  have nsK:∀{b:Addr}{m:%[|15]},s₁.heap.Ns b m->(lM s₁.heap H).Ns b m:=λ{b m} ⟨o,es,ep,e,d,r⟩=>⟨o,es,ep,base_of e (noA e d),d,r⟩
  have hKb:K.In (lM s₁.heap H):=λ b o e=>base_of (KX b o e) (by
   cases q:H b with
   | none=>rfl
   | some u=>
     have e':b=a:=hA b (by rw[q];simp)
     subst e'
     rw[hK (by rw[q];simp)]at e;cases e)
  have hM:Mod K mg (lM s₁.heap H):=⟨hKb,nsK hns,⟨mb,nsK hb,hbb⟩,let ⟨mc,h1,h2⟩:=hlim;⟨mc,nsK h1,h2⟩⟩
  have e0:Env0 P w K mg (lM s₁.heap H) callerA [] s₁ H:=⟨rfl,hM,λ b o e=>RN e,Nat.le_of_eq (Km _ _),trivial,λ b hb=>absurd (show b∈([]:List Addr)from hb) (by simp),hok,.of_eq hg⟩
  refine codeAny_mono ((F _ hKb (nsK hns)).run callerA [] s₁ H ⟨[.ref a],[]⟩ [.ref a] [.ref a] _ _ hr e0 (hbind s₁ (.ref a)) (.cons rfl .nil) (hsp H hO hS)) λ r s' h=>?_
  cases r with
  | error e=>exact(hCX H e s' h).elim
  | ok fl =>
    cases fl with
    | next=>exact False.elim h
    | brk=>exact False.elim h
    | cont=>exact False.elim h
    | ret u=>
      obtain⟨v,H',os,bare,un,hok',r',q⟩:=h
      have q':v=.bl true:=q
      subst q'
      obtain rfl:u=Value.bool true:=r'
      refine⟨rfl,OldK.of_keep λ b o e=>?_,os,bare⟩
      cases q:H b with
      | none=>exact un.keep b o e q (by intro z;exact absurd (show b∈([]:List Addr)from z) (by simp)) (by simp)
      | some u=>
        rcases hO b with z | ⟨ob,xs,z⟩
        . rw[q]at z;cases z
        . have z2:=un.frzs b ob _ z
          obtain⟨e1,_⟩:=hok b _ z
          obtain⟨e2,_⟩:=hok' b _ z2
          rw[e]at e1;cases e1
          exact e2
 cases hk:K.lookup a with
 | some o=>
   have e:=KX a o hk
   rw[ha]at e
   cases e
   refine core (λ _=>none) (λ _=>.inl rfl) (.inr ⟨_,vs.toArray,_,hk,rfl,rfl,rfl,by rw[x9,lenV];exact hl,by simpa using rv⟩) (λ b u z=>by have z':(none:Option HO)=some u:=z;cases z') (λ b z=>absurd rfl z) λ z=>absurd rfl z
 | none=>
   refine core (λ b=>if b=a then some (.frz {cls:=.type "list",data:=.seq vs.toArray} (.lst (ns.map V.int)))else none) (λ b=>?_) (.inl (.inr ⟨{cls:=.type "list",data:=.seq vs.toArray},if_pos rfl⟩)) (λ b u z=>?_) (λ b z=>?_) λ _=>hk
   . by_cases hb:b=a
     . exact .inr ⟨_,_,if_pos hb⟩
     . exact .inl (if_neg hb)
   . by_cases hb:b=a
     . have z':=(if_pos hb).symm.trans z
       cases z'
       subst hb
       exact⟨ha,by rw[y8];exact hl,vs,_,rv,ha⟩
     . have z':=(if_neg hb).symm.trans z
       cases z'
   . by_cases hb:b=a
     . exact hb
     . exact absurd (if_neg hb) z
abbrev KOf{K:PySem.W.Frag}{h:Heap}(_:K.In h):PySem.W.Frag:=K
theorem walk_of{l:PySem.W.OpenLaw}{n k:Nat}{q:Program}{loose:%[|1]}{XP:%[|15]->Heap->Prop}{YP:World->Heap->Prop}{d:DefRec}{K:Params->PySem.W.Frag}{CX:World->CXT}{sp:World->Sp}{x:Str}
 (hn:l.most=some n)(hn2:n≤sizeLine)(hdf:d.params.defaults=[])(hr:Room k callerA)
 (hY:∀(w:World)(h:Heap),YP w h->(K w.params).In h)
 (F :∀(w:World)(mg:%[|15])(fa:Addr)(h:Heap),(K w.params).In h->h.Ns mainGlobals mg->mg d.name=some (.ref fa)->
  ∃ fd:FuncData,(∀(s:Shared)(u:Value),BindsTo s fd ⟨[u],[]⟩ [(x,u)])/\
    ∀base:Heap,(K w.params).In base->base.Ns mainGlobals mg->FnOk l.prog w (K w.params) mg base (CX w) k fa fd [x] (sp w))
 (hsp:∀(w:World)(H:Hp)(a:Addr)(ns:%[|3]),ns.length≤n->Only H->SqL (K w.params) H a (ns.map V.int)->sp w [.ref a] H (λ v _=>v=.bl true) λ _ _ _=>False)
 (hCX:∀(w:World)(H:Hp)(s:Shared)(e:Value)(s':Shared),CX w [] H s (λ _ _ _=>False) e s'->False):
 PySem.W.WalkO q loose XP YP l.row.toRowW d [] (λ f vs=>PySem.call f vs):=by
 refine Att.attach_call hn hdf λ w s₀ s₁ mg mb fa o pm cd doc a vs ns G Y ho hd hcd hmg hobj hints hlen hg=>?_
 have KX:=hY w _ Y
 obtain⟨fd,hb,hF⟩:=F w mg fa _ KX G.T.g hmg
 exact M3 KX G.T.g G.T.b G.T.builtins G.T.nolimit hg hobj hints (Nat.le_trans hlen hn2) hr hF hb (λ H hO hS=>hsp w H a ns hlen hO hS) λ H e s'=>hCX w H s₁ e s'
def fL(s:Stmt):Arguments:=match s with
 | .FunctionDef _ a _ _ _ _ _ _ _ _=>a
 | _=>{posonlyargs:=[],args:=[],vararg:=none,kwonlyargs:=[],kw_defaults:=[],kwarg:=none,defaults:=[]}
def bM(s:Stmt):List Stmt:=match s with
 | .FunctionDef _ _ b _ _ _ _ _ _ _=>b
 | _=>[]
def aq(s:Stmt):Scope:=match s with
 | .FunctionDef _ _ _ _ _ _ sc _ _ _=>sc
 | _=>{kind:=.function,names:=[],isGenerator:=false,isCoroutine:=false}
abbrev CX0:CXT:=λ _ _ _ _ _ _=>False
abbrev E0:XK:=λ _ _ _=>False
theorem W8{X:Cx}:Lr CX0 X E0:=λ _ _ _ _ _ _ _ h=>h.elim
structure Fun(K:PySem.W.Frag)(x qual:Str)(st:Stmt)(f:Addr)(fd:FuncData):Prop where
 ex:∃(oc:Value) (od:Option Addr) (kV doc pm:Value) (an:Option Addr) (cdv ct:Value) (osl:Array %[|27]),
  fd=PySem.W.fnOf x qual (fL st) (bM st) (aq st) .none kV doc pm an cdv ct/\K.lookup f=some ⟨oc,od,.func fd,osl⟩/\PySem.W.codeIn K cdv qual=true
 kp:PySem.W.keepIn K (.ref f)=true
section
variable {P : Program} {w : World} {K : PySem.W.Frag} {mg : Str -> %[|27]} {base : Heap}
theorem Fun.binds{x qual:Str}{st:Stmt}{f:Addr}{fd:FuncData}{ps:%[|1]}(F:Fun K x qual st f fd)
 (h:∀(kV doc pm:Value)(an:Option Addr)(cdv ct:Value)(us:%[|7]),us.length=ps.length->bindArgs (PySem.W.fnOf x qual (fL st) (bM st) (aq st) .none kV doc pm an cdv ct) ⟨us,[]⟩=pure (ps.zip us)):Binds K fd ps []:=by
 obtain⟨oc,od,kV,doc,pm,an,cdv,ct,osl,rfl,lk,hcd⟩:=F.ex
 exact .all (h kV doc pm an cdv ct)
theorem JF{x qual:Str}{st:Stmt}{f:Addr}{oc:Value}{od an:Option Addr}{osl:Array %[|27]}{kV doc pm cdv ct:Value}(l:K.lookup f=some ⟨oc,od,.func (PySem.W.fnOf x qual (fL st) (bM st) (aq st) .none kV doc pm an cdv ct),osl⟩)
 (c:PySem.W.codeIn K cdv qual=true)(k:PySem.W.keepIn K (.ref f)=true):Fun K x qual st f (PySem.W.fnOf x qual (fL st) (bM st) (aq st) .none kV doc pm an cdv ct):=⟨⟨oc,od,kV,doc,pm,an,cdv,ct,osl,rfl,l,c⟩,k⟩
end
def bB(H H':Hp):Prop:=∀b o,H b=some o->H' b=some o
theorem bB.refl(H:Hp):bB H H:=λ _ _ h=>h
end L2
set_option maxHeartbeats 4000000
namespace DL
open PySem PySem.Spec L2
open PyProof.Rows
variable {a p : Addr} {K : PySem.W.Frag} {O O' : Own} {H H' : Hp} {xs : List V} {S : Store}
abbrev St:=L2.St
inductive D where
 | non | bl(b:Bool) | int(i:Int) | str(x:Str) | tup(ds:List D) | lst(ds:List D) | loc(k:Nat) | dic | dlo(k:Nat)
abbrev Store:=List (List D)
abbrev Gam:=List (Option D)
structure Own where
 A:List (Addr×Bool)
 B:List Addr
abbrev adr(A:List (Addr×Bool)):List Addr:=A.map Prod.fst
theorem dO{A:List (Addr×Bool)}{k:Nat}{q:Bool}(h:A[k]? =some (a,q)):a∈adr A:=ZO.mpr ⟨_,y6 h,rfl⟩
theorem eN(A N:List (Addr×Bool)):adr (A++N)=adr A++adr N:=List.map_append
abbrev Own.has(O:Own)(a:Addr):Prop:=a∈adr O.A∨a∈O.B
def Tp(K:PySem.W.Frag)(O:Own)(H:Hp)(a:Addr)(xs:List V):Prop:=¬O.has a/\H a=some (.tup xs)
def Ls(K:PySem.W.Frag)(O:Own)(H:Hp)(a:Addr)(xs:List V):Prop:=(¬O.has a/\Rd H a (.lst xs))∨SqL K (λ _=>none) a xs
theorem Tp.sq(h:Tp K O H a xs):SqT K H a xs:=.inl (.inl h.2)
theorem Ls.sq(h:Ls K O H a xs):SqL K H a xs:=by
 rcases h with⟨_,h⟩ | (h | h)
 . exact .inl h
 . rcases h with h | ⟨_,h⟩<;>cases h
 . exact .inr h
def Abv(K:PySem.W.Frag)(a:Addr):Prop:=∀c o,K.lookup c=some o->c<a
mutual
inductive Rep(K:PySem.W.Frag)(O:Own)(H:Hp):V->D->Prop
 | non:Rep K O H .non .non
 | bl(b:Bool):Rep K O H (.bl b) (.bl b)
 | int(i:Int):Rep K O H (.int i) (.int i)
 | str(x:Str):Rep K O H (.str x) (.str x)
 | tup{a:Addr}{xs:List V}{ds:List D}(h:Tp K O H a xs)(r:Reps K O H xs ds):Rep K O H (.ref a) (.tup ds)
 | lst{a:Addr}{xs:List V}{ds:List D}(h:Ls K O H a xs)(r:Reps K O H xs ds):Rep K O H (.ref a) (.lst ds)
 | loc{a:Addr}{k:Nat}(h:O.A[k]? =some (a,false)):Rep K O H (.ref a) (.loc k)
 | dlo{a:Addr}{k:Nat}(h:O.A[k]? =some (a,true))(n:Abv K a):Rep K O H (.ref a) (.dlo k)
 | dic{a:Addr}(h:¬O.has a)(e:H a=some (.dK [])):Rep K O H (.ref a) .dic
inductive Reps(K:PySem.W.Frag)(O:Own)(H:Hp):List V->List D->Prop
 | nil:Reps K O H [] []
 | cons{v:V}{d:D}{vs:List V}{ds:List D}(r:Rep K O H v d)(t:Reps K O H vs ds):Reps K O H (v::vs) (d::ds)
end
structure Step(O O':Own)(H H':Hp):Prop where
 kept:∀b o,b∉adr O.A->H b=some o->H' b=some o
 dom:∀b,H b≠none->H' b≠none
 ext:∃N,O'.A=O.A++N/\∀b∈adr N,H b=none
 hid:O'.B=O.B
theorem Step.refl(O:Own)(H:Hp):Step O O H H:=⟨λ _ _ _ h=>h,λ _ h=>h,⟨[],by simp,λ _ h=>nomatch h⟩,rfl⟩
theorem Step.trans{O1 O2:Own}{H1 H2:Hp}(a:Step O O1 H H1)(b:Step O1 O2 H1 H2):Step O O2 H H2:=by
 obtain⟨N1,e1,f1⟩:=a.ext
 obtain⟨N2,e2,f2⟩:=b.ext
 refine⟨λ c o hc h=>b.kept c o (λ z=>?_) (a.kept c o hc h),λ c h=>b.dom c (a.dom c h),⟨N1++N2,by rw[e2,e1,List.append_assoc],λ c hc=>?_⟩,b.hid.trans a.hid⟩
 . rw[e1,eN]at z
   rcases ZK.mp z with z | z
   . exact hc z
   . rw[f1 c z]at h;cases h
 . rw[eN]at hc
   rcases ZK.mp hc with z | z
   . exact f1 c z
   . cases q:H c with
     | none=>rfl
     | some o=>exact absurd (f2 c z) (a.dom c (by rw[q];simp))
theorem Step.nothas(s:Step O O' H H'){a:Addr}(h:¬O.has a)(t:H a≠none):¬O'.has a:=by
 obtain⟨N,e,f⟩:=s.ext
 rintro(z | z)
 . rw[e,eN]at z
   rcases ZK.mp z with z | z
   . exact h (.inl z)
   . exact t (f a z)
 . rw[s.hid]at z;exact h (.inr z)
structure Conv(O O':Own)(H H':Hp):Prop where
 tr:∀a u,¬O.has a->H a=some u->¬O'.has a/\H' a=some u
 lc:∀(k:Nat)(a:Addr×Bool),O.A[k]? =some a->O'.A[k]? =some a
theorem Step.conv(s:Step O O' H H'):Conv O O' H H':=
 ⟨λ a u h t=>⟨s.nothas h (by rw[t];simp),s.kept a u (λ z=>h (.inl z)) t⟩,λ k a h=>by
  obtain⟨N,e,_⟩:=s.ext
  rw[e,List.getElem?_append_left (y3.mp h).1];exact h⟩
theorem Rd.conv(s:Conv O O' H H'){a:Addr}{u:HO}(h:¬O.has a)(r:Rd H a u):¬O'.has a/\Rd H' a u:=by
 rcases r with r | ⟨o,r⟩
 . obtain⟨x,y⟩:=s.tr a _ h r
   exact⟨x,.inl y⟩
 . obtain⟨x,y⟩:=s.tr a _ h r
   exact⟨x,.inr ⟨o,y⟩⟩
theorem Tp.conv(h:Tp K O H a xs)(s:Conv O O' H H'):Tp K O' H' a xs:=s.tr a _ h.1 h.2
theorem Ls.conv(h:Ls K O H a xs)(s:Conv O O' H H'):Ls K O' H' a xs:=by
 rcases h with⟨n,r⟩ | h
 . exact .inl (Rd.conv s n r)
 . exact .inr h
mutual
theorem Rep.conv{K:PySem.W.Frag}{O O':Own}{H H':Hp}(s:Conv O O' H H'):∀{v:V}{d:D},Rep K O H v d->Rep K O' H' v d
 | _,_,.non=>.non
 | _,_,.bl b=>.bl b
 | _,_,.int i=>.int i
 | _,_,.str x=>.str x
 | _,_,.tup h r=>.tup (h.conv s) (Reps.conv s r)
 | _,_,.lst h r=>.lst (h.conv s) (Reps.conv s r)
 | _,_,.loc h=>.loc (s.lc _ _ h)
 | _,_,.dlo h n=>.dlo (s.lc _ _ h) n
 | _,_,.dic h e=>.dic (s.tr _ _ h e).1 (s.tr _ _ h e).2
theorem Reps.conv{K:PySem.W.Frag}{O O':Own}{H H':Hp}(s:Conv O O' H H'):∀{vs:List V}{ds:List D},Reps K O H vs ds->Reps K O' H' vs ds
 | _,_,.nil=>.nil
 | _,_,.cons r t=>.cons (Rep.conv s r) (Reps.conv s t)
end
theorem Rep.mono{v:V}{d:D}(h:Rep K O H v d)(s:Step O O' H H'):Rep K O' H' v d:=h.conv s.conv
theorem Reps.mono{v:List V}{d:List D}(h:Reps K O H v d)(s:Step O O' H H'):Reps K O' H' v d:=h.conv s.conv
abbrev Own.hide(O:Own)(p:Addr):Own:=⟨O.A,p::O.B⟩
theorem Conv.hide(h:H p=none)(o:HO):Conv O (O.hide p) H (upd H p o):=
 ⟨λ a u n t=>by
  have ne:a≠p:=aC t h
  refine⟨λ z=>?_,by rw[ao ne];exact t⟩
  rcases z with z | z
  . exact n (.inl z)
  . rcases ZJ.mp z with z | z
    . exact ne z
    . exact n (.inr z),λ _ _ h=>h⟩
theorem Conv.unhide{A:List (Addr×Bool)}{B:List Addr}:Conv ⟨A,p::B⟩ ⟨A,B⟩ H H:=
 ⟨λ a u n t=>⟨λ z=>n (z.elim .inl λ z=>.inr (x8 _ z)),t⟩,λ _ _ h=>h⟩
theorem Conv.updHid(h:p∈O.B)(o:HO):Conv O O H (upd H p o):=
 ⟨λ a u n t=>⟨n,by rw[ao (λ e=>n (.inr (by rw[e];exact h)))];exact t⟩,λ _ _ h=>h⟩
theorem Reps.length{K:PySem.W.Frag}{O:Own}{H:Hp}:∀{vs:List V}{ds:List D},Reps K O H vs ds->vs.length=ds.length
 | _,_,.nil=>rfl
 | _,_,.cons _ t=>by simp[Reps.length t]
theorem Reps.get{K:PySem.W.Frag}{O:Own}{H:Hp}:∀{vs:List V}{ds:List D}{i:Nat}{d:D},Reps K O H vs ds->ds[i]? =some d->∃v,vs[i]? =some v/\Rep K O H v d
 | _,_,_,_,.nil,e=>by simp at e
 | _,_,0,_,.cons r _,e=>by simp at e;subst e;exact⟨_,rfl,r⟩
 | _,_,i+1,d,.cons _ t,e=>by
   obtain⟨v,h1,h2⟩:=Reps.get (i:=i) (d:=d) t (by simpa using e)
   exact⟨v,by simpa using h1,h2⟩
theorem Reps.append{K:PySem.W.Frag}{O:Own}{H:Hp}:∀{vs ws:List V}{ds es:List D},Reps K O H vs ds->Reps K O H ws es->Reps K O H (vs++ws) (ds++es)
 | _,_,_,_,.nil,s=>s
 | _,_,_,_,.cons r t,s=>.cons r (Reps.append t s)
theorem Reps.take{K:PySem.W.Frag}{O:Own}{H:Hp}:∀{vs:List V}{ds:List D}(n:Nat),Reps K O H vs ds->Reps K O H (vs.take n) (ds.take n)
 | _,_,0,_=>.nil
 | _,_,_+1,.nil=>.nil
 | _,_,n+1,.cons r t=>.cons r (Reps.take n t)
theorem Reps.drop{K:PySem.W.Frag}{O:Own}{H:Hp}:∀{vs:List V}{ds:List D}(n:Nat),Reps K O H vs ds->Reps K O H (vs.drop n) (ds.drop n)
 | _,_,0,r=>r
 | _,_,_+1,.nil=>.nil
 | _,_,n+1,.cons _ t=>Reps.drop n t
theorem Reps.set{K:PySem.W.Frag}{O:Own}{H:Hp}{v:V}{d:D}(r:Rep K O H v d):∀{vs:List V}{ds:List D}(i:Nat),Reps K O H vs ds->Reps K O H (vs.set i v) (ds.set i d)
 | _,_,_,.nil=>.nil
 | _,_,0,.cons _ t=>.cons r t
 | _,_,i+1,.cons q t=>.cons q (Reps.set r i t)
theorem Reps.ints{K:PySem.W.Frag}{O:Own}{H:Hp}:∀{vs:List V}{ns:%[|3]},Reps K O H vs (ns.map D.int)->vs=ns.map V.int
 | _,[],.nil=>rfl
 | _,_::_,.cons r t=>by cases r;simp[Reps.ints t]
theorem Reps.of_ints{K:PySem.W.Frag}{O:Own}{H:Hp}:∀ns:%[|3],Reps K O H (ns.map V.int) (ns.map D.int)
 | []=>.nil
 | n::ns=>.cons (.int n) (Reps.of_ints ns)
theorem Reps.bools{K:PySem.W.Frag}{O:Own}{H:Hp}:∀{vs:List V}{ns:List Bool},Reps K O H vs (ns.map D.bl)->vs=ns.map V.bl
 | _,[],.nil=>rfl
 | _,_::_,.cons r t=>by cases r;simp[Reps.bools t]
def Xw(ns:%[|3]):List Key:=ns.map Sum.inl
inductive Kps(K:PySem.W.Frag)(O:Own)(H:Hp):List (List Key×V)->List D->Prop
 | nil:Kps K O H [] []
 | cons{ns:%[|3]}{v:V}{d:D}{kvs:List (List Key×V)}{ds:List D}(r:Rep K O H v d)(t:Kps K O H kvs ds):Kps K O H ((Xw ns,v)::kvs) (.tup [.tup (ns.map .int),d]::ds)
theorem Kps.conv{K:PySem.W.Frag}{O O':Own}{H H':Hp}(s:Conv O O' H H'):∀{kvs:List (List Key×V)}{ds:List D},Kps K O H kvs ds->Kps K O' H' kvs ds
 | _,_,.nil=>.nil
 | _,_,.cons r t=>.cons (r.conv s) (Kps.conv s t)
def hC0(c:Int×%[|3]):Int:=reduceHash (Builtin.Tuple.tupleHashOf [hashInt c.1,reduceHash (Builtin.Tuple.tupleHashOf (c.2.map hashInt))])
abbrev Cy:=List ((Int×%[|3])×Addr×Value)
def VD(a:Addr)(ys:Cy)(h:Heap):Prop:=ys.length≤sizeLine/\(a==sysModules)=false/\(ys.map (·.1)).Nodup/\
 ∃o es ep,h.get? a=some o/\o.ExactDict/\o.data=.dict es ep/\es.toList=ys.map λ y=>(⟨hC0 y.1,.ref y.2.1,y.2.2⟩:DictEntry)
inductive Kcs(K:PySem.W.Frag)(O:Own)(H:Hp):Cy->List D->Prop
 | nil:Kcs K O H [] []
 | cons{c:Int×%[|3]}{b:Addr}{u:Value}{v:V}{k d:D}{ys:Cy}{ds:List D}(e:k=.tup [.int c.1,.tup (c.2.map .int)])(rk:Rep K O H (.ref b) k)(rv:RelV v u)(r:Rep K O H v d)(t:Kcs K O H ys ds):Kcs K O H ((c,b,u)::ys) (.tup [k,d]::ds)
theorem Kcs.conv{K:PySem.W.Frag}{O O':Own}{H H':Hp}(s:Conv O O' H H'):∀{ys:Cy}{ds:List D},Kcs K O H ys ds->Kcs K O' H' ys ds
 | _,_,.nil=>.nil
 | _,_,.cons e rk rv r t=>.cons e (rk.conv s) rv (r.conv s) (Kcs.conv s t)
def isO:Option Int->Value->Bool
 | some i,.int j _=>decide (i=j)
 | none,.none=>true
 | _,_=>false
def hO0:Option Int->Int
 | some i=>hashInt i
 | none=>4238894112
abbrev Oy:=List (Option Int×Value)
inductive OEs:List DictEntry->Oy->Prop
 | nil:OEs [] []
 | cons{e:DictEntry}{k:Option Int}{v:Value}{es:List DictEntry}{ys:Oy}(i:isO k e.key=true)(h:e.hash=hO0 k)(q:e.val=v)(t:OEs es ys):OEs (e::es) ((k,v)::ys)
def Uv(a:Addr)(ys:Oy)(h:Heap):Prop:=ys.length≤sizeLine/\(a==sysModules)=false/\(ys.map (·.1)).Nodup/\
 ∃o es ep,h.get? a=some o/\o.ExactDict/\o.data=.dict es ep/\OEs es.toList ys
def oD:Option Int->D
 | some i=>.int i
 | none=>.non
inductive Kos(K:PySem.W.Frag)(O:Own)(H:Hp):Oy->List D->Prop
 | nil:Kos K O H [] []
 | cons{c:Option Int}{u:Value}{v:V}{k d:D}{ys:Oy}{ds:List D}(e:k=oD c)(rv:RelV v u)(r:Rep K O H v d)(t:Kos K O H ys ds):Kos K O H ((c,u)::ys) (.tup [k,d]::ds)
theorem Kos.conv{K:PySem.W.Frag}{O O':Own}{H H':Hp}(s:Conv O O' H H'):∀{ys:Oy}{ds:List D},Kos K O H ys ds->Kos K O' H' ys ds
 | _,_,.nil=>.nil
 | _,_,.cons e rv r t=>.cons e rv (r.conv s) (Kos.conv s t)
abbrev tbD(b:Bool)(l c:Nat)(q:Str)(z:Nat):List D:=[.bl b,.int l,.int c,.str q,.int z,.tup (List.replicate (sizeLine+1) .non)]
def W4(K:PySem.W.Frag)(z a:Addr):Prop:=∃o vs,K.lookup z=some o/\o.data=.fields vs/\vs[11]? =some (.ref a)
def Xj(x:Addr)(q:Str)(h:Heap):Prop:=h.CodeRec (.ref x) q
inductive DOb(K:PySem.W.Frag)(O:Own)(H:Hp)(a:Addr)(ds:List D):Prop
 | t(kvs:List (List Key×V))(e:H a=some (.dT kvs))(r:Kps K O H kvs ds):DOb K O H a ds
 | c(ys:Cy)(n:ys≠[])(e:H a=some (.ext (VD a ys)))(r:Kcs K O H ys ds):DOb K O H a ds
 | o(ys:Oy)(n:ys≠[])(e:H a=some (.ext (Uv a ys)))(r:Kos K O H ys ds):DOb K O H a ds
 | p(ps:Array Value)(n:¬Abv K a)(b:Bool)(l c z:Nat)(q:Str)(k:W4 K z a)(e:H a=some (.tbl ps))(hd:ds=tbD b l c q z)
   (g:(b=false/\ps=#[])∨(b=true/\∃x,ps=#[rawInt l,rawInt c,.ref x]/\¬O.has x/\H x=some (.ext (Xj x q)))):DOb K O H a ds
theorem DOb.move{ds:List D}(s:Conv O O' H H')(b:DOb K O H a ds)(h:∀o,H a=some o->H' a=some o):DOb K O' H' a ds:=by
 cases b with
 | t kvs e r=>exact .t kvs (h _ e) (r.conv s)
 | c ys n e r=>exact .c ys n (h _ e) (r.conv s)
 | o ys n e r=>exact .o ys n (h _ e) (r.conv s)
 | p ps n b l c z q k e hd g=>exact .p ps n b l c z q k (h _ e) hd (g.imp id λ⟨g1,x,g2,g3,g4⟩=>⟨g1,x,g2,s.tr _ _ g3 g4⟩)
theorem DOb.there{ds:List D}(b:DOb K O H a ds):H a≠none:=by
 cases b with
 | t kvs e r=>rw[e];simp
 | c ys n e r=>rw[e];simp
 | o ys n e r=>rw[e];simp
 | p ps n b l c z q k e hd g=>rw[e];simp
structure StOk(K:PySem.W.Frag)(O:Own)(H:Hp)(S:Store):Prop where
 nd:(adr O.A).Nodup
 len:O.A.length=S.length
 obj:∀(k:Nat)(a:Addr)(ds:List D),O.A[k]? =some (a,false)->S[k]? =some ds->∃xs,H a=some (.lst xs)/\Reps K O H xs ds
 dob:∀(k:Nat)(a:Addr)(ds:List D),O.A[k]? =some (a,true)->S[k]? =some ds->DOb K O H a ds
 apart:∀a∈adr O.A,a∉O.B
 hidden:∀b∈O.B,H b≠none
structure EnvOk(K:PySem.W.Frag)(O:Own)(H:Hp)(σ:St)(Γ:Gam):Prop where
 len:σ.length=Γ.length
 at_:∀(i:Nat)(d:D),Γ[i]? =some (some d)->∃v,σ[i]? =some (some v)/\Rep K O H v d
theorem EnvOk.mono{σ:St}{Γ:Gam}(e:EnvOk K O H σ Γ)(s:Step O O' H H'):EnvOk K O' H' σ Γ:=
 ⟨e.len,λ i d h=>let ⟨v,a,b⟩:=e.at_ i d h;⟨v,a,b.mono s⟩⟩
theorem EnvOk.set{σ:St}{Γ:Gam}(e:EnvOk K O H σ Γ){v:V}{d:D}(r:Rep K O H v d)(i:Nat):EnvOk K O H (σ.set i (some v)) (Γ.set i (some d)):=by
 refine⟨by simp[e.len],λ j c h=>?_⟩
 by_cases hj:i=j
 . subst hj
   have hl:i<Γ.length:=by
    have:=(y3.mp h).1
    simpa using this
   rw[List.getElem?_set_self hl]at h
   cases h
   exact⟨v,List.getElem?_set_self (by rw[e.len];exact hl),r⟩
 . rw[List.getElem?_set_ne hj]at h
   rw[List.getElem?_set_ne hj]
   exact e.at_ j c h
theorem StOk.tracked(s:StOk K O H S){a:Addr}(h:O.has a):H a≠none:=by
 rcases h with h | h
 . obtain⟨⟨a',c⟩,hm,rfl⟩:=ZO.mp h
   obtain⟨k,hk⟩:=ZR hm
   have hl:k<S.length:=by rw[←s.len];exact(y3.mp hk).1
   cases c with
   | false=>
     obtain⟨xs,q,_⟩:=s.obj k a' S[k] hk (y4 hl)
     rw[show(a',false).1=a' from rfl,q];simp
   | true=>
     exact(s.dob k a' S[k] hk (y4 hl)).there
 . exact s.hidden a h
theorem Step.fresh(h:H p=none)(o:HO):Step O O H (upd H p o):=
 ⟨λ b u _ q=>by rw[ao (aC q h)];exact q,λ b q=>by
  by_cases e:b=p
  . subst e;rw[aL];simp
  . rw[ao e];exact q,⟨[],by simp,λ _ z=>nomatch z⟩,rfl⟩
theorem Step.same(h:bB H H'):Step O O H H':=
 ⟨λ b o _ q=>h b o q,λ b q=>by
  cases e:H b with
  | none=>exact absurd e q
  | some o=>rw[h b o e];simp,⟨[],by simp,λ _ z=>nomatch z⟩,rfl⟩
theorem bB.fresh(h:H p=none)(o:HO):bB H (upd H p o):=λ b u q=>by rw[ao (aC q h)];exact q
theorem StOk.same(s:StOk K O H S)(h:bB H H'):StOk K O H' S:=
 ⟨s.nd,s.len,λ k a ds e1 e2=>let ⟨xs,q,r⟩:=s.obj k a ds e1 e2;⟨xs,h _ _ q,r.mono (Step.same h)⟩,λ k a ds e1 e2=>(s.dob k a ds e1 e2).move (Step.same h).conv λ o q=>h _ _ q,s.apart,λ b hb=>(Step.same (O:=O) h).dom b (s.hidden b hb)⟩
theorem StOk.fresh_not(s:StOk K O H S){p:Addr}(h:H p=none):¬O.has p:=λ z=>s.tracked z h
theorem StOk.fresh(s:StOk K O H S){p:Addr}(h:H p=none)(o:HO):StOk K O (upd H p o) S:=s.same (bB.fresh h o)
abbrev Own.more(O:Own)(p:Addr)(q:Bool:=false):Own:=⟨O.A++[(p,q)],O.B⟩
theorem Step.own(h:H p=none)(o:HO)(q:Bool:=false):Step O (O.more p q) H (upd H p o):=
 ⟨(Step.fresh (O:=O) h o).kept,(Step.fresh (O:=O) h o).dom,⟨[(p,q)],rfl,λ b z=>by rw[ZL.mp z];exact h⟩,rfl⟩
theorem tK{A:List (Addr×Bool)}{p:Addr×Bool}{k:Nat}{x:Addr×Bool}(h:(A++[p])[k]? =some x):A[k]? =some x∨(k=A.length/\x=p):=by
 by_cases hk:k<A.length
 . rw[List.getElem?_append_left hk]at h;exact .inl h
 . rw[List.getElem?_append_right %[|0]]at h
   have hk0:k-A.length=0:=by
    have:=(y3.mp h).1
    simp at this;omega
   rw[hk0]at h
   exact .inr ⟨%[|0],(Option.some.inj h).symm⟩
theorem J4{A:List (Addr×Bool)}{q:Bool}(h:(adr A).Nodup)(n:p∉adr A):(adr (A++[(p,q)])).Nodup:=by
 rw[eN]
 refine List.nodup_append.mpr ⟨h,by simp,λ a ha b hb e=>?_⟩
 rw[ZL.mp hb]at e;rw[e]at ha;exact n ha
theorem StOk.own(s:StOk K O H S){p:Addr}(h:H p=none){xs:List V}{ds:List D}(r:Reps K O H xs ds):
 StOk K (O.more p) (upd H p (.lst xs)) (S++[ds]):=by
 have st:=Step.own (O:=O) h (.lst xs)
 have np:=s.fresh_not h
 refine⟨J4 s.nd λ z=>np (.inl z),by simp[s.len],λ k a es e1 e2=>?_,λ k a es e1 e2=>?_,λ a ha=>?_,λ b hb=>st.dom b (s.hidden b hb)⟩
 . rcases tK e1 with e1 | ⟨rfl,e⟩
   . have hk:=(y3.mp e1).1
     rw[List.getElem?_append_left (by rw[←s.len];exact hk)]at e2
     obtain⟨ys,q,r'⟩:=s.obj k a es e1 e2
     exact⟨ys,by rw[ao (aC q h)];exact q,r'.mono st⟩
   . cases e
     rw[List.getElem?_append_right (by rw[s.len];exact x6 _),s.len,Nat.sub_self]at e2
     cases e2
     exact⟨xs,aL,r.mono st⟩
 . rcases tK e1 with e1 | ⟨rfl,e⟩
   . have hk:=(y3.mp e1).1
     rw[List.getElem?_append_left (by rw[←s.len];exact hk)]at e2
     exact(s.dob k a es e1 e2).move st.conv λ o q=>by rw[ao (aC q h)];exact q
   . cases e
 . rw[eN]at ha
   rcases ZK.mp ha with z | z
   . exact s.apart a z
   . rw[ZL.mp z];exact λ q=>np (.inr q)
theorem Step.put(h:a∈adr O.A)(o:HO):Step O O H (upd H a o):=
 ⟨λ b u hb q=>by rw[ao (λ e=>hb (by rw[e];exact h))];exact q,λ b q=>by
  by_cases e:b=a
  . subst e;rw[aL];simp
  . rw[ao e];exact q,⟨[],by simp,λ _ z=>nomatch z⟩,rfl⟩
theorem HN{A:List (Addr×Bool)}(nd:(adr A).Nodup){k j:Nat}{a b:Addr}{p q:Bool}(h:A[k]? =some (a,p))(h2:A[j]? =some (b,q))(hj:k≠j):b≠a:=λ e=>hj (by
 have g1:(adr A)[k]? =some a:=by rw[x5,h];rfl
 have g2:(adr A)[j]? =some b:=by rw[x5,h2];rfl
 obtain⟨h1,e1'⟩:=y3.mp g1
 obtain⟨h2,e2'⟩:=y3.mp g2
 exact(List.getElem_inj nd).mp (e1'.trans (e.symm.trans e2'.symm)))
theorem StOk.put(s:StOk K O H S){k:Nat}{a:Addr}(h:O.A[k]? =some (a,false)){xs:List V}{ds:List D}(r:Reps K O H xs ds):
 StOk K O (upd H a (.lst xs)) (S.set k ds):=by
 have st:=Step.put (O:=O) (H:=H) (dO h) (.lst xs)
 refine⟨s.nd,by simp[s.len],λ j b es e1 e2=>?_,λ j b es e1 e2=>?_,s.apart,λ b hb=>st.dom b (s.hidden b hb)⟩
 . by_cases hj:k=j
   . subst hj
     rw[h]at e1;cases e1
     have hl:=(y3.mp e2).1
     rw[List.getElem?_set_self (by simpa using hl)]at e2
     cases e2
     exact⟨xs,aL,r.mono st⟩
   . rw[List.getElem?_set_ne hj]at e2
     obtain⟨ys,q,r'⟩:=s.obj j b es e1 e2
     exact⟨ys,by rw[ao (HN s.nd h e1 hj)];exact q,r'.mono st⟩
 . have hj:k≠j:=λ e=>by subst e;rw[h]at e1;cases e1
   rw[List.getElem?_set_ne hj]at e2
   exact(s.dob j b es e1 e2).move st.conv λ o q=>by rw[ao (HN s.nd h e1 hj)];exact q
theorem StOk.hide(s:StOk K O H S){p:Addr}(h:H p=none)(o:HO):StOk K (O.hide p) (upd H p o) S:=by
 have st:=Step.fresh (O:=O) h o
 refine⟨s.nd,s.len,λ k a ds e1 e2=>?_,λ k a ds e1 e2=>?_,λ a ha z=>?_,λ b hb=>?_⟩
 . obtain⟨xs,q,r⟩:=s.obj k a ds e1 e2
   exact⟨xs,by rw[ao (aC q h)];exact q,r.conv (Conv.hide h o)⟩
 . exact(s.dob k a ds e1 e2).move (Conv.hide h o) λ o q=>by rw[ao (aC q h)];exact q
 . rcases ZJ.mp z with z | z
   . exact s.tracked (.inl ha) (z▸h)
   . exact s.apart a ha z
 . rcases ZJ.mp hb with z | z
   . subst z;rw[aL];simp
   . exact st.dom b (s.hidden b z)
theorem StOk.unhide{A:List (Addr×Bool)}{B:List Addr}(s:StOk K ⟨A,p::B⟩ H S):StOk K ⟨A,B⟩ H S:=
 ⟨s.nd,s.len,λ k a ds e1 e2=>let ⟨xs,q,r⟩:=s.obj k a ds e1 e2;⟨xs,q,r.conv Conv.unhide⟩,λ k a ds e1 e2=>(s.dob k a ds e1 e2).move Conv.unhide λ _ q=>q,λ a ha z=>s.apart a ha (x8 _ z),λ b hb=>s.hidden b (x8 _ hb)⟩
theorem StOk.updHid(s:StOk K O H S){p:Addr}(h:p∈O.B)(o:HO):StOk K O (upd H p o) S:=
 ⟨s.nd,s.len,λ k a ds e1 e2=>by
  obtain⟨xs,q,r⟩:=s.obj k a ds e1 e2
  have ne:a≠p:=λ e=>s.apart a (dO e1) (e▸h)
  exact⟨xs,by rw[ao ne];exact q,r.conv (Conv.updHid h o)⟩,λ k a ds e1 e2=>by
  have ne:a≠p:=λ e=>s.apart a (dO e1) (e▸h)
  exact(s.dob k a ds e1 e2).move (Conv.updHid h o) λ _ q=>by rw[ao ne];exact q,s.apart,λ b hb=>by
  by_cases e:b=p
  . subst e;rw[aL];simp
  . rw[ao e];exact s.hidden b hb⟩
theorem Step.adopt{A:List (Addr×Bool)}(s:Step O ⟨A,O.B⟩ H H')(h:H p=none):Step O ⟨A++[(p,false)],O.B⟩ H H':=by
 obtain⟨N,e,f⟩:=s.ext
 refine⟨s.kept,s.dom,⟨N++[(p,false)],?_,λ b hb=>?_⟩,rfl⟩
 . show A++[(p,false)]=_
   rw[show A=O.A++N from e,List.append_assoc]
 . rw[eN]at hb
   rcases ZK.mp hb with z | z
   . exact f b z
   . rw[ZL.mp z];exact h
theorem Conv.adopt{A:List (Addr×Bool)}{B:List Addr}:Conv ⟨A,p::B⟩ ⟨A++[(p,false)],B⟩ H H:=
 ⟨λ a u n t=>⟨λ z=>n (z.elim (λ z=>(ZK.mp (by rw[←eN];exact z)).elim .inl λ z=>.inr (by rw[ZL.mp z];exact v3)) λ z=>.inr (x8 _ z)),t⟩,
  λ k a h=>by
   show(A++[(p,false)])[k]? =some a
   rw[List.getElem?_append_left (y3.mp h).1];exact h⟩
theorem StOk.adopt{A:List (Addr×Bool)}{B:List Addr}{ds:List D}(s:StOk K ⟨A,p::B⟩ H S)(hp:p∉B)(h:H p=some (.lst xs))(r:Reps K ⟨A,p::B⟩ H xs ds):StOk K ⟨A++[(p,false)],B⟩ H (S++[ds]):=by
 have np:p∉adr A:=λ z=>s.apart p z v3
 have sl:A.length=S.length:=s.len
 refine⟨J4 s.nd np,by simp[sl],λ k a es e1 e2=>?_,λ k a es e1 e2=>?_,λ a ha=>?_,λ b hb=>s.hidden b (x8 _ hb)⟩
 . rcases tK e1 with e1 | ⟨rfl,e⟩
   . have hk:=(y3.mp e1).1
     rw[List.getElem?_append_left %[|0]]at e2
     obtain⟨ys,q,r'⟩:=s.obj k a es e1 e2
     exact⟨ys,q,r'.conv Conv.adopt⟩
   . cases e
     rw[List.getElem?_append_right %[|0],sl,Nat.sub_self]at e2
     cases e2
     exact⟨xs,h,r.conv Conv.adopt⟩
 . rcases tK e1 with e1 | ⟨rfl,e⟩
   . have hk:=(y3.mp e1).1
     rw[List.getElem?_append_left %[|0]]at e2
     exact(s.dob k a es e1 e2).move Conv.adopt λ _ q=>q
   . cases e
 . have ha:a∈adr (A++[(p,false)]):=ha
   rw[eN]at ha
   rcases ZK.mp ha with z | z
   . exact λ q=>s.apart a z (x8 _ q)
   . rw[ZL.mp z];exact hp
theorem Step.inner{A1 A2:List (Addr×Bool)}{B:List Addr}{H1 H2:Hp}(a:Step O ⟨A1,B⟩ H H1)(b:Step ⟨A1,p::B⟩ ⟨A2,p::B⟩ H1 H2)(h:H p=none)(o:HO):Step O ⟨A2,B⟩ H (upd H2 p o):=by
 have b':Step ⟨A1,B⟩ ⟨A2,B⟩ H1 H2:=⟨b.kept,b.dom,b.ext,rfl⟩
 have c:=a.trans b'
 refine⟨λ x u hx t=>?_,λ x t=>?_,c.ext,c.hid⟩
 . rw[ao (aC t h)];exact c.kept x u hx t
 . by_cases e:x=p
   . subst e;rw[aL];simp
   . rw[ao e];exact c.dom x t
end DL
namespace DL
open PySem PySem.Spec L2
open PyProof.Rows
variable {K : PySem.W.Frag} {O : Own} {H : Hp} {x : D} {ds : List D} {i j : Int} {p : Addr} {xs : List V}
abbrev Pins:=%[|13]
abbrev WD:=D->%[|5]
def QG(K:PySem.W.Frag)(O:Own)(H:Hp)(W:WD):VK:=λ v H'=>∃O' d S',W d S'/\Step O O' H H'/\StOk K O' H' S'/\Rep K O' H' v d
def QA(K:PySem.W.Frag)(O:Own)(H:Hp)(W:List D->%[|5]):List V->Hp->Prop:=λ vs H'=>∃O' ds S',W ds S'/\Step O O' H H'/\StOk K O' H' S'/\Reps K O' H' vs ds
def QT(K:PySem.W.Frag)(O:Own)(H:Hp)(W:Bool->%[|5]):Bool->Hp->Prop:=λ b H'=>∃O' S',W b S'/\Step O O' H H'/\StOk K O' H' S'
def Ev(X:Cx)(Γ:Gam)(S:Store)(e:Expr)(W:WD):Prop:=
 ∀ (pins:Pins)(s:Shared)(σ:St)(H:Hp)(O:Own),%[|6]->EnvOk X.K O H σ Γ->StOk X.K O H S->
   wpAny %[|8] X.A (eval e X.env) (EP X pins σ (QG X.K O H W)) X.xe s
def EvA(X:Cx)(Γ:Gam)(S:Store)(es:List Expr)(W:List D->%[|5]):Prop:=
 ∀ (pos:Pos)(pins:Pins)(s:Shared)(σ:St)(H:Hp)(O:Own),%[|6]->EnvOk X.K O H σ Γ->StOk X.K O H S->
   wpAny %[|8] X.A (spliced (backTo pos (starEach es X.env))) (AP X pins σ (QA X.K O H W)) X.xe s
def TsW(X:Cx)(Γ:Gam)(S:Store)(e:Expr)(W:Bool->%[|5]):Prop:=
 ∀ (whole:Sem Value)(pins:Pins)(s:Shared)(σ:St)(H:Hp)(O:Own),%[|6]->EnvOk X.K O H σ Γ->StOk X.K O H S->
   wpAny %[|8] X.A (isTrue e X.env whole) (TP X pins σ (QT X.K O H W)) X.xe s
def Ts(X:Cx)(Γ:Gam)(S:Store)(e:Expr)(W:Bool->%[|5]):Prop:=
 ∀ (pins:Pins)(s:Shared)(σ:St)(H:Hp)(O:Own),%[|6]->EnvOk X.K O H σ Γ->StOk X.K O H S->
   wpAny %[|8] X.A (isTrue e X.env (eval e X.env)) (TP X pins σ (QT X.K O H W)) X.xe s
def OpW(X:Cx)(f:Value->Value->Sem Value)(x y:D)(S:Store)(W:WD):Prop:=
 ∀ (pins:Pins)(s:Shared)(σ:St)(H:Hp)(O:Own)(v w:V)(u u':Value),%[|6]->StOk X.K O H S->Rep X.K O H v x->Rep X.K O H w y->RelV v u->RelV w u'->
   wpAny %[|8] X.A (f u u') (EP X pins σ (QG X.K O H W)) X.xe s
def cW(X:Cx)(f:Value)(ds:List D)(S:Store)(W:WD):Prop:=
 ∀ (pins:Pins)(s:Shared)(σ:St)(H:Hp)(O:Own)(vs:List V)(us:%[|7]),%[|6]->StOk X.K O H S->Reps X.K O H vs ds->Vals vs us->
   wpAny %[|8] X.A (call f us) (EP X pins σ (QG X.K O H W)) X.xe s
abbrev dJ(X:Cx)(op:Operator):=OpW X (binaryOp op)
abbrev bC(X:Cx)(op:CmpOp):=OpW X (compareOp op)
section
variable {X : Cx} {Γ : Gam} {S S1 : Store} {W : WD} {a b e : Expr} {es rest : List Expr} {pos : Pos}
theorem QG.pre{O1:Own}{H1:Hp}(st:Step O O1 H H1){v:V}{H':Hp}(q:QG K O1 H1 W v H'):QG K O H W v H':=by
 obtain⟨O',d,S',w,s',ok,r⟩:=q
 exact⟨O',d,S',w,st.trans s',ok,r⟩
theorem du{pins:Pins}{σ:St}{O1:Own}{H1:Hp}(st:Step O O1 H H1){u:Value}{s':Shared}(q:EP X pins σ (QG X.K O1 H1 W) u s'):EP X pins σ (QG X.K O H W) u s':=by
 obtain⟨v,H',I,r,q⟩:=q
 exact⟨v,H',I,r,q.pre st⟩
theorem PQ{pins:Pins}{σ:St}{O1:Own}{H1:Hp}(st:Step O O1 H H1){W:Bool->%[|5]}{u:Bool}{s':Shared}(q:TP X pins σ (QT X.K O1 H1 W) u s'):TP X pins σ (QT X.K O H W) u s':=by
 obtain⟨H',I,O',S',w,s2,ok⟩:=q
 exact⟨H',I,O',S',w,st.trans s2,ok⟩
theorem Ev.mono{W':WD}(h:Ev X Γ S e W)(k:∀d S',W d S'->W' d S'):Ev X Γ S e W':=λ pins s σ H O I env st=>
 thn %[|16] λ _ _ hq_=>by obtain⟨v,H',I',r,O',d,S',w,q⟩:=hq_;exact⟨v,H',I',r,O',d,S',k d S' w,q⟩
theorem OpW.mono{f:Value->Value->Sem Value}{y:D}{W':WD}(h:OpW X f x y S W)(k:∀d S',W d S'->W' d S'):OpW X f x y S W':=λ pins s σ H O v w u u' I st r1 r2 r3 r4=>
 thn (h pins s σ H O v w u u' I st r1 r2 r3 r4) λ _ _ hq_=>by obtain⟨v,H',I',r,O',d,S',w,q⟩:=hq_;exact⟨v,H',I',r,O',d,S',k d S' w,q⟩
theorem fu{f:Value->Value->Sem Value}{r:R2}{y:D}(ho:OpR X f r)(h:∀O H v w,StOk X.K O H S->Rep X.K O H v x->Rep X.K O H w y->r v w H (QG X.K O H W)):OpW X f x y S W:=
 λ pins s σ H O v w u u' I st r1 r2 r3 r4=>ho pins s σ H v w u u' _ I r3 r4 (h O H v w st r1 r2)
theorem bJ{f:Value}{r:List V->Hp->VK->Prop}(hc:cQ X f r)(h:∀O H vs,StOk X.K O H S->Reps X.K O H vs ds->r vs H (QG X.K O H W)):cW X f ds S W:=
 λ pins s σ H O vs us I st r1 r2=>hc pins s σ H vs us _ I r2 (h O H vs st r1)
theorem QG.here{v:V}{d:D}(w:W d S)(st:StOk K O H S)(r:Rep K O H v d):QG K O H W v H:=⟨O,d,S,w,Step.refl O H,st,r⟩
theorem Vq(i:Nat){x:Str}{d:D}(hΓ:Γ[i]? =some (some d))(w:W d S)(hN:X.N[i]? =some x:=by rfl)
 (hv:Vis X.env.scope x:=by first | exact Or.inl rfl | exact Or.inr (Or.inl rfl) | exact Or.inr (Or.inr rfl))(hd:(x==("__debug__":Str))=false:=by decide)(hcd:(x==("__classdict__":Str))=false:=by decide):
 Ev X Γ S (.Name x pos) W:=by
 sleep 0
 obtain⟨v,e,r⟩:=env.at_ i d hΓ
 exact ud hN hv hd hcd pins s σ H _ I ⟨v,e,QG.here w st r⟩
theorem U7{j}(w:W (.int i) S):Ev X Γ S (.Constant (.int i) j pos) W:=λ pins s σ H O I _ st=>Uu pins s σ H _ I (QG.here w st (.int i))
theorem Wc{i:Bool}{j}(w:W (.bl i) S):Ev X Γ S (.Constant (.bool i) j pos) W:=λ pins s σ H O I _ st=>Qc pins s σ H _ I (QG.here w st (.bl i))
theorem Vc{j}(w:W .non S):Ev X Γ S (.Constant .none j pos) W:=λ pins s σ H O I _ st=>Kq pins s σ H _ I (QG.here w st .non)
theorem J2{x:Str}{j}(w:W (.str x) S):Ev X Γ S (.Constant (.str x) j pos) W:=λ pins s σ H O I _ st=>Jc pins s σ H _ I (QG.here w st (.str x))
theorem MJ{x:Str}{t:Tok}(hm:X.mg x=some (.int i t))(w:W (.int i) S)(hg:Gl X x:=by rfl)(hd:(x==("__debug__":Str))=false:=by decide):Ev X Γ S (.Name x pos) W:=
 λ pins s σ H O I _ st=>Gr hg hm (v:=.int i) ⟨t,rfl⟩ hd pins s σ H _ I (QG.here w st (.int i))
theorem Ad{op:Operator}(h:Ev X Γ S a λ x S1=>Ev X Γ S1 b λ y S2=>dJ X op x y S2 W):Ev X Γ S (.BinOp a op b pos) W:=by
 sleep 0
 refine wpAny_BinOp (thn %[|16] λ u s1 hq_=>?_)
 obtain⟨v,H1,I1,r1,O1,x,S1,hb,st1,ok1,rep1⟩:=hq_
 refine thn (hb pins s1 σ H1 O1 I1 (env.mono st1) ok1) λ u' s2 hq_=>?_
 obtain⟨w,H2,I2,r2,O2,y,S2,hw,st2,ok2,rep2⟩:=hq_
 exact thn (hw pins s2 σ H2 O2 v w u u' I2 ok2 (rep1.mono st2) rep2 r1 r2) λ _ _ q=>du (st1.trans st2) q
theorem U3{op:CmpOp}(h:Ev X Γ S a λ x S1=>Ev X Γ S1 b λ y S2=>bC X op x y S2 W)(hm:behindInMarks op b=false:=by first | exact nomark _ | (with_unfolding_all rfl)):Ev X Γ S (.Compare a [op] [b] pos) W:=by
 sleep 0
 refine wpAny_Compare1 (thn %[|16] λ u s1 hq_=>?_) hm
 obtain⟨v,H1,I1,r1,O1,x,S1,hb,st1,ok1,rep1⟩:=hq_
 refine thn (hb pins s1 σ H1 O1 I1 (env.mono st1) ok1) λ u' s2 hq_=>?_
 obtain⟨w,H2,I2,r2,O2,y,S2,hw,st2,ok2,rep2⟩:=hq_
 exact thn (hw pins s2 σ H2 O2 v w u u' I2 ok2 (rep1.mono st2) rep2 r1 r2) λ _ _ q=>du (st1.trans st2) q
abbrev asB(W:Bool->%[|5]):WD:=λ d S=>∃c,d=.bl c/\W c S
theorem Tj{op:CmpOp}{W:Bool->%[|5]}(h:Ev X Γ S a λ x S1=>Ev X Γ S1 b λ y S2=>bC X op x y S2 (asB W))(hm:behindInMarks op b=false:=by first | exact nomark _ | (with_unfolding_all rfl)):Ts X Γ S (.Compare a [op] [b] pos) W:=by
 sleep 0
 refine wpAny_isTrue_Compare1 (thn %[|16] λ u s1 hq_=>?_) hm
 obtain⟨v,H1,I1,r1,O1,x,S1,hb,st1,ok1,rep1⟩:=hq_
 refine thn (hb pins s1 σ H1 O1 I1 (env.mono st1) ok1) λ u' s2 hq_=>?_
 obtain⟨w,H2,I2,r2,O2,y,S2,hw,st2,ok2,rep2⟩:=hq_
 refine thn (hw pins s2 σ H2 O2 v w u u' I2 ok2 (rep1.mono st2) rep2 r1 r2) λ _ _ hq_=>?_
 obtain⟨z,H3,I3,r3,O3,d,S3,⟨c,hd,wc⟩,st3,ok3,rep3⟩:=hq_
 subst hd
 cases rep3
 cases r3
 exact wpAny_truthy_bool ⟨H3,I3,O3,S3,wc,(st1.trans st2).trans st3,ok3⟩
theorem Ua{W:Bool->%[|5]}(h:Ev X Γ S e (asB W))(he:∀whole,isTrue e X.env whole=(do let v ←whole;standAt e.pos;holding [v] (truthy v)):=by intro _;rfl):Ts X Γ S e W:=by
 sleep 0
 refine isTrue_plain (thn %[|16] λ _ _ hq_=>?_) (he _)
 obtain⟨z,H3,I3,r3,O3,d,S3,⟨c,hd,wc⟩,st3,ok3,rep3⟩:=hq_
 subst hd
 cases rep3
 cases r3
 exact wpAny_truthy_bool ⟨H3,I3,O3,S3,wc,st3,ok3⟩
theorem TsW.ts{W:Bool->%[|5]}(h:TsW X Γ S e W):Ts X Γ S e W:=λ pins s σ H O I env st=>h _ pins s σ H O I env st
theorem tw_and1{W:Bool->%[|5]}(h:Ts X Γ S a W):TsW X Γ S (.BoolOp .And [a] pos) W:=by
 intro wh pins s σ H O I env st
 refine isTrue_and (thn %[|16] λ c s1 e=>?_)
 cases c with
 | true=>exact isTrue_and_nil e
 | false=>exact e
theorem tw_or1{W:Bool->%[|5]}(h:Ts X Γ S a W):TsW X Γ S (.BoolOp .Or [a] pos) W:=by
 intro wh pins s σ H O I env st
 refine isTrue_or (thn %[|16] λ c s1 e=>?_)
 cases c with
 | false=>exact isTrue_or_nil e
 | true=>exact e
theorem tw_and{W:Bool->%[|5]}(h:Ts X Γ S a λ c S1=>(c=true->TsW X Γ S1 (.BoolOp .And (b::rest) pos) W)/\(c=false->W false S1)):TsW X Γ S (.BoolOp .And (a::b::rest) pos) W:=by
 intro wh pins s σ H O I env st
 refine isTrue_and (thn %[|16] λ c s1 hq_=>?_)
 obtain⟨H1,I1,O1,S1,w1,st1,ok1⟩:=hq_
 cases c with
 | true=>exact thn (w1.1 rfl wh pins s1 σ H1 O1 I1 (env.mono st1) ok1) λ _ _ q=>PQ st1 q
 | false=>exact⟨H1,I1,O1,S1,w1.2 rfl,st1,ok1⟩
theorem tw_or{W:Bool->%[|5]}(h:Ts X Γ S a λ c S1=>(c=true->W true S1)/\(c=false->TsW X Γ S1 (.BoolOp .Or (b::rest) pos) W)):TsW X Γ S (.BoolOp .Or (a::b::rest) pos) W:=by
 intro wh pins s σ H O I env st
 refine isTrue_or (thn %[|16] λ c s1 hq_=>?_)
 obtain⟨H1,I1,O1,S1,w1,st1,ok1⟩:=hq_
 cases c with
 | false=>exact thn (w1.2 rfl wh pins s1 σ H1 O1 I1 (env.mono st1) ok1) λ _ _ q=>PQ st1 q
 | true=>exact⟨H1,I1,O1,S1,w1.1 rfl,st1,ok1⟩
theorem Sy{W:Bool->%[|5]}(h:Ts X Γ S a λ c S1=>W (!c) S1):Ts X Γ S (.UnaryOp .Not a pos) W:=by
 sleep 0
 exact isTrue_not (thn %[|16] λ c s1 ⟨H1,I1,O1,S1,w1,st1,ok1⟩=>⟨H1,I1,O1,S1,w1,st1,ok1⟩)
theorem J0{op}(h:Ev X Γ S a W):Ev X Γ S (.BoolOp op [a] pos) W:=λ pins s σ H O I env st=>BoolOp_one %[|16]
theorem Ti(h:Ev X Γ S a λ x S1=>∃c,x=.bl c/\(c=true->Ev X Γ S1 (.BoolOp .And (b::rest) pos) W)/\(c=false->W (.bl false) S1)):Ev X Γ S (.BoolOp .And (a::b::rest) pos) W:=by
 sleep 0
 refine BoolOp_and (thn %[|16] λ u s1 hq_=>?_)
 obtain⟨v,H1,I1,r1,O1,x,S1,⟨c,hx,h1,h2⟩,st1,ok1,rep1⟩:=hq_
 subst hx
 cases rep1
 cases r1
 refine wpAny_truthy_bool ?_
 cases c with
 | true=>exact thn (h1 rfl pins s1 σ H1 O1 I1 (env.mono st1) ok1) λ _ _ q=>du st1 q
 | false=>exact⟨.bl false,H1,I1,rfl,O1,.bl false,S1,h2 rfl,st1,ok1,.bl false⟩
theorem V2(h:Ev X Γ S a λ x S1=>∃c,x=.bl c/\(c=true->W (.bl true) S1)/\(c=false->Ev X Γ S1 (.BoolOp .Or (b::rest) pos) W)):Ev X Γ S (.BoolOp .Or (a::b::rest) pos) W:=by
 sleep 0
 refine BoolOp_or (thn %[|16] λ u s1 hq_=>?_)
 obtain⟨v,H1,I1,r1,O1,x,S1,⟨c,hx,h1,h2⟩,st1,ok1,rep1⟩:=hq_
 subst hx
 cases rep1
 cases r1
 refine wpAny_truthy_bool ?_
 cases c with
 | false=>exact thn (h2 rfl pins s1 σ H1 O1 I1 (env.mono st1) ok1) λ _ _ q=>du st1 q
 | true=>exact⟨.bl true,H1,I1,rfl,O1,.bl true,S1,h1 rfl,st1,ok1,.bl true⟩
theorem Ui(h:Ev X Γ S a λ x S1=>∃c,x=.bl c/\W (.bl (!c)) S1):Ev X Γ S (.UnaryOp .Not a pos) W:=by
 sleep 0
 refine UnaryOp_ (thn %[|16] λ u s1 hq_=>?_)
 obtain⟨v,H1,I1,r1,O1,x,S1,⟨c,hx,h1⟩,st1,ok1,rep1⟩:=hq_
 subst hx
 cases rep1
 cases r1
 exact not_of (wpAny_truthy_bool ⟨.bl (!c),H1,I1,rfl,O1,.bl (!c),S1,h1,st1,ok1,.bl (!c)⟩)
theorem Vj(h:Ev X Γ S a λ x S1=>∃i,x=.int i/\W (.int (-i)) S1):Ev X Γ S (.UnaryOp .USub a pos) W:=by
 sleep 0
 refine UnaryOp_ (thn %[|16] λ u s1 hq_=>?_)
 obtain⟨v,H1,I1,r1,O1,x,S1,⟨c,hx,h1⟩,st1,ok1,rep1⟩:=hq_
 subst hx
 cases rep1
 exact Vk pins s1 σ H1 _ _ _ I1 r1 ⟨c,rfl,O1,.int (-c),S1,h1,st1,ok1,.int (-c)⟩
theorem O9{c:Expr}(h:Ts X Γ S c λ k S1=>(k=true->Ev X Γ S1 a W)/\(k=false->Ev X Γ S1 b W)):Ev X Γ S (.IfExp c a b pos) W:=by
 sleep 0
 refine wpAny_IfExp (thn %[|16] λ d s1 hq_=>?_)
 obtain⟨H1,I1,O1,S1,w1,st1,ok1⟩:=hq_
 cases d with
 | true=>exact thn (w1.1 rfl pins s1 σ H1 O1 I1 (env.mono st1) ok1) λ _ _ q=>du st1 q
 | false=>exact thn (w1.2 rfl pins s1 σ H1 O1 I1 (env.mono st1) ok1) λ _ _ q=>du st1 q
theorem My{c:Expr}{op op':CmpOp}(h:Ev X Γ S a λ x S1=>Ev X Γ S1 b λ y S2=>bC X op x y S2 λ z S3=>∃k,z=.bl k/\(k=false->W (.bl false) S3)/\(k=true->Ev X Γ S3 c λ t S4=>bC X op' y t S4 W))
 (hm:lastMarks [op,op'] [b,c]=false:=by with_unfolding_all rfl):Ev X Γ S (.Compare a [op,op'] [b,c] pos) W:=by
 sleep 0
 refine Compare_chain (thn %[|16] λ u s1 hq_=>?_) hm
 obtain⟨v,H1,I1,r1,O1,x,S1,hb,st1,ok1,rep1⟩:=hq_
 refine chain_link (thn (hb pins s1 σ H1 O1 I1 (env.mono st1) ok1) λ u' s2 hq_=>?_)
 obtain⟨w,H2,I2,r2,O2,y,S2,hw,st2,ok2,rep2⟩:=hq_
 refine thn (hw pins s2 σ H2 O2 v w u u' I2 ok2 (rep1.mono st2) rep2 r1 r2) λ _ s3 hq_=>?_
 obtain⟨z,H3,I3,r3,O3,d,S3,⟨k,hd,k1,k2⟩,st3,ok3,rep3⟩:=hq_
 subst hd
 cases rep3
 cases r3
 refine wpAny_truthy_bool ?_
 cases k with
 | false=>exact ite_ff ⟨.bl false,H3,I3,rfl,O3,.bl false,S3,k1 rfl,(st1.trans st2).trans st3,ok3,.bl false⟩
 | true=>
   refine ite_tt (chain_last (thn (k2 rfl pins s3 σ H3 O3 I3 (((env.mono st1).mono st2).mono st3) ok3) λ u4 s4 hq_=>?_))
   obtain⟨w4,H4,I4,r4,O4,t,S4,h4,st4,ok4,rep4⟩:=hq_
   exact thn (h4 pins s4 σ H4 O4 w w4 u' u4 I4 ok4 ((rep2.mono st3).mono st4) rep4 r2 r4) λ _ _ q=>du (((st1.trans st2).trans st3).trans st4) q
theorem j7{W:List D->%[|5]}(w:W [] S):EvA X Γ S [] W:=λ _ pins s σ H O I _ st=>Calls.spliced_nil ⟨[],H,I,.nil,O,[],S,w,Step.refl O H,st,.nil⟩
theorem dX{W:List D->%[|5]}(h:Ev X Γ S e λ d S1=>EvA X Γ S1 es λ ds S2=>W (d::ds) S2)(hs:starEach (e::es) X.env=(false,eval e X.env)::starEach es X.env:=by rfl):EvA X Γ S (e::es) W:=by
 intro pos pins s σ H O I env st
 rw[hs]
 show wpAny _ _ (spliced ((false,eval e X.env)::backTo pos (starEach es X.env))) _ _ s
 refine Calls.spliced_cons (thn %[|16] λ u s1 hq_=>?_)
 obtain⟨v,H1,I1,r1,O1,x,S1,hb,st1,ok1,rep1⟩:=hq_
 exact thn (hb pos pins s1 σ H1 O1 I1 (env.mono st1) ok1) λ us s2 hq_=>by obtain⟨xs,H2,I2,r2,O2,ds,S2,w,st2,ok2,rep2⟩:=hq_;exact⟨v::xs,H2,I2,.cons r1 r2,O2,x::ds,S2,w,st1.trans st2,ok2,.cons (rep1.mono st2) rep2⟩
theorem small{n:Nat}(h:n≤1000000):n≤sizeLine:=Nat.le_trans h %[|2]
theorem VG(st:StOk K O H S)(h:H p=none):Tp K O (upd H p (.tup xs)) p xs:=⟨st.fresh_not h,aL⟩
theorem Ud(st:StOk K O H S)(h:H p=none):Ls K O (upd H p (.lst xs)) p xs:=.inl ⟨st.fresh_not h,.inl aL⟩
theorem j5(w:W (.tup ds) S)(st:StOk K O H S)(h:H p=none)(r:Reps K O H xs ds):QG K O H W (.ref p) (upd H p (.tup xs)):=
 ⟨O,.tup ds,S,w,Step.fresh h _,st.fresh h _,.tup (VG st h) (r.mono (Step.fresh h _))⟩
theorem iB(w:W (.lst ds) S)(st:StOk K O H S)(h:H p=none)(r:Reps K O H xs ds):QG K O H W (.ref p) (upd H p (.lst xs)):=
 ⟨O,.lst ds,S,w,Step.fresh h _,st.fresh h _,.lst (Ud st h) (r.mono (Step.fresh h _))⟩
theorem ou(w:W (.loc S.length) (S++[ds]))(st:StOk K O H S)(h:H p=none)(r:Reps K O H xs ds):QG K O H W (.ref p) (upd H p (.lst xs)):=
 ⟨O.more p,.loc S.length,S++[ds],w,Step.own h _,st.own h r,.loc (by show(O.A++[(p,false)])[S.length]? =some (p,false);rw[←st.len];simp)⟩
theorem Tz{x1}(h:EvA X Γ S es λ ds S1=>ds.length≤1000000/\W (.tup ds) S1):Ev X Γ S (.Tuple es x1 pos) W:=by
 sleep 0
 refine wpAny_Tuple_spliced (thn (h pos pins s σ H O I env st) λ us s1 hq_=>?_)
 obtain⟨xs,H1,I1,r,O1,ds,S1,⟨z,w⟩,st1,ok1,rep⟩:=hq_
 refine⟨by rw[←r.length,rep.length];exact small z,?_⟩
 have hf:H1 s1.heap.objs.size=none:=I1.hok.fresh (x6 _)
 refine⟨.ref s1.heap.objs.size,upd H1 s1.heap.objs.size (.tup xs),I1.laid (t':=s1.toks) (λ b u e=>ZC _ e) (x6 _) ?_,rfl,(j5 w ok1 hf rep).pre st1⟩
 exact⟨by rw[rep.length];exact small z,us,r,⟨_,%[|19],rfl,_,rfl⟩⟩
theorem Vx(h:EvA X Γ S es λ ds S1=>ds.length≤1000000/\W (.lst ds) S1):Ev X Γ S (.List es pos) W:=by
 sleep 0
 refine wpAny_List_spliced (thn (h pos pins s σ H O I env st) λ us s1 hq_=>?_)
 obtain⟨xs,H1,I1,r,O1,ds,S1,⟨z,w⟩,st1,ok1,rep⟩:=hq_
 refine⟨by rw[←r.length,rep.length];exact small z,?_⟩
 have hf:H1 s1.heap.objs.size=none:=I1.hok.fresh (x6 _)
 refine⟨.ref s1.heap.objs.size,upd H1 s1.heap.objs.size (.lst xs),I1.laid (t':=s1.toks) (λ b u e=>ZC _ e) (x6 _) ?_,rfl,(iB w ok1 hf rep).pre st1⟩
 exact⟨by rw[rep.length];exact small z,us,0,r,%[|19]⟩
theorem RW(h:EvA X Γ S es λ ds S1=>ds.length≤1000000/\W (.loc S1.length) (S1++[ds])):Ev X Γ S (.List es pos) W:=by
 sleep 0
 refine wpAny_List_spliced (thn (h pos pins s σ H O I env st) λ us s1 hq_=>?_)
 obtain⟨xs,H1,I1,r,O1,ds,S1,⟨z,w⟩,st1,ok1,rep⟩:=hq_
 refine⟨by rw[←r.length,rep.length];exact small z,?_⟩
 have hf:H1 s1.heap.objs.size=none:=I1.hok.fresh (x6 _)
 refine⟨.ref s1.heap.objs.size,upd H1 s1.heap.objs.size (.lst xs),I1.laid (t':=s1.toks) (λ b u e=>ZC _ e) (x6 _) ?_,rfl,(ou w ok1 hf rep).pre st1⟩
 exact⟨by rw[rep.length];exact small z,us,0,r,%[|19]⟩
theorem jW{op:Operator}{C:Int->Int->Prop}{g:Int->Int->Int}(ho:OpR X (binaryOp op) (rI C λ i j=>.int (g i j))){i j:Int}(c:C i j)(w:W (.int (g i j)) S):dJ X op (.int i) (.int j) S W:=
 fu ho λ O H v w' st r1 r2=>by cases r1;cases r2;exact⟨i,j,rfl,rfl,c,QG.here w st (.int _)⟩
theorem zF{op:Operator}{g:Int->Int->Int}(ho:OpR X (binaryOp op) (rI0 λ i j=>.int (g i j))){i j:Int}(w:W (.int (g i j)) S):dJ X op (.int i) (.int j) S W:=
 fu ho λ O H v w' st r1 r2=>by cases r1;cases r2;exact⟨i,j,rfl,rfl,QG.here w st (.int _)⟩
theorem Wt(w:W (.int (i+j)) S):dJ X .Add (.int i) (.int j) S W:=zF Vz w
theorem Xd(w:W (.int (i-j)) S):dJ X .Sub (.int i) (.int j) S W:=zF Vy w
theorem Wu(c:CMul i j)(w:W (.int (i*j)) S):dJ X .Mult (.int i) (.int j) S W:=jW Vi c w
theorem Wq(c:0<j)(w:W (.int (i % j)) S):dJ X .Mod (.int i) (.int j) S W:=jW Uz c w
theorem Ul(c:0<j/\j<1073741824)(w:W (.int (i/j)) S):dJ X .FloorDiv (.int i) (.int j) S W:=jW Q0 c w
theorem WY(c:CPow i j)(w:W (.int (i ^ j.toNat)) S):dJ X .Pow (.int i) (.int j) S W:=jW Up c w
theorem pO{op:CmpOp}{g:Int->Int->Bool}(ho:OpR X (compareOp op) (rI0 λ i j=>.bl (g i j))){i j:Int}(w:W (.bl (g i j)) S):bC X op (.int i) (.int j) S W:=
 fu ho λ O H v w' st r1 r2=>by cases r1;cases r2;exact⟨i,j,rfl,rfl,QG.here w st (.bl _)⟩
theorem Xh(w:W (.bl (decide (i<j))) S):bC X .Lt (.int i) (.int j) S W:=pO Wz w
theorem Xq(w:W (.bl (decide (i≤j))) S):bC X .LtE (.int i) (.int j) S W:=pO W5 w
theorem Xu(w:W (.bl (decide (j<i))) S):bC X .Gt (.int i) (.int j) S W:=pO WW w
theorem Xk(w:W (.bl (decide (j≤i))) S):bC X .GtE (.int i) (.int j) S W:=pO WR w
theorem Xb(w:W (.bl (decide (i=j))) S):bC X .Eq (.int i) (.int j) S W:=
 fu Gz λ O H v w' st r1 r2=>by
  cases r1;cases r2
  have e:decide (V.int i=V.int j)=decide (i=j):=by rw[pI];exact(Bool.beq_eq_decide_eq i j)
  exact⟨rfl,by rw[e];exact QG.here w st (.bl _)⟩
theorem Wh(w:W (.bl (!decide (i=j))) S):bC X .NotEq (.int i) (.int j) S W:=
 fu Qe λ O H v w' st r1 r2=>by
  cases r1;cases r2
  have e:decide (V.int i=V.int j)=decide (i=j):=by rw[pI];exact(Bool.beq_eq_decide_eq i j)
  exact⟨rfl,by rw[e];exact QG.here w st (.bl _)⟩
theorem Wa{i j:Bool}(w:W (.bl (i==j)) S):bC X .Eq (.bl i) (.bl j) S W:=
 fu Gz λ O H v w' st r1 r2=>by
  cases r1;cases r2
  exact⟨rfl,by rw[nH];exact QG.here w st (.bl _)⟩
theorem V1{i j:Bool}(w:W (.bl (!(i==j))) S):bC X .NotEq (.bl i) (.bl j) S W:=
 fu Qe λ O H v w' st r1 r2=>by
  cases r1;cases r2
  exact⟨rfl,by rw[nH];exact QG.here w st (.bl _)⟩
theorem WF(w:W (.bl (match x with | .non=>true | _=>false)) S):bC X .Is x .non S W:=
 fu UV λ O H v w' st r1 r2=>by
  cases r2
  refine⟨rfl,?_⟩
  cases r1<;>exact QG.here w st (.bl _)
theorem Rr(w:W (.bl (match x with | .non=>false | _=>true)) S):bC X .IsNot x .non S W:=
 fu QH λ O H v w' st r1 r2=>by
  cases r2
  refine⟨rfl,?_⟩
  cases r1<;>exact QG.here w st (.bl _)
theorem TJ{es:List D}(hz:ds.length+es.length≤1000000)(w:W (.tup (ds++es)) S):dJ X .Add (.tup ds) (.tup es) S W:=by
 intro pins s σ H O v w' u u' I st r1 r2 r3 r4
 cases r1 with
 | @tup a xs _ h1 q1=>
   cases r2 with
   | @tup b ys _ h2 q2=>
     by_cases hx:xs=[]
     . subst hx
       have e:ds=[]:=by have:=q1.length;simpa using this.symm
       subst e
       cases r3
       cases r4
       obtain⟨its,v1,p1,_⟩:=I.tuple h1.sq
       obtain⟨its2,v2,p2,_⟩:=I.tuple h2.sq
       cases v1
       obtain⟨⟨cls,dd,data,sl⟩,ho,hc,n,hd⟩:=id p1
       obtain⟨⟨cls2,dd2,data2,sl2⟩,ho2,hc2,n2,hd2⟩:=id p2
       simp only at hc hd hc2 hd2
       subst hc hd hc2 hd2
       exact concat_meets ⟨_,ho,rfl⟩ ⟨_,ho2,rfl⟩ noFill_tuple_add seq_tuple_add PySem.F.slot_tuple_add PySem.F.entry_tuple_add (PySem.F.args_tuple_add_2 _ _)
        (tuple_addW0 a b ([]:%[|7]).toArray its2.toArray n n2 dd dd2 sl sl2 rfl) ⟨ho,ho2,⟨.ref b,H,I,rfl,QG.here w st (.tup h2 q2)⟩⟩
     . refine R3 pins s σ H _ _ u u' _ I r3 r4 ⟨a,b,xs,ys,rfl,rfl,h1.sq,h2.sq,hx,by rw[q1.length,q2.length];exact small hz,λ e=>?_,λ _ p hp=>j5 w st hp (q1.append q2)⟩
       subst e
       have e:es=[]:=by have:=q2.length;simpa using this.symm
       subst e
       rw[List.append_nil]at w
       exact QG.here w st (.tup h1 q1)
theorem Vo{es:List D}(hz:ds.length+es.length≤1000000)(w:W (.lst (ds++es)) S):dJ X .Add (.lst ds) (.lst es) S W:=by
 intro pins s σ H O v w' u u' I st r1 r2 r3 r4
 cases r1 with
 | @lst a xs _ h1 q1=>
   cases r2 with
   | @lst b ys _ h2 q2=>
     cases r3
     cases r4
     obtain⟨its,v1,p1,_⟩:=I.list h1.sq
     obtain⟨its2,v2,p2,_⟩:=I.list h2.sq
     obtain⟨⟨cls,dd,data,sl⟩,n,ho,hc,hdd,hd⟩:=id p1
     obtain⟨⟨cls2,dd2,data2,sl2⟩,n2,ho2,hc2,hdd2,hd2⟩:=id p2
     simp only at hc hd hc2 hd2
     subst hc hd hc2 hd2
     have z:its.length+its2.length≤sizeLine:=by rw[←v1.length,←v2.length,q1.length,q2.length];exact small hz
     refine concat_meets ⟨_,ho,rfl⟩ ⟨_,ho2,rfl⟩ noFill_list_add seq_list_add PySem.F.slot_list_add PySem.F.entry_list_add (PySem.F.args_list_add_2 _ _)
      (list_addW a b its.toArray its2.toArray n n2 dd dd2 sl sl2 (by simpa using z)) ⟨ho,ho2,?_⟩
     have ea:its.toArray++its2.toArray=(its++its2).toArray:=by simp
     rw[ea]
     refine⟨%[|21],_,I.lnew (t':=s.toks) (v1.append v2) (by rw[List.length_append,q1.length,q2.length];exact small hz),rfl,iB w st I.fresh (q1.append q2)⟩
end
end DL
namespace DL
open PySem PySem.Spec L2
open PyProof.Rows
variable {K : PySem.W.Frag} {O : Own} {H : Hp} {xs : List V} {ds : List D} {i : Int} {d : D} {k : Nat} {x : Str} {p : Pos}
section
variable {X : Cx} {Γ : Gam} {S : Store} {W : WD} {a b e : Expr} {es : List Expr} {pos : Pos}
def IxW(X:Cx)(a b:Expr)(x y:D)(S:Store)(W:WD):Prop:=
 ∀ (pins:Pins)(s:Shared)(σ:St)(H:Hp)(O:Own)(v w:V)(u u':Value),%[|6]->StOk X.K O H S->Rep X.K O H v x->Rep X.K O H w y->RelV v u->RelV w u'->
   subscripted b false u u'=operate [u,u'] (getItem u u')->wpAny %[|8] X.A (subscriptTail a b u u') (EP X pins σ (QG X.K O H W)) X.xe s
theorem VV(h:Ev X Γ S a λ x S1=>Ev X Γ S1 b λ y S2=>IxW X a b x y S2 W)(hs:vp b:=by intro _ _;rfl):Ev X Γ S (.Subscript a b pos) W:=by
 sleep 0
 refine Subscript_ (thn %[|16] λ u s1 hq_=>?_)
 obtain⟨v,H1,I1,r1,O1,x,S1,hb,st1,ok1,rep1⟩:=hq_
 refine thn (hb pins s1 σ H1 O1 I1 (env.mono st1) ok1) λ u' s2 hq_=>?_
 obtain⟨w,H2,I2,r2,O2,y,S2,hw,st2,ok2,rep2⟩:=hq_
 exact thn (hw pins s2 σ H2 O2 v w u u' I2 ok2 (rep1.mono st2) rep2 r1 r2 (hs _ _)) λ _ _ q=>du (st1.trans st2) q
theorem uD(r:Reps K O H xs ds)(h:atI ds i=some d):∃v,atI xs i=some v/\Rep K O H v d:=by
 unfold atI at h ⊢
 rw[r.length]
 cases e:ixN ds.length i with
 | none=>rw[e]at h;cases h
 | some j=>
   rw[e]at h
   exact r.get (i:=j) h
theorem Wi(h:atI ds i=some d)(w:W d S):IxW X a b (.tup ds) (.int i) S W:=by
 intro pins s σ H O v w' u u' I st r1 r2 r3 r4 hs
 cases r2
 cases r1 with
 | @tup p xs _ h1 q1=>
   obtain⟨z,hz,rz⟩:=uD q1 h
   exact Vr a b pins s σ H _ _ u u' _ I r3 r4 ⟨p,xs,i,z,rfl,rfl,h1.sq,hz,QG.here w st rz⟩ hs
theorem V9(h:atI ds i=some d)(w:W d S):IxW X a b (.lst ds) (.int i) S W:=by
 intro pins s σ H O v w' u u' I st r1 r2 r3 r4 hs
 cases r2
 cases r1 with
 | @lst p xs _ h1 q1=>
   obtain⟨z,hz,rz⟩:=uD q1 h
   exact vD a b pins s σ H _ _ u u' _ I r3 r4 ⟨p,xs,i,z,rfl,rfl,h1.sq,hz,QG.here w st rz⟩ hs
theorem Wr(hk:S[k]? =some ds)(h:atI ds i=some d)(w:W d S):IxW X a b (.loc k) (.int i) S W:=by
 intro pins s σ H O v w' u u' I st r1 r2 r3 r4 hs
 cases r2
 cases r1 with
 | @loc p _ h1=>
   obtain⟨xs,hx,q1⟩:=st.obj k p ds h1 hk
   obtain⟨z,hz,rz⟩:=uD q1 h
   exact vD a b pins s σ H _ _ u u' _ I r3 r4 ⟨p,xs,i,z,rfl,rfl,SqL.of hx,hz,QG.here w st rz⟩ hs
def PoD(X:Cx)(Γ:Gam)(S:Store)(o:Option Expr)(W:Option Int->%[|5]):Prop:=match o with
 | none=>W none S
 | some e=>Ev X Γ S e λ d S1=>∃i,d=.int i/\W (some i) S1
def SlW(X:Cx)(x:D)(lo hi:Option Int)(S:Store)(W:WD):Prop:=
 ∀ (pins:Pins)(s:Shared)(σ:St)(H:Hp)(O:Own)(v:V)(u vl vu:Value)(sl:Addr),%[|6]->StOk X.K O H S->Rep X.K O H v x->RelV v u->s.heap.IsSliceOf sl vl vu .none->IsPart vl lo->IsPart vu hi->
   ∃T id,typeLookup (.type T) "__getitem__"=pure (some (.builtin id))/\s.TypeIs u T/\wpAny %[|8] X.A (getItem u (.ref sl)) (EP X pins σ (QG X.K O H W)) X.xe s
theorem Iv{W:Option Int->%[|5]}{o:Option Expr}(h:PoD X Γ S o W){pins:Pins}{s:Shared}{σ:St}{H:Hp}{O:Own}(I:%[|6])(env:EnvOk X.K O H σ Γ)(st:StOk X.K O H S):
 wpAny %[|8] X.A (evalPart o X.env) (λ u s'=>∃p H' O' S',Inv X pins σ H' s'/\IsPart u p/\W p S'/\Step O O' H H'/\StOk X.K O' H' S') X.xe s:=by
 cases o with
 | none=>
   rw[evalPart_none]
   exact ZB ⟨none,H,O,S,I,.none,h,Step.refl O H,st⟩
 | some e=>
   rw[evalPart_some]
   refine thn %[|16] λ u s1 hq_=>?_
   obtain⟨v,H1,I1,r1,O1,x,S1,⟨i,hx,w⟩,st1,ok1,rep1⟩:=hq_
   subst hx
   cases rep1
   obtain⟨t,rfl⟩:=r1
   exact⟨some i,H1,O1,S1,I1,.int i t,w,st1,ok1⟩
theorem N5{lo hi:Option Expr}{p2:Pos}(h:Ev X Γ S e λ x S1=>PoD X Γ S1 lo λ l S2=>PoD X Γ S2 hi λ r S3=>SlW X x l r S3 W):Ev X Γ S (.Subscript e (.Slice lo hi none p2) pos) W:=by
 sleep 0
 refine Subscript_ (thn %[|16] λ v s1 hq_=>?_)
 obtain⟨y,H1,I1,r1,O1,x,S1,hb,st1,ok1,rep1⟩:=hq_
 refine wpAny_Slice (thn (Iv hb I1 (env.mono st1) ok1) λ vl s2 hq_=>?_)
 obtain⟨l,H2,O2,S2,I2,pl,hc,st2,ok2⟩:=hq_
 refine thn (Iv hc I2 ((env.mono st1).mono st2) ok2) λ vu s3 hq_=>?_
 obtain⟨r,H3,O3,S3,I3,pu,hd,st3,ok3⟩:=hq_
 rw[evalPart_none]
 refine %[|12]
 have I4:Inv X pins σ H3 {s3 with heap:=s3.heap.push {cls:=.type "slice",data:=.fields #[vl,vu,.none]}}:=I3.kept (t':=s3.toks) λ b ob q=>ZC _ q
 obtain⟨T,id,hT,ht,hg⟩:=hd pins {s3 with heap:=s3.heap.push {cls:=.type "slice",data:=.fields #[vl,vu,.none]}} σ H3 O3 y v vl vu s3.heap.objs.size I4 ok3 ((rep1.mono st2).mono st3) r1 (Heap.IsSliceOf.new ..) pl pu
 show wpAny %[|8] X.A (subscriptTail e (.Slice lo hi none p2) v (.ref s3.heap.objs.size)) _ X.xe {s3 with heap:=s3.heap.push {cls:=.type "slice",data:=.fields #[vl,vu,.none]}}
 exact tail_any (ops:=[.ref s3.heap.objs.size,v]) ht hT (thn hg λ _ _ q=>du ((st1.trans st2).trans st3) q) (by with_unfolding_all rfl)
def cutD(ds:List D)(lo hi:Option Int):List D:=(ds.drop (HT.sIx ds.length 0 lo)).take (HT.sIx ds.length ds.length hi-HT.sIx ds.length 0 lo)
theorem vd(r:Reps K O H xs ds)(lo hi:Option Int):Reps K O H (nG xs lo hi) (cutD ds lo hi):=by
 unfold nG cutD
 rw[r.length]
 exact(r.drop _).take _
theorem Cq{prog:Program}{w:World}{A:Around}{E:%[|11]}{s:Shared}{t sl:Addr}{items:Array Value}{vl vu:Value}{lo hi:Option Int}{Q:%[|11]}(ht:IsTup s.heap t items)(hs:s.heap.IsSliceOf sl vl vu .none)(pl:IsPart vl lo)(pu:IsPart vu hi)
 (h0:HT.sIx items.size 0 lo=0)(h1:HT.sIx items.size items.size hi=items.size)(h:Q (.ref t) s):wpAny %[|10] A (getItem (.ref t) (.ref sl)) Q E s:=by
 obtain⟨os,hos,hcs,hds⟩:=id hs
 have isS:s.TypeIs (.ref sl) "slice":=⟨os,hos,hcs⟩
 unfold getItem
 try with_reducible refine ZQ ?_
 first | refine ZA %[|12] | skip
 refine ZA (wpAny_sequenceKey ht.typeIs %[|2] ?_)
 refine ZA (wpAny_callSpecial?_slot (name:=Str.ofString "__getitem__") ht.typeIs PyProof.Rows.slot_tuple_getitem
  (ZP PyProof.Rows.slot_tuple_getitem ht.typeIs entry_tuple_getitem ?_ (args_tuple_getitem _ _)))
 show wpAny _ _ (Builtin.Tuple.tupleItemsOf (.ref t)>>=_) _ _ s
 refine ZA (tupleItemsOf_ ht (ZA (wpAny_typeOf isS ?_)))
 rw[if_pos %[|2]]
 refine ZA (HT.sliceApplied_gen hs pl pu ?_)
 rw[h0,h1]
 show wpAny _ _ (if(((0:Nat):Int)==0&&(1:Int)==1&&(items.size-0)==items.size)=true then _ else _) _ _ s
 rw[if_pos (by simp)]
 unfold Builtin.Tuple.tupleIsExact
 first
  | exact ZA (ZA (wpAny_typeOf ht.typeIs (ZB (by rw[if_pos %[|2]];exact ZA (wpAny_rule (ZB ⟨_,rfl,ZB h⟩))))))
  | (refine ZA (ZA (wpAny_typeOf ht.typeIs %[|12]))
     simp only[beq_self_eq_true,if_true]
     exact ZA (wpAny_rule (ZB ⟨_,rfl,ZB h⟩)))
theorem W3{lo hi:Option Int}(w:W (.tup (cutD ds lo hi)) S):SlW X (.tup ds) lo hi S W:=by
 intro pins s σ H O v u vl vu sl I st r1 r3 hs pl pu
 cases r1 with
 | @tup p xs _ h1 q1=>
   by_cases hw:HT.sIx xs.length 0 lo=0/\HT.sIx xs.length xs.length hi=xs.length
   . cases r3
     obtain⟨its,r,ht,hz⟩:=I.tuple h1.sq
     have hlen:its.toArray.size=xs.length:=by rw[x9];exact r.length.symm
     refine⟨"tuple",_,PyProof.Rows.slot_tuple_getitem.lookup,ht.typeIs,Cq ht hs pl pu (by rw[hlen];exact hw.1) (by rw[hlen];exact hw.2) ⟨.ref p,H,I,rfl,?_⟩⟩
     have e:cutD ds lo hi=ds:=by
      unfold cutD
      rw[←q1.length,hw.1,hw.2,List.drop_zero,List.take_of_length_le (by rw[←q1.length];omega)]
     rw[e]at w
     exact QG.here w st (.tup h1 q1)
   . exact Ug pins s σ H _ u vl vu lo hi sl _ I r3 hs pl pu ⟨p,xs,rfl,h1.sq,hw,λ p' hp=>j5 w st hp (vd q1 lo hi)⟩
theorem We{lo hi:Option Int}(w:W (.lst (cutD ds lo hi)) S):SlW X (.lst ds) lo hi S W:=by
 intro pins s σ H O v u vl vu sl I st r1 r3 hs pl pu
 cases r1 with
 | @lst p xs _ h1 q1=>exact FN pins s σ H _ u vl vu lo hi sl _ I r3 hs pl pu ⟨p,xs,rfl,h1.sq,λ p' hp=>iB w st hp (vd q1 lo hi)⟩
theorem Nq{id:String}(h:EvA X Γ S (e::es) λ ds S1=>cW X (.builtin id) ds S1 W)(hm:X.mg x=none)(hv:bootBuiltins x=some (.builtin id))(hg:Gl X x:=by rfl)(hn:x≠"__name__":=by decide)(hdb:(x==("__debug__":Str))=false:=by decide)
 (he:starEach (e::es) X.env=(false,eval e X.env)::starEach es X.env:=by rfl)(hpl:(backTo pos (starEach es X.env)).any (·.1)=false:=by rfl):Ev X Γ S (.Call (.Name x p) (e::es) [] pos) W:=by
 sleep 0
 refine wpAny_Call_Name_kw (cB I hg hm hv ?_ hn hdb)
 exact PyProof.Rows.callWith_builtin1 (thn (h pos pins s σ H O I env st) λ us s1 hq_=>by obtain⟨vs,H1,I1,r1,O1,ds,S1,w,st1,ok1,rep⟩:=hq_;exact thn (w pins s1 σ H1 O1 vs us I1 ok1 rep r1) λ _ _ q=>du st1 q) he hpl
theorem MN{T:String}(h:EvA X Γ S (e::es) λ ds S1=>cW X (.type T) ds S1 W)(hm:X.mg x=none)(hv:bootBuiltins x=some (.type T))(hg:Gl X x:=by rfl)(hn:x≠"__name__":=by decide)(hdb:(x==("__debug__":Str))=false:=by decide)
 (he:starEach (e::es) X.env=(false,eval e X.env)::starEach es X.env:=by rfl)(hpl:(backTo pos (starEach es X.env)).any (·.1)=false:=by rfl):Ev X Γ S (.Call (.Name x p) (e::es) [] pos) W:=by
 sleep 0
 refine wpAny_Call_Name_kw (cB I hg hm hv ?_ hn hdb)
 exact PyProof.Rows.callWith_type1 (thn (h pos pins s σ H O I env st) λ us s1 hq_=>by obtain⟨vs,H1,I1,r1,O1,ds,S1,w,st1,ok1,rep⟩:=hq_;exact thn (w pins s1 σ H1 O1 vs us I1 ok1 rep r1) λ _ _ q=>du st1 q) he hpl
theorem cF{vs:List V}(r:Reps K O H vs [d]):∃v,vs=[v]/\Rep K O H v d:=by
 cases r with
 | cons a t=>cases t;exact⟨_,rfl,a⟩
theorem VJ(w:W (.int ds.length) S):cW X (.builtin "len") [.tup ds] S W:=bJ iR λ O H vs st r=>by
 obtain⟨v,rfl,r'⟩:=cF r
 cases r' with
 | @tup p xs _ h1 q1=>exact⟨p,xs,rfl,.inr h1.sq,by rw[q1.length];exact QG.here w st (.int _)⟩
theorem Uk(w:W (.int ds.length) S):cW X (.builtin "len") [.lst ds] S W:=bJ iR λ O H vs st r=>by
 obtain⟨v,rfl,r'⟩:=cF r
 cases r' with
 | @lst p xs _ h1 q1=>exact⟨p,xs,rfl,.inl h1.sq,by rw[q1.length];exact QG.here w st (.int _)⟩
theorem VR(hk:S[k]? =some ds)(w:W (.int ds.length) S):cW X (.builtin "len") [.loc k] S W:=bJ iR λ O H vs st r=>by
 obtain⟨v,rfl,r'⟩:=cF r
 cases r' with
 | @loc p _ h1=>
   obtain⟨xs,hx,q1⟩:=st.obj k p ds h1 hk
   exact⟨p,xs,rfl,.inl (SqL.of hx),by rw[q1.length];exact QG.here w st (.int _)⟩
theorem Vf(w:W (.tup ds) S):cW X (.type "tuple") [.lst ds] S W:=bJ mj λ O H vs st r=>by
 obtain⟨v,rfl,r'⟩:=cF r
 cases r' with
 | @lst p xs _ h1 q1=>exact⟨p,xs,rfl,.inl ⟨h1.sq,λ l hl=>j5 w st hl q1⟩⟩
theorem Vl(hk:S[k]? =some ds)(w:W (.tup ds) S):cW X (.type "tuple") [.loc k] S W:=bJ mj λ O H vs st r=>by
 obtain⟨v,rfl,r'⟩:=cF r
 cases r' with
 | @loc p _ h1=>
   obtain⟨xs,hx,q1⟩:=st.obj k p ds h1 hk
   exact⟨p,xs,rfl,.inl ⟨SqL.of hx,λ l hl=>j5 w st hl q1⟩⟩
theorem Vg(w:W (.lst ds) S):cW X (.type "list") [.tup ds] S W:=bJ fC λ O H vs st r=>by
 obtain⟨v,rfl,r'⟩:=cF r
 cases r' with
 | @tup p xs _ h1 q1=>exact⟨p,xs,rfl,.inr h1.sq,λ l hl=>iB w st hl q1⟩
theorem Vv(w:W (.lst ds) S):cW X (.type "list") [.lst ds] S W:=bJ fC λ O H vs st r=>by
 obtain⟨v,rfl,r'⟩:=cF r
 cases r' with
 | @lst p xs _ h1 q1=>exact⟨p,xs,rfl,.inl h1.sq,λ l hl=>iB w st hl q1⟩
abbrev Ct:=List D->Store->WD->Prop
def spC(K:PySem.W.Frag)(n:Nat)(F:Ct):Sp:=λ vs H Q _=>∃O ds S W,ds.length=n/\Reps K O H vs ds/\StOk K O H S/\F ds S W/\∀v H',QG K O H W v H'->Q v H'
structure Callee(P:Program)(w:World)(K:PySem.W.Frag)(mg:%[|15])(base:Heap)(x:Str)(k n:Nat)(F:Ct):Prop where
 ex:∃f fd ps,FnOk P w K mg base CX0 k f fd ps (spC K n F)/\mg x=some (.ref f)/\PySem.W.keepIn K (.ref f)=true/\Binds K fd ps []
theorem Q4{n:Nat}{F:Ct}(C:Callee X.prog X.w X.K X.mg X.base x k n F)(hr:Room k X.A)(h:EvA X Γ S (e::es) λ ds S1=>ds.length=n/\F ds S1 W)(hg:Gl X x:=by rfl)(hdb:(x==("__debug__":Str))=false:=by decide)
 (he:starEach (e::es) X.env=(false,eval e X.env)::starEach es X.env:=by rfl)(hpl:(backTo pos (starEach es X.env)).any (·.1)=false:=by rfl):Ev X Γ S (.Call (.Name x p) (e::es) [] pos) W:=by
 sleep 0
 obtain⟨f,fd,ps,hF,hm,hk,hb⟩:=C.ex
 refine wpAny_Call_Name_kw (jZ I hg hm ?_ hdb)
 refine PySem.W.callWith_K (h₀:=X.base) I.ok.mod.kin hk (thn (h pos pins s σ H O I env st) λ us s1 hq_=>?_) he hpl
 obtain⟨vs,H1,I1,r1,O1,ds,S1,⟨hl,w⟩,st1,ok1,rep⟩:=hq_
 refine⟨I1.kIn,?_⟩
 refine Ux hF hr hb .nil W8 I1 r1 ?_
 rw[List.append_nil]
 exact⟨O1,ds,S1,W,hl,rep,ok1,w,λ v H' q=>q.pre st1⟩
structure Fin where
 nx:Gam->%[|5]
 rt:WD
 bk:Gam->%[|5]:=λ _ _=>False
 ct:Gam->%[|5]:=λ _ _=>False
def QN(K:PySem.W.Frag)(O:Own)(H:Hp)(W:Gam->%[|5]):St->Hp->Prop:=λ σ' H'=>∃O' Γ' S',W Γ' S'/\Step O O' H H'/\StOk K O' H' S'/\EnvOk K O' H' σ' Γ'
def ends(K:PySem.W.Frag)(O:Own)(H:Hp)(W:Fin):Ends:={nx:=QN K O H W.nx,rt:=QG K O H W.rt,bk:=QN K O H W.bk,ct:=QN K O H W.ct}
def Rn(X:Cx)(Γ:Gam)(S:Store)(st:Stmt)(W:Fin):Prop:=
 ∀ (pins:Pins)(s:Shared)(σ:St)(H:Hp)(O:Own),%[|6]->EnvOk X.K O H σ Γ->StOk X.K O H S->
   wpAny %[|8] X.A (exec st X.env) (SP X pins (ends X.K O H W)) X.xe s
def Rns(X:Cx)(Γ:Gam)(S:Store)(sts:List Stmt)(W:Fin):Prop:=
 ∀ (pins:Pins)(s:Shared)(σ:St)(H:Hp)(O:Own),%[|6]->EnvOk X.K O H σ Γ->StOk X.K O H S->
   wpAny %[|8] X.A (execs sts X.env) (SP X pins (ends X.K O H W)) X.xe s
theorem QN.pre{O1:Own}{H1:Hp}(st:Step O O1 H H1){W:Gam->%[|5]}{v:St}{H':Hp}(q:QN K O1 H1 W v H'):QN K O H W v H':=by
 obtain⟨O',d,S',w,s',ok,r⟩:=q
 exact⟨O',d,S',w,st.trans s',ok,r⟩
theorem lF{pins:Pins}{O1:Own}{H1:Hp}{W:Fin}(st:Step O O1 H H1){f:Flow}{s':Shared}(q:SP X pins (ends X.K O1 H1 W) f s'):SP X pins (ends X.K O H W) f s':=by
 cases f with
 | next=>obtain⟨σ,H',I,q⟩:=q;exact⟨σ,H',I,QN.pre st q⟩
 | brk=>obtain⟨σ,H',I,q⟩:=q;exact⟨σ,H',I,QN.pre st q⟩
 | cont=>obtain⟨σ,H',I,q⟩:=q;exact⟨σ,H',I,QN.pre st q⟩
 | ret u=>obtain⟨v,σ,H',I,r,q⟩:=q;exact⟨v,σ,H',I,r,QG.pre st q⟩
variable {W : Fin} {st : Stmt} {sts : List Stmt}
theorem S9(w:W.nx Γ S):Rns X Γ S [] W:=λ pins s σ H O I env st=>wpAny_execs_nil ⟨σ,H,I,O,Γ,S,w,Step.refl O H,st,env⟩
theorem Gi(h:Rn X Γ S st {W with nx:=λ Γ1 S1=>Rns X Γ1 S1 sts W}):Rns X Γ S (st::sts) W:=by
 intro pins s σ H O I env ok
 refine wpAny_execs_cons (thn (h pins s σ H O I env ok) λ f s1 q=>?_)
 cases f with
 | next=>
   obtain⟨σ',H',I',O1,Γ1,S1,w,st1,ok1,env1⟩:=q
   exact thn (w pins s1 σ' H' O1 I' env1 ok1) λ _ _ q=>lF st1 q
 | ret v=>exact q
 | brk=>exact q
 | cont=>exact q
theorem Ww(h:Ev X Γ S e W.rt):Rn X Γ S (.Return (some e) pos) W:=by
 intro pins s σ H O I env ok
 exact wpAny_Return_some (thn (h pins s σ H O I env ok) λ v s1 ⟨x,H1,I1,r1,q1⟩=>⟨x,σ,H1,I1,r1,q1⟩)
theorem Xn{c:Expr}{xs ys:List Stmt}(h:Ts X Γ S c λ k S1=>(k=true->Rns X Γ S1 xs W)/\(k=false->Rns X Γ S1 ys W)):Rn X Γ S (.If c xs ys pos) W:=by
 intro pins s σ H O I env ok
 refine wpAny_If (thn (h pins s σ H O I env ok) λ d s1 hq_=>?_)
 obtain⟨H1,I1,O1,S1,w,st1,ok1⟩:=hq_
 cases d with
 | true=>exact thn (w.1 rfl pins s1 σ H1 O1 I1 (env.mono st1) ok1) λ _ _ q=>lF st1 q
 | false=>exact thn (w.2 rfl pins s1 σ H1 O1 I1 (env.mono st1) ok1) λ _ _ q=>lF st1 q
theorem Qg(i:Nat){x:Str}{pos':Pos}(h:Ev X Γ S e λ d S1=>W.nx (Γ.set i (some d)) S1)(hN:X.N.Nodup)(hi:X.N[i]? =some x:=by rfl)(hx:Loc X.env.scope x:=by first | exact Or.inl rfl | exact Or.inr rfl)
 (hs:swapsWith e (some (.Name x pos')) pos.line X.env=pure false:=by rfl)(hf:X.fn x=true∨X.env.scope.names.lookup x=some .local:=by first | exact .inl rfl | exact .inr rfl):Rn X Γ S (.Assign [.Name x pos'] e pos) W:=by
 intro pins s σ H O I env ok
 refine wpAny_Assign_Name (thn (h pins s σ H O I env ok) λ v s1 hq_=>?_) hs
 obtain⟨y,H1,I1,r1,O1,d,S1,w,st1,ok1,rep1⟩:=hq_
 exact iC I1 hN hi hx r1 (λ s2 I2=>⟨_,H1,I2,O1,_,S1,w,st1,ok1,(env.mono st1).set rep1 i⟩) hf
theorem T9(h:Ev X Γ S e λ d S1=>W.nx Γ S1)(hs:swapsWith e none pos.line X.env=pure false:=by rfl):Rn X Γ S (.Expr e pos) W:=by
 intro pins s σ H O I env ok
 exact wpAny_Expr_any (thn (h pins s σ H O I env ok) λ v s1 hq_=>by obtain⟨x,H1,I1,r1,O1,d,S1,w,st1,ok1,rep1⟩:=hq_;exact⟨σ,H1,I1,O1,Γ,S1,w,st1,ok1,env.mono st1⟩) I.quiet hs
def tE(K:PySem.W.Frag)(Γ:Gam)(S:Store)(W:WD):TE:=λ σ H Q=>∃O,EnvOk K O H σ Γ/\StOk K O H S/\∀v H',QG K O H W v H'->Q v H'
theorem Vs{pins:Pins}{σ:St}{Q Q':VK}{u:Value}{s':Shared}(q:EP X pins σ Q u s')(k:∀v H',Q v H'->Q' v H'):EP X pins σ Q' u s':=by
 obtain⟨v,H',I,r,q⟩:=q
 exact⟨v,H',I,r,k v H' q⟩
theorem Ev.pe{W:WD}(h:Ev X Γ S e W):PE X e (tE X.K Γ S W):=λ pins s σ H Q I ⟨O,env,st,k⟩=>thn %[|16] λ _ _ q=>Vs q k
def tEA(K:PySem.W.Frag)(Γ:Gam)(S:Store)(W:List D->%[|5]):TA:=λ σ H Q=>∃O,EnvOk K O H σ Γ/\StOk K O H S/\∀v H',QA K O H W v H'->Q v H'
theorem EvA.pa{W:List D->%[|5]}(h:EvA X Γ S es W):PA X es (tEA X.K Γ S W):=λ pos pins s σ H Q I ⟨O,env,st,k⟩=>thn (h pos pins s σ H O I env st) λ _ _ ⟨v,H',I',r,q⟩=>⟨v,H',I',r,k v H' q⟩
theorem Ry{o i:Expr}{tpos:Pos}(h:Ev X Γ S e λ d S1=>Ev X Γ S1 o λ x S2=>Ev X Γ S2 i λ y S3=>∃k n ds j,x=.loc k/\y=.int n/\S3[k]? =some ds/\ixN ds.length n=some j/\W.nx Γ (S3.set k (ds.set j d)))
 (ha:∀v,assign (.Subscript o i tpos) X.env v=(do
  let ov ←holding [v] (eval o X.env)
  let iv ←holding [v,ov] (eval i X.env)
  standAt tpos
  holding [v,ov,iv] (setItem ov iv v)
  release [v,ov,iv] []):=by intro _;rfl)(hs:swapsWithSole [.Subscript o i tpos] e pos.line X.env=pure false:=by rfl)(hw:swappedStores [.Subscript o i tpos] e X.env=pure none:=by rfl)
 (h1:(assignEach [.Subscript o i tpos] X.env).map (·.2)=[assign (.Subscript o i tpos) X.env]:=by rfl):Rn X Γ S (.Assign [.Subscript o i tpos] e pos) W:=by
 intro pins s σ H O I env ok
 refine wpAny_Assign_stores (thn (h pins s σ H O I env ok) λ u s1 hq_=>?_) hs hw
 obtain⟨v,H1,I1,r1,O1,d,S1,w1,st1,ok1,rep1⟩:=hq_
 rw[h1]
 show wpAny _ _ (assign (.Subscript o i tpos) X.env u) _ _ _
 rw[ha]
 refine ZA (ZQ (thn (w1 pins s1 σ H1 O1 I1 (env.mono st1) ok1) λ ov s2 hq_=>?_))
 obtain⟨x,H2,I2,r2,O2,dx,S2,w2,st2,ok2,rep2⟩:=hq_
 refine ZA (ZQ (thn (w2 pins s2 σ H2 O2 I2 ((env.mono st1).mono st2) ok2) λ iv s3 hq_=>?_))
 obtain⟨y,H3,I3,r3,O3,dy,S3,⟨k,n,ds,j,ex,ey,hk,hj,w⟩,st3,ok3,rep3⟩:=hq_
 subst ex
 subst ey
 have rx:=rep2.mono st3
 cases rx with
 | @loc p _ hp=>
   cases rep3
   obtain⟨xs,hx,q⟩:=ok3.obj k p ds hp hk
   have rd:=(rep1.mono st2).mono st3
   refine ZA (wpAny_standAt (ZA (ZQ (thn (set_list pins s3 σ H3 _ _ v ov iv u (λ H'=>H'=upd H3 p (.lst (xs.set j v))) I3 r2 r3 r1 ⟨p,xs,n,j,rfl,rfl,hx,by rw[q.length];exact hj,rfl⟩) λ _ s4 hq_=>?_))))
   obtain⟨H4,I4,e4⟩:=hq_
   subst e4
   refine wpAny_release ⟨σ,_,I4,O3,Γ,_,w,((st1.trans st2).trans st3).trans (Step.put (dO hp) _),ok3.put hp (q.set rd j),(((env.mono st1).mono st2).mono st3).mono (Step.put (dO hp) _)⟩
def BdW(X:Cx)(tg:Expr)(d:D)(Γ:Gam)(S:Store)(W:Gam->%[|5]):Prop:=
 ∀ (pins:Pins)(s:Shared)(σ:St)(H:Hp)(O:Own)(v:V)(u:Value),%[|6]->EnvOk X.K O H σ Γ->StOk X.K O H S->Rep X.K O H v d->RelV v u->
   wpAny %[|8] X.A (assign tg X.env u) (λ _ s'=>∃σ' H',Inv X pins σ' H' s'/\QN X.K O H W σ' H') X.xe s
def BZ(X:Cx)(ts:List Expr)(ds:List D)(Γ:Gam)(S:Store)(W:Gam->%[|5]):Prop:=
 ∀ (pins:Pins)(s:Shared)(σ:St)(H:Hp)(O:Own)(vs:List V)(us:%[|7]),%[|6]->EnvOk X.K O H σ Γ->StOk X.K O H S->Reps X.K O H vs ds->Vals vs us->
   wpAny %[|8] X.A (assignInOrder ((assignEach ts X.env).map (·.2)) us) (λ _ s'=>∃σ' H',Inv X pins σ' H' s'/\QN X.K O H W σ' H') X.xe s
theorem Rj(i:Nat){x:Str}{d:D}{W:Gam->%[|5]}(w:W (Γ.set i (some d)) S)(hN:X.N.Nodup)(hi:X.N[i]? =some x:=by rfl)(hx:Loc X.env.scope x:=by first | exact Or.inl rfl | exact Or.inr rfl)
 (hf:X.fn x=true∨X.env.scope.names.lookup x=some .local:=by first | exact .inl rfl | exact .inr rfl):BdW X (.Name x pos) d Γ S W:=λ pins s σ H O v u I env st r ru=>
 wpAny_assign_Name (iC I hN hi hx ru (λ s' I'=>⟨_,H,I',O,_,S,w,Step.refl O H,st,env.set r i⟩) hf)
theorem RP{W:Gam->%[|5]}(w:W Γ S):BZ X [] [] Γ S W:=λ pins s σ H O vs us I env st r ru=>by
 cases r
 cases ru
 exact assignInOrder_nil ⟨σ,H,I,O,Γ,S,w,Step.refl O H,st,env⟩
theorem Mh{t:Expr}{ts:List Expr}{W:Gam->%[|5]}(h:BdW X t d Γ S λ Γ1 S1=>BZ X ts ds Γ1 S1 W)
 (hs:(assignEach (t::ts) X.env).map (·.2)=assign t X.env::(assignEach ts X.env).map (·.2):=by rfl):BZ X (t::ts) (d::ds) Γ S W:=λ pins s σ H O vs us I env st r ru=>by
 cases r with
 | cons r rr=>
   cases ru with
   | cons ru rru=>
     rw[hs]
     refine assignInOrder_cons (thn (h pins s σ H O _ _ I env st r ru) λ _ s1 hq_=>?_)
     obtain⟨σ1,H1,I1,O1,Γ1,S1,w,st1,ok1,env1⟩:=hq_
     refine thn (w pins s1 σ1 H1 O1 _ _ I1 env1 ok1 (rr.mono st1) rru) λ _ s2 hq_=>by obtain⟨σ2,H2,I2,q⟩:=hq_;exact⟨σ2,H2,I2,QN.pre st1 q⟩
theorem TQ{ts:List Expr}{W:Gam->%[|5]}(h:BZ X ts ds Γ S W)(hc:X.calm=true:=by rfl)(hn:(assignEach ts X.env).length=ds.length:=by rfl)(hst:(assignEach ts X.env).findIdx? (·.1)=none:=by rfl):BdW X (.Tuple ts k pos) (.tup ds) Γ S W:=λ pins s σ H O v u I env st r ru=>by
 cases r with
 | @tup p xs _ h1 q1=>
   cases ru
   obtain⟨its,rv,ht,hz⟩:=I.tuple h1.sq
   refine assign_Tuple_tuple (I.ok.hd hc) ht (by simp[hn,←q1.length,rv.length]) hst λ h' hx=>?_
   have I1:Inv X pins σ H {s with heap:=h'}:=I.kept (t':=s.toks) λ b o e=>hx b o (ZN (ZE e)) e
   exact h pins _ σ H O xs _ I1 env st q1 (by simpa using rv)
def iH(K:PySem.W.Frag)(J:It)(O:Own)(H:Hp)(ds:List D):Prop:=
 ∀(O':Own)(H':Hp),Conv O O' H H'->(∀a,O'.has a->H' a≠none)->∀i:Nat,(∀d,ds[i]? =some d->J.go i H'/\∀x H'',J.yld i H' x H''->bB H' H''/\Rep K O' H'' x d)/\(i=ds.length->J.stop i H')
def QI(K:PySem.W.Frag)(O:Own)(H:Hp)(W:List D->%[|5]):It->Hp->Prop:=λ J H'=>∃O' ds S',W ds S'/\Step O O' H H'/\StOk K O' H' S'/\iH K J O' H' ds
def ItW(X:Cx)(Γ:Gam)(S:Store)(tg iter:Expr)(W:List D->%[|5]):Prop:=
 ∀ (pins:Pins)(s:Shared)(σ:St)(H:Hp)(O:Own),%[|6]->EnvOk X.K O H σ Γ->StOk X.K O H S->
   wpAny %[|8] X.A (eval iter X.env) (λ v s1=>wpAny %[|8] X.A (pyIter v) (PIE X pins σ tg (QI X.K O H W)) X.xe s1) X.xe s
theorem qD{a:Addr}(h:Ls K O H a xs)(r:Reps K O H xs ds):iH K (Itl K a) O H ds:=by
 intro O' H' st _ i
 have hq:=(h.conv st).sq
 refine⟨λ d hd=>?_,λ hi=>⟨xs,hq,by rw[r.length];exact Nat.le_of_eq hi.symm⟩⟩
 obtain⟨v,hv,rv⟩:=r.get hd
 refine⟨⟨xs,v,hq,hv⟩,λ x H'' y=>?_⟩
 obtain⟨e,y⟩:=y
 subst e
 have e:=y xs hq
 rw[hv]at e
 cases e
 exact⟨bB.refl _,rv.conv st⟩
theorem tV{a:Addr}(h:Tp K O H a xs)(r:Reps K O H xs ds):iH K (Itt K a) O H ds:=by
 intro O' H' st _ i
 have hq:=(h.conv st).sq
 refine⟨λ d hd=>?_,λ hi=>⟨xs,hq,by rw[r.length];exact Nat.le_of_eq hi.symm⟩⟩
 obtain⟨v,hv,rv⟩:=r.get hd
 refine⟨⟨xs,v,hq,hv⟩,λ x H'' y=>?_⟩
 obtain⟨e,y⟩:=y
 subst e
 have e:=y xs hq
 rw[hv]at e
 cases e
 exact⟨bB.refl _,rv.conv st⟩
def upTo(lo:Int)(n:Nat):List D:=(List.range n).map λ(k:Nat)=>D.int (lo+(k:Int))
theorem ak(lo:Int)(n:Nat):(upTo lo n).length=n:=by simp[upTo]
theorem aJ{lo:Int}{n i:Nat}(h:(upTo lo n)[i]? =some d):i<n/\d=.int (lo+i):=by
 unfold upTo at h
 rw[x5]at h
 cases e:(List.range n)[i]? with
 | none=>rw[e]at h;cases h
 | some k=>
   rw[e]at h
   obtain⟨hl,hk⟩:=y3.mp e
   simp at hl hk
   subst hk
   cases h
   exact⟨hl,rfl⟩
theorem nP(lo:Int)(n:Nat):iH K (Itr lo n) O H (upTo lo n):=by
 intro O' H' st _ i
 refine⟨λ d hd=>?_,λ hi=>by rw[ak]at hi;exact Nat.le_of_eq hi.symm⟩
 obtain⟨hi,ed⟩:=aJ hd
 subst ed
 refine⟨hi,λ x H'' y=>?_⟩
 obtain⟨e,ex⟩:=y
 subst e
 subst ex
 exact⟨bB.refl _,.int _⟩
theorem Ju{tg a:Expr}{W:List D->%[|5]}(h:Ev X Γ S a λ d S1=>∃j:Int,d=.int j/\ -(2 ^ 62)≤j/\j<2 ^ 62/\W (upTo 0 j.toNat) S1)(hm:X.mg "range"=none)(hg:Gl X "range":=by rfl)(hs:starEach [a] X.env=[(false,eval a X.env)]:=by rfl):
 ItW X Γ S tg (.Call (.Name "range" p) [a] [] pos) W:=by
 sleep 0
 refine JL hg hm (bL h.pe fH hs) hs pins s σ H _ I ⟨O,env,st,λ v H' q=>?_⟩
 obtain⟨O',d,S',⟨j,ed,h1,h2,w⟩,st1,ok1,rep⟩:=q
 subst ed
 cases rep
 exact⟨j,rfl,h1,h2,O',_,S',w,st1,ok1,nP 0 _⟩
theorem La{tg a b:Expr}{W:List D->%[|5]}(h:Ev X Γ S a λ d S1=>Ev X Γ S1 b λ d' S2=>∃i j:Int,d=.int i/\d'=.int j/\(-(2 ^ 62)≤i/\i<2 ^ 62/\ -(2 ^ 62)≤j/\j<2 ^ 62)/\W (upTo i (j-i).toNat) S2)(hm:X.mg "range"=none)(hg:Gl X "range":=by rfl)
 (hs:starEach [a,b] X.env=[(false,eval a X.env),(false,eval b X.env)]:=by rfl)(hs2:starEach [b] X.env=[(false,eval b X.env)]:=by rfl):
 ItW X Γ S tg (.Call (.Name "range" p) [a,b] [] pos) W:=by
 sleep 0
 have hA:EvA X Γ S [a,b] λ ds S2=>∃i j:Int,ds=[.int i,.int j]/\(-(2 ^ 62)≤i/\i<2 ^ 62/\ -(2 ^ 62)≤j/\j<2 ^ 62)/\W (upTo i (j-i).toNat) S2:=
  dX (h.mono λ d S1 h1=>dX (h1.mono λ d' S2 ⟨i,j,e1,e2,hb,w⟩=>j7 ⟨i,j,by rw[e1,e2],hb,w⟩) hs2) (by rw[hs,hs2])
 refine IK hg hm hA.pa hs hs2 pins s σ H _ I ⟨O,env,st,λ v H' q=>?_⟩
 obtain⟨O',ds,S',⟨i,j,ed,hb,w⟩,st1,ok1,rep⟩:=q
 subst ed
 cases rep with
 | cons r1 r2=>
   cases r2 with
   | cons r2 r3=>
     cases r3
     cases r1
     cases r2
     exact⟨i,j,rfl,hb,O',_,S',w,st1,ok1,nP i _⟩
theorem V0{tg iter:Expr}{body:List Stmt}(h:ItW X Γ S tg iter λ ds S1=>∃Pv:Nat->Gam->%[|5],Pv 0 Γ S1/\
 (∀i d Γ' S',ds[i]? =some d->Pv i Γ' S'->BdW X tg d Γ' S' λ Γ2 S2=>Rns X Γ2 S2 body {W with nx:=Pv (i+1),ct:=Pv (i+1),bk:=W.nx})/\(∀Γ' S',Pv ds.length Γ' S'->W.nx Γ' S'))
 (hp:PassesOwn %[|8] X.A X.env X.xe:=by exact PassesOwn.never)(hc:X.calm=true:=by rfl)(hs:∀x,foldedSetIterable iter X.env x=pure x:=by intro _;rfl):Rn X Γ S (.For tg iter body [] pos) W:=by
 intro pins s σ H O I env ok
 let WI:List D->%[|5]:=λ ds S1=>∃Pv:Nat->Gam->%[|5],Pv 0 Γ S1/\
     (∀i d Γ' S',ds[i]? =some d->Pv i Γ' S'->BdW X tg d Γ' S' λ Γ2 S2=>Rns X Γ2 S2 body {W with nx:=Pv (i+1),ct:=Pv (i+1),bk:=W.nx})/\(∀Γ' S',Pv ds.length Γ' S'->W.nx Γ' S')
 have hI:PI X tg iter (λ σ H R=>∃O,EnvOk X.K O H σ Γ/\StOk X.K O H S/\∀J H',QI X.K O H WI J H'->R J H'):=λ pins s σ H R I hh=>by
  obtain⟨O,env,st,k⟩:=hh
  refine thn %[|16] λ _ _ q=>thn q λ _ _ q2=>?_
  obtain⟨it,fp,tn,J,H',e1,e2,e3,e4,e5,e6⟩:=q2
  exact⟨it,fp,tn,J,H',e1,e2,e3,e4,e5,k J H' e6⟩
 have hG:PG X tg (λ v σ H Q=>∃O d Γ S W',EnvOk X.K O H σ Γ/\StOk X.K O H S/\Rep X.K O H v d/\BdW X tg d Γ S W'/\∀σ' H',QN X.K O H W' σ' H'->Q σ' H'):=λ pins s σ H v u Q I ru hh=>by
  obtain⟨O,d,Γ,S,W',env,st,r,b,k⟩:=hh
  refine thn (b pins s σ H O v u I env st r ru) λ _ _ q2=>?_
  obtain⟨σ',H',I',q⟩:=q2
  exact⟨σ',H',I',k σ' H' q⟩
 have hB:PSs X body (λ D σ H=>∃O Γ S W',EnvOk X.K O H σ Γ/\StOk X.K O H S/\Rns X Γ S body W'/\(∀σ' H',QN X.K O H W'.nx σ' H'->D.nx σ' H')/\(∀v H',QG X.K O H W'.rt v H'->D.rt v H')/\(∀σ' H',QN X.K O H W'.bk σ' H'->D.bk σ' H')/\∀σ' H',QN X.K O H W'.ct σ' H'->D.ct σ' H'):=
  λ pins s σ H D I hh=>by
   obtain⟨O,Γ,S,W',env,st,b,k1,k2,k3,k4⟩:=hh
   refine thn (b pins s σ H O I env st) λ f s' q=>?_
   cases f with
   | next=>obtain⟨σ',H',I',q⟩:=q;exact⟨σ',H',I',k1 σ' H' q⟩
   | brk=>obtain⟨σ',H',I',q⟩:=q;exact⟨σ',H',I',k3 σ' H' q⟩
   | cont=>obtain⟨σ',H',I',q⟩:=q;exact⟨σ',H',I',k4 σ' H' q⟩
   | ret u=>obtain⟨v,σ',H',I',r,q⟩:=q;exact⟨v,σ',H',I',r,k2 v H' q⟩
 refine JX hp hc hI hG hB hs pins s σ H _ I ⟨O,env,ok,λ J H1 q=>?_⟩
 obtain⟨O1,ds,S1,⟨Pv,p0,pt,pe⟩,st1,ok1,yl⟩:=q
 refine⟨λ i m σ' H'=>m=ds.length-i/\i≤ds.length/\∃O' Γ' S',Pv i Γ' S'/\Step O1 O' H1 H'/\StOk X.K O' H' S'/\EnvOk X.K O' H' σ' Γ',⟨ds.length,by simp,Nat.zero_le _,O1,Γ,S1,p0,Step.refl _ _,ok1,env.mono st1⟩,?_⟩
 rintro i m σ2 H2 ⟨rfl,hi,O2,Γ2,S2,p2,st2,ok2,env2⟩
 obtain⟨y1,y2⟩:=yl O2 H2 st2.conv (λ a ha=>ok2.tracked ha) i
 by_cases hlt:i<ds.length
 . obtain⟨go,yy⟩:=y1 ds[i] (y4 hlt)
   refine .inr ⟨go,λ σ' H'=>i+1≤ds.length/\∃O' Γ' S',Pv (i+1) Γ' S'/\Step O1 O' H1 H'/\StOk X.K O' H' S'/\EnvOk X.K O' H' σ' Γ',λ σ' H' q=>⟨ds.length-(i+1),%[|0],rfl,q.1,q.2⟩,λ x H3 y=>?_⟩
   obtain⟨sm,rx⟩:=yy x H3 y
   have st3:=Step.same (O:=O2) sm
   refine⟨O2,ds[i],Γ2,S2,_,env2.mono st3,ok2.same sm,rx,pt i ds[i] Γ2 S2 (y4 hlt) p2,λ σ4 H4 q4=>?_⟩
   obtain⟨O4,Γ4,S4,w4,st4,ok4,env4⟩:=q4
   have stA:=(st2.trans st3).trans st4
   refine⟨O4,Γ4,S4,_,env4,ok4,w4,?_,?_,?_,?_⟩
   . rintro σ5 H5 ⟨O5,Γ5,S5,w5,st5,ok5,env5⟩
     exact⟨hlt,O5,Γ5,S5,w5,stA.trans st5,ok5,env5⟩
   . exact λ v H' q=>QG.pre (st1.trans stA) q
   . exact λ σ' H' q=>QN.pre (st1.trans stA) q
   . rintro σ5 H5 ⟨O5,Γ5,S5,w5,st5,ok5,env5⟩
     exact⟨hlt,O5,Γ5,S5,w5,stA.trans st5,ok5,env5⟩
 . have e:i=ds.length:=%[|0]
   subst e
   exact .inl ⟨y2 rfl,O2,Γ2,S2,pe Γ2 S2 p2,st1.trans st2,ok2,env2⟩
theorem Qh {P:Program}{w:World}{mg:%[|15]}{base:Heap}{qual:Str}{sm:Stmt}{f:Addr}{fd:FuncData}{N ps:%[|1]}{F:Ct}(FF:Fun K x qual sm f fd)(SC:FnScope N ps (aq sm))
 (body:∀(cdv:Value)(A:Around)(outer:List Env)(s:Shared)(H:Hp)(E:XK)(ds:List D)(S:Store)(W:WD),fd.code=cdv->Room k (A.deeper (envOfC qual (aq sm) s.heap.objs.size f cdv))->ds.length=ps.length->F ds S W->
  Rns (dB CX0 P w K mg base N qual (aq sm) f cdv A outer s H E).nox (ds.map some++List.replicate (N.length-ds.length) none) S (bM sm) %[|25]):FnOk P w K mg base CX0 (k+1) f fd ps (spC K ps.length F):=by
 obtain⟨oc,od,kV,doc,pm,an,cdv,ct,osl,rfl,lk,hcd⟩:=FF.ex
 refine Qi lk hcd SC (λ vs H Q E h=>?_) λ A outer s H vs Q E hr h=>?_
 . obtain⟨O,ds,S,W,hl,r,_⟩:=h
   rw[r.length,hl]
 . obtain ⟨O,ds,S,W,hl,r,st,hF,q⟩:=h
   have hB:=body cdv A outer s H E ds S W rfl hr hl hF
   suffices key:∃t,PSs (dB CX0 P w K mg base N qual (aq sm) f cdv A outer s H E).nox (bM sm) t/\t {nx:=λ _ H'=>Q .non H',rt:=Q} (L2.start N vs) H from let ⟨t,h,q⟩:=key;⟨t,h.nox,q⟩
   refine⟨λ D σ H'=>∃O Γ S W',EnvOk K O H' σ Γ/\StOk K O H' S/\Rns (dB CX0 P w K mg base N qual (aq sm) f cdv A outer s H E).nox Γ S (bM sm) W'/\(∀σ' H2,QN K O H' W'.nx σ' H2->D.nx σ' H2)/\(∀v H2,QG K O H' W'.rt v H2->D.rt v H2)/\(∀σ' H2,QN K O H' W'.bk σ' H2->D.bk σ' H2)/\∀σ' H2,QN K O H' W'.ct σ' H2->D.ct σ' H2,?_,?_⟩
   . rintro pins s σ H' D I ⟨O,Γ,S,W',env,st,b,k1,k2,k3,k4⟩
     refine thn (b pins s σ H' O I env st) λ f s' q=>?_
     cases f with
     | next=>obtain⟨σ',H',I',q⟩:=q;exact⟨σ',H',I',k1 σ' H' q⟩
     | brk=>obtain⟨σ',H',I',q⟩:=q;exact⟨σ',H',I',k3 σ' H' q⟩
     | cont=>obtain⟨σ',H',I',q⟩:=q;exact⟨σ',H',I',k4 σ' H' q⟩
     | ret u=>obtain⟨v,σ',H',I',r,q⟩:=q;exact⟨v,σ',H',I',r,k2 v H' q⟩
   . refine⟨O,_,S,_,?_,st,hB,?_,?_,?_,?_⟩
     . have hv:vs.length=ds.length:=r.length
       refine⟨by simp[L2.start,hv],λ i d h=>?_⟩
       by_cases hi:i<ds.length
       . rw[List.getElem?_append_left (by simpa using hi),x5]at h
         cases e:ds[i]? with
         | none=>rw[e]at h;cases h
         | some d'=>
           rw[e]at h
           cases h
           obtain⟨v,hv',rv⟩:=r.get e
           refine⟨v,?_,rv⟩
           unfold L2.start
           rw[List.getElem?_append_left (by rw[y8,hv];exact hi),x5,hv']
           rfl
       . rw[List.getElem?_append_right (by simpa using hi),List.getElem?_replicate]at h
         split at h<;>cases h
     . rintro σ' H2 ⟨O',Γ',S',w,st',ok',_⟩
       exact q _ _ ⟨O',.non,S',w,st',ok',.non⟩
     . exact λ v H2 z=>q v H2 z
     . rintro σ' H2 ⟨_,_,_,w,_⟩
       exact w.elim
     . rintro σ' H2 ⟨_,_,_,w,_⟩
       exact w.elim
end
end DL
namespace DL
open PySem PySem.Spec L2
open PyProof.Rows
variable {K : PySem.W.Frag} {O : Own} {H : Hp} {s : Shared}
def rk(env:Env)(n:Str)(k:NameKind):NameKind:=if(k==NameKind.free&&env.scope.kind==.function&&env.kindOf n==some .cell)=true then .cell else k
theorem lW(sc:Scope)(env:Env):(relabel sc env).names=sc.names.map λ p=>(p.1,rk env p.1 p.2):=by
 show sc.names.map _=_
 congr 1
 funext p
 obtain⟨n,k⟩:=p
 unfold rk
 by_cases h:(k==NameKind.free&&env.scope.kind==.function&&env.kindOf n==some .cell)=true
 . simp only[h,if_true]
 . simp only[h,if_false,Bool.false_eq_true]
theorem fG(g:Str->NameKind->NameKind)(x:Str):∀names:List (Str×NameKind),(names.map λ p=>(p.1,g p.1 p.2)).lookup x=(names.lookup x).map (g x)
 | []=>rfl
 | (n,k)::r=>by
   have ih:=fG g x r
   rw[List.map_cons,List.lookup_cons,List.lookup_cons]
   cases hx:x==n with
   | true=>rw[ZI hx];rfl
   | false=>exact ih
theorem su(env:Env)(n:Str)(k:NameKind):rk env n k=k∨(k=.free/\rk env n k=.cell):=by
 unfold rk
 by_cases h:(k==NameKind.free&&env.scope.kind==.function&&env.kindOf n==some .cell)=true
 . rw[if_pos h]
   rw[Bool.and_eq_true,Bool.and_eq_true]at h
   exact .inr ⟨ZI h.1.1,rfl⟩
 . rw[if_neg h];exact .inl rfl
theorem jV{env:Env}{sc:Scope}{x:Str}{k:NameKind}(h:(relabel sc env).names.lookup x=some k):∃k0,sc.names.lookup x=some k0/\(k=k0∨(k0=.free/\k=.cell)):=by
 rw[lW,fG]at h
 cases e:sc.names.lookup x with
 | none=>rw[e]at h;cases h
 | some k0=>
   rw[e]at h
   have h':rk env x k0=k:=Option.some.inj h
   refine⟨k0,rfl,?_⟩
   rcases su env x k0 with q | ⟨q1,q2⟩
   . exact .inl (h'.symm.trans q)
   . exact .inr ⟨q1,h'.symm.trans q2⟩
theorem yV{env:Env}{sc:Scope}{x:Str}(h:sc.names.lookup x=some .free):(relabel sc env).names.lookup x=some .cell∨(relabel sc env).names.lookup x=some .free:=by
 rw[lW,fG,h]
 rcases su env x .free with q | ⟨_,q⟩
 . exact .inr (congrArg some q)
 . exact .inl (congrArg some q)
def closes(env:Env):List (Str×NameKind)->List (Str×Addr)->List (Str×Addr)
 | [],cs=>cs
 | (n,k)::r,cs=>closes env r (if k==.free then(n,(env.cells.lookup n).getD 0)::cs else cs)
theorem qw{env:Env}:∀(names:List (Str×NameKind))(cs:List (Str×Addr)),(∀y∈names,y.2=.free->∃c,env.cells.lookup y.1=some c)->
 (forIn (m:=Sem) names cs λ x r=>if(x.2==.free)=true then do let a ←cellOf env x.1;pure (ForInStep.yield ((x.1,a)::r))else pure (ForInStep.yield r))=pure (closes env names cs)
 | [],cs,_=>by rw[List.forIn_nil];rfl
 | (n,k)::r,cs,h=>by
   rw[List.forIn_cons]
   have ih:=λ cs=>qw (env:=env) r cs λ y hy=>h y (x8 _ hy)
   by_cases hk:(k==NameKind.free)=true
   . obtain⟨c,hc⟩:=h (n,k) v3 (ZI hk)
     have hc':env.cells.lookup n=some c:=hc
     have e:cellOf env n=pure c:=by unfold cellOf;rw[hc']
     have q:=ih ((n,c)::cs)
     simp only[hk,if_true,e,pure_bind]
     rw[q]
     simp[closes,hk,hc']
   . have q:=ih cs
     simp only[hk,if_false,pure_bind,Bool.false_eq_true]
     rw[q]
     simp[closes,hk]
theorem mq{env:Env}{sc:Scope}(h:∀y∈sc.names,y.2=.free->∃c,env.cells.lookup y.1=some c):closureFor sc env=pure (closes env sc.names []):=by
 have q:=qw (env:=env) sc.names [] h
 unfold closureFor
 first
  | (simp only[bind_pure];exact q)
  | (rw[show(forIn sc.names ([]:List (Str×Addr)) _:Sem _)=_ from q];rfl)
  | (refine Eq.trans (congrArg (λ t=>t>>=pure) q) ?_;simp)
theorem qu{env:Env}{x:Str}{c:Addr}:∀(names:List (Str×NameKind))(cs:List (Str×Addr)),(∀y∈names,y.2=.free->∃c,env.cells.lookup y.1=some c)->(∀c,cs.lookup x=some c->env.cells.lookup x=some c)->(closes env names cs).lookup x=some c->env.cells.lookup x=some c
 | [],cs,_,hc,h=>hc c h
 | (n, k)::r,cs,hf,hc,h=>by
   refine qu r _ (λ y hy=>hf y (x8 _ hy)) ?_ h
   intro c' h'
   by_cases hk:(k==NameKind.free)=true
   . rw[if_pos hk]at h'
     obtain⟨c2,h2⟩:=hf (n,k) v3 (ZI hk)
     have h2:env.cells.lookup n=some c2:=h2
     rw[List.lookup_cons]at h'
     cases hx:x==n with
     | true=>
       rw[hx,h2]at h'
       have e:x=n:=ZI hx
       subst e
       simp only[Option.getD_some]at h'
       cases h'
       exact h2
     | false=>rw[hx]at h';exact hc c' h'
   . rw[if_neg hk]at h'
     exact hc c' h'
theorem gK{env:Env}{x:Str}:∀(names:List (Str×NameKind))(cs:List (Str×Addr)),((∃c,cs.lookup x=some c)∨names.lookup x=some .free)->∃c,(closes env names cs).lookup x=some c
 | [],cs,h=>by
   rcases h with h | h
   . exact h
   . simp at h
 | (n, k)::r,cs,h=>by
   refine gK r _ ?_
   rcases h with⟨c,h⟩ | h
   . refine .inl ?_
     by_cases hk:(k==NameKind.free)=true
     . rw[if_pos hk,List.lookup_cons]
       cases hx:x==n with
       | true=>exact⟨_,rfl⟩
       | false=>exact⟨c,h⟩
     . rw[if_neg hk];exact⟨c,h⟩
   . rw[List.lookup_cons]at h
     cases hx:x==n with
     | true=>
       rw[hx]at h
       simp only at h
       cases h
       refine .inl ⟨(env.cells.lookup n).getD 0,?_⟩
       simp[List.lookup_cons,hx]
     | false=>rw[hx]at h;exact .inr h
def f9(X:Cx)(sc:Scope)(N:%[|1])(C:Addr)(s:Shared)(H:Hp)(ex:List Addr)(cl:List (Str×Addr)):Cx:=
 {X with N:=N,s₀:=s,H₀:=H,env:=compEnvC sc cl C X.env,outer:=X.stack,stack:=X.stack,ex:=ex,fn:=λ x=>sc.names.lookup x==some .cell,pn:=[]}
def capt{α:Type}(cap:List (Option Nat))(xs:List (Option α)):List (Option α):=cap.map λ o=>o.bind λ j=>(xs[j]?).join
def bh(N:%[|1])(names:List (Str×NameKind))(N':%[|1])(names':List (Str×NameKind)):List (Option Nat)->%[|1]->Bool
 | [],[]=>true
 | none::r,_::t=>bh N names N' names' r t
 | some j::r,x::t=>(N[j]? ==some x)&&(names.lookup x==some .cell||names.lookup x==some .free)&&(names'.lookup x==some .free)&&bh N names N' names' r t
 | _,_=>false
theorem nA{N:%[|1]}{names:List (Str×NameKind)}{N':%[|1]}{names':List (Str×NameKind)}:∀{cap:List (Option Nat)}{t:%[|1]},bh N names N' names' cap t=true->cap.length=t.length
 | [],[],_=>rfl
 | [],_::_,h=>by simp[bh]at h
 | _::_,[],h=>by
   rename_i o r
   cases o<;>simp[bh]at h
 | none::r,_::t,h=>by simp only[bh]at h;simp[nA h]
 | some j::r,x::t,h=>by
   simp only[bh,Bool.and_eq_true]at h
   simp[nA h.2]
theorem rW{N:%[|1]}{names:List (Str×NameKind)}{N':%[|1]}{names':List (Str×NameKind)}:∀{cap:List (Option Nat)}{t:%[|1]}{i j:Nat},bh N names N' names' cap t=true->cap[i]? =some (some j)->
 ∃x,t[i]? =some x/\N[j]? =some x/\(names.lookup x=some .cell∨names.lookup x=some .free)/\names'.lookup x=some .free
 | [],_,_,_,_,h=>by simp at h
 | none::r,[],_,_,h,_=>by simp[bh]at h
 | some _::r,[],_,_,h,_=>by simp[bh]at h
 | none::r,x::t,0,j,_,h=>by simp at h
 | none::r,x::t,i+1,j,h,e=>by
   simp only[bh]at h
   obtain⟨y,a,b⟩:=rW (i:=i) h (by simpa using e)
   exact⟨y,by simpa using a,b⟩
 | some k::r,x::t,0,j,h,e=>by
   simp only[bh,Bool.and_eq_true,Bool.or_eq_true,beq_iff_eq]at h
   simp at e
   subst e
   exact⟨x,rfl,h.1.1.1,h.1.1.2,h.1.2⟩
 | some k::r,x::t,i+1,j,h,e=>by
   simp only[bh,Bool.and_eq_true]at h
   obtain⟨y,a,b⟩:=rW (i:=i) h.2 (by simpa using e)
   exact⟨y,by simpa using a,b⟩
theorem Gp{α:Type}{cap:List (Option Nat)}{xs:List (Option α)}{i:Nat}{d:α}(h:(capt cap xs)[i]? =some (some d)):∃j,cap[i]? =some (some j)/\xs[j]? =some (some d):=by
 unfold capt at h
 rw[x5]at h
 cases e:cap[i]? with
 | none=>rw[e]at h;cases h
 | some o=>
   rw[e]at h
   cases o with
   | none=>simp at h
   | some j=>
     simp at h
     refine⟨j,rfl,?_⟩
     cases q:xs[j]? with
     | none=>rw[q]at h;cases h
     | some z=>rw[q]at h;simp at h;rw[h]
theorem EnvOk.capt{σ:St}{Γ:Gam}(e:EnvOk K O H σ Γ)(cap:List (Option Nat)):EnvOk K O H (capt cap σ) (capt cap Γ):=by
 refine⟨by simp[DL.capt],λ i d h=>?_⟩
 obtain⟨j,hj,hd⟩:=Gp h
 obtain⟨v,hv,r⟩:=e.at_ j d hd
 refine⟨v,?_,r⟩
 unfold DL.capt
 rw[x5,hj]
 simp[hv]
def Sub(Γ Γ':Gam):Prop:=Γ.length=Γ'.length/\∀(i:Nat)(d:D),Γ[i]? =some (some d)->Γ'[i]? =some (some d)
theorem Sub.refl(Γ:Gam):Sub Γ Γ:=⟨rfl,λ _ _ h=>h⟩
theorem Sub.set{Γ Γ':Gam}(s:Sub Γ Γ')(i:Nat)(d:Option D)(h:Γ[i]? =some none:=by rfl):Sub Γ (Γ'.set i d):=⟨by rw[List.length_set];exact s.1,λ j c hj=>by
 have ne:i≠j:=λ e=>by subst e;rw[h]at hj;cases hj
 rw[List.getElem?_set_ne ne];exact s.2 j c hj⟩
theorem EnvOk.sub{σ:St}{Γ Γ':Gam}(e:EnvOk K O H σ Γ')(s:Sub Γ Γ'):EnvOk K O H σ Γ:=⟨e.len.trans s.1.symm,λ i d h=>e.at_ i d (s.2 i d h)⟩
theorem EnvOk.conv{O':Own}{H':Hp}{σ:St}{Γ:Gam}(e:EnvOk K O H σ Γ)(s:Conv O O' H H'):EnvOk K O' H' σ Γ:=
 ⟨e.len,λ i d h=>let ⟨v,a,b⟩:=e.at_ i d h;⟨v,a,b.conv s⟩⟩
def freeOk(names names':List (Str×NameKind)):Bool:=names'.all λ y=>!(y.2==.free)||(names.lookup y.1==some .cell||names.lookup y.1==some .free)
theorem n8{names names':List (Str×NameKind)}(h:freeOk names names'=true):∀y∈names',y.2=.free->names.lookup y.1=some .cell∨names.lookup y.1=some .free:=λ y hy e=>by
 have q:=List.all_eq_true.mp h y hy
 simp only[e,beq_self_eq_true,Bool.not_true,Bool.false_or,Bool.or_eq_true,beq_iff_eq]at q
 exact q
def zy(names:List (Str×NameKind)):Bool:=match names.filter (λ y=>y.2==.cell)with
 | []=>true
 | [y]=>names.lookup y.1==some .cell
 | _=>false
theorem yL{names:List (Str×NameKind)}(h:names.filter (λ y=>y.2==.cell)=[])(n:Nat)(acc:List (Str×Addr))(hp:Heap):cellsFrom n names acc=acc/\pushCells hp names=hp:=by
 induction names with
 | nil=>exact⟨rfl,rfl⟩
 | cons y r ih=>
   obtain⟨x,k⟩:=y
   rw[List.filter_cons]at h
   by_cases hk:(k==NameKind.cell)=true
   . rw[if_pos hk]at h;cases h
   . rw[if_neg hk]at h
     obtain⟨i1,i2⟩:=ih h
     unfold cellsFrom pushCells
     rw[if_neg hk,if_neg hk]
     exact⟨i1,i2⟩
theorem vV{names:List (Str×NameKind)}{t:Str×NameKind}(h:names.filter (λ y=>y.2==.cell)=[t])(n:Nat)(acc:List (Str×Addr))(hp:Heap):cellsFrom n names acc=(t.1,n)::acc/\pushCells hp names=hp.push {cls:=.type "cell",data:=.cell none}:=by
 induction names with
 | nil=>cases h
 | cons y r ih=>
   obtain⟨x,k⟩:=y
   rw[List.filter_cons]at h
   by_cases hk:(k==NameKind.cell)=true
   . rw[if_pos hk]at h
     have e:=List.cons.inj h
     obtain⟨i1,i2⟩:=yL e.2 (n+1) ((x,n)::acc) (hp.push {cls:=.type "cell",data:=.cell none})
     unfold cellsFrom pushCells
     rw[if_pos hk,if_pos hk,i1,i2,←e.1]
     exact⟨rfl,rfl⟩
   . rw[if_neg hk]at h
     obtain⟨i1,i2⟩:=ih h
     unfold cellsFrom pushCells
     rw[if_neg hk,if_neg hk]
     exact⟨i1,i2⟩
theorem Ra{M:Model}{A:Around}{E:%[|11]}{scope:Scope}{globals:Addr}{closure:List (Str×Addr)}{qual:Str}{outer:Env}{Q:Env->Shared->Prop}
 (hQ:Q (newEnv scope s.heap.objs.size globals (cellsFrom (s.heap.objs.size+1) scope.names closure) qual none .none (some outer) builtinsNs) {s with heap:=pushCells (s.heap.push {cls:=.type "dict",data:=.dict #[]}) scope.names}):
 wpAny M A (newFunctionEnv scope globals closure [] qual none .none (some outer)) Q E s:=by
 simp only[newFunctionEnv,Option.isSome_some,if_true]
 refine ZA (wpAny_alloc ?_)
 refine ZA (wpAny_layCells _ (λ name kind cells=>by cases hkc:kind==NameKind.cell<;>simp[hkc]) _ _ _ _ ?_)
 rw[show({s with heap:=s.heap.push {cls:=.type "dict",data:=.dict #[]}}:Shared).heap.objs.size=s.heap.objs.size+1 from Heap.size_push ..]
 rw[List.forIn_nil]
 exact ZA (ZB (ZB hQ))
structure CelsB(X:Cx)(sc:Scope)(cl:List (Str×Addr))(z:Nat)(h1:Heap):Prop where
 lk:∀x c,cl.lookup x=some c->X.env.cells.lookup x=some c∨(c=z/\sc.names.lookup x=some .cell/\h1.IsCell c none/\∀y,cl.lookup y=some c->y=x)
 has:∀x,sc.names.lookup x=some .cell∨sc.names.lookup x=some .free->∃c,cl.lookup x=some c
 cp:∀x c,sc.names.lookup x=some .free->X.env.cells.lookup x=some c->cl.lookup x=some c
 ow:∀x c,sc.names.lookup x=some .cell->cl.lookup x=some c->z≤c
section
variable {X : Cx}
theorem RJ{pins:Pins}{σ:St}{sc:Scope}{N':%[|1]}{cap:List (Option Nat)}{fp:List Addr}{h1:Heap}{t:Nat}(I:%[|6])(hfp:∀b∈fp,fY X pins H b)(hob:∀b∈fp,∃o,s.heap.get? b=some o)
 {cl:List (Str×Addr)}(hkind:sc.kind=.function)(hcl:CelsB X sc cl (s.heap.objs.size+2) h1)(hfree:∀y∈sc.names,y.2=.free->X.env.kindOf y.1=some .cell∨X.env.kindOf y.1=some .free)(hcap:bh X.N X.env.scope.names N' sc.names cap N'=true)
 (k:∀b u,s.heap.get? b=some u->h1.get? b=some u)(hD:h1.get? s.heap.objs.size=some {cls:=.type "list",data:=.seq #[] 0})(hC:∃m,h1.Ns (s.heap.objs.size+1) m):
 Inv (f9 X sc N' (s.heap.objs.size+1) s H fp cl) [] (capt cap σ) (upd H s.heap.objs.size (.lst [])) {s with heap:=h1,toks:=t}:=by
 have fr0:H s.heap.objs.size=none:=I.hok.fresh (x6 _)
 have fr1:H (s.heap.objs.size+1)=none:=I.hok.fresh (Nat.le_succ _)
 have fr2:H (s.heap.objs.size+2)=none:=I.hok.fresh %[|0]
 have lt:∀b∈fp,b<s.heap.objs.size:=λ b hb=>let ⟨o,e⟩:=hob b hb;ZE e
 have clt:∀{x c},X.env.cells.lookup x=some c->c<s.heap.objs.size:=λ{x c} h=>by
  obtain⟨v,q⟩:=I.cell x c h
  exact q.lt
 refine⟨⟨I.ok.mod,hkind,I.ok.glob,I.ok.blt,Nat.le_succ _,λ x y c a b=>?_,λ x hx=>?_,λ x c z e=>?_,I.ok.hd,I.ok.frames,.inl rfl,λ b hb=>⟨ZN (Nat.lt_succ_of_lt (lt b hb)),λ x c h=>?_⟩,
  I.bs,Nat.le_trans I.ok.bsz I.sz,λ b o e hb=>?_,λ b hb z=>?_,I.stack,I.stkFree⟩,rfl,I.bare,Un.laid k (x6 _) fr0,?_,λ x c h=>?_,?_,λ x c h=>?_,λ p hp=>absurd (show p∈([]:Pins)from hp) (by simp),I.hok.laid k (x6 _) ⟨Nat.zero_le _,[],0,.nil,hD⟩,?_⟩
 . rcases hcl.lk x c a with q | ⟨_,_,_,q⟩
   . rcases hcl.lk y c b with q' | ⟨_,_,_,q'⟩
     . exact I.ok.inj x y c q q'
     . exact q' x a
   . exact(q y b).symm
 . have hx':(relabel sc X.env).names.lookup x=some .cell∨(relabel sc X.env).names.lookup x=some .free:=hx
   have z:sc.names.lookup x=some .cell∨sc.names.lookup x=some .free:=by
    rcases hx' with q | q
    . obtain⟨k0,e,r⟩:=jV q
      rcases r with r | r
      . exact .inl (by rw[e,r])
      . exact .inr (by rw[e,r.1])
    . obtain⟨k0,e,r⟩:=jV q
      rcases r with r | r
      . exact .inr (by rw[e,r])
      . exact absurd r.2 %[|2]
   exact hcl.has x z
 . have z':sc.names.lookup x=some .cell:=ZI z
   have:=hcl.ow x c z' e
   show s.heap.objs.size≤c
   omega
 . rcases hcl.lk x c h with q | ⟨q,_⟩
   . exact(hfp b hb).2.2.2.2.1 x c q
   . exact λ e=>Nat.lt_irrefl _ (ZM (lt b hb) (by rw[←e,q];exact Nat.le_add_right _ _))
 . rcases(hfp b hb).2.2.2.1 with z | z
   . exact I.ok.noex b o e z
   . exact absurd (ZM (ZE e) (Nat.le_trans I.ok.bsz z)) (Nat.lt_irrefl _)
 . rcases ZJ.mp (I.stkSub b z)with q | q
   . exact(hfp b hb).2.1 q
   . exact(hfp b hb).2.2.1 q
 . obtain⟨m,hm⟩:=hC
   refine⟨m,hm,λ i x v e1 e2 e3=>?_⟩
   obtain⟨j,hj,hv⟩:=Gp e2
   obtain⟨y,a,b,c,d⟩:=rW hcap hj
   have e1':N'[i]? =some x:=e1
   rw[a]at e1'
   cases e1'
   obtain⟨m0,hn0,hl⟩:=I.loc
   have vis:Vis X.env.scope x:=by
    rcases c with c | c
    . exact .inr (.inl c)
    . exact .inr (.inr c)
   obtain⟨u,r,l⟩:=hl j x v b hv vis
   refine⟨u,r,?_⟩
   rcases l with⟨q,_⟩ | ⟨q,cc,hc,hcell'⟩
   . exfalso
     have q':X.env.scope.names.lookup x=some .local:=q
     rcases c with c | c<;>· rw[c]at q';cases q'
   . have h2:=hcl.cp x cc d hc
     obtain⟨o,ho,hd⟩:=hcell'
     refine .inr ⟨?_,cc,h2,⟨o,k _ _ ho,hd⟩⟩
     exact yV d
 . rcases hcl.lk x c h with q | ⟨_,_,q,_⟩
   . obtain⟨v,o,ho,hd⟩:=I.cell x c q
     exact⟨v,o,k _ _ ho,hd⟩
   . exact⟨_,q⟩
 . show upd H s.heap.objs.size (.lst []) (s.heap.objs.size+1)=none
   rw[ao (Nat.succ_ne_self _)];exact fr1
 . rcases hcl.lk x c h with q | ⟨q,_⟩
   . rw[ao (ZN (clt q))];exact I.freeC x c q
   . subst q
     rw[ao (Nat.ne_of_gt (Nat.lt_add_of_pos_right %[|2]))];exact fr2
 . show(capt cap σ).length=N'.length
   rw[←nA hcap]
   simp[capt]
theorem vP{α:Type}{t:Sem α}{Q:α->Shared->Prop}{M:Model}{A:Around}{E E':%[|11]}(hx:E=λ _ _=>False)(h:wpAny M A t Q E s):wpAny M A t Q E' s:=wpAny_mono h (λ _ _ q=>q) λ _ _ z=>by rw[hx]at z;exact z.elim
def TsA(X:Cx)(Γ:Gam)(S:Store):List Expr->(Bool->%[|5])->Prop
 | [],W=>W true S
 | [c],W=>Ts X Γ S c W
 | _,_=>False
theorem QK{X:Cx}{Γ:Gam}{S:Store}{ifs:List Expr}{W:Bool->%[|5]}(h:TsA X Γ S ifs W){pins:Pins}{s:Shared}{σ:St}{H:Hp}{O:Own}(I:%[|6])(env:EnvOk X.K O H σ Γ)(st:StOk X.K O H S):
 wpAny %[|8] X.A (forIn ifs true λ c r=>if r=true then do let ok ←isTrue c X.env (eval c X.env);pure (ForInStep.yield ok)else pure (ForInStep.yield r)) (TP X pins σ (QT X.K O H W)) X.xe s:=by
 match ifs,h with
 | [],h=>exact wpAny_tests_nil ⟨H,I,O,S,h,Step.refl O H,st⟩
 | [c],h=>exact wpAny_tests_one %[|16]
 | _::_::_,h=>exact h.elim
def uw(K:PySem.W.Frag)(J:It)(O:Own)(H:Hp)(C:%[|5])(ds:List D):Prop:=
 ∀(O':Own)(H':Hp)(S':Store),Conv O O' H H'->StOk K O' H' S'->C S'->∀i:Nat,(∀d,ds[i]? =some d->J.go i H'/\∀x H'',J.yld i H' x H''->bB H' H''/\Rep K O' H'' x d)/\(i=ds.length->J.stop i H')
def QIc(K:PySem.W.Frag)(O:Own)(H:Hp)(W:List D->%[|5]->%[|5]):It->Hp->Prop:=λ J H'=>∃O' ds C S',W ds C S'/\Step O O' H H'/\StOk K O' H' S'/\uw K J O' H' C ds
def ItC(X:Cx)(Γ:Gam)(S:Store)(tg iter:Expr)(W:List D->%[|5]->%[|5]):Prop:=
 ∀ (pins:Pins)(s:Shared)(σ:St)(H:Hp)(O:Own),%[|6]->EnvOk X.K O H σ Γ->StOk X.K O H S->
   wpAny %[|8] X.A (eval iter X.env) (λ v s1=>wpAny %[|8] X.A (pyIter v) (PIE X pins σ tg (QIc X.K O H W)) X.xe s1) X.xe s
theorem sI{J:It}{ds:List D}(y:iH K J O H ds):uw K J O H (λ _=>True) ds:=λ O' H' S' st ok _ i=>y O' H' st (λ a ha=>ok.tracked ha) i
theorem ItW.toC{X:Cx}{Γ:Gam}{S:Store}{tg iter:Expr}{W:List D->%[|5]->%[|5]}(h:ItW X Γ S tg iter λ ds S1=>W ds (λ _=>True) S1):ItC X Γ S tg iter W:=λ pins s σ H O I env st=>
 thn %[|16] λ _ _ q=>thn q λ _ _ hq_=>by
  obtain⟨it,fp,tn,J,H',e1,e2,e3,e4,e5,O',ds,S',w,z1,z2,z3⟩:=hq_
  exact⟨it,fp,tn,J,H',e1,e2,e3,e4,e5,O',ds,_,S',w,z1,z2,sI z3⟩
abbrev yq(X:Cx)(sc:Scope)(N':%[|1])(cap:List (Option Nat))(Γ:Gam)(elt tg:Expr)(ifs:List Expr)(W:WD):List D->%[|5]->%[|5]:=λ ds C0 S1=>
 ds.length≤1000000/\∃Pv:Nat->List D->%[|5],Pv 0 [] S1/\(∀i acc S',Pv i acc S'->C0 S')/\
  (∀i d acc S',ds[i]? =some d->Pv i acc S'->∀(C:Addr)(s:Shared)(H:Hp)(ex:List Addr)(cl:List (Str×Addr)),BdW (f9 X sc N' C s H ex cl) tg d (capt cap Γ) S' λ Γ2 S2=>Sub (capt cap Γ) Γ2/\
   TsA (f9 X sc N' C s H ex cl) Γ2 S2 ifs λ ok S3=>(ok=true->Ev (f9 X sc N' C s H ex cl) Γ2 S3 elt λ y S4=>Pv (i+1) (acc++[y]) S4)/\(ok=false->Pv (i+1) acc S3))/\
  ∀acc S',Pv ds.length acc S'->W (.lst acc) S'∨W (.loc S'.length) (S'++[acc])
theorem v4{Γ:Gam}{S:Store}{elt tg iter:Expr}{ifs:List Expr}{sc:Scope}{cpos:Pos}{N':%[|1]}{cap:List (Option Nat)}{W:WD}{E:%[|11]}{pins:Pins}{σ:St}
 {RR:Value->Addr->Result->Shared->Prop}
 (hx:X.xe=λ _ _=>False)(hc:X.calm=true)(hkind:sc.kind=.function)(hcell:zy sc.names=true)(hfree:∀y∈sc.names,y.2=.free->X.env.kindOf y.1=some .cell∨X.env.kindOf y.1=some .free)
 (hcap:bh X.N X.env.scope.names N' sc.names cap N'=true)(h:ItC X Γ S tg iter (yq X sc N' cap Γ elt tg ifs W))(I:%[|6])(env:EnvOk X.K O H σ Γ)(st:StOk X.K O H S)
 (fin:∀(s':Shared)(Hc:Hp)(D0 C:Addr)(m:%[|15]),Inv X pins σ Hc s'->s'.heap.Ns C m->fY X pins Hc C->D0≠C->QG X.K O H W (.ref D0) Hc->RR (.ref D0) C (.ok .next) s'):
 wpAny %[|8] X.A (eval iter X.env) (λ x s₁=>wpAny %[|8] X.A (pyIter x) (λ it s₂=>wpAny %[|8] X.A (newList []) (λ acc s₃=>
  wpAny %[|8] X.A (newFunctionEnv sc X.env.globals (closes X.env sc.names []) [] X.env.qual none .none (some X.env)) (λ cenv s₄=>
   codeAny %[|8] X.A (.compStart (.ListComp elt [⟨tg,iter,ifs,0⟩] sc cpos) 0 it acc {cenv with scope:=relabel sc X.env}) (RR acc cenv.locals) s₄) E s₃) E s₂) E s₁) E s:=by
 refine thn (vP hx %[|16]) λ xv s1 h1=>thn (vP hx h1) λ itv s2 h2=>?_
 obtain⟨it,fp,tn,J,H2,e,I2,T,st2,f2,O2,ds,C0,S2,⟨hz,Pv,p0,pC,pt,pe⟩,stp,ok2,yl⟩:=h2
 subst e
 refine wpAny_newObj_type (Ra ?_)
 dsimp only
 have hD0:H2 s2.heap.objs.size=none:=I2.hok.fresh (x6 _)
 have hsz:(s2.heap.push {cls:=.type "list",dict:=none,data:=.seq ([]:%[|7]).toArray}).objs.size=s2.heap.objs.size+1:=Heap.size_push ..
 rw[hsz]
 have ns0:=Heap.Ns.new (s2.heap.push {cls:=.type "list",dict:=none,data:=.seq ([]:%[|7]).toArray}) (.type "dict")
 rw[hsz]at ns0
 obtain⟨cl,hcleq⟩:∃cl,cellsFrom (s2.heap.objs.size+1+1) sc.names (closes X.env sc.names [])=cl:=⟨_,rfl⟩
 obtain⟨h₁,hh1⟩:∃h₁,pushCells ((s2.heap.push {cls:=.type "list",dict:=none,data:=.seq ([]:%[|7]).toArray}).push {cls:=.type "dict",data:=.dict #[]}) sc.names=h₁:=⟨_,rfl⟩
 have hns₁:h₁.Ns (s2.heap.objs.size+1) (λ _=>none):=by rw[←hh1];exact ns0.keeps (pushCells_keeps _ _)
 have kp0:∀b u,(s2.heap.push {cls:=.type "list",dict:=none,data:=.seq ([]:%[|7]).toArray}).get? b=some u->h₁.get? b=some u:=λ b u e=>by rw[←hh1];exact pushCells_keeps _ _ b u (ZC _ e)
 have kp:∀b u,s2.heap.get? b=some u->h₁.get? b=some u:=λ b u e=>kp0 b u (ZC _ e)
 have hD1:h₁.get? s2.heap.objs.size=some {cls:=.type "list",data:=.seq #[] 0}:=kp0 _ _ %[|19]
 have hf:∀y∈sc.names,y.2=.free->∃c,X.env.cells.lookup y.1=some c:=λ y hy e=>I.ok.has y.1 (hfree y hy e)
 have hcl :CelsB X sc cl (s2.heap.objs.size+2) h₁:=by
  have look:∀{x c},(closes X.env sc.names []).lookup x=some c->X.env.cells.lookup x=some c:=λ{x c} h=>qu sc.names [] hf (λ c h=>by simp at h) h
  have cpy:∀x c,sc.names.lookup x=some .free->X.env.cells.lookup x=some c->(closes X.env sc.names []).lookup x=some c:=λ x c d hc=>by
   obtain⟨c2,h2⟩:=gK (env:=X.env) sc.names [] (.inr d)
   have e:=look h2
   rw[hc]at e
   cases e
   exact h2
  unfold zy at hcell
  split at hcell
  . rename_i hfl
    have e1:=(yL hfl (s2.heap.objs.size+1+1) (closes X.env sc.names []) s2.heap).1
    rw[hcleq]at e1
    have no:∀x,sc.names.lookup x≠some .cell:=λ x z=>by
     have:(x,NameKind.cell)∈sc.names.filter (λ y=>y.2==.cell):=List.mem_filter.mpr ⟨PySem.mem_of_lookup z,rfl⟩
     rw[hfl]at this
     cases this
    rw[e1]
    exact⟨λ x c h=>.inl (look h),λ x hx=>hx.elim (λ z=>absurd z (no x)) λ z=>gK sc.names [] (.inr z),cpy,λ x c z=>absurd z (no x)⟩
  . rename_i y hfl
    have hy:sc.names.lookup y.1=some .cell:=ZI hcell
    obtain⟨e1,_⟩:=vV hfl (s2.heap.objs.size+1+1) (closes X.env sc.names []) s2.heap
    rw[hcleq]at e1
    have e2:=(vV hfl 0 [] ((s2.heap.push {cls:=.type "list",dict:=none,data:=.seq ([]:%[|7]).toArray}).push {cls:=.type "dict",data:=.dict #[]})).2
    rw[hh1]at e2
    have e3:((s2.heap.push {cls:=.type "list",dict:=none,data:=.seq ([]:%[|7]).toArray}).push {cls:=.type "dict",data:=.dict #[]}).objs.size=s2.heap.objs.size+2:=by rw[Heap.size_push,hsz]
    have cel:h₁.IsCell (s2.heap.objs.size+2) none:=by
     rw[e2,←e3]
     exact⟨_,%[|19],rfl⟩
    have only:∀x,sc.names.lookup x=some .cell->x=y.1:=λ x z=>by
     have:(x,NameKind.cell)∈sc.names.filter (λ y=>y.2==.cell):=List.mem_filter.mpr ⟨PySem.mem_of_lookup z,rfl⟩
     rw[hfl]at this
     have:=ZL.mp this
     rw[←this]
    have lt0:∀{x c},(closes X.env sc.names []).lookup x=some c->c<s2.heap.objs.size:=λ{x c} h=>by
     obtain⟨v,q⟩:=I2.cell x c (look h)
     exact q.lt
    have lk2:∀x,cl.lookup x=if x=y.1 then some (s2.heap.objs.size+1+1)else(closes X.env sc.names []).lookup x:=λ x=>by
     rw[e1,List.lookup_cons]
     by_cases z:x=y.1
     . subst z;simp
     . rw[if_neg z,beq_eq_false_iff_ne.mpr z]
    refine⟨λ x c h=>?_,λ x hx=>?_,λ x c d hc=>?_,λ x c z h=>?_⟩
    . rw [lk2]at h
      by_cases z:x=y.1
      . rw[if_pos z]at h
        cases h
        refine .inr ⟨rfl,by rw[z];exact hy,cel,λ u hu=>?_⟩
        rw[lk2]at hu
        by_cases z2:u=y.1
        . rw[z2,z]
        . rw[if_neg z2]at hu
          exact(Nat.lt_irrefl _ (Nat.lt_of_le_of_lt (Nat.le_add_right _ 2) (lt0 hu))).elim
      . rw[if_neg z]at h
        exact .inl (look h)
    . rw[lk2]
      by_cases z:x=y.1
      . exact⟨_,if_pos z⟩
      . rw[if_neg z]
        exact hx.elim (λ q=>absurd (only x q) z) λ q=>gK sc.names [] (.inr q)
    . rw[lk2,if_neg (λ z=>by rw[z,hy]at d;cases d)]
      exact cpy x c d hc
    . rw[lk2,if_pos (only x z)]at h
      cases h
      exact x6 _
  . cases hcell
 rw[hcleq,hh1]
 have hob:∀b∈fp,∃o,s2.heap.get? b=some o:=λ b hb=>let ⟨o,e,_⟩:=T.obj _ _ st2 b hb;⟨o,e⟩
 have I4:=RJ (t:=s2.toks) (h1:=h₁) I2 f2 hob hkind hcl hfree hcap kp hD1 ⟨_,hns₁⟩
 generalize hX':f9 X sc N' (s2.heap.objs.size+1) s2 H2 fp cl=X' at I4
 have pt':=λ i d acc S' a b=>pt i d acc S' a b (s2.heap.objs.size+1) s2 H2 fp cl
 rw[hX']at pt'
 have eP:X'.prog=X.prog:=by rw[←hX'];rfl
 have ew:X'.w=X.w:=by rw[←hX'];rfl
 have eK:X'.K=X.K:=by rw[←hX'];rfl
 have eA:X'.A=X.A:=by rw[←hX'];rfl
 have ec:X'.calm=true:=by rw[←hX'];exact hc
 have ex':X'.xe=λ _ _=>False:=by rw[←hX'];exact hx
 have eenv:X'.env=compEnvC sc cl (s2.heap.objs.size+1) X.env:=by rw[←hX'];rfl
 have eex:X'.ex=fp:=by rw[←hX'];rfl
 have eout:X'.outer=X.stack:=by rw[←hX'];rfl
 have es0:X'.s₀=s2:=by rw[←hX'];rfl
 have eH0:X'.H₀=H2:=by rw[←hX'];rfl
 have epn:X'.pn=[]:=by rw[←hX'];rfl
 have stat:∀{H':Hp},(∀b∈fp,H' b=none)->∀b∈fp,fY X' [] H' b:=λ hn b hb=>by
  refine⟨hn b hb,(I4.ok.exf b (by rw[eex];exact hb)).1,I4.ok.exfs b (by rw[eex];exact hb),.inl (by rw[eex];exact hb),(I4.ok.exf b (by rw[eex];exact hb)).2,λ p hp=>?_⟩
  rw[epn]at hp
  exact absurd hp (by simp)
 have loop:∀s₃:Shared,s₃={s2 with heap:=h₁}->
  codeAny %[|8] X.A (.compLoop (.ListComp elt [⟨tg,iter,ifs,0⟩] sc cpos) 0 (.ref it) (.ref s2.heap.objs.size) (compEnvC sc cl (s2.heap.objs.size+1) X.env))
   (RR (.ref s2.heap.objs.size) (s2.heap.objs.size+1)) s₃:=by
  intro s₃ es
  rw[←eenv]
  refine codeAny_loop rfl (λ n s'=>∃i acc xs Hc Ac Sc σc,n=ds.length-i/\i≤ds.length/\Inv X' [] σc Hc s'/\tn i s'.heap/\(∀b∈fp,Hc b=none)/\Pv i acc Sc/\Hc s2.heap.objs.size=some (.lst xs)/\xs.length≤i/\
   Reps X.K ⟨Ac,s2.heap.objs.size::O2.B⟩ Hc xs acc/\Step O2 ⟨Ac,O2.B⟩ H2 Hc/\StOk X.K ⟨Ac,s2.heap.objs.size::O2.B⟩ Hc Sc/\EnvOk X.K ⟨Ac,s2.heap.objs.size::O2.B⟩ Hc σc (capt cap Γ)) ?_ ds.length ?_
  . rintro n s' ⟨i,acc,xs,Hc,Ac,Sc,σc,rfl,hi,Ic,stc,frc,pc,hxs,hxl,rc,sc',okc,envc⟩
    show wpAny _ _ ((compTurn (.ListComp elt [⟨tg,iter,ifs,0⟩] sc cpos) 0 (.ref it) (.ref s2.heap.objs.size) X'.env).onRaise (λ x=>do noteFrame x X'.env;theTreesLotGoes x)) _ _ s'
    refine wpAny_noted ?_
    rw[compTurn_list]
    refine ZA (wpAny_standAt (ZA ?_))
    have cv:Conv O2 ⟨Ac,s2.heap.objs.size::O2.B⟩ H2 Hc:=by
     refine⟨λ a u n t=>?_,sc'.conv.lc⟩
     obtain⟨x1,x2⟩:=sc'.conv.tr a u n t
     refine⟨λ z=>?_,x2⟩
     rcases z with z | z
     . exact x1 (.inl z)
     . rcases ZJ.mp z with z | z
       . subst z;rw[hD0]at t;cases t
       . exact x1 (.inr z)
    obtain⟨y1,y2⟩:=yl _ _ _ cv okc (pC _ _ _ pc) i
    by_cases hlt:i<ds.length
    . obtain⟨go,yy⟩:=y1 ds[i] (y4 hlt)
      have it1:=T.item X' eP ew eK ec i [] s' σc Hc (λ _ _=>False) Ic (stat frc) stc go
      rw[eA]at it1
      refine wpAny_mono it1 (λ r s3 hq_=>?_) λ _ _ z=>z.elim
      obtain⟨u,hr,h3⟩:=hq_
      subst hr
      refine ZA (wpAny_mono h3 (λ _ s5 hq_=>?_) λ _ _ z=>z.elim)
      obtain⟨x,H5,I5,r5,y5,st5,fr5⟩:=hq_
      obtain⟨sm,rx⟩:=yy x H5 y5
      have I5':=I5.pinned (stat fr5) (T.obj _ _ st5)
      have st35:=Step.same (O:=⟨Ac,s2.heap.objs.size::O2.B⟩) sm
      have bd:=pt' i ds[i] acc Sc (y4 hlt) pc _ s5 σc H5 ⟨Ac,s2.heap.objs.size::O2.B⟩ x u I5' (by rw[eK];exact envc.mono st35) (by rw[eK];exact okc.same sm) (by rw[eK];exact rx) r5
      rw[eP,ew,eA]at bd
      refine ZA (wpAny_mono (vP (E':=λ _ _=>False) ex' bd) (λ _ s6 hq_=>?_) λ _ _ z=>z.elim)
      obtain⟨σ6,H6,I6,O6,Γ6,S6,⟨sub6,w6⟩,st6,ok6,env6⟩:=hq_
      have tst:=QK w6 I6 env6 ok6
      rw[eP,ew,eA]at tst
      refine ZA (wpAny_mono (vP (E':=λ _ _=>False) ex' tst) (λ ok s7 hq_=>?_) λ _ _ z=>z.elim)
      obtain⟨H7,I7,O7,S7,w7,st7,ok7⟩:=hq_
      have st57:Step ⟨Ac,s2.heap.objs.size::O2.B⟩ O7 Hc H7:=st35.trans (st6.trans st7)
      have eB7:O7.B=s2.heap.objs.size::O2.B:=st57.hid
      have next:∀(s9:Shared)(H8:Hp)(O8:Own)(S8:Store)(ys:List V)(acc':List D),Step ⟨Ac,s2.heap.objs.size::O2.B⟩ O8 Hc H8->
       StOk X.K O8 H8 S8->EnvOk X.K O8 H8 σ6 (capt cap Γ)->Pv (i+1) acc' S8->Inv X' ([]++nF fp s5.heap) σ6 (upd H8 s2.heap.objs.size (.lst ys)) s9->Reps X.K O8 H8 ys acc'->ys.length≤i+1->
       ∃ m,m<ds.length-i/\∃i acc xs Hc Ac Sc σc,m=ds.length-i/\i≤ds.length/\Inv X' [] σc Hc s9/\tn i s9.heap/\(∀b∈fp,Hc b=none)/\Pv i acc Sc/\Hc s2.heap.objs.size=some (.lst xs)/\xs.length≤i/\
         Reps X.K ⟨Ac,s2.heap.objs.size::O2.B⟩ Hc xs acc/\Step O2 ⟨Ac,O2.B⟩ H2 Hc/\StOk X.K ⟨Ac,s2.heap.objs.size::O2.B⟩ Hc Sc/\EnvOk X.K ⟨Ac,s2.heap.objs.size::O2.B⟩ Hc σc (capt cap Γ):=by
       intro s9 H8 O8 S8 ys acc' st8 ok8 env8 p8 I8 r8 hl8
       have eB:O8.B=s2.heap.objs.size::O2.B:=st8.hid
       obtain⟨A8,B8⟩:=O8
       have eB':B8=s2.heap.objs.size::O2.B:=eB
       subst eB'
       have mem:s2.heap.objs.size∈(⟨A8,s2.heap.objs.size::O2.B⟩:Own).B:=v3
       refine⟨ds.length-(i+1),%[|0],i+1,acc',ys,_,A8,S8,σ6,rfl,hlt,I8.unpinned,T.keep _ _ _ st5 λ b hb o e=>(I8.pin (b,o) (List.mem_append_right _ (List.mem_append_right _ (gP hb e)))).1,λ b hb=>?_,p8,aL,hl8,
        r8.conv (Conv.updHid mem _),sc'.inner st8 hD0 _,ok8.updHid mem _,env8.conv (Conv.updHid mem _)⟩
       obtain⟨o,e,d⟩:=T.obj _ _ st5 b hb
       exact(I8.pin (b,o) (List.mem_append_right _ (List.mem_append_right _ (gP hb e)))).2.1
      rw[eK]at ok7 env6 ok6
      have hid:∀{O':Own}{H':Hp}{S':Store},Step ⟨Ac,s2.heap.objs.size::O2.B⟩ O' Hc H'->H' s2.heap.objs.size=some (.lst xs):=λ st'=>
       st'.kept _ _ (λ z=>okc.apart _ z v3) hxs
      cases ok with
      | false=>
        refine ZB ⟨rfl,?_⟩
        have hx7:=hid (S':=S7) st57
        have eq7:upd H7 s2.heap.objs.size (.lst xs)=H7:=by
         funext b
         by_cases hb:b=s2.heap.objs.size
         . subst hb;rw[aL];exact hx7.symm
         . exact ao hb
        exact next s7 H7 O7 S7 xs acc st57 ok7 ((env6.mono st7).sub sub6) (w7.2 rfl) (by rw[eq7];exact I7) (rc.mono st57) (Nat.le_succ_of_le hxl)
      | true=>
        have el:=w7.1 rfl _ s7 σ6 H7 O7 I7 (by rw[eK];exact env6.mono st7) (by rw[eK];exact ok7)
        rw[eP,ew,eA]at el
        refine ZA (ZA (wpAny_mono (vP (E':=λ _ _=>False) ex' el) (λ xe s8 hq_=>?_) λ _ _ z=>z.elim))
        obtain⟨v8,H8,I8,r8,O8,y,S8,w8,st8,ok8,rep8⟩:=hq_
        rw[eK]at ok8 rep8
        have st58:=st57.trans st8
        have hx8:=hid (S':=S8) st58
        have ap:=vX (X:=X') _ s8 σ6 H8 (.ref s2.heap.objs.size) [v8] (.ref s2.heap.objs.size) [xe] (λ v H'=>H'=upd H8 s2.heap.objs.size (.lst (xs++[v8]))) I8 rfl (.cons r8 .nil)
         ⟨s2.heap.objs.size,xs,v8,rfl,rfl,hx8,Nat.lt_of_le_of_lt (Nat.le_trans hxl (Nat.le_trans hi hz)) %[|2],rfl⟩
        rw[eP,ew,eA]at ap
        refine ZA (wpAny_mono (vP (E':=λ _ _=>False) ex' ap) (λ _ s9 hq_=>ZB (ZB ⟨rfl,?_⟩)) λ _ _ z=>z.elim)
        obtain⟨_,H9,I9,_,e9⟩:=hq_
        subst e9
        exact next s9 H8 O8 S8 (xs++[v8]) (acc++[y]) st58 ok8 (((env6.mono st7).mono st8).sub sub6) w8 I9 ((rc.mono st58).append (.cons rep8 .nil)) (by rw[List.length_append,List.length_singleton];omega)
    . have e:i=ds.length:=%[|0]
      subst e
      have dn:=T.done X' eP ew eK ec ds.length [] s' σc Hc (λ _ _=>False) Ic (stat frc) stc (y2 rfl)
      rw[eA]at dn
      refine wpAny_mono dn (λ r s3 hq_=>?_) λ _ _ z=>z.elim
      obtain⟨hr,I3⟩:=hq_
      subst hr
      refine %[|12]
      obtain⟨m,hm,_⟩:=I3.loc
      have un:Un (frs X.stack) fp H2 Hc s2.heap s3.heap:=by
       have:=I3.base
       rw[eex,eH0,es0]at this
       show Un (frs X.stack) fp H2 Hc s2.heap s3.heap
       rw[←eout]
       exact this
      have os:s3.os=s2.os:=by
       have:=I3.os
       rw[es0]at this
       exact this
      have hok3:HOk X.prog X.w Hc s3.heap:=by
       have:=I3.hok
       rw[eP,ew]at this
       exact this
      have IX:Inv X pins σ Hc s3:=I2.call' os un hok3 I3.bare (λ b hb=>⟨(f2 b hb).2.2.2.1,(f2 b hb).2.1,(f2 b hb).2.2.2.2.1,(f2 b hb).2.2.2.2.2⟩)
      have hCn:Hc (s2.heap.objs.size+1)=none:=by
       have:=I3.free
       rw[eenv]at this
       exact this
      refine fin s3 Hc _ _ m IX (by rw[eenv]at hm;exact hm) (I2.fpOk (Nat.le_succ _) hCn) (ZN (Nat.lt_succ_self _)) ?_
      rcases pe acc Sc pc with w | w
      . refine⟨⟨Ac,O2.B⟩,.lst acc,Sc,w,stp.trans sc',okc.unhide,.lst (.inl ⟨λ z=>?_,.inl hxs⟩) (rc.conv Conv.unhide)⟩
        rcases z with z | z
        . exact okc.apart _ z v3
        . exact ok2.hidden _ z hD0
      . refine⟨⟨Ac++[(s2.heap.objs.size,false)],O2.B⟩,.loc Sc.length,Sc++[acc],w,stp.trans (sc'.adopt hD0),okc.adopt (λ z=>ok2.hidden _ z hD0) hxs rc,.loc ?_⟩
        have el:Ac.length=Sc.length:=okc.len
        show(Ac++[(s2.heap.objs.size,false)])[Sc.length]? =some _
        rw[←el];simp
  . refine⟨0,[],[],upd H2 s2.heap.objs.size (.lst []),O2.A,S2,capt cap σ,rfl,Nat.zero_le _,by rw[es];exact I4,by rw[es];exact T.keep 0 s2.heap h₁ st2 λ b hb o e=>kp b o e,λ b hb=>?_,p0,aL,x6 0,.nil,Step.fresh hD0 _,ok2.hide hD0 _,((env.mono stp).capt cap).conv (Conv.hide hD0 _)⟩
    obtain⟨o,e⟩:=hob b hb
    rw[ao (ZN (ZE e))]
    exact(f2 b hb).1
 exact codeAny_compStart_list (loop _ rfl) (T.self _ 0 _ _ _ (T.keep 0 s2.heap h₁ st2 λ b hb o e=>kp b o e) (loop _ rfl))
variable {Γ : Gam} {S : Store} {elt tg iter : Expr} {ifs : List Expr} {sc : Scope} {pos : Pos} {N' : %[|1]} {cap : List (Option Nat)}
theorem Rc(N':%[|1])(cap:List (Option Nat)){W:WD}(h:ItC X Γ S tg iter (yq X sc N' cap Γ elt tg ifs W))(hx:X.xe=λ _ _=>False:=by rfl)(hc:X.calm=true:=by rfl)(hkind:sc.kind=.function:=by rfl)
 (hcell:zy sc.names=true:=by rfl)(hfr:freeOk X.env.scope.names sc.names=true:=by rfl)
 (hnames:∀y∈sc.names,y.2=.local->sc.names.lookup y.1=some .local:=by decide+kernel)(hcap:bh X.N X.env.scope.names N' sc.names cap N'=true:=by rfl)(hs:∀x,foldedSetIterable iter X.env x=pure x:=by intro _;rfl):
 Ev X Γ S (.ListComp elt [⟨tg,iter,ifs,0⟩] sc pos) W:=by
 sleep 0
 have hfree:∀y∈sc.names,y.2=.free->X.env.kindOf y.1=some .cell∨X.env.kindOf y.1=some .free:=n8 hfr
 have hf:∀y∈sc.names,y.2=.free->∃c,X.env.cells.lookup y.1=some c:=λ y hy e=>I.ok.has y.1 (hfree y hy e)
 rw[eval_ListComp]
 refine wpAny_comprehension_free (use:=none) (g:=⟨tg,iter,ifs,0⟩) (gs:=[]) rfl hs (mq hf) hkind hnames ?_
 refine v4 (RR:=λ acc C=>compPost %[|8] X.A X.xe none (EP X pins σ (QG X.K O H W)) acc C) hx hc hkind hcell hfree hcap h I env st ?_
 intro s' Hc D0 C m I' hm fp ne q
 refine⟨m,hm,λ h' sb=>⟨.ref D0,Hc,?_,rfl,q⟩⟩
 obtain⟨f0,f1,f2,f3,f4,f5⟩:=fp
 exact I'.turned (t':=s'.toks) (λ b o hb e=>(sb.2 b hb).trans e) f0 f1 f3 f4 f5
theorem KQ(i:Nat){x:Str}{pos' spos:Pos}{W:Fin}(N':%[|1])(cap:List (Option Nat))(h:ItC X Γ S tg iter (yq X sc N' cap Γ elt tg ifs λ d S1=>W.nx (Γ.set i (some d)) S1))(hN:X.N.Nodup)(hi:X.N[i]? =some x:=by rfl)
 (hl:Loc X.env.scope x:=by first | exact Or.inl rfl | exact Or.inr rfl)(hsw:swapsWith (.ListComp elt [⟨tg,iter,ifs,0⟩] sc pos) (some (.Name x pos')) spos.line X.env=pure true:=by rfl)
 (hfn:X.fn x=true∨X.env.scope.names.lookup x=some .local:=by first | exact .inl rfl | exact .inr rfl)(hx:X.xe=λ _ _=>False:=by rfl)(hc:X.calm=true:=by rfl)(hkind:sc.kind=.function:=by rfl)
 (hcell:zy sc.names=true:=by rfl)(hfr:freeOk X.env.scope.names sc.names=true:=by rfl)
 (hnames:∀y∈sc.names,y.2=.local->sc.names.lookup y.1=some .local:=by decide+kernel)(hcap:bh X.N X.env.scope.names N' sc.names cap N'=true:=by rfl)(hs:∀x,foldedSetIterable iter X.env x=pure x:=by intro _;rfl):
 Rn X Γ S (.Assign [.Name x pos'] (.ListComp elt [⟨tg,iter,ifs,0⟩] sc pos) spos) W:=by
 sleep 0
 have hfree:∀y∈sc.names,y.2=.free->X.env.kindOf y.1=some .cell∨X.env.kindOf y.1=some .free:=n8 hfr
 have hf:∀y∈sc.names,y.2=.free->∃c,X.env.cells.lookup y.1=some c:=λ y hy e=>I.ok.has y.1 (hfree y hy e)
 rw[exec_Assign_Name_used _ _ _ _ hsw]
 refine ZA (wpAny_standAt (ZA ?_))
 show wpAny _ X.A (do let _ ←comprehension (.ListComp elt [⟨tg,iter,ifs,0⟩] sc pos) sc X.env _ (newList []) false (eval iter X.env) (some (assign (.Name x pos') X.env))) _ _ s
 refine ZA (wpAny_mono (wpAny_comprehension_free (use:=some (assign (.Name x pos') X.env)) (g:=⟨tg,iter,ifs,0⟩) (gs:=[]) (Q:=λ _ s'=>SP X pins (ends X.K O H W) .next s') rfl hs (mq hf) hkind hnames ?_) (λ _ s' hq=>ZB (ZB hq)) λ _ _ e=>e)
 refine v4 (RR:=λ acc C=>compPost %[|8] X.A X.xe (some (assign (.Name x pos') X.env)) (λ _ s'=>SP X pins (ends X.K O H W) .next s') acc C) hx hc hkind hcell hfree hcap h I env st ?_
 intro s' Hc D0 C m I' hm fp ne q
 show wpAny _ X.A (assign (.Name x pos') X.env (.ref D0)) _ _ _
 refine wpAny_assign_Name (wC I' hN hi hl (show RelV (.ref D0) (.ref D0)from rfl) (λ s2 I2 hq_=>?_) hfn)
 obtain⟨a,sa,ha⟩:=hq_
 obtain⟨f0,f1,f2,f3,f4,f5⟩:=fp
 have neC:C≠a:=by
  rcases ha with z | z
  . rw[z];exact f1
  . exact(f4 x a z).symm
 refine⟨m,hm.sameBut sa neC,λ h' sb=>?_⟩
 obtain⟨O',d,S',w,stp,okp,rep⟩:=q
 exact⟨_,Hc,I2.turned (t':=s2.toks) (λ b o hb e=>(sb.2 b hb).trans e) f0 f1 f3 f4 f5,O',_,S',w,stp,okp,(env.mono stp).set rep i⟩
end
end DL
namespace DL
open PySem PySem.Spec L2
open PyProof.Rows
def tyD:D->String
 | .non=>"NoneType" | .bl _=>"bool" | .int _=>"int" | .str _=>"str" | .tup _=>"tuple" | .lst _=>"list" | .loc _=>"list" | .dic=>"dict" | .dlo _=>"dict"
def isi(t c:String):Bool:=t==c||(t=="bool"&&c=="int")
def isT(c:String):Bool:=c=="int"||c=="bool"||c=="tuple"||c=="list"||c=="str"
theorem kit_at(K:PySem.W.Frag)(d:D){c:String}(hc:isT c=true):PySem.W.kitOne K (.type (tyD d)) (.type c)=some (isi (tyD d) c):=by
 simp only[isT,Bool.or_eq_true,beq_iff_eq]at hc
 rcases hc with(((h | h) | h) | h) | h<;>subst h<;>cases d<;>kernel_rfl
section
variable {X : Cx} {Γ : Gam} {S : Store} {W : WD} {a b e : Expr} {es : List Expr} {pos : Pos}
theorem Fo{pins:Pins}{s:Shared}{σ:St}{H:Hp}{O:Own}{v:V}{u c:Value}{d:D}{A:Around}{E:%[|11]}{Q:%[|11]}(I:%[|6])(st:StOk X.K O H S)(r:Rep X.K O H v d)(ru:RelV v u)
 (go:∀{x t:Value}{Hh:Heap->Prop},PySem.W.KitX X.K x t Hh->t=.type (tyD d)->Hh s.heap->x≠.builtin "__main__.__loader__#opaque"->wpAny %[|8] A (call (.builtin "isinstance") [x,c]) Q E s):
 wpAny %[|8] A (call (.builtin "isinstance") [u,c]) Q E s:=by
 cases r with
 | non=>cases ru;exact go PySem.W.kitx_none rfl True.intro (λ z=>nomatch z)
 | bl y=>cases ru;exact go PySem.W.kitx_bool rfl True.intro (λ z=>nomatch z)
 | int y=>obtain⟨t,rfl⟩:=ru;exact go PySem.W.kitx_int rfl True.intro (λ z=>nomatch z)
 | str y=>obtain⟨t,rfl⟩:=ru;exact go PySem.W.kitx_str rfl True.intro (λ z=>nomatch z)
 | tup h1 q1=>
   cases ru
   obtain⟨its,_,⟨o,h2,h3,_⟩,_⟩:=I.tuple h1.sq
   exact go PySem.W.kitx_tuple rfl ⟨o,h2,h3⟩ (λ z=>nomatch z)
 | lst h1 q1=>
   cases ru
   obtain⟨its,_,pl,_⟩:=I.list h1.sq
   obtain⟨o,h2,h3,_⟩:=pl.isList
   exact go PySem.W.kitx_list rfl ⟨o,h2,h3⟩ (λ z=>nomatch z)
 | @loc p k hk=>
   cases ru
   have hl:k<S.length:=by rw[←st.len];exact(y3.mp hk).1
   obtain⟨xs,hx,_⟩:=st.obj k p S[k] hk (y4 hl)
   obtain⟨its,_,pl,_⟩:=I.list (SqL.of hx)
   obtain⟨o,h2,h3,_⟩:=pl.isList
   exact go PySem.W.kitx_list rfl ⟨o,h2,h3⟩ (λ z=>nomatch z)
 | @dic p h1 h2=>
   cases ru
   obtain⟨_,_,vs,_,o,es,ep,h3,h4,_⟩:=(show bu X.prog X.w H s.heap p (.dK [])from I.hok p _ h2)
   exact go PySem.W.kitx_dict rfl ⟨o,h3,h4.1⟩ (λ z=>nomatch z)
 | @dlo p k hk nk=>
   cases ru
   have hl:k<S.length:=by rw[←st.len];exact(y3.mp hk).1
   cases st.dob k p S[k] hk (y4 hl)with
   | t kvs hx _=>
     obtain⟨_,_,xs,_,o,es,ep,h3,h4,_⟩:=(show bu X.prog X.w H s.heap p (.dT kvs)from I.hok p _ hx)
     exact go PySem.W.kitx_dict rfl ⟨o,h3,h4.1⟩ (λ z=>nomatch z)
   | c ys _ hx _=>
     obtain⟨⟨_,_,_,o,es,ep,h3,h4,_⟩,_,_⟩:=(show bu X.prog X.w H s.heap p (.ext (VD p ys))from I.hok p _ hx)
     exact go PySem.W.kitx_dict rfl ⟨o,h3,h4.1⟩ (λ z=>nomatch z)
   | o ys _ hx _=>
     obtain⟨⟨_,_,_,o,es,ep,h3,h4,_⟩,_,_⟩:=(show bu X.prog X.w H s.heap p (.ext (Uv p ys))from I.hok p _ hx)
     exact go PySem.W.kitx_dict rfl ⟨o,h3,h4.1⟩ (λ z=>nomatch z)
   | p _ n=>exact absurd nk n
theorem Uo{T:Str}{Tn:String}{p q:Pos}(h:Ev X Γ S a λ x S1=>W (.bl (isi (tyD x) Tn)) S1)(hT:isT Tn=true)(hb:bootBuiltins T=some (.type Tn))(hm1:X.mg "isinstance"=none)(hm:X.mg T=none)(hg1:Gl X "isinstance":=by rfl)(hg:Gl X T:=by rfl)
 (hn:T≠"__name__":=by decide)(hdb:(T==("__debug__":Str))=false:=by decide)(hs1:starEach [a,.Name T q] X.env=(false,eval a X.env)::starEach [.Name T q] X.env:=by rfl)(hs2:starEach [.Name T q] X.env=[(false,eval (.Name T q) X.env)]:=by rfl):
 Ev X Γ S (.Call (.Name "isinstance" p) [a,.Name T q] [] pos) W:=by
 sleep 0
 have hc:cQ X (.builtin "isinstance") (λ xs H' Q=>∃v,xs=[v,.ty Tn]/\∃O' d S',StOk X.K O' H' S'/\Rep X.K O' H' v d/\Q (.bl (isi (tyD d) Tn)) H'):=by
  intro pins s σ H xs us Q I r h
  obtain⟨v,rfl,O',d,S',st',rep,q⟩:=h
  obtain⟨u,u2,rfl,r1,r2⟩:=vals2 r
  cases r2
  refine Fo I st' rep r1 λ Z e p ne=>?_
  subst e
  exact PySem.W.kia_one Z I.kIn p (kit_at X.K d hT) ne λ tk=>⟨.bl _,H,I.tok tk,rfl,q⟩
 refine kZ hc hg1 hm1 PyProof.Rows.boot_isinstance (bL h.pe (bL (vM hg hm hb (v:=.ty Tn) rfl hn hdb) fH hs2) hs1) %[|2] %[|2] hs1 (by rw[hs2];rfl) pins s σ H _ I ⟨O,env,st,λ v H' q=>?_⟩
 obtain⟨O',d,S',w,st1,ok1,rep⟩:=q
 exact⟨v,rfl,O',d,S',ok1,rep,O',_,S',w,st1,ok1,.bl _⟩
theorem range_all{α:Type}(f:α->Bool)(d:α):∀(bs:List α)(k:Nat),((List.range' k bs.length).all λ i=>f ((List.replicate k d++bs).getD i d))=bs.all f
 | [],_=>by simp
 | b ::bs,k=>by
   have ih:=range_all f d bs (k+1)
   rw[List.length_cons,List.range'_succ,List.all_cons,List.all_cons]
   congr 1
   . simp[List.getD]
   . rw[←ih]
     have e:List.replicate k d++b::bs=(List.replicate k d++[b])++bs:=by simp
     rw[List.all_eq,List.all_eq]
     congr 1
     apply propext
     constructor
     . intro h i hi
       have:=h i hi
       rw[List.mem_range']at hi
       obtain⟨j,hj,rfl⟩:=hi
       simp only[List.getD,List.getElem?_append,List.length_replicate]at this ⊢
       have g1:¬(k+1+1*j<k):=%[|0]
       have g2:¬(k+1+1*j<k+1):=%[|0]
       rw[if_neg g1]at this
       rw[if_neg g2]
       have e1:k+1+1*j-k=(k+1+1*j-(k+1))+1:=%[|0]
       rw[e1,List.getElem?_cons_succ]at this
       exact this
     . intro h i hi
       have:=h i hi
       rw[List.mem_range']at hi
       obtain⟨j,hj,rfl⟩:=hi
       simp only[List.getD,List.getElem?_append,List.length_replicate]at this ⊢
       have g1:¬(k+1+1*j<k):=%[|0]
       have g2:¬(k+1+1*j<k+1):=%[|0]
       rw[if_neg g2]at this
       rw[if_neg g1]
       have e1:k+1+1*j-k=(k+1+1*j-(k+1))+1:=%[|0]
       rw[e1,List.getElem?_cons_succ]
       exact this
theorem Ik(bs:List Bool):((List.range bs.length).all λ i=>bs.getD i false)=bs.all id:=by
 have:=range_all id false bs 0
 simpa[List.range_eq_range']using this
theorem k_all{bs:List Bool}(w:W (.bl (bs.all id)) S)(hc:X.calm=true:=by rfl):cW X (.builtin "all") [.lst (bs.map .bl)] S W:=by
 intro pins s σ H O vs us I st r ru
 obtain⟨v,rfl,r'⟩:=cF r
 obtain⟨u,rfl,ru'⟩:=vals1 ru
 cases r' with
 | @lst a xs _ h1 q1=>
   cases ru'
   obtain⟨its,rv,pl,hz⟩:=I.list h1.sq
   have ex:=q1.bools
   subst ex
   have hlen:its.length=bs.length:=by rw[←rv.length];simp
   refine call_all_walk (wpAny_pyIter_list pl.isList ?_)
   have ne:a≠s.heap.objs.size:=by
    obtain⟨o,e,_⟩:=pl.isList
    exact ZN (ZE e)
   refine⟨_,_,_,_,_,_,λ i=>bs.getD i false,rfl,Walks.list (A:=X.A.in1) (I.ok.hd hc) _ a ne its.toArray,⟨⟨_,%[|19],rfl,rfl⟩,pl.isList.push _⟩,λ i v s' Q' E' hv hq=>?_,λ h' tk hk=>?_⟩
   . have hv:its[i]? =some v:=by simpa using hv
     have hi:i<bs.length:=by rw[←hlen];exact(y3.mp hv).1
     obtain⟨z,hz',rz⟩:=rv.get (i:=i) (x:=V.bl bs[i]) (by rw[x5,y4 hi];rfl)
     rw[hv]at hz'
     cases hz'
     cases rz
     have e:bs.getD i false=bs[i]:=by simp[List.getD,hi]
     have hq':Q' (bs.getD i false) s':=hq
     rw[e]at hq'
     exact wpAny_truthy_bool hq'
   . have e:(List.range its.toArray.size).all (λ i=>bs.getD i false)=bs.all id:=by rw[x9,hlen];exact Ik bs
     rw[e]
     refine⟨.bl _,H,I.kept (λ b o q=>hk b o (λ z=>?_) (ZC _ q)),rfl,QG.here w st (.bl _)⟩
     have z':b=s.heap.objs.size:=by simpa using z
     exact absurd (ZE q) (by rw[z'];exact Nat.lt_irrefl _)
theorem Xc{ns:%[|3]}(w:W (.int ns.sum) S)(hc:X.calm=true:=by rfl):cW X (.builtin "sum") [.lst (ns.map .int)] S W:=by
 intro pins s σ H O vs us I st r ru
 obtain⟨v,rfl,r'⟩:=cF r
 obtain⟨u,rfl,ru'⟩:=vals1 ru
 cases r' with
 | @lst a xs _ h1 q1=>
   cases ru'
   obtain⟨its,rv,pl,hz⟩:=I.list h1.sq
   have ex:=q1.ints
   subst ex
   have hi:IntsAre its ns:=intsAre_of rv
   obtain⟨zs,ez⟩:=hi.allInts.items
   have hL:=pl.isList
   rw[ez]at hL
   refine sum_intListG (I.ok.hd hc) hL λ h' tk t' hk=>?_
   have e:preSum (numAt zs) zs.size=ns.sum:=by
    rw[preSum_eq,List.take_of_length_le (by simp),←nums_intItems,←ez]
    exact congrArg List.sum hi.numsOf
   rw[e]
   exact⟨.int _,H,I.kept hk,⟨_,rfl⟩,QG.here w st (.int _)⟩
mutual
def deep:D->Nat
 | .tup ds=>bj ds+1
 | .lst ds=>bj ds+1
 | .dic=>1
 | _=>0
def bj:List D->Nat
 | []=>0
 | d::ds=>max (deep d) (bj ds)
end
mutual
def au:D->Bool
 | .tup ds=>aa ds
 | .lst ds=>aa ds
 | .loc _=>false
 | .dlo _=>false
 | _=>true
def aa:List D->Bool
 | []=>true
 | d::ds=>au d&&aa ds
end
theorem dZ{d:D}:∀{ds:List D}{i:Nat},ds[i]? =some d->deep d≤bj ds
 | [],_,h=>by simp at h
 | c::ds,0,h=>by simp at h;subst h;simp[bj];omega
 | c::ds,i+1,h=>by
   have:=dZ (ds:=ds) (i:=i) (by simpa using h)
   simp[bj];omega
theorem gq{d:D}:∀{ds:List D}{i:Nat},aa ds=true->ds[i]? =some d->au d=true
 | [],_,_,h=>by simp at h
 | c::ds,0,n,h=>by simp at h;subst h;simp[aa]at n;exact n.1
 | c::ds,i+1,n,h=>by
   simp[aa]at n
   exact gq (ds:=ds) (i:=i) n.2 (by simpa using h)
theorem kY{pins:Pins}{s:Shared}{σ:St}{H:Hp}{a:Addr}(I:%[|6])(h:H a=some (.dK [])):(a==sysModules)=false/\s.heap.DictOf (eH X.prog X.w) a []:=by
 obtain⟨_,h2,vs,h3,h4⟩:=(show bu X.prog X.w H s.heap a (.dK [])from I.hok a _ h)
 cases h3
 exact⟨h2,h4⟩
theorem Qn{P P':Program}{w w':World}{h:Heap}{a:Addr}(d:h.DictOf (eH P w) a []):h.DictOf (eH P' w') a []:=by
 obtain⟨o,es,ep,h1,h2,h3,h4,h5,h6⟩:=d
 have e:es=#[]:=by
  have q0:∀l,Pairs (eH P w) l ([]:List (Key×Value))->l=[]:=by
   intro l hl
   cases hl
   rfl
  have q:es.toList=[]:=q0 _ h5
  exact Array.toList_eq_nil_iff.mp q
 subst e
 exact⟨o,#[],ep,h1,h2,h3,λ _ he=>by simp at he,Pairs.nil,List.nodup_nil⟩
theorem J6 (n:Nat):∀(x:D),deep x≤n->au x=true->∀{pins:Pins}{s:Shared}{σ:St}{H:Hp}{O:Own}{v w:V}{u u':Value}{A:Around},%[|6]->Rep X.K O H v x->Rep X.K O H w x->RelV v u->RelV w u'->A.units+n<cLine->SeqAt.EqAt A s u u' true:=by
 induction n with
 | zero=>
   intro x hx hn pins s σ H O v w u u' A I r1 r2 ru ru' hu
   cases r1 with
   | non=>cases r2;cases ru;cases ru';exact SeqAt.EqAt.same _
   | bl b=>cases r2;cases ru;cases ru';exact SeqAt.EqAt.same _
   | int i=>
     cases r2;obtain⟨t,rfl⟩:=ru;obtain⟨t',rfl⟩:=ru'
     have:=SeqAt.EqAt.int_int (A:=A) (s:=s) i t i t'
     rw[beq_self_eq_true]at this
     exact this
   | str i=>
     cases r2;obtain⟨t,rfl⟩:=ru;obtain⟨t',rfl⟩:=ru'
     have:=SeqAt.EqAt.str_str (A:=A) (s:=s) i t i t'
     rw[beq_self_eq_true]at this
     exact this
   | tup _ _=>simp[deep]at hx
   | lst _ _=>simp[deep]at hx
   | loc _=>simp[au]at hn
   | dlo _=>simp[au]at hn
   | dic _ _=>simp[deep]at hx
 | succ n ih=>
   intro x hx hn pins s σ H O v w u u' A I r1 r2 ru ru' hu
   cases r1 with
   | non=>cases r2;cases ru;cases ru';exact SeqAt.EqAt.same _
   | bl b=>cases r2;cases ru;cases ru';exact SeqAt.EqAt.same _
   | int i=>
     cases r2;obtain⟨t,rfl⟩:=ru;obtain⟨t',rfl⟩:=ru'
     have:=SeqAt.EqAt.int_int (A:=A) (s:=s) i t i t'
     rw[beq_self_eq_true]at this
     exact this
   | str i=>
     cases r2;obtain⟨t,rfl⟩:=ru;obtain⟨t',rfl⟩:=ru'
     have:=SeqAt.EqAt.str_str (A:=A) (s:=s) i t i t'
     rw[beq_self_eq_true]at this
     exact this
   | @tup a xs ds h1 q1=>
     cases r2 with
     | @tup b ys _ h2 q2=>
       cases ru;cases ru'
       by_cases e:a=b
       . subst e;exact SeqAt.EqAt.same _
       . obtain⟨its,v1,p1,_⟩:=I.tuple h1.sq
         obtain⟨its2,v2,p2,_⟩:=I.tuple h2.sq
         have l1:its.length=ds.length:=by rw[←v1.length,q1.length]
         have l2:its2.length=ds.length:=by rw[←v2.length,q2.length]
         have rc:=SeqAt.RcAt.tuples (A:=A) (e:=λ _=>true) (show s.heap.IsTuple a its.toArray from p1) (show s.heap.IsTuple b its2.toArray from p2) %[|0] (λ j j1 j2=>?_)
         . have e2:((List.range (min its.toArray.size its2.toArray.size)).all (λ _=>true)&&its.toArray.size==its2.toArray.size)=true:=by simp[l1,l2]
           rw[e2]at rc
           exact SeqAt.EqAt.of_refs e rc
         . have hj:j<ds.length:=by simpa[l1]using j1
           obtain⟨z1,a1,b1⟩:=q1.get (y4 hj)
           obtain⟨z2,a2,b2⟩:=q2.get (y4 hj)
           obtain⟨u1,c1,d1⟩:=v1.get a1
           obtain⟨u2,c2,d2⟩:=v2.get a2
           have e1:its.toArray[j]=u1:=by have:=(y3.mp c1).2;simpa using this
           have e2:its2.toArray[j]=u2:=by have:=(y3.mp c2).2;simpa using this
           rw[e1,e2]
           have hd:=dZ (y4 hj)
           exact ih ds[j] (by simp[deep]at hx;omega) (gq (by simpa[au]using hn) (y4 hj)) I b1 b2 d1 d2 (by show A.units+1+n<cLine;omega)
   | @lst a xs ds h1 q1=>
     cases r2 with
     | @lst b ys _ h2 q2=>
       cases ru;cases ru'
       by_cases e:a=b
       . subst e;exact SeqAt.EqAt.same _
       . obtain⟨its,v1,p1,_⟩:=I.list h1.sq
         obtain⟨its2,v2,p2,_⟩:=I.list h2.sq
         have l1:its.length=ds.length:=by rw[←v1.length,q1.length]
         have l2:its2.length=ds.length:=by rw[←v2.length,q2.length]
         have rc:=SeqAt.RcAt.lists (A:=A) (e:=λ _=>true) p1.isList p2.isList (by simp[l1,l2]) %[|0] (λ j j1 j2=>?_)
         . have e2:(List.range its.toArray.size).all (λ _=>true)=true:=by simp
           rw[e2]at rc
           exact SeqAt.EqAt.of_refs e rc
         . have hj:j<ds.length:=by simpa[l1]using j1
           obtain⟨z1,a1,b1⟩:=q1.get (y4 hj)
           obtain⟨z2,a2,b2⟩:=q2.get (y4 hj)
           obtain⟨u1,c1,d1⟩:=v1.get a1
           obtain⟨u2,c2,d2⟩:=v2.get a2
           have e1:its.toArray[j]=u1:=by have:=(y3.mp c1).2;simpa using this
           have e2:its2.toArray[j]=u2:=by have:=(y3.mp c2).2;simpa using this
           rw[e1,e2]
           have hd:=dZ (y4 hj)
           exact ih ds[j] (by simp[deep]at hx;omega) (gq (by simpa[au]using hn) (y4 hj)) I b1 b2 d1 d2 (by show A.units+1+n<cLine;omega)
   | loc _=>simp[au]at hn
   | dlo _=>simp[au]at hn
   | @dic a h1 e1=>
     cases r2 with
     | @dic b h2 e2=>
       cases ru;cases ru'
       by_cases e:a=b
       . subst e;exact SeqAt.EqAt.same _
       . obtain⟨z1,d1⟩:=kY I e1
         obtain⟨z2,d2⟩:=kY I e2
         refine SeqAt.EqAt.of_refs e λ prog w' E Q hq=>?_
         exact PySem.W.keq_eq (knd:=eH prog w') z1 z2 (Qn d1) (Qn d2) %[|0] (λ _=>.nil) (by simpa using hq)
end
end DL
namespace DL
open PySem PySem.Spec L2
open PyProof.Rows
variable {pins : Pins} {H : Hp} {s : Shared}
section
variable {X : Cx} {Γ : Gam} {S : Store} {W : WD} {a b e : Expr} {es : List Expr} {pos : Pos}
theorem Nk{x:D}(hu:X.A.units+60<cLine)(hn:au x=true)(hd:deep x≤50)(w:W (.bl false) S):bC X .NotEq x x S W:=by
 intro pins s σ H O v w' u u' I st r1 r2 r3 r4
 have fin:∀{k:Bool},SeqAt.RcNeAt X.A s u u' k->k=false->wpAny %[|8] X.A (compareOp .NotEq u u') (EP X pins σ (QG X.K O H W)) X.xe s:=λ h e=>by
  subst e
  exact h _ _ _ _ ⟨.bl false,H,I,rfl,QG.here w st (.bl false)⟩
 cases r1 with
 | non=>cases r2;cases r3;cases r4;exact fin SeqAt.RcNeAt.none_none rfl
 | bl y=>cases r2;cases r3;cases r4;exact fin (SeqAt.RcNeAt.bool_bool y y) (by simp)
 | int y=>cases r2;obtain⟨t,rfl⟩:=r3;obtain⟨t',rfl⟩:=r4;exact fin (SeqAt.RcNeAt.int_int y t y t') (by simp)
 | str y=>cases r2;obtain⟨t,rfl⟩:=r3;obtain⟨t',rfl⟩:=r4;exact fin (SeqAt.RcNeAt.str_str y t y t') (by simp)
 | @tup a xs ds h1 q1=>
   cases r2 with
   | @tup b ys _ h2 q2=>
     cases r3;cases r4
     obtain⟨its,v1,p1,_⟩:=I.tuple h1.sq
     obtain⟨its2,v2,p2,_⟩:=I.tuple h2.sq
     have l1:its.length=ds.length:=by rw[←v1.length,q1.length]
     have l2:its2.length=ds.length:=by rw[←v2.length,q2.length]
     refine fin (SeqAt.RcNeAt.tuples (e:=λ _=>true) (show s.heap.IsTuple a its.toArray from p1) (show s.heap.IsTuple b its2.toArray from p2) %[|0] (λ j j1 j2=>?_)) (by simp[l1,l2])
     have hj:j<ds.length:=by simpa[l1]using j1
     obtain⟨z1,a1,b1⟩:=q1.get (y4 hj)
     obtain⟨z2,a2,b2⟩:=q2.get (y4 hj)
     obtain⟨u1,c1,d1⟩:=v1.get a1
     obtain⟨u2,c2,d2⟩:=v2.get a2
     have e1:its.toArray[j]=u1:=by have:=(y3.mp c1).2;simpa using this
     have e2:its2.toArray[j]=u2:=by have:=(y3.mp c2).2;simpa using this
     rw[e1,e2]
     have hd':=dZ (y4 hj)
     exact J6 49 ds[j] (by simp[deep]at hd;omega) (gq (by simpa[au]using hn) (y4 hj)) I b1 b2 d1 d2 (by show X.A.units+1+49<cLine;omega)
 | @lst a xs ds h1 q1=>
   cases r2 with
   | @lst b ys _ h2 q2=>
     cases r3;cases r4
     obtain⟨its,v1,p1,_⟩:=I.list h1.sq
     obtain⟨its2,v2,p2,_⟩:=I.list h2.sq
     have l1:its.length=ds.length:=by rw[←v1.length,q1.length]
     have l2:its2.length=ds.length:=by rw[←v2.length,q2.length]
     refine fin (SeqAt.RcNeAt.lists (e:=λ _=>true) p1.isList p2.isList (by simp[l1,l2]) %[|0] (λ j j1 j2=>?_)) (by simp)
     have hj:j<ds.length:=by simpa[l1]using j1
     obtain⟨z1,a1,b1⟩:=q1.get (y4 hj)
     obtain⟨z2,a2,b2⟩:=q2.get (y4 hj)
     obtain⟨u1,c1,d1⟩:=v1.get a1
     obtain⟨u2,c2,d2⟩:=v2.get a2
     have e1:its.toArray[j]=u1:=by have:=(y3.mp c1).2;simpa using this
     have e2:its2.toArray[j]=u2:=by have:=(y3.mp c2).2;simpa using this
     rw[e1,e2]
     have hd':=dZ (y4 hj)
     exact J6 49 ds[j] (by simp[deep]at hd;omega) (gq (by simpa[au]using hn) (y4 hj)) I b1 b2 d1 d2 (by show X.A.units+1+49<cLine;omega)
 | loc _=>simp[au]at hn
 | dlo _=>simp[au]at hn
 | @dic a h1 e1=>
   cases r2 with
   | @dic b h2 e2=>
     cases r3;cases r4
     obtain⟨z1,d1⟩:=kY I e1
     obtain⟨z2,d2⟩:=kY I e2
     exact PySem.W.keq_ne (knd:=eH X.prog X.w) z1 z2 d1 d2 %[|0] (λ _=>.nil) ⟨.bl false,H,I,rfl,QG.here w st (.bl false)⟩
end
set_option genInjectivity false in
structure SqKind(P:Program)(w:World)(K:PySem.W.Frag) where
 Sq:Hp->Addr->List V->Prop
 It:Heap->Addr->Addr->Nat->Prop
 Ob:Heap->Addr->Array Value->Prop
 itObj:∀{h it a i},It h it a i->∃o vs,h.get? it=some o/\o.data=.fields vs
 itAt:∀{h h' it a i},It h it a i->(∀o,h.get? it=some o->h'.get? it=some o)->It h' it a i
 obObj:∀{h a its},Ob h a its->∃o n,h.get? a=some o/\o.data=.seq its n
 draws:∀(A:Around),A.handled=none->∀(it a:Addr),a≠it->∀items:Array Value,Draws P w A it [it,a] items.size (λ i v=>items[i]? =some v) (λ i h=>It h it a i/\Ob h a items)
 get:∀{X:Cx}{pins:Pins}{σ:St}{H:Hp}{s:Shared}{a:Addr}{xs:List V},X.prog=P->X.w=w->X.K=K->%[|6]->Sq H a xs->∃its:%[|7],Vals xs its/\Ob s.heap a its.toArray
 inj:∀{X:Cx}{pins:Pins}{σ:St}{H:Hp}{s:Shared}{a:Addr}{xs ys:List V},X.prog=P->X.w=w->X.K=K->%[|6]->Sq H a xs->Sq H a ys->xs=ys
 far:∀{X:Cx}{pins:Pins}{σ:St}{H:Hp}{s:Shared}{a b:Addr}{xs:List V},X.K=K->%[|6]->Sq H a xs->fY X pins H b->a≠b
section
variable {P : Program} {w : World} {K : PySem.W.Frag}
theorem SqKind.ne(q:SqKind P w K){h:Heap}{it a:Addr}{i:Nat}{its:Array Value}(x:q.It h it a i)(y:q.Ob h a its):a≠it:=λ e=>by
 obtain⟨o,vs,h1,h2⟩:=q.itObj x
 obtain⟨o',n,h3,h4⟩:=q.obObj y
 rw[e,h1]at h3
 cases h3
 rw[h2]at h4
 cases h4
theorem Sv{X:Cx}{σ:St}{a b:Addr}{o:Obj}(I:%[|6])(h:X.K.lookup a=some o)(f:fY X pins H b):a≠b:=λ z=>by
 have e:=I.ok.mod.kin a o h
 rw[z]at e
 rcases f.2.2.2.1 with q | q
 . exact I.ok.noex b o e q
 . exact absurd (ZM (ZE e) (Nat.le_trans I.ok.bsz q)) (Nat.lt_irrefl _)
def W9(P:Program)(w:World)(K:PySem.W.Frag):SqKind P w K where
 Sq:=SqL K
 It:=λ h it a i=>h.IsListIter it a i
 Ob:=λ h a its=>h.IsList a its
 itObj:=λ x=>let ⟨o,e,_,d⟩:=x;⟨o,_,e,d⟩
 itAt:=λ x k=>x.at k
 obObj:=λ x=>let ⟨o,e,_,n,d⟩:=x;⟨o,n,e,d⟩
 draws:=λ A hh it a ne items=>Draws.list hh it a ne items
 get:=λ hP hw hK I h=>by
  subst hP hw hK
  obtain⟨its,rv,p,_⟩:=I.list h
  exact⟨its,rv,p.isList⟩
 inj:=λ hP hw hK I h h'=>by
  subst hP hw hK
  exact I.list_inj h h'
 far:=λ hK I h f=>by
  subst hK
  rcases h with(h | ⟨_,h⟩) | ⟨o,_,_,h,_⟩
  . exact aC h f.1
  . exact aC h f.1
  . exact Sv I h f
theorem Vb{prog:Program}{w:World}{A:Around}{E:%[|11]}{it t:Addr}{i:Nat}{items:Array Value}{x:Value}{Q:%[|11]}(hi:s.heap.IsTupleIter it t i)(ht:s.heap.IsTuple t items)(hx:items[i]? =some x)
 (hQ:∀h',h'.IsTupleIter it t (i+1)->Heap.SameBut it s.heap h'->Q x {s with heap:=h'}):wpAny %[|10] A (Builtin.SmallTypes.nextOf (.ref it)) Q E s:=by
 obtain⟨o,ho,hc,hd⟩:=id hi
 obtain⟨o2,ho2,_,n2,hd2⟩:=ht
 unfold Builtin.SmallTypes.nextOf
 refine ZA (wpAny_callSpecial?_slot (name:=Str.ofString "__next__") hi.typeIs F.slot_tuple_iterator_next (ZP F.slot_tuple_iterator_next hi.typeIs F.entry_tuple_iterator_next ?_ (F.args_tuple_iterator_next_1 _)))
 refine ZA (m:=field (.ref it) 0) (wpAny_field ho hd (x:=.ref t) rfl ?_)
 rw[if_neg (show ¬((Value.ref t==Value.none)=true)from y7)]
 refine ZA (m:=field (.ref it) 1) (wpAny_field ho hd (x:=.int i 0) rfl ?_)
 refine ZA (m:=seqItems? (.ref t)) (wpAny_seqItems ho2 hd2 ?_)
 simp only[Int.toNat_natCast,hx]
 refine ZA (wpAny_setField ho hd (by simp) (ZB ⟨x,rfl,ZB (hQ _ ⟨_,Heap.get?_update_self _ ho (Obj.isFreed_of_fields (Obj.data_mapFields hd _)),(Obj.cls_mapFields ..).trans hc,by rw[Obj.data_mapFields hd];simp[rawInt]⟩ (Heap.SameBut.update ..))⟩))
theorem K3{prog:Program}{w:World}{A:Around}{E:%[|11]}{it t:Addr}{i:Nat}{items:Array Value}{Q:%[|11]}(hh:A.handled=none)(hi:s.heap.IsTupleIter it t i)(ht:s.heap.IsTuple t items)(hx:items[i]? =none)
 (hE:∀h' e,Heap.ExtBut it s.heap h'->(∃o,h'.get? e=some o/\o.cls=.type "StopIteration")->E (.ref e) {s with heap:=h'}):wpAny %[|10] A (Builtin.SmallTypes.nextOf (.ref it)) Q E s:=by
 obtain⟨o,ho,hc,hd⟩:=id hi
 obtain⟨o2,ho2,_,n2,hd2⟩:=ht
 unfold Builtin.SmallTypes.nextOf
 refine ZA (wpAny_callSpecial?_slot (name:=Str.ofString "__next__") hi.typeIs F.slot_tuple_iterator_next (ZP F.slot_tuple_iterator_next hi.typeIs F.entry_tuple_iterator_next ?_ (F.args_tuple_iterator_next_1 _)))
 refine ZA (m:=field (.ref it) 0) (wpAny_field ho hd (x:=.ref t) rfl ?_)
 rw[if_neg (show ¬((Value.ref t==Value.none)=true)from y7)]
 refine ZA (m:=field (.ref it) 1) (wpAny_field ho hd (x:=.int i 0) rfl ?_)
 refine ZA (m:=seqItems? (.ref t)) (wpAny_seqItems ho2 hd2 ?_)
 simp only[Int.toNat_natCast,hx]
 refine ZA (wpAny_rule (ZA (wpAny_setField ho hd (by simp) (ZA (m:=newExc (.type "StopIteration") []) ?_))))
 simp only[newExc,newTuple]
 refine ZA (wpAny_newObj_type (ZA (m:=firstArgMember _ _) (wpAny_of_eq (a:=Value.none) (by first | rfl | (simp only[firstArgMember];rfl)) (wpAny_newObj_type ?_ (by size_fits)))) (by size_fits))
 simp only[raiseNew]
 refine ZA (wpAny_handled ?_)
 first | rw[show A.in1.handled=none from hh] | rw[hh]
 exact ZA (ZB (wpAny_throw (hE _ _ (((Heap.SameBut.update ..).extBut.push _).push _) ⟨_,%[|19],rfl⟩)))
theorem Ow{prog:Program}{w:World}{A:Around}(hh:A.handled=none)(it t:Addr)(ne:t≠it)(items:Array Value):
 Draws prog w A it [it,t] items.size (λ i v=>items[i]? =some v) (λ i h=>h.IsTupleIter it t i/\h.IsTuple t items) where
 live:=λ i h x=>let ⟨o,e,_⟩:=x.1;⟨o,e⟩
 frame:=λ i h h' x k=>by
  obtain⟨⟨o,e,r⟩,⟨o2,e2,r2⟩⟩:=x
  exact⟨⟨o,k it (by simp) o e,r⟩,⟨o2,k t (by simp) o2 e2,r2⟩⟩
 item:=λ i s Q E hi x hQ=>Vb x.1 x.2 (x:=items[i]) (by simp[hi]) λ h' y sb=>hQ _ h' s.toks (by simp[hi]) ⟨y,x.2.extBut sb.extBut ne⟩ sb
 done:=λ s Q E x hE=>K3 hh x.1 x.2 (by simp) hE
def Mu(P:Program)(w:World)(K:PySem.W.Frag):SqKind P w K where
 Sq:=SqT K
 It:=λ h it a i=>h.IsTupleIter it a i
 Ob:=λ h a its=>h.IsTuple a its
 itObj:=λ x=>let ⟨o,e,_,d⟩:=x;⟨o,_,e,d⟩
 itAt:=λ x k=>let ⟨o,e,r⟩:=x;⟨o,k o e,r⟩
 obObj:=λ x=>let ⟨o,e,_,n,d⟩:=x;⟨o,n,e,d⟩
 draws:=λ A hh it a ne items=>Ow hh it a ne items
 get:=λ hP hw hK I h=>by
  subst hP hw hK
  obtain⟨its,rv,p,_⟩:=I.tuple h
  exact⟨its,rv,p⟩
 inj:=λ hP hw hK I h h'=>by
  subst hP hw hK
  exact I.tuple_inj h h'
 far:=λ hK I h f=>by
  subst hK
  rcases h with(h | ⟨_,h⟩) | ⟨o,_,_,h,_⟩
  . exact aC h f.1
  . exact aC h f.1
  . exact Sv I h f
theorem vN{X:Cx}{σ:St}{h':Heap}{t:Nat}{ch:List Addr}(I:%[|6])(hf:∀b∈ch,fY X pins H b)(k:∀b o,b∉ch->s.heap.get? b=some o->h'.get? b=some o):Inv X pins σ H {s with heap:=h',toks:=t}:=by
 have nch:∀b u,H b=some u->b∉ch:=λ b u e z=>by rw[(hf b z).1]at e;cases e
 refine I.step (g':=s.gens) (d':=s.drawn) (ch:=ch) (λ b hb=>⟨(hf b hb).2.2.2.1,(hf b hb).2.1,(hf b hb).2.2.2.2.1,(hf b hb).2.2.2.2.2⟩) (λ b o _ _ hc e _=>k b o hc e) (λ b o _ _ hc e _=>⟨o.slots,k b o hc e⟩) (λ _ _ _ _ n=>n) (λ b o hc e=>⟨o,k b o hc e⟩)
  (λ _ _ e=>e) (λ _ _ _ e=>e) (λ b ps e=>⟨#[],by rw[e];simp⟩) (λ m hm=>?_) (λ b u e=>?_) I.bare
 . obtain⟨o,es,ep,ho,r⟩:=hm
   exact⟨o,es,ep,k _ o (λ z=>(hf _ z).2.1 rfl) ho,r⟩
 . refine(I.hok b u e).stay (λ c v hc q=>k c v ?_ q) (λ _ q=>q) λ _ _ q=>q
   rcases hc with z | z
   . rw[z];exact nch b u e
   . exact nch c _ z
theorem zY{X:Cx}{σ:St}{s':Shared}{p:Addr}{o:HO}(I:%[|6])(I':Inv X pins σ H s')(hp:s.heap.objs.size≤p)(ob:bu X.prog X.w (upd H p o) s'.heap p o):Inv X pins σ (upd H p o) s':=by
 have hn:H p=none:=I.hok.fresh hp
 have nt:∀b u,H b=some u->b≠p:=λ b u e=>aC e hn
 refine⟨I'.ok,I'.os,I'.bare,⟨I'.base.keep,I'.base.slot,λ b ob e n hx=>?_,I'.base.there,λ b xs e=>?_,λ b ob u e=>?_,λ b ps e=>?_⟩,I'.loc,I'.cell,?_,λ x c e=>?_,λ q hq=>?_,λ b u e=>?_,I'.len⟩
 . have lt:b<s.heap.objs.size:=ZM (ZE e) I.sz
   rw[ao (ZN (ZM lt hp))]
   exact I'.base.free b ob e n hx
 . have:=I'.base.tups b xs e
   rw[ao (nt b _ this)];exact this
 . have:=I'.base.frzs b ob u e
   rw[ao (nt b _ this)];exact this
 . obtain⟨m,e'⟩:=I'.base.tbls b ps e
   exact⟨m,by rw[ao (nt b _ e')];exact e'⟩
 . rw[ao (ZN (ZM I.lt hp))];exact I'.free
 . obtain⟨v,z⟩:=I.cell x c e
   rw[ao (ZN (ZM z.lt hp))];exact I'.freeC x c e
 . obtain⟨e1,_⟩:=I.pin q hq
   obtain⟨a1,a2,a3⟩:=I'.pin q hq
   exact⟨a1,by rw[ao (ZN (ZM (ZE e1) hp))];exact a2,a3⟩
 . by_cases hb:b=p
   . subst hb;rw[aL]at e;cases e;exact ob
   . rw[ao hb]at e
     exact(I'.hok b u e).stay (λ c v _ q=>q) (λ c q=>by rw[ao (nt c _ q)];exact q) λ c xs q=>by rw[ao (nt c _ q)];exact q
def Ite(q:SqKind P w K)(a:Addr):It:=
 ⟨λ i H=>∃xs x,q.Sq H a xs/\xs[i]? =some x,λ i H x H'=>∃p y,H p=none/\H'=upd H p (.tup [.int i,y])/\x=.ref p/\∀xs,q.Sq H a xs->xs[i]? =some y,λ i H=>∃xs,q.Sq H a xs/\i=xs.length⟩
theorem Jb(q:SqKind P w K){elts:List Expr}{k:Nat}{pos:Pos}(a e it:Addr)(hne:e≠it):Turn P w K (.Tuple elts k pos) (Ite q a) [e,it] e (λ i h=>(∃old,IsEnum h e it i old)/\q.It h it a i) where
 mem:=by simp
 obj:=λ i h st b hb=>by
  obtain⟨⟨old,he⟩,hi⟩:=st
  rcases ZJ.mp hb with rfl | hb
  . exact⟨_,he,λ v z=>nomatch z⟩
  . rw[ZL.mp hb]
    obtain⟨o,vs,h1,h2⟩:=q.itObj hi
    exact⟨o,h1,λ v z=>by rw[h2]at z;cases z⟩
 keep:=λ i h h' st k=>⟨let ⟨old,he⟩:=st.1;⟨old,k e (by simp) _ he⟩,q.itAt st.2 λ o e=>k it (by simp) o e⟩
 item :=by
  intro X hP hw hK hc i pins s σ H E I hf st hg
  obtain⟨xs,x,hq,hx⟩:=hg
  obtain⟨its,rv,ob⟩:=q.get hP hw hK I hq
  obtain⟨u,hu,ru⟩:=rv.get hx
  obtain⟨⟨old,he⟩,hi⟩:=st
  have ne:=q.ne hi ob
  have hea:e≠a:=λ z=>by
   obtain⟨o,n,h1,h2⟩:=q.obObj ob
   rw[←z,he]at h1
   cases h1
   cases h2
  have hlt:i<its.toArray.size:=by simpa using(y3.mp hu).1
  have uq:∀ys,q.Sq H a ys->ys[i]? =some x:=λ ys hy=>by rw[q.inj hP hw hK I hy hq];exact hx
  subst hP hw
  refine wpAny_pyNext_enum_itemD (q.draws X.A.in1 (I.ok.hd hc) it a ne its.toArray) he ⟨hi,ob⟩ hlt hne (by simp[hne,hea]) λ x' h' tk hPx ho hs' hT hsz hk=>?_
  have ex:x'=u:=by
   have:its.toArray[i]? =some u:=by simpa using hu
   rw[this]at hPx
   exact(Option.some.inj hPx).symm
  subst ex
  refine⟨_,rfl,wpAny_letOwnedTupleGo_enum ho λ h2 he2 sb=>?_⟩
  have I1:Inv X pins σ H {s with heap:=h2,toks:=tk+1}:=vN (ch:=[e,it]) I hf λ b o hb q'=>(sb.2 b (λ z=>hb (by simp[z]))).trans (hk b o (λ z=>hb (by simp[z])) (λ z=>hb (by simp[z])) q')
  have hp:H s.heap.objs.size=none:=I.hok.fresh (x6 _)
  have elt:e<s.heap.objs.size:=ZE he
  have hT2:h2.get? s.heap.objs.size=some {cls:=.type "tuple",data:=.seq #[.int i tk,x']}:=(sb.2 _ (Nat.ne_of_gt elt)).trans hT
  have I2:Inv X pins σ (upd H s.heap.objs.size (.tup [.int i,x])) {s with heap:=h2,toks:=tk+1}:=zY I I1 (x6 _) ⟨by show 2≤sizeLine;decide,[.int i tk,x'],.cons ⟨tk,rfl⟩ (.cons ru .nil),_,hT2,rfl,_,rfl⟩
  refine⟨%[|21],_,I2,rfl,⟨_,x,hp,rfl,rfl,uq⟩,⟨⟨_,by simpa using he2⟩,q.itAt hs'.1 λ o q'=>(sb.2 it hne.symm).trans q'⟩,λ b hb=>?_⟩
  rw[ao (ZN ?_)]
  . exact(hf b hb).1
  . rcases ZJ.mp hb with rfl | hb
    . exact elt
    . rw[ZL.mp hb]
      obtain⟨o,vs,h1,_⟩:=q.itObj hi
      exact ZE h1
 done:=by
  intro X hP hw hK hc i pins s σ H E I hf st hg
  obtain⟨xs,hq,hx⟩:=hg
  obtain⟨its,rv,ob⟩:=q.get hP hw hK I hq
  obtain⟨⟨old,he⟩,hi⟩:=st
  have ne:=q.ne hi ob
  subst hP hw
  obtain⟨f0,f1,f2,f3,f4,f5⟩:=hf it (by simp)
  have hn:i=its.toArray.size:=by rw[hx,rv.length];simp
  have st':q.It s.heap it a its.toArray.size/\q.Ob s.heap a its.toArray:=⟨hn▸hi,ob⟩
  exact wpAny_pyNext_enum_endD (q.draws X.A.in1 (I.ok.hd hc) it a ne its.toArray) he st' λ h' ext=>⟨rfl,I.turned (t':=s.toks) (λ b o hb e=>ext b o hb e) f0 f1 f3 f4 f5⟩
 self:=λ _ _ _ _ _ st h=>let ⟨old,he⟩:=st.1;wpAny_pyIter_enum he h
theorem qF(q:SqKind P w K){O:Own}{H:Hp}{a:Addr}{ds:List D}(h:∀O' H',Conv O O' H H'->∃xs,q.Sq H' a xs/\Reps K O' H' xs ds):iH K (Ite q a) O H (ds.mapIdx λ i d=>.tup [.int i,d]):=by
 intro O' H' cv tr i
 obtain⟨xs,hq,r⟩:=h O' H' cv
 refine⟨λ d hd=>?_,λ hi=>⟨xs,hq,by rw[hi,r.length];simp⟩⟩
 rw[List.getElem?_mapIdx]at hd
 cases e:ds[i]? with
 | none=>rw[e]at hd;cases hd
 | some d0=>
   rw[e]at hd
   cases hd
   obtain⟨v,hv,rv⟩:=r.get e
   refine⟨⟨xs,v,hq,hv⟩,λ x H'' y=>?_⟩
   obtain⟨p,y,hp,rfl,rfl,hy⟩:=y
   have ey:=hy xs hq
   rw[hv]at ey
   cases ey
   have np:¬O'.has p:=λ z=>tr p z hp
   exact⟨bB.fresh hp _,.tup ⟨np,aL⟩ (.cons (.int _) (.cons (rv.mono (Step.fresh hp _)) .nil))⟩
section
variable {X : Cx} {Γ : Gam} {S : Store} {e : Expr} {pos : Pos}
theorem Gs{σ:St}{elts:List Expr}{k:Nat}{tp:Pos}{R:It->Hp->Prop}{E:%[|11]}{h':Heap}(q:SqKind X.prog X.w X.K){a:Addr}(I:%[|6])(he:IsEnum h' (s.heap.objs.size+1) s.heap.objs.size 0 .none)(hi:q.It h' s.heap.objs.size a 0)
 (kp:∀b o,s.heap.get? b=some o->h'.get? b=some o)(r:R (Ite q a) H):wpAny %[|8] X.A (pyIter (.ref (s.heap.objs.size+1))) (PIE X pins σ (.Tuple elts k tp) R) E {s with heap:=h'}:=by
 refine wpAny_pyIter_enum he ?_
 refine⟨s.heap.objs.size+1,[s.heap.objs.size+1,s.heap.objs.size],_,_,H,rfl,I.kept (t':=s.toks) kp,Jb q a (s.heap.objs.size+1) s.heap.objs.size (Nat.succ_ne_self _),⟨⟨_,he⟩,hi⟩,λ b hb=>?_,r⟩
 rcases ZJ.mp hb with rfl | hb
 . exact I.fpOk (Nat.le_succ _) (I.hok.fresh (Nat.le_succ _))
 . rw[ZL.mp hb]
   exact I.fpOk (x6 _) (I.hok.fresh (x6 _))
theorem Ks(l:Addr)(items:Array Value)(n:Nat)(dct:Option Addr)(sl:Array %[|27]):
 Meets (Builtin.«enumerate.__new__» ⟨[.type "enumerate",.ref l],[]⟩) (λ _ R s=>s.heap.get? l=some {cls:=.type "tuple",dict:=dct,data:=.seq items n,slots:=sl}/\
  R (.ok (.ret (.ref (s.heap.push {cls:=.type "tuple_iterator",data:=.fields #[.ref l,.int 0 0]}).objs.size)))
    {s with heap:=(s.heap.push {cls:=.type "tuple_iterator",data:=.fields #[.ref l,.int 0 0]}).push {cls:=.type "enumerate",data:=.fields #[.none,.bool false,%[|21],rawInt 0,.none,.none]}}):=
 .of_wp λ prog w A R s h=>by
  obtain⟨hp,g,d,tk,os⟩:=s;obtain⟨hl,h⟩:=h
  have hsub:=sub_enumerate
  have hT:Heap.IsTuple (Shared.heap ⟨hp,g,d,tk,os⟩) l items:=⟨_,hl,rfl,n,rfl⟩
  wp_walk using AutoSeq1.wpAny_loadPart' hl
  refine wpAny_stack_any λ st=>ZB ?_
  split
  . rename_i c _ _ _ _ _
    cases (c==Value.type "enumerate")<;>(wp_walk using AutoSeq1.wpAny_loadPart' hl,wpAny_pyIter_tuple hT;exact⟨_,rfl,h⟩)
  . wp_walk using AutoSeq1.wpAny_loadPart' hl,wpAny_pyIter_tuple hT
    exact⟨_,rfl,h⟩
end
end
end DL
namespace DL
open PySem PySem.Spec L2
open PyProof.Rows
structure Zd(z TI TO i1 i2:Addr)(f1 f2:List Addr):Prop where
 a:TI≠z
 b:TO≠z
 c:TI≠TO
 d:TI≠i1
 e:TI≠i2
 f:TO≠i1
 g:TO≠i2
 h:i1≠z
 i:i2≠z
 j:z∉f1
 k:z∉f2
 l:TO∉f1
 m:TO∉f2
 n:i1∉f2
 o:i2∉f1
section
variable {prog : Program} {w : World} {A : Around} {E : Value -> Shared -> Prop} {s : Shared} {z TI TO i1 i2 : Addr} {f1 f2 : List Addr} {n1 n2 k : Nat} {P1 P2 : Nat -> Value -> Prop} {T1 T2 : Nat -> Heap -> Prop} {va vb : Value}
theorem T4{Q:%[|11]}(D1:Draws prog w A i1 f1 n1 P1 T1)(D2:Draws prog w A i2 f2 n2 P2 T2)(Z:Zd z TI TO i1 i2 f1 f2)(hz:IsZip s.heap z TI TO .none)(hTI:IsPair s.heap TI (.ref i1) (.ref i2))(hTO:IsPair s.heap TO va vb)(t1:T1 k s.heap)(t2:T2 k s.heap)(k1:k<n1)(k2:k<n2)
 (hQ:∀x y h' tk,P1 k x->P2 k y->IsZip h' z TI TO (rawInt s.heap.objs.size)->IsPair h' TO x y->T1 (k+1) h'->T2 (k+1) h'->IsPair h' s.heap.objs.size x y->
  (∀c o,c≠z->c≠TO->c≠i1->c≠i2->s.heap.get? c=some o->h'.get? c=some o)->Q %[|21] {s with heap:=h',toks:=tk}):
 wpAny %[|10] A (Builtin.«zip.__next__» ⟨[.ref z],[]⟩) (λ fin s'=>∃v,fin=.done (.ret v)/\Q v s') E s:=by
 obtain⟨hp,g,d,tk0,os⟩:=s
 refine ZA (m:=field (.ref z) 2) (wpAny_field hz rfl (x:=.bool false) rfl (ZA (m:=field (.ref z) 3) (wpAny_field hz rfl (x:=.ref TI) rfl (ZA (wpAny_seqItems hTI rfl ?_)))))
 refine ZA (m:=Builtin.SmallTypes.ownedTupleIsFree (.ref z)) ?_
 unfold Builtin.SmallTypes.ownedTupleIsFree
 refine ZA (wpAny_field hz rfl (x:=.none) rfl %[|12])
 simp only[if_true]
 refine ZA (wpAny_rule (ZA (wpAny_field hz rfl (x:=.ref TO) rfl (ZA (wpAny_setField_rec hz (by simp) λ h1 hz1 s1=>?_)))))
 replace hz1:IsZip h1 z TI TO .ellipsis:=hz1
 refine ZA ?_
 simp only[List.zipIdx_cons,List.zipIdx_nil,List.forIn_cons,List.forIn_nil]
 refine ZA (ZA (wpAny_onRaise (ZA (m:=Builtin.SmallTypes.nextOf (.ref i1)) ?_)))
 refine D1.item k _ _ _ k1 (D1.frame _ _ _ t1 λ b hb o e=>s1.extBut b o (λ q=>Z.j (q▸hb)) e) λ x h2 tk1 p1 t1' s2=>ZB ?_
 replace s2:Heap.SameBut i1 h1 h2:=s2
 have o2:IsPair h2 TO va vb:=s2.extBut _ _ Z.f (s1.extBut _ _ Z.b hTO)
 refine ZA (wpAny_seqItems o2 rfl (ZA (wpAny_updateSeq_pair o2 λ h3 o3 s3=>ZA (wpAny_letGo %[|12]))))
 replace o3:IsPair h3 TO x vb:=o3
 refine ZA (ZA (wpAny_onRaise (ZA (m:=Builtin.SmallTypes.nextOf (.ref i2)) ?_)))
 have t2':T2 k h3:=D2.frame _ _ _ t2 λ b hb o e=>s3.extBut b o (λ q=>Z.m (q▸hb)) (s2.extBut b o (λ q=>Z.n (q▸hb)) (s1.extBut b o (λ q=>Z.k (q▸hb)) e))
 refine D2.item k _ _ _ k2 t2' λ y h4 tk2 p2 t2'' s4=>ZB ?_
 replace s4:Heap.SameBut i2 h3 h4:=s4
 have o4:IsPair h4 TO x vb:=s4.extBut _ _ Z.g o3
 refine ZA (wpAny_seqItems o4 rfl (ZA (wpAny_updateSeq_pair o4 λ h5 o5 s5=>ZA (wpAny_letGo (ZB %[|12])))))
 replace o5:IsPair h5 TO x y:=o5
 refine ZA (wpAny_seqItems o5 rfl (ZA (wpAny_newTuple ?_)))
 have sz:h5.objs.size=hp.objs.size:=by rw[s5.1,s4.1,s3.1,s2.1,s1.1]
 have hz5:IsZip h5 z TI TO .ellipsis:=s5.extBut _ _ Z.b.symm (s4.extBut _ _ Z.i.symm (s3.extBut _ _ Z.b.symm (s2.extBut _ _ Z.h.symm hz1)))
 have k5:∀c o,c≠z->c≠TO->c≠i1->c≠i2->hp.get? c=some o->h5.get? c=some o:=λ c o c1 c2 c3 c4 q=>s5.extBut _ _ c2 (s4.extBut _ _ c4 (s3.extBut _ _ c2 (s2.extBut _ _ c3 (s1.extBut _ _ c1 q))))
 have zlt:z<h5.objs.size:=ZE hz5
 refine ZA (m:=Builtin.SmallTypes.ownedTupleHandOut (.ref z) (.ref h5.objs.size)) ?_
 unfold Builtin.SmallTypes.ownedTupleHandOut
 have hz6:IsZip (h5.push {cls:=.type "tuple",data:=.seq #[x,y]}) z TI TO .ellipsis:=ZC _ hz5
 refine ZA (wpAny_setField_rec hz6 (by simp) λ h7 hz7 s7=>?_)
 replace hz7:IsZip h7 z TI TO (rawInt h5.objs.size):=hz7
 refine wpAny_setField_rec hz7 (by simp) λ h8 hz8 s8=>?_
 replace hz8:IsZip h8 z TI TO (rawInt h5.objs.size):=hz8
 have up:∀c o,c≠z->h5.get? c=some o->h8.get? c=some o:=λ c o c1 q=>s8.extBut _ _ c1 (s7.extBut _ _ c1 (ZC _ q))
 have p8:IsPair h8 h5.objs.size x y:=s8.extBut _ _ (Nat.ne_of_gt zlt) (s7.extBut _ _ (Nat.ne_of_gt zlt) %[|19])
 rw[sz]at hz8 p8
 refine ZB ⟨_,rfl,?_⟩
 show Q (.ref h5.objs.size) _
 rw[sz]
 have u1:T1 (k+1) h8:=D1.frame _ _ _ t1' λ b hb o q=>up b o (λ r=>Z.j (r▸hb)) (s5.extBut b o (λ r=>Z.l (r▸hb)) (s4.extBut b o (λ r=>Z.o (r▸hb)) (s3.extBut b o (λ r=>Z.l (r▸hb)) q)))
 have u2:T2 (k+1) h8:=D2.frame _ _ _ t2'' λ b hb o q=>up b o (λ r=>Z.k (r▸hb)) (s5.extBut b o (λ r=>Z.m (r▸hb)) q)
 exact hQ x y h8 tk2 p1 p2 hz8 (up _ _ Z.b o5) u1 u2 p8 λ c o c1 c2 c3 c4 q=>up c o c1 (k5 c o c1 c2 c3 c4 q)
theorem Mi{Q:PySem.Fin->Shared->Prop}(D1:Draws prog w A i1 f1 n1 P1 T1)(D2:Draws prog w A i2 f2 n2 P2 T2)(Z:Zd z TI TO i1 i2 f1 f2)(hz:IsZip s.heap z TI TO .none)(hTI:IsPair s.heap TI (.ref i1) (.ref i2))(hTO:IsPair s.heap TO va vb)(t1:T1 k s.heap)(t2:T2 k s.heap)(hk:k=n1∨(k<n1/\k=n2))
 (hE:∀h' tk e,(∀c o,c≠z->c≠TO->c≠i1->c≠i2->s.heap.get? c=some o->h'.get? c=some o)->(∃o,h'.get? e=some o/\o.cls=.type "StopIteration")->E (.ref e) {s with heap:=h',toks:=tk}):
 wpAny %[|10] A (Builtin.«zip.__next__» ⟨[.ref z],[]⟩) Q E s:=by
 obtain⟨hp,g,d,tk0,os⟩:=s
 refine ZA (m:=field (.ref z) 2) (wpAny_field hz rfl (x:=.bool false) rfl (ZA (m:=field (.ref z) 3) (wpAny_field hz rfl (x:=.ref TI) rfl (ZA (wpAny_seqItems hTI rfl ?_)))))
 refine ZA (m:=Builtin.SmallTypes.ownedTupleIsFree (.ref z)) ?_
 unfold Builtin.SmallTypes.ownedTupleIsFree
 refine ZA (wpAny_field hz rfl (x:=.none) rfl %[|12])
 simp only[if_true]
 refine ZA (wpAny_rule (ZA (wpAny_field hz rfl (x:=.ref TO) rfl (ZA (wpAny_setField_rec hz (by simp) λ h1 hz1 s1=>?_)))))
 replace hz1:IsZip h1 z TI TO .ellipsis:=hz1
 refine ZA ?_
 simp only[List.zipIdx_cons,List.zipIdx_nil,List.forIn_cons,List.forIn_nil]
 refine ZA (ZA (wpAny_onRaise (ZA (m:=Builtin.SmallTypes.nextOf (.ref i1)) ?_)))
 have t1':T1 k h1:=D1.frame _ _ _ t1 λ b hb o e=>s1.extBut b o (λ q=>Z.j (q▸hb)) e
 rcases hk with rfl | ⟨k1,rfl⟩
 . refine D1.done _ _ _ t1' λ h2 e s2 hq_=>?_
   obtain⟨oe,he,ce⟩:=hq_
   replace s2:Heap.ExtBut i1 h1 h2:=s2
   have hz2:IsZip h2 z TI TO .ellipsis:=s2 _ _ Z.h.symm hz1
   have ez:e≠z:=λ q=>by subst q;rw[hz2]at he;cases he;simp at ce
   exact wpAny_setField_rec hz2 (by simp) λ h3 _ s3=>hE h3 _ e (λ c o c1 _ c3 _ q=>s3.extBut _ _ c1 (s2 _ _ c3 (s1.extBut _ _ c1 q))) ⟨oe,s3.extBut _ _ ez he,ce⟩
 . refine D1.item k _ _ _ k1 t1' λ x h2 tk1 p1 _ s2=>ZB ?_
   replace s2:Heap.SameBut i1 h1 h2:=s2
   have o2:IsPair h2 TO va vb:=s2.extBut _ _ Z.f (s1.extBut _ _ Z.b hTO)
   refine ZA (wpAny_seqItems o2 rfl (ZA (wpAny_updateSeq_pair o2 λ h3 o3 s3=>ZA (wpAny_letGo %[|12]))))
   refine ZA (ZA (wpAny_onRaise (ZA (m:=Builtin.SmallTypes.nextOf (.ref i2)) ?_)))
   have t2':T2 k h3:=D2.frame _ _ _ t2 λ b hb o e=>s3.extBut b o (λ q=>Z.m (q▸hb)) (s2.extBut b o (λ q=>Z.n (q▸hb)) (s1.extBut b o (λ q=>Z.k (q▸hb)) e))
   refine D2.done _ _ _ t2' λ h4 e s4 hq_=>?_
   obtain⟨oe,he,ce⟩:=hq_
   replace s4:Heap.ExtBut i2 h3 h4:=s4
   have hz4:IsZip h4 z TI TO .ellipsis:=s4 _ _ Z.i.symm (s3.extBut _ _ Z.b.symm (s2.extBut _ _ Z.h.symm hz1))
   have ez:e≠z:=λ q=>by subst q;rw[hz4]at he;cases he;simp at ce
   exact wpAny_setField_rec hz4 (by simp) λ h5 _ s5=>hE h5 _ e (λ c o c1 c2 c3 c4 q=>s5.extBut _ _ c1 (s4 _ _ c4 (s3.extBut _ _ c2 (s2.extBut _ _ c3 (s1.extBut _ _ c1 q))))) ⟨oe,s5.extBut _ _ ez he,ce⟩
end
section
variable {P : Program} {w : World} {K : PySem.W.Frag}
def Itz(q r:SqKind P w K)(a b:Addr):It:=
 ⟨λ i H=>∃xs ys x y,q.Sq H a xs/\r.Sq H b ys/\xs[i]? =some x/\ys[i]? =some y,
  λ i H v H'=>∃p x y,H p=none/\H'=upd H p (.tup [x,y])/\v=.ref p/\(∀xs,q.Sq H a xs->xs[i]? =some x)/\∀ys,r.Sq H b ys->ys[i]? =some y,
  λ i H=>∃xs ys,q.Sq H a xs/\r.Sq H b ys/\i=min xs.length ys.length⟩
structure Zr(z TI TO i1 i2:Addr):Prop where
 a:TI≠z
 b:TO≠z
 c:TI≠TO
 d:TI≠i1
 e:TI≠i2
 f:TO≠i1
 g:TO≠i2
 h:i1≠z
 i:i2≠z
 j:i1≠i2
theorem Zr.zd(q r:SqKind P w K){X:Cx}{pins:Pins}{σ:St}{H:Hp}{s:Shared}{z TI TO i1 i2 a b:Addr}{xs ys:List V}(Z:Zr z TI TO i1 i2)(hK:X.K=K)(I:%[|6])(hf:∀c∈[z,TI,TO,i1,i2],fY X pins H c)(hq:q.Sq H a xs)(hr:r.Sq H b ys):Zd z TI TO i1 i2 [i1,a] [i2,b]:=by
 have fa:∀c∈[z,TI,TO,i1,i2],c≠a:=λ c hc=>(q.far hK I hq (hf c hc)).symm
 have fb:∀c∈[z,TI,TO,i1,i2],c≠b:=λ c hc=>(r.far hK I hr (hf c hc)).symm
 refine⟨Z.a,Z.b,Z.c,Z.d,Z.e,Z.f,Z.g,Z.h,Z.i,?_,?_,?_,?_,?_,?_⟩
 . simp[Z.h.symm,fa z (by simp)]
 . simp[Z.i.symm,fb z (by simp)]
 . simp[Z.f,fa TO (by simp)]
 . simp[Z.g,fb TO (by simp)]
 . simp[Z.j,fb i1 (by simp)]
 . simp[Z.j.symm,fa i2 (by simp)]
theorem Pj(q r:SqKind P w K){elts:List Expr}{k:Nat}{pos:Pos}(a b z TI TO i1 i2:Addr)(Z:Zr z TI TO i1 i2):Turn P w K (.Tuple elts k pos) (Itz q r a b) [z,TI,TO,i1,i2] z
 (λ i h=>IsZip h z TI TO .none/\IsPair h TI (.ref i1) (.ref i2)/\(∃va vb,IsPair h TO va vb)/\q.It h i1 a i/\r.It h i2 b i) where
 mem:=by simp
 obj:=λ i h st c hc=>by
  obtain⟨hz,hTI,⟨va,vb,hTO⟩,hi,hj⟩:=st
  obtain⟨o,vs,h1,h2⟩:=q.itObj hi
  obtain⟨o',vs',h1',h2'⟩:=r.itObj hj
  simp only[List.mem_cons,List.not_mem_nil,or_false]at hc
  rcases hc with rfl | rfl | rfl | rfl | rfl
  . exact⟨_,hz,λ v z=>nomatch z⟩
  . exact⟨_,hTI,λ v z=>nomatch z⟩
  . exact⟨_,hTO,λ v z=>nomatch z⟩
  . exact⟨o,h1,λ v z=>by rw[h2]at z;cases z⟩
  . exact⟨o',h1',λ v z=>by rw[h2']at z;cases z⟩
 keep:=λ i h h' st k=>by
  obtain⟨hz,hTI,⟨va,vb,hTO⟩,hi,hj⟩:=st
  exact⟨k z (by simp) _ hz,k TI (by simp) _ hTI,⟨va,vb,k TO (by simp) _ hTO⟩,q.itAt hi λ o e=>k i1 (by simp) o e,r.itAt hj λ o e=>k i2 (by simp) o e⟩
 item:=by
  intro X hP hw hK hc i pins s σ H E I hf st hg
  obtain⟨xs,ys,x,y,hq,hr,hx,hy⟩:=hg
  obtain⟨its,rv,ob⟩:=q.get hP hw hK I hq
  obtain⟨its2,rv2,ob2⟩:=r.get hP hw hK I hr
  obtain⟨u,hu,ru⟩:=rv.get hx
  obtain⟨u2,hu2,ru2⟩:=rv2.get hy
  obtain⟨hz,hTI,⟨va,vb,hTO⟩,hi,hj⟩:=st
  have ux:∀zs,q.Sq H a zs->zs[i]? =some x:=λ zs h=>by rw[q.inj hP hw hK I h hq];exact hx
  have uy:∀zs,r.Sq H b zs->zs[i]? =some y:=λ zs h=>by rw[r.inj hP hw hK I h hr];exact hy
  have Z2:=Z.zd q r hK I hf hq hr
  have l1:i<its.toArray.size:=by simpa using(y3.mp hu).1
  have l2:i<its2.toArray.size:=by simpa using(y3.mp hu2).1
  subst hP hw
  have hT:s.TypeIs (.ref z) "zip":=⟨_,hz,rfl⟩
  unfold pyNext
  refine ZA (wpAny_attempt (wpAny_callSpecial?_slot (name:=Str.ofString "__next__") hT F.slot_zip_next (ZP F.slot_zip_next hT F.entry_zip_next ?_ (F.args_zip_next_1 _))))
  refine T4 (q.draws X.A.in1 (I.ok.hd hc) i1 a (q.ne hi ob) its.toArray) (r.draws X.A.in1 (I.ok.hd hc) i2 b (r.ne hj ob2) its2.toArray) Z2 hz hTI hTO ⟨hi,ob⟩ ⟨hj,ob2⟩ l1 l2 λ x' y' h' tk px py hz' hTO' t1 t2 hp' kp=>ZB ?_
  have ex:x'=u:=by
   have e1:its.toArray[i]? =some u:=by simpa using hu
   rw[e1]at px
   exact(Option.some.inj px).symm
  have ey:y'=u2:=by
   have e1:its2.toArray[i]? =some u2:=by simpa using hu2
   rw[e1]at py
   exact(Option.some.inj py).symm
  subst ex
  subst ey
  refine⟨_,rfl,wpAny_letOwnedTupleGo_zip hz' λ h2 hz2 sb=>?_⟩
  have I1:Inv X pins σ H {s with heap:=h2,toks:=tk}:=vN (ch:=[z,TI,TO,i1,i2]) I hf λ c o hb q'=>(sb.2 c (λ z=>hb (by simp[z]))).trans (kp c o (λ z=>hb (by simp[z])) (λ z=>hb (by simp[z])) (λ z=>hb (by simp[z])) (λ z=>hb (by simp[z])) q')
  have hp:H s.heap.objs.size=none:=I.hok.fresh (x6 _)
  have elt:z<s.heap.objs.size:=ZE hz
  have hT2:h2.get? s.heap.objs.size=some {cls:=.type "tuple",data:=.seq #[x',y']}:=(sb.2 _ (Nat.ne_of_gt elt)).trans hp'
  have I2:Inv X pins σ (upd H s.heap.objs.size (.tup [x,y])) {s with heap:=h2,toks:=tk}:=zY I I1 (x6 _) ⟨by show 2≤sizeLine;decide,[x',y'],.cons ru (.cons ru2 .nil),_,hT2,rfl,_,rfl⟩
  have hTI':IsPair h2 TI (.ref i1) (.ref i2):=(sb.2 _ Z.a).trans (kp _ _ Z.a Z.c Z.d Z.e hTI)
  refine⟨%[|21],_,I2,rfl,⟨_,x,y,hp,rfl,rfl,ux,uy⟩,⟨hz2,hTI',⟨_,_,(sb.2 _ Z.b).trans hTO'⟩,q.itAt t1.1 λ o q'=>(sb.2 i1 Z.h).trans q',r.itAt t2.1 λ o q'=>(sb.2 i2 Z.i).trans q'⟩,λ c hb=>?_⟩
  rw[ao (ZN ?_)]
  . exact(hf c hb).1
  . obtain⟨o,vs,h1,_⟩:=q.itObj hi
    obtain⟨o',vs',h1',_⟩:=r.itObj hj
    simp only[List.mem_cons,List.not_mem_nil,or_false]at hb
    rcases hb with rfl | rfl | rfl | rfl | rfl
    . exact elt
    . exact ZE hTI
    . exact ZE hTO
    . exact ZE h1
    . exact ZE h1'
 done:=by
  intro X hP hw hK hc i pins s σ H E I hf st hg
  obtain⟨xs,ys,hq,hr,hn⟩:=hg
  obtain⟨its,rv,ob⟩:=q.get hP hw hK I hq
  obtain⟨its2,rv2,ob2⟩:=r.get hP hw hK I hr
  obtain⟨hz,hTI,⟨va,vb,hTO⟩,hi,hj⟩:=st
  have Z2:=Z.zd q r hK I hf hq hr
  subst hP hw
  have hT:s.TypeIs (.ref z) "zip":=⟨_,hz,rfl⟩
  have hk:i=its.toArray.size∨(i<its.toArray.size/\i=its2.toArray.size):=by
   have e1:=rv.length
   have e2:=rv2.length
   simp only[x9]
   omega
  unfold pyNext
  refine ZA (wpAny_attempt (wpAny_callSpecial?_slot (name:=Str.ofString "__next__") hT F.slot_zip_next (ZP F.slot_zip_next hT F.entry_zip_next ?_ (F.args_zip_next_1 _))))
  refine Mi (q.draws X.A.in1 (I.ok.hd hc) i1 a (q.ne hi ob) its.toArray) (r.draws X.A.in1 (I.ok.hd hc) i2 b (r.ne hj ob2) its2.toArray) Z2 hz hTI hTO ⟨hi,ob⟩ ⟨hj,ob2⟩ hk λ h' tk e kp hq_=>?_
  obtain⟨o,he,ce⟩:=hq_
  refine ZA (wpAny_isInstance (T:="StopIteration") (b:=true) ⟨o,he,ce⟩ isSubtype_stop (ZB ⟨rfl,?_⟩))
  exact vN (ch:=[z,TI,TO,i1,i2]) I hf λ c o hb q'=>kp c o (λ z=>hb (by simp[z])) (λ z=>hb (by simp[z])) (λ z=>hb (by simp[z])) (λ z=>hb (by simp[z])) q'
 self:=λ _ _ _ _ _ st h=>wpAny_pyIter_zip st.1 h
theorem GD(q r:SqKind P w K){O:Own}{H:Hp}{a b:Addr}{ds es:List D}(h:∀O' H',Conv O O' H H'->∃xs ys,q.Sq H' a xs/\Reps K O' H' xs ds/\r.Sq H' b ys/\Reps K O' H' ys es):iH K (Itz q r a b) O H (List.zipWith (λ x y=>.tup [x,y]) ds es):=by
 intro O' H' cv tr i
 obtain⟨xs,ys,hq,r1,hr,r2⟩:=h O' H' cv
 refine⟨λ d hd=>?_,λ hi=>⟨xs,ys,hq,hr,by rw[hi,r1.length,r2.length,List.length_zipWith]⟩⟩
 rw[List.getElem?_zipWith]at hd
 cases e1:ds[i]? with
 | none=>rw[e1]at hd;cases hd
 | some d1=>
   cases e2:es[i]? with
   | none=>rw[e1,e2]at hd;cases hd
   | some d2=>
     rw[e1,e2]at hd
     cases hd
     obtain⟨v1,hv1,rv1⟩:=r1.get e1
     obtain⟨v2,hv2,rv2⟩:=r2.get e2
     refine⟨⟨xs,ys,v1,v2,hq,hr,hv1,hv2⟩,λ x H'' y=>?_⟩
     obtain⟨p,x',y',hp,rfl,rfl,hx,hy⟩:=y
     have ex:=hx xs hq
     have ey:=hy ys hr
     rw[hv1]at ex
     rw[hv2]at ey
     cases ex
     cases ey
     have np:¬O'.has p:=λ z=>tr p z hp
     exact⟨bB.fresh hp _,.tup ⟨np,aL⟩ (.cons (rv1.mono (Step.fresh hp _)) (.cons (rv2.mono (Step.fresh hp _)) .nil))⟩
abbrev zh(h:Heap)(c1 c2:String)(l1 l2:Addr):Heap:=
 (((%[|26].push {cls:=.type c2,data:=.fields #[.ref l2,.int 0 0]}).push {cls:=.type "tuple",data:=.seq #[.ref h.objs.size,.ref %[|26].objs.size]}).push {cls:=.type "tuple",data:=.seq #[.none,.none]})
abbrev zhz(h:Heap)(c1 c2:String)(l1 l2:Addr):Heap:=
 (zh h c1 c2 l1 l2).push {cls:=.type "zip",data:=.fields #[.none,.bool false,.bool false,.ref (%[|26].push {cls:=.type c2,data:=.fields #[.ref l2,.int 0 0]}).objs.size,
  .ref ((%[|26].push {cls:=.type c2,data:=.fields #[.ref l2,.int 0 0]}).push {cls:=.type "tuple",data:=.seq #[.ref h.objs.size,.ref %[|26].objs.size]}).objs.size]}
theorem Jk(l1 l2:Addr)(xs ys:Array Value):
 Meets (Builtin.«zip.__new__» ⟨[.type "zip",.ref l1,.ref l2],[]⟩) (λ _ R s=>s.heap.IsTuple l1 xs/\s.heap.IsTuple l2 ys/\
  R (.ok (.ret (.ref (zh s.heap "tuple_iterator" "tuple_iterator" l1 l2).objs.size))) {s with heap:=zhz s.heap "tuple_iterator" "tuple_iterator" l1 l2}):=
 .of_wp λ prog w A R s h=>by
  obtain⟨hp,g,d,tk,os⟩:=s;obtain⟨a1,a2,h⟩:=h
  have hsub:=sub_zip
  have b1:Heap.IsTuple (Shared.heap ⟨hp,g,d,tk,os⟩) l1 xs:=a1
  have b2:Heap.IsTuple (Shared.heap ⟨hp.push {cls:=.type "tuple_iterator",data:=.fields #[.ref l1,.int 0 0]},g,d,tk,os⟩) l2 ys:=Heap.IsTuple.push a2 _
  wp_walk using wpAny_pyIter_tuple b1,wpAny_pyIter_tuple b2
  exact⟨_,rfl,h⟩
end
section
variable {X : Cx} {Γ : Gam} {S : Store} {pos : Pos}
theorem zip_parts(h:Heap)(c1 c2:String)(l1 l2:Addr):(zh h c1 c2 l1 l2).objs.size=h.objs.size+4/\IsZip (zhz h c1 c2 l1 l2) (h.objs.size+4) (h.objs.size+2) (h.objs.size+3) .none/\IsPair (zhz h c1 c2 l1 l2) (h.objs.size+2) (.ref h.objs.size) (.ref (h.objs.size+1))/\IsPair (zhz h c1 c2 l1 l2) (h.objs.size+3) .none .none/\
 (zhz h c1 c2 l1 l2).get? h.objs.size=some %[|28]/\(zhz h c1 c2 l1 l2).get? (h.objs.size+1)=some {cls:=.type c2,data:=.fields #[.ref l2,.int 0 0]}/\∀b o,h.get? b=some o->(zhz h c1 c2 l1 l2).get? b=some o:=by
 have z1:%[|26].objs.size=h.objs.size+1:=Heap.size_push ..
 have z2:(%[|26].push {cls:=.type c2,data:=.fields #[.ref l2,.int 0 0]}).objs.size=h.objs.size+2:=by rw[Heap.size_push,z1]
 have z3:((%[|26].push {cls:=.type c2,data:=.fields #[.ref l2,.int 0 0]}).push {cls:=.type "tuple",data:=.seq #[.ref h.objs.size,.ref %[|26].objs.size]}).objs.size=h.objs.size+3:=by rw[Heap.size_push,z2]
 have z4:(zh h c1 c2 l1 l2).objs.size=h.objs.size+4:=by rw[Heap.size_push,z3]
 have g5:=ZD (zh h c1 c2 l1 l2) (o:={cls:=.type "zip",data:=.fields #[.none,.bool false,.bool false,.ref (%[|26].push {cls:=.type c2,data:=.fields #[.ref l2,.int 0 0]}).objs.size,
  .ref ((%[|26].push {cls:=.type c2,data:=.fields #[.ref l2,.int 0 0]}).push {cls:=.type "tuple",data:=.seq #[.ref h.objs.size,.ref %[|26].objs.size]}).objs.size]}) rfl
 have g4:(zhz h c1 c2 l1 l2).get? ((%[|26].push {cls:=.type c2,data:=.fields #[.ref l2,.int 0 0]}).push {cls:=.type "tuple",data:=.seq #[.ref h.objs.size,.ref %[|26].objs.size]}).objs.size=some {cls:=.type "tuple",data:=.seq #[.none,.none]}:=ZC _ %[|19]
 have g3:(zhz h c1 c2 l1 l2).get? (%[|26].push {cls:=.type c2,data:=.fields #[.ref l2,.int 0 0]}).objs.size=some {cls:=.type "tuple",data:=.seq #[.ref h.objs.size,.ref %[|26].objs.size]}:=ZC _ (ZC _ %[|19])
 have g2:(zhz h c1 c2 l1 l2).get? %[|26].objs.size=some {cls:=.type c2,data:=.fields #[.ref l2,.int 0 0]}:=ZC _ (ZC _ (ZC _ %[|19]))
 have g1:(zhz h c1 c2 l1 l2).get? h.objs.size=some %[|28]:=ZC _ (ZC _ (ZC _ (ZC _ %[|19])))
 rw[z2,z3,z4]at g5
 rw[z3]at g4
 rw[z1,z2]at g3
 rw[z1]at g2
 refine⟨z4,?_,g3,g4,g1,g2,λ b o e=>ZC _ (ZC _ (ZC _ (ZC _ (ZC _ e))))⟩
 show(zhz h c1 c2 l1 l2).get? _=_
 unfold zhz
 rw[z2,z3]
 exact g5
theorem Uw{pins:Pins}{σ:St}{H:Hp}{s:Shared}{elts:List Expr}{k:Nat}{tp:Pos}{R:It->Hp->Prop}{E:%[|11]}{c1 c2:String}{l1 l2:Addr}(q r:SqKind X.prog X.w X.K)(I:%[|6])
 (hi:q.It (zhz s.heap c1 c2 l1 l2) s.heap.objs.size l1 0)(hj:r.It (zhz s.heap c1 c2 l1 l2) (s.heap.objs.size+1) l2 0)(rr:R (Itz q r l1 l2) H):
 wpAny %[|8] X.A (pyIter (.ref (s.heap.objs.size+4))) (PIE X pins σ (.Tuple elts k tp) R) E {s with heap:=zhz s.heap c1 c2 l1 l2}:=by
 obtain⟨_,p1,p2,p3,_,_,kp⟩:=zip_parts s.heap c1 c2 l1 l2
 refine wpAny_pyIter_zip p1 ?_
 refine⟨s.heap.objs.size+4,[s.heap.objs.size+4,s.heap.objs.size+2,s.heap.objs.size+3,s.heap.objs.size,s.heap.objs.size+1],_,_,H,rfl,I.kept (t':=s.toks) kp,Pj q r l1 l2 (s.heap.objs.size+4) (s.heap.objs.size+2) (s.heap.objs.size+3) s.heap.objs.size (s.heap.objs.size+1) ?_,⟨p1,p2,⟨_,_,p3⟩,hi,hj⟩,λ b hb=>?_,rr⟩
 . constructor<;>exact λ z=>by have z':(_:Nat)=_:=z;omega
 . have hb':s.heap.objs.size≤b:=by
    simp only[List.mem_cons,List.not_mem_nil,or_false]at hb
    rcases hb with rfl | rfl | rfl | rfl | rfl
    . exact Nat.le_add_right _ _
    . exact Nat.le_add_right _ _
    . exact Nat.le_add_right _ _
    . exact x6 _
    . exact Nat.le_add_right _ _
   exact I.fpOk hb' (I.hok.fresh hb')
theorem Oi{e1 e2:Expr}{elts:List Expr}{k:Nat}{tp p:Pos}{W:List D->%[|5]}(h:Ev X Γ S e1 λ d S1=>Ev X Γ S1 e2 λ d' S2=>∃ds es,d=.tup ds/\d'=.tup es/\W (List.zipWith (λ x y=>.tup [x,y]) ds es) S2)(hm:X.mg "zip"=none)(hg:Gl X "zip":=by rfl)
 (hs:starEach [e1,e2] X.env=(false,eval e1 X.env)::starEach [e2] X.env:=by rfl)(hs2:starEach [e2] X.env=[(false,eval e2 X.env)]:=by rfl):
 ItW X Γ S (.Tuple elts k tp) (.Call (.Name "zip" p) [e1,e2] [] pos) W:=by
 sleep 0
 have hA:EvA X Γ S [e1,e2] λ dd S2=>∃ds es,dd=[.tup ds,.tup es]/\W (List.zipWith (λ x y=>.tup [x,y]) ds es) S2:=
  dX (h.mono λ d S1 h1=>dX (h1.mono λ d' S2 ⟨ds,es,a,b,w⟩=>j7 ⟨ds,es,by rw[a,b],w⟩) hs2) hs
 refine Call_ (cB I hg hm boot_zip (PyProof.Rows.callWith_type1 (thn (hA pos pins s σ H O I env st) λ us s1 hq_=>?_) hs (by rw[hs2];rfl)))
 obtain⟨vs,H1,I1,r1,O1,dd,S1,⟨ds,es,ed,w⟩,st1,ok1,rep⟩:=hq_
 subst ed
 cases rep with
 | cons ra rb=>
   cases rb with
   | cons rb rc=>
     cases rc
     obtain⟨u,u2,rfl,ru,ru2⟩:=vals2 r1
     cases ra with
     | @tup a xs _ h1 q1=>
       cases rb with
       | @tup b ys _ h2 q2=>
         cases ru
         cases ru2
         obtain⟨its,rv,pl,hz⟩:=I1.tuple h1.sq
         obtain⟨its2,rv2,pl2,hz2⟩:=I1.tuple h2.sq
         obtain⟨z4,p1,p2,p3,p4,p5,kp⟩:=zip_parts s1.heap "tuple_iterator" "tuple_iterator" a b
         refine callType_new F.called_zip %[|2] (F.typeCall_zip_2 _ _) (F.newCall_zip_2 _ _) (λ obj=>F.args_object_init_3 obj _ _) F.entry_zip_new (Jk a b its.toArray its2.toArray) ⟨pl,pl2,?_⟩
         show _/\_
         rw[z4]
         refine⟨⟨_,p1,rfl⟩,Uw (Mu X.prog X.w X.K) (Mu X.prog X.w X.K) I1 ⟨_,p4,rfl,rfl⟩ ⟨_,p5,rfl,rfl⟩ ⟨O1,_,S1,w,st1,ok1,GD _ _ λ O' H' cv=>⟨xs,ys,(h1.conv cv).sq,q1.conv cv,(h2.conv cv).sq,q2.conv cv⟩⟩⟩
end
section
variable {X : Cx} {Γ : Gam} {S : Store} {e : Expr}
theorem XD{W:Option Int->%[|5]}(h:Ev X Γ S e λ d S1=>∃i,d=.int i/\W (some i) S1):PoD X Γ S (some e) W:=h
theorem Xe{W:Option Int->%[|5]}(h:W none S):PoD X Γ S none W:=h
end
theorem aV{α:Type}{xs:List α}{i:Nat}{x:α}(h:xs[i]? =some x):xs.take (i+1)=xs.take i++[x]:=by rw[List.take_add_one,h];rfl
theorem qY(d:D)(ds:List D):cutD (d::ds) (some 1) none=ds:=by
 unfold cutD
 have h1:HT.sIx (d::ds).length 0 (some 1)=1:=by
  have:=HT.sIx_nat (d::ds).length 0 1
  simp only[List.length_cons]at this ⊢
  have h2:((1:Nat):Int)=1:=rfl
  rw[h2]at this
  rw[this];omega
 rw[h1,HT.sIx_none]
 simp
theorem Gu(ds:List D)(lo hi:Option Int):(cutD ds lo hi).length≤ds.length:=by
 unfold cutD
 rw[List.length_take,List.length_drop];omega
theorem gf{ds:List D}{k:Int}(h:0≤k):cutD ds none (some k)=ds.take k.toNat:=by
 unfold cutD
 rw[HT.sIx_none]
 have e:HT.sIx ds.length ds.length (some k)=min k.toNat ds.length:=by
  have:=HT.sIx_nat ds.length ds.length k.toNat
  rwa[Int.toNat_of_nonneg h]at this
 rw[e,List.drop_zero,Nat.sub_zero]
 rcases Nat.le_total k.toNat ds.length with q | q
 . rw[Nat.min_eq_left q]
 . rw[Nat.min_eq_right q,List.take_of_length_le (x6 _),List.take_of_length_le q]
theorem lN{ds:List D}{k:Int}(h:0≤k):cutD ds (some k) none=ds.drop k.toNat:=by
 unfold cutD
 rw[HT.sIx_none]
 have e:HT.sIx ds.length 0 (some k)=min k.toNat ds.length:=by
  have:=HT.sIx_nat ds.length 0 k.toNat
  rwa[Int.toNat_of_nonneg h]at this
 rw[e]
 rcases Nat.le_total k.toNat ds.length with q | q
 . rw[Nat.min_eq_left q,List.take_of_length_le (by rw[List.length_drop];omega)]
 . rw[Nat.min_eq_right q,List.drop_eq_nil_of_le (x6 _),List.drop_eq_nil_of_le q];simp
theorem gY{α:Type}{ds:List α}{v:Int}(h0:0≤v)(h1:v<ds.length):∃x,atI ds v=some x/\ds[v.toNat]? =some x:=by
 have hk:v.toNat<ds.length:=%[|0]
 refine⟨ds[v.toNat],?_,y4 hk⟩
 have q:=dm (xs:=ds) (j:=v.toNat) (y4 hk)
 rwa[Int.toNat_of_nonneg h0]at q
theorem lG{α:Type}(x:α)(xs:List α):atI (x::xs) 0=some x:=dm (xs:=x::xs) (j:=0) rfl
theorem set_get{S:Store}{k:Nat}{l l':List D}(h:S[k]? =some l):(S.set k l')[k]? =some l':=List.getElem?_set_self (y3.mp h).1
end DL
namespace RF
open PySem PySem.Spec L2 DL
open PyProof.Rows
open Builtin
theorem qQ:fillsNumberSlot (.type "tuple") "mul"=pure false:=
 PySem.fillsNumberSlot_seq (id:="tuple.__mul__") (r:=some (.builtin "tuple.__rmul__")) F.slot_tuple_mul.lookup %[|14] F.slot_tuple_rmul.lookup %[|14]
theorem Br:seqRepeat? (.type "tuple")=pure (some (.builtin "tuple.__mul__")):=by
 unfold seqRepeat?
 rw[PySem.seqSlot_of (T:="tuple") (name:="__mul__") (id:="tuple.__mul__") F.slot_tuple_mul.lookup %[|14],PySem.seqSlot_of (T:="tuple") (name:="__rmul__") (id:="tuple.__rmul__") F.slot_tuple_rmul.lookup %[|14]]
 rfl
theorem uY(a:Int)(t:Tok)(l:Addr)(items:Array Value)(n:Nat)(dct:Option Addr)(sl:Array %[|27]):
 Meets (Builtin.«int.__rmul__» ⟨[.int a t,.ref l],[]⟩) (λ _ R s=>s.heap.get? l=some {cls:=.type "tuple",dict:=dct,data:=.seq items n,slots:=sl}/\R (.ok (.ret Value.notImplemented)) s):=
 .of_wp λ prog w A R s h=>by obtain⟨hp,g,d,tk,os⟩:=s;obtain⟨hl,h⟩:=h;wp_walk;exact⟨_,rfl,h⟩
theorem uT(l:Addr)(items:Array Value)(n:Nat)(dct:Option Addr)(sl:Array %[|27])(x:Int)(u:Tok)(h1:¬(decide (x< -(2 ^ 63))||decide (x≥2 ^ 63))=true)(hc:(items.isEmpty||x==1)=true):
 Meets (Builtin.«tuple.__mul__» ⟨[.ref l,.int x u],[]⟩) (λ _ R s=>s.heap.get? l=some {cls:=.type "tuple",dict:=dct,data:=.seq items n,slots:=sl}/\R (.ok (.ret (.ref l))) s):=
 .of_wp λ prog w A R s h=>by
  obtain⟨hp,g,d,tk,os⟩:=s;obtain⟨hl,h⟩:=h
  unfold Builtin.«tuple.__mul__»
  wp_walk
  rw[if_neg h1]
  wp_walk using AutoSeq1.wpAny_loadPart' hl
  try rw[if_pos hc]
  wp_walk using AutoSeq1.wpAny_loadPart' hl
  exact⟨_,rfl,h⟩
theorem uX(l:Addr)(items:Array Value)(n:Nat)(dct:Option Addr)(sl:Array %[|27])(x:Int)(u:Tok)(h1:¬(decide (x< -(2 ^ 63))||decide (x≥2 ^ 63))=true)(hc:¬(items.isEmpty||x==1)=true)(h2:(decide (x≤0)||items.isEmpty)=true):
 Meets (Builtin.«tuple.__mul__» ⟨[.ref l,.int x u],[]⟩) (λ _ R s=>s.heap.get? l=some {cls:=.type "tuple",dict:=dct,data:=.seq items n,slots:=sl}/\R (.ok (.ret %[|21])) {s with heap:=s.heap.push {cls:=.type "tuple",data:=.seq #[]}}):=
 .of_wp λ prog w A R s h=>by
  obtain⟨hp,g,d,tk,os⟩:=s;obtain⟨hl,h⟩:=h
  unfold Builtin.«tuple.__mul__»
  wp_walk
  rw[if_neg h1]
  wp_walk using AutoSeq1.wpAny_loadPart' hl
  try rw[if_neg hc]
  wp_walk using AutoSeq1.wpAny_loadPart' hl
  try rw[if_pos h2]
  wp_walk using AutoSeq1.wpAny_loadPart' hl
  exact⟨_,rfl,h⟩
theorem uO(l:Addr)(items:Array Value)(n:Nat)(dct:Option Addr)(sl:Array %[|27])(x:Int)(u:Tok)(h1:¬(decide (x< -(2 ^ 63))||decide (x≥2 ^ 63))=true)(hc:¬(items.isEmpty||x==1)=true)(h2:¬(decide (x≤0)||items.isEmpty)=true)
 (h3:¬((items.size:Int)*x>(2 ^ 63-1)/8))(h4:¬Builtin.Tuple.tupleTooMany ((items.size:Int)*x)=true)(h5:((List.replicate x.toNat items).foldl (· ++·) #[]).size≤sizeLine):
 Meets (Builtin.«tuple.__mul__» ⟨[.ref l,.int x u],[]⟩) (λ _ R s=>s.heap.get? l=some {cls:=.type "tuple",dict:=dct,data:=.seq items n,slots:=sl}/\R (.ok (.ret %[|21])) {s with heap:=s.heap.push {cls:=.type "tuple",data:=.seq ((List.replicate x.toNat items).foldl (· ++·) #[])}}):=
 .of_wp λ prog w A R s h=>by
  obtain⟨hp,g,d,tk,os⟩:=s;obtain⟨hl,h⟩:=h
  unfold Builtin.«tuple.__mul__»
  wp_walk
  rw[if_neg h1]
  wp_walk using AutoSeq1.wpAny_loadPart' hl
  try rw[if_neg hc]
  wp_walk using AutoSeq1.wpAny_loadPart' hl
  try rw[if_neg h2]
  wp_walk using AutoSeq1.wpAny_loadPart' hl
  try rw[if_neg h3]
  wp_walk using AutoSeq1.wpAny_loadPart' hl
  try rw[if_neg h4]
  wp_walk using AutoSeq1.wpAny_loadPart' hl
  exact⟨_,rfl,h⟩
theorem Reps.rep{K:PySem.W.Frag}{O:Own}{H:Hp}{vs:List V}{ds:List D}(r:Reps K O H vs ds):∀k:Nat,Reps K O H (List.replicate k vs).flatten (List.replicate k ds).flatten
 | 0=>.nil
 | k+1=>by
   rw[List.replicate_succ,List.replicate_succ,List.flatten_cons,List.flatten_cons]
   exact r.append (Reps.rep r k)
theorem UJ{X:Cx}{S:Store}{W:WD}{ds:List D}{k:Int}(hk: -(2 ^ 63)≤k/\k<2 ^ 63)(hz:ds.length*k.toNat≤1000000)(w:W (.tup (List.replicate k.toNat ds).flatten) S):dJ X .Mult (.tup ds) (.int k) S W:=by
 intro pins s σ H O v w' u u' I st r1 r2 r3 r4
 cases r1 with
 | @tup a xs _ h1 q1=>
   cases r2
   cases r3
   obtain⟨t,rfl⟩:=r4
   obtain⟨its,v1,p1,_⟩:=I.tuple h1.sq
   obtain⟨⟨cls,dd,data,sl⟩,ho,hc,n,hd⟩:=id p1
   simp only at hc hd
   subst hc hd
   have l1:its.length=ds.length:=by rw[←v1.length,q1.length]
   have c1:¬(decide (k< -(2 ^ 63))||decide (k≥2 ^ 63))=true:=by
    rw[ZH %[|0],ZH %[|0]];decide
   have new:∀m:Nat,m=k.toNat->EP X pins σ (QG X.K O H W) %[|21] {s with heap:=s.heap.push {cls:=.type "tuple",data:=.seq (List.replicate m its).flatten.toArray}}:=by
    rintro m rfl
    refine⟨%[|21],upd H s.heap.objs.size (.tup (List.replicate k.toNat xs).flatten),I.laid (t':=s.toks) (λ b u e=>ZC _ e) (x6 _) ?_,rfl,j5 w st I.fresh (Reps.rep q1 _)⟩
    exact⟨by rw[len_rep,q1.length,Nat.mul_comm];exact small hz,_,v1.rep _,⟨_,%[|19],rfl,_,rfl⟩⟩
   refine PySem.wpAny_binaryOp_repeat_ref (T:="tuple") (U:="int") %[|2] ⟨_,ho,rfl⟩ (λ s'=>typeIs_int s' k t) qQ F.fills_int_mul F.slot_int_rmul Br F.slot_int_index.lookup
    (call_meets F.slot_int_rmul (typeIs_int s k t) F.entry_int_rmul (F.args_int_rmul_2 _ _) (uY k t a its.toArray n dd sl) ⟨ho,rfl,⟨_,ho,rfl⟩,?_⟩)
   by_cases b1:(its.toArray.isEmpty||k==1)=true
   . refine call_meets F.slot_tuple_mul ⟨_,ho,rfl⟩ F.entry_tuple_mul (F.args_tuple_mul_2 _ _) (uT a its.toArray n dd sl k t c1 b1) ⟨ho,.ref a,H,I,rfl,?_⟩
     have e:(List.replicate k.toNat ds).flatten=ds:=by
      rw[Bool.or_eq_true]at b1
      rcases b1 with z | z
      . have:its=[]:=by simpa using z
        have:ds=[]:=by rw[this]at l1;simpa using l1.symm
        subst this
        simp
      . have:k=1:=ZI z
        subst this
        simp
     rw[e]at w
     exact QG.here w st (.tup h1 q1)
   . by_cases b2:(decide (k≤0)||its.toArray.isEmpty)=true
     . refine call_meets F.slot_tuple_mul ⟨_,ho,rfl⟩ F.entry_tuple_mul (F.args_tuple_mul_2 _ _) (uX a its.toArray n dd sl k t c1 b1 b2) ⟨ho,?_⟩
       have h0:k.toNat=0:=by
        rw[Bool.or_eq_true]at b2
        rcases b2 with z | z
        . have:=ZF z;omega
        . exact absurd (by rw[z];rfl) b1
       have:=new 0 h0.symm
       exact this
     . have h0:0<k:=by
        cases z:decide (k≤0)with
        | true=>exact absurd (by rw[z];rfl) b2
        | false=>have:=of_decide_eq_false z;omega
       have ek:(its.toArray.size:Int)*k=((its.length*k.toNat:Nat):Int):=by
        rw[x9,Int.natCast_mul,Int.toNat_of_nonneg %[|0]]
       have fz:List.foldl (λ x1 x2=>x1++x2) #[] (List.replicate k.toNat its.toArray)=(List.replicate k.toNat its).flatten.toArray:=by
        have:=foldl_rep its k.toNat []
        rw[List.nil_append]at this
        exact this
       have big:its.length*k.toNat≤1000000:=by rw[l1];exact hz
       refine call_meets F.slot_tuple_mul ⟨_,ho,rfl⟩ F.entry_tuple_mul (F.args_tuple_mul_2 _ _) (uO a its.toArray n dd sl k t c1 b1 b2 (by rw[ek];omega) ?_ ?_) ⟨ho,?_⟩
       . rw[ek]
         have:(1000000:Nat)≤sizeLine:=%[|2]
         unfold Builtin.Tuple.tupleTooMany
         rw[decide_eq_true_eq]
         omega
       . rw[fz,x9,len_rep,Nat.mul_comm];exact small big
       . rw[fz]
         exact new _ rfl
variable {W : WD}
set_option genInjectivity false in
structure Wd where
 P:Program
 w:World
 K:PySem.W.Frag
 mg:%[|15]
 base:Heap
 cd:Option (Value×Str):=none
abbrev Nm:=List (Str×NameKind)
structure At(Ω:Wd)(X:Cx)(r:Nat)(top:Bool)(N:%[|1])(nm:Nm):Prop where
 p:X.prog=Ω.P
 w:X.w=Ω.w
 k:X.K=Ω.K
 g:X.mg=Ω.mg
 b:X.base=Ω.base
 room:Room r X.A
 xe:X.xe=λ _ _=>False
 calm:X.calm=true
 n:X.N=N
 nd:N.Nodup
 kind:X.env.scope.kind=.function
 look:∀x k,nm.lookup x=some k->X.env.kindOf x=some k∨(k=.free/\X.env.kindOf x=some .cell)
 fn:∀x,nm.lookup x=some .cell->X.fn x=true
 cd:top=true->∀p,Ω.cd=some p->X.env.code=p.1/\X.env.qual=p.2
def vis(nm:Nm)(x:Str):Bool:=match nm.lookup x with | some .local=>true | some .cell=>true | some .free=>true | _=>false
def lcl(top:Bool)(nm:Nm)(x:Str):Bool:=match nm.lookup x with | some .local=>true | some .cell=>true | _=>false
def glb(nm:Nm)(x:Str):Bool:=nm.lookup x==some .globalImplicit
def okN(x:Str):Bool:=!(x==("__debug__":Str))&&(!(x==("__classdict__":Str))&& !(x==("__name__":Str)))
def okE:Expr->Bool
 | .Starred .. =>false | .Set .. =>false | .Slice .. =>false | _=>true
def noC:Expr->Bool
 | .ListComp .. =>false | .SetComp .. =>false | .DictComp .. =>false | _=>true
def Mp:Expr->Bool
 | .UnaryOp .. =>false | .BoolOp .. =>false | .IfExp .. =>false | .Compare .. =>false | _=>true
theorem az{a b:Bool}(h:(a&&b)=true):a=true/\b=true:=by cases a<;>cases b<;>first | exact⟨rfl,rfl⟩ | exact(y7 h).elim
theorem bV{a b c:Bool}(h:(a&&(b&&c))=true):a=true/\b=true/\c=true:=⟨(az h).1,az (az h).2⟩
theorem cA{a b c d:Bool}(h:(a&&(b&&(c&&d)))=true):a=true/\b=true/\c=true/\d=true:=⟨(az h).1,bV (az h).2⟩
theorem Hm{a b c d e:Bool}(h:(a&&(b&&(c&&(d&&e))))=true):a=true/\b=true/\c=true/\d=true/\e=true:=⟨(az h).1,cA (az h).2⟩
theorem iM{a b c d e f:Bool}(h:(a&&(b&&(c&&(d&&(e&&f)))))=true):a=true/\b=true/\c=true/\d=true/\e=true/\f=true:=⟨(az h).1,Hm (az h).2⟩
theorem oZ{a b c d e f g:Bool}(h:(a&&(b&&(c&&(d&&(e&&(f&&g))))))=true):a=true/\b=true/\c=true/\d=true/\e=true/\f=true/\g=true:=⟨(az h).1,iM (az h).2⟩
theorem nt{a:Bool}(h:(!a)=true):a=false:=by cases a<;>first | rfl | exact(y7 h).elim
theorem bZ{x:Str}(h:okN x=true):(x==("__debug__":Str))=false/\(x==("__classdict__":Str))=false/\x≠"__name__":=by
 obtain⟨h1,h2,h3⟩:=bV h
 exact⟨nt h1,nt h2,λ e=>by rw[e]at h3;simp at h3⟩
section
variable {Ω : Wd} {X : Cx} {r : Nat} {top : Bool} {N : %[|1]} {nm : Nm} {x : Str}
theorem At.vis(A:At Ω X r top N nm)(h:RF.vis nm x=true):Vis X.env.scope x:=by
 unfold RF.vis at h
 cases e:nm.lookup x with
 | none=>rw[e]at h;cases h
 | some k=>
   rw[e]at h
   have q:=A.look x k e
   cases k with
   | «local»=>rcases q with q | ⟨q,_⟩;exact .inl q;exact nomatch q
   | cell=>rcases q with q | ⟨q,_⟩;exact .inr (.inl q);exact nomatch q
   | free=>rcases q with q | ⟨_,q⟩;exact .inr (.inr q);exact .inr (.inl q)
   | _=>exact(y7 h).elim
theorem At.lcl(A:At Ω X r top N nm)(h:RF.lcl top nm x=true):Loc X.env.scope x/\(X.fn x=true∨X.env.scope.names.lookup x=some .local):=by
 unfold RF.lcl at h
 cases e:nm.lookup x with
 | none=>rw[e]at h;cases h
 | some k=>
   rw[e]at h
   have q:=A.look x k e
   cases k with
   | «local»=>rcases q with q | ⟨q,_⟩;exact⟨.inl q,.inr q⟩;exact nomatch q
   | cell=>rcases q with q | ⟨q,_⟩;exact⟨.inr q,.inl (A.fn x e)⟩;exact nomatch q
   | _=>exact(y7 h).elim
theorem At.glb(A:At Ω X r top N nm)(h:RF.glb nm x=true):Gl X x:=by
 have e:nm.lookup x=some .globalImplicit:=ZI h
 rcases A.look x _ e with q | ⟨q,_⟩
 . exact q
 . exact nomatch q
end
theorem aF{e:Expr}(h:okE e=true)(es:List Expr)(env:Env):starEach (e::es) env=(false,eval e env)::starEach es env:=by
 cases e<;>first | rfl | exact(y7 h).elim
theorem oH:∀{es:List Expr}(_:es.all okE=true)(pos:Pos)(env:Env),(backTo pos (starEach es env)).any (·.1)=false
 | [],_,_,_=>rfl
 | e::es,h,pos,env=>by
   rw[List.all_cons]at h
   obtain⟨h1,h2⟩:=az h
   rw[aF h1]
   show(false||(backTo pos (starEach es env)).any (·.1))=false
   rw[oH h2];rfl
theorem iy{op:CmpOp}{e:Expr}(h:okE e=true):behindInMarks op e=false:=by
 cases e<;>first | rfl | exact(y7 h).elim
theorem Ay{e:Expr}(h:okE e=true):vp e:=by
 intro _ _
 cases e<;>first | rfl | exact(y7 h).elim
theorem pB{e:Expr}(h:okE e=true)(env:Env):∀x,foldedSetIterable e env x=pure x:=by
 intro x
 cases e<;>first | rfl | exact(y7 h).elim
theorem lq{e:Expr}(h:noC e=true)(t:Option Expr)(l:Nat)(env:Env):swapsWith e t l env=pure false:=by
 cases e<;>first | rfl | exact(y7 h).elim
theorem KZ{e:Expr}(h:Mp e=true)(env:Env):∀whole,isTrue e env whole=(do let v ←whole;standAt e.pos;holding [v] (truthy v)):=by
 intro w
 cases e<;>first | rfl | exact(y7 h).elim
section
variable {X : Cx} {Γ : Gam} {S : Store} {e : Expr} {es : List Expr}
theorem EvA.mono{W W':List D->%[|5]}(h:EvA X Γ S es W)(k:∀ds S',W ds S'->W' ds S'):EvA X Γ S es W':=λ pos pins s σ H O I env st=>
 thn (h pos pins s σ H O I env st) λ _ _ hq_=>by obtain⟨v,H',I',r,O',d,S',w,q⟩:=hq_;exact⟨v,H',I',r,O',d,S',k d S' w,q⟩
theorem Ts.mono{W W':Bool->%[|5]}(h:Ts X Γ S e W)(k:∀c S',W c S'->W' c S'):Ts X Γ S e W':=λ pins s σ H O I env st=>
 thn %[|16] λ _ _ hq_=>by obtain⟨H',I',O',S',w,q⟩:=hq_;exact⟨H',I',O',S',k _ S' w,q⟩
theorem BdW.mono{d:D}{W W':Gam->%[|5]}(h:BdW X e d Γ S W)(k:∀G S',W G S'->W' G S'):BdW X e d Γ S W':=λ pins s σ H O v u I env st r ru=>
 thn (h pins s σ H O v u I env st r ru) λ _ _ q=>by
  obtain⟨σ',H',I',O',G,S',w,q⟩:=q
  exact⟨σ',H',I',O',G,S',k G S' w,q⟩
theorem ItW.mono{tg:Expr}{W W':List D->%[|5]}(h:ItW X Γ S tg e W)(k:∀ds S',W ds S'->W' ds S'):ItW X Γ S tg e W':=λ pins s σ H O I env st=>
 thn %[|16] λ _ _ q=>thn q λ _ _ q=>by
  obtain⟨it,fp,tn,J,H',e1,e2,e3,e4,e5,O',ds,S',w,z⟩:=q
  exact⟨it,fp,tn,J,H',e1,e2,e3,e4,e5,O',ds,S',k ds S' w,z⟩
theorem Tc{pins:Pins}{O:Own}{H:Hp}{W W':DL.Fin}(h1:∀G S,W.nx G S->W'.nx G S)(h2:∀d S,W.rt d S->W'.rt d S)(h3:∀G S,W.bk G S->W'.bk G S)(h4:∀G S,W.ct G S->W'.ct G S){f:Flow}{s':Shared}(q:SP X pins (ends X.K O H W) f s'):SP X pins (ends X.K O H W') f s':=by
 cases f with
 | next=>obtain⟨σ,H',I,O',G,S',w,q⟩:=q;exact⟨σ,H',I,O',G,S',h1 _ _ w,q⟩
 | brk=>obtain⟨σ,H',I,O',G,S',w,q⟩:=q;exact⟨σ,H',I,O',G,S',h3 _ _ w,q⟩
 | cont=>obtain⟨σ,H',I,O',G,S',w,q⟩:=q;exact⟨σ,H',I,O',G,S',h4 _ _ w,q⟩
 | ret u=>obtain⟨v,σ,H',I,r,O',d,S',w,q⟩:=q;exact⟨v,σ,H',I,r,O',d,S',h2 _ _ w,q⟩
theorem Rn.mono{st:Stmt}{W W':DL.Fin}(h:Rn X Γ S st W)(h1:∀G S,W.nx G S->W'.nx G S)(h2:∀d S,W.rt d S->W'.rt d S)(h3:∀G S,W.bk G S->W'.bk G S)(h4:∀G S,W.ct G S->W'.ct G S):Rn X Γ S st W':=λ pins s σ H O I env ok=>
 thn (h pins s σ H O I env ok) λ _ _ q=>Tc h1 h2 h3 h4 q
theorem IV{a b c:Expr}{op op':CmpOp}{pos:Pos}{W:Bool->%[|5]}(h:Ev X Γ S a λ x S1=>Ev X Γ S1 b λ y S2=>bC X op x y S2 (asB λ k S3=>(k=false->W false S3)/\(k=true->Ev X Γ S3 c λ t S4=>bC X op' y t S4 (asB W))))
 (hm:lastMarks [op,op'] [b,c]=false):Ts X Γ S (.Compare a [op,op'] [b,c] pos) W:=by
 sleep 0
 refine isTrue_chain (rs:=[]) (thn %[|16] λ u s1 hq_=>?_) hm
 obtain⟨v,H1,I1,r1,O1,x,S1,hb,st1,ok1,rep1⟩:=hq_
 refine test_link (thn (hb pins s1 σ H1 O1 I1 (env.mono st1) ok1) λ u' s2 hq_=>?_)
 obtain⟨w,H2,I2,r2,O2,y,S2,hw,st2,ok2,rep2⟩:=hq_
 refine thn (hw pins s2 σ H2 O2 v w u u' I2 ok2 (rep1.mono st2) rep2 r1 r2) λ _ s3 hq_=>?_
 obtain⟨z,H3,I3,r3,O3,d3,S3,⟨k,hd,k1,k2⟩,st3,ok3,rep3⟩:=hq_
 subst hd
 cases rep3
 cases r3
 refine wpAny_truthy_bool ?_
 cases k with
 | false=>exact ite_ff ⟨H3,I3,O3,S3,k1 rfl,(st1.trans st2).trans st3,ok3⟩
 | true=>
   refine ite_tt (test_last (thn (k2 rfl pins s3 σ H3 O3 I3 (((env.mono st1).mono st2).mono st3) ok3) λ u4 s4 hq_=>?_))
   obtain⟨w4,H4,I4,r4,O4,t,S4,h4,st4,ok4,rep4⟩:=hq_
   refine thn (h4 pins s4 σ H4 O4 w w4 u' u4 I4 ok4 ((rep2.mono st3).mono st4) rep4 r2 r4) λ _ s5 hq_=>?_
   obtain⟨z5,H5,I5,r5,O5,d5,S5,⟨k,hd,w5⟩,st5,ok5,rep5⟩:=hq_
   subst hd
   cases rep5
   cases r5
   exact wpAny_truthy_bool ⟨H5,I5,O5,S5,w5,(((st1.trans st2).trans st3).trans st4).trans st5,ok5⟩
end
def bII(x y:D)(k:Int->Int->Prop):Prop:=match x with
 | .int i=>(match y with
   | .int j=>k i j
   | _=>False)
 | _=>False
theorem eO{x y:D}{k:Int->Int->Prop}(h:bII x y k):∃i j,x=.int i/\y=.int j/\k i j:=by
 cases x<;>first | exact h.elim | (cases y<;>first | exact h.elim | exact⟨_,_,rfl,rfl,h⟩)
def bTu(x:D)(k:List D->Prop):Prop:=match x with
 | .tup a=>k a
 | _=>False
theorem vf{x:D}{k:List D->Prop}(h:bTu x k):∃a,x=.tup a/\k a:=by cases x<;>first | exact h.elim | exact⟨_,rfl,h⟩
def bLs(x:D)(k:List D->Prop):Prop:=match x with
 | .lst a=>k a
 | _=>False
theorem Fb{x:D}{k:List D->Prop}(h:bLs x k):∃a,x=.lst a/\k a:=by cases x<;>first | exact h.elim | exact⟨_,rfl,h⟩
def bIn(x:D)(k:Int->Prop):Prop:=match x with
 | .int a=>k a
 | _=>False
theorem Rb{x:D}{k:Int->Prop}(h:bIn x k):∃a,x=.int a/\k a:=by cases x<;>first | exact h.elim | exact⟨_,rfl,h⟩
def NZ(x:D)(a b c:Prop):Prop:=match x with
 | .int _=>a
 | .tup _=>b
 | _=>c
theorem zx{x:D}{a b c:Prop}(h:NZ x a b c):a∨b∨c:=by cases x<;>first | exact .inl h | exact .inr (.inl h) | exact .inr (.inr h)
def Qf(op:Operator)(x y:D)(S:Store)(W:WD):Prop:=match op with
 | .Add=>NZ x (bII x y λ i j=>W (.int (i+j)) S) (bTu x λ a=>bTu y λ b=>a.length+b.length≤1000000/\W (.tup (a++b)) S) (bLs x λ a=>bLs y λ b=>a.length+b.length≤1000000/\W (.lst (a++b)) S)
 | .Sub=>bII x y λ i j=>W (.int (i-j)) S
 | .Mult=>NZ x (bII x y λ i j=>CMul i j/\W (.int (i*j)) S) (bTu x λ a=>bIn y λ n=>(-(2 ^ 63)≤n/\n<2 ^ 63)/\a.length*n.toNat≤1000000/\W (.tup (List.replicate n.toNat a).flatten) S) False
 | .Mod=>bII x y λ i j=>0<j/\W (.int (i % j)) S
 | .FloorDiv=>bII x y λ i j=>(0<j/\j<1073741824)/\W (.int (i/j)) S
 | .Pow=>bII x y λ i j=>CPow i j/\W (.int (i ^ j.toNat)) S
 | _=>False
theorem Mw{X:Cx}{op:Operator}{x y:D}{S:Store}(h:Qf op x y S W):dJ X op x y S W:=by
 cases op<;>first | exact(show False from h).elim | skip
 . rcases zx h with h | h | h
   . obtain⟨i,j,rfl,rfl,h⟩:=eO h;exact Wt h
   . obtain⟨a,rfl,h1⟩:=vf h;obtain⟨b,rfl,h2⟩:=vf h1;exact TJ h2.1 h2.2
   . obtain⟨a,rfl,h1⟩:=Fb h;obtain⟨b,rfl,h2⟩:=Fb h1;exact Vo h2.1 h2.2
 . obtain⟨i,j,rfl,rfl,h⟩:=eO h;exact Xd h
 . rcases zx h with h | h | h
   . obtain⟨i,j,rfl,rfl,h⟩:=eO h;exact Wu h.1 h.2
   . obtain⟨a,rfl,h1⟩:=vf h;obtain⟨b,rfl,h2⟩:=Rb h1;exact UJ h2.1 h2.2.1 h2.2.2
   . exact h.elim
 all_goals obtain⟨i,j,rfl,rfl,h⟩:=eO h
 all_goals first | exact Wq h.1 h.2 | exact Ul h.1 h.2 | exact WY h.1 h.2
def MT(x y:D)(S:Store)(W:WD):Prop:=match x,y with
 | .tup ds,.int i=>∃d,atI ds i=some d/\W d S
 | .lst ds,.int i=>∃d,atI ds i=some d/\W d S
 | .loc k,.int i=>∃ds d,S[k]? =some ds/\atI ds i=some d/\W d S
 | _,_=>False
theorem Sg{X:Cx}{a b:Expr}{x y:D}{S:Store}(h:MT x y S W):IxW X a b x y S W:=by
 unfold MT at h
 split at h
 . obtain⟨d,h1,h2⟩:=h;exact Wi h1 h2
 . obtain⟨d,h1,h2⟩:=h;exact V9 h1 h2
 . obtain⟨ds,d,h1,h2,h3⟩:=h;exact Wr h1 h2 h3
 . exact h.elim
def NQ(x:D)(l h:Option Int)(S:Store)(W:WD):Prop:=match x with
 | .tup ds=>W (.tup (cutD ds l h)) S
 | .lst ds=>W (.lst (cutD ds l h)) S
 | .loc k=>∃ds,S[k]? =some ds/\W (.lst (cutD ds l h)) S
 | _=>False
theorem V7{X:Cx}{S:Store}{k:Nat}{ds:List D}{lo hi:Option Int}(hk:S[k]? =some ds)(w:W (.lst (cutD ds lo hi)) S):SlW X (.loc k) lo hi S W:=by
 intro pins s σ H O v u vl vu sl I st r1 r3 hs pl pu
 cases r1 with
 | @loc p _ h1=>
   obtain⟨xs,hx,q1⟩:=st.obj k p ds h1 hk
   exact FN pins s σ H _ u vl vu lo hi sl _ I r3 hs pl pu ⟨p,xs,rfl,SqL.of hx,λ p' hp=>iB w st hp (vd q1 lo hi)⟩
theorem R6{X:Cx}{x:D}{l r:Option Int}{S:Store}(h:NQ x l r S W):SlW X x l r S W:=by
 unfold NQ at h
 split at h
 . exact W3 h
 . exact We h
 . obtain⟨ds,h1,h2⟩:=h;exact V7 h1 h2
 . exact h.elim
inductive Ty where
 | int | bool | tuple | list | str
 deriving DecidableEq
def Ty.id:Ty->String
 | .int=>"int" | .bool=>"bool" | .tuple=>"tuple" | .list=>"list" | .str=>"str"
def Ty.nm:Ty->Str
 | .int=>"int" | .bool=>"bool" | .tuple=>"tuple" | .list=>"list" | .str=>"str"
def isD:Ty->D->Bool
 | .int,.int _=>true | .int,.bl _=>true | .bool,.bl _=>true | .tuple,.tup _=>true | .list,.lst _=>true | .list,.loc _=>true | .str,.str _=>true | _,_=>false
theorem Uj(T:Ty)(x:D):isi (tyD x) T.id=isD T x:=by cases T<;>cases x<;>rfl
theorem Ty.isT(T:Ty):DL.isT T.id=true:=by cases T<;>rfl
theorem Ty.boot(T:Ty):bootBuiltins T.nm=some (.type T.id):=by cases T<;>decide+kernel
theorem Ty.ok(T:Ty):(T.nm==("__debug__":Str))=false/\T.nm≠"__name__":=by cases T<;>decide+kernel
end RF
set_option maxHeartbeats 1000000
namespace RF
open PySem PySem.Spec L2 DL
open PyProof.Rows
variable {e : Expr}
def nameV:Expr->Option Str
 | .Name x _=>some x
 | _=>none
theorem cG{x:Str}(h:nameV e=some x):∃p,e=.Name x p:=by
 unfold nameV at h
 split at h
 . cases h;exact⟨_,rfl⟩
 . cases h
def yI:Expr->Option (Expr×List Expr×Bool)
 | .Call f es ks _=>some (f,es,ks.isEmpty)
 | _=>none
theorem JM{f:Expr}{es:List Expr}(h:yI e=some (f,es,true)):∃pos,e=.Call f es [] pos:=by
 unfold yI at h
 split at h
 . rename_i f' es' ks pos
   have h:=Option.some.inj h
   have h1:=congrArg Prod.fst h
   have h2:=congrArg (λ z=>z.2.1) h
   have h3:ks.isEmpty=true:=congrArg (λ z=>z.2.2) h
   have h1:f'=f:=h1
   have h2:es'=es:=h2
   cases ks with
   | nil=>subst h1 h2;exact⟨pos,rfl⟩
   | cons=>cases h3
 . cases h
def anB{α:Type}(o:Option α)(k:α->Bool):Bool:=match o with
 | some a=>k a
 | none=>false
theorem gn{α:Type}{o:Option α}{k:α->Bool}(h:anB o k=true):∃a,o=some a/\k a=true:=by
 cases o with
 | none=>cases h
 | some a=>exact⟨a,rfl,h⟩
def gH(e:Expr)(k:Str->List Expr->Bool):Bool:=anB (yI e) λ z=>z.2.2&&anB (nameV z.1) λ f=>k f z.2.1
theorem cY{k:Str->List Expr->Bool}(h:gH e k=true):∃f p es pos,e=.Call (.Name f p) es [] pos/\k f es=true:=by
 obtain⟨⟨f,es,b⟩,h1,h⟩:=gn h
 obtain⟨hb,h⟩:=az h
 have hb:b=true:=hb
 subst hb
 obtain⟨x,h2,h⟩:=gn h
 obtain⟨pos,rfl⟩:=JM h1
 obtain⟨p,e2⟩:=cG h2
 have e2:f=.Name x p:=e2
 subst e2
 exact⟨x,p,es,pos,rfl,h⟩
def lz{α:Type}(l:List α)(k:α->Bool):Bool:=match l with
 | [a]=>k a
 | _=>false
theorem eF{α:Type}{l:List α}{k:α->Bool}(h:lz l k=true):∃a,l=[a]/\k a=true:=by
 cases l with
 | nil=>cases h
 | cons a l=>cases l with
   | nil=>exact⟨a,rfl,h⟩
   | cons=>cases h
def two2{α:Type}(l:List α)(k:α->α->Bool):Bool:=match l with
 | [a,b]=>k a b
 | _=>false
theorem two2_of{α:Type}{l:List α}{k:α->α->Bool}(h:two2 l k=true):∃a b,l=[a,b]/\k a b=true:=by
 cases l with
 | nil=>cases h
 | cons a l=>cases l with
   | nil=>cases h
   | cons b l=>cases l with
     | nil=>exact⟨a,b,rfl,h⟩
     | cons=>cases h
def HS:Expr->Bool
 | .Tuple .. =>true
 | _=>false
theorem Gw(h:HS e=true):∃es k p,e=.Tuple es k p:=by
 unfold HS at h
 split at h
 . exact⟨_,_,_,rfl⟩
 . cases h
def OJ:Stmt->Option (List Expr×Expr)
 | .Assign ts e _=>some (ts,e)
 | _=>none
theorem QB{st:Stmt}{ts:List Expr}(h:OJ st=some (ts,e)):∃p,st=.Assign ts e p:=by
 unfold OJ at h
 split at h
 . cases h;exact⟨_,rfl⟩
 . cases h
def setB(st:Stmt)(k:Str->Expr->Bool):Bool:=anB (OJ st) λ z=>lz z.1 λ t=>anB (nameV t) λ x=>k x z.2
theorem vg{st:Stmt}{k:Str->Expr->Bool}(h:setB st k=true):∃x q e p,st=.Assign [.Name x q] e p/\k x e=true:=by
 obtain⟨⟨ts,e⟩,h1,h⟩:=gn h
 obtain⟨t,e1,h⟩:=eF h
 obtain⟨x,h2,h⟩:=gn h
 obtain⟨p,rfl⟩:=QB h1
 obtain⟨q,rfl⟩:=cG h2
 have e1:ts=[Expr.Name x q]:=e1
 subst e1
 exact⟨x,q,e,p,rfl,h⟩
end RF
set_option maxHeartbeats 4000000
namespace RF
open PySem PySem.Spec L2 DL
open PyProof.Rows
variable {ds : List D} {S : Store} {x y : D} {W : Bool -> Store -> Prop}
mutual
def eqD:D->D->Bool
 | .non,.non=>true
 | .bl a,.bl b=>a==b
 | .int a,.int b=>a==b
 | .bl a,.int b=>(if a then 1 else 0)==b
 | .int a,.bl b=>a==(if b then 1 else 0)
 | .str a,.str b=>a==b
 | .tup a,.tup b=>cz a b
 | .lst a,.lst b=>cz a b
 | .dic,.dic=>true
 | _,_=>false
def cz:List D->List D->Bool
 | [],[]=>true
 | a::as,b::bs=>eqD a b&&cz as bs
 | _,_=>false
end
mutual
def okD:D->Bool
 | .tup ds=>cX ds
 | .lst ds=>cX ds
 | .loc _=>false
 | .dic=>false
 | .dlo _=>false
 | _=>true
def cX:List D->Bool
 | []=>true
 | d::ds=>okD d&&cX ds
end
mutual
inductive Sn(K:PySem.W.Frag)(H:Hp):V->D->Prop
 | non:Sn K H .non .non
 | bl(b:Bool):Sn K H (.bl b) (.bl b)
 | int(i:Int):Sn K H (.int i) (.int i)
 | str(x:Str):Sn K H (.str x) (.str x)
 | tup{a:Addr}{xs:List V}{ds:List D}(h:SqT K H a xs)(r:Sns K H xs ds):Sn K H (.ref a) (.tup ds)
 | lst{a:Addr}{xs:List V}{ds:List D}(h:SqL K H a xs)(r:Sns K H xs ds):Sn K H (.ref a) (.lst ds)
inductive Sns(K:PySem.W.Frag)(H:Hp):List V->List D->Prop
 | nil:Sns K H [] []
 | cons{v:V}{d:D}{vs:List V}{ds:List D}(r:Sn K H v d)(t:Sns K H vs ds):Sns K H (v::vs) (d::ds)
end
section
variable {K : PySem.W.Frag} {H : Hp} {O : Own}
theorem Sns.length:∀{vs:List V}{ds:List D},Sns K H vs ds->vs.length=ds.length
 | _,_,.nil=>rfl
 | _,_,.cons _ t=>by simp[Sns.length t]
theorem Sns.get:∀{vs:List V}{ds:List D}{i:Nat}{d:D},Sns K H vs ds->ds[i]? =some d->∃v,vs[i]? =some v/\Sn K H v d
 | _,_,_,_,.nil,e=>by simp at e
 | _,_,0,_,.cons r _,e=>by simp at e;subst e;exact⟨_,rfl,r⟩
 | _,_,i+1,d,.cons _ t,e=>by
   obtain⟨v,h1,h2⟩:=Sns.get (i:=i) (d:=d) t (by simpa using e)
   exact⟨v,by simpa using h1,h2⟩
mutual
theorem Ce{v:V}{d:D}(h:okD d=true)(r:Rep K O H v d):Sn K H v d:=by
 cases r with
 | non=>exact .non
 | bl b=>exact .bl b
 | int i=>exact .int i
 | str x=>exact .str x
 | tup h1 r=>exact .tup h1.sq (pJ h r)
 | lst h1 r=>exact .lst h1.sq (pJ h r)
 | loc=>cases h
 | dic=>cases h
 | dlo=>cases h
theorem pJ{vs:List V}{ds:List D}(h:cX ds=true)(r:Reps K O H vs ds):Sns K H vs ds:=by
 cases r with
 | nil=>exact .nil
 | cons r t=>
   obtain⟨h1,h2⟩:=az h
   exact .cons (Ce h1 r) (pJ h2 t)
end
end
section
variable {X : Cx} {pins : Pins} {s : Shared} {σ : DL.St} {H : Hp}
mutual
theorem ur(I:%[|6]){v:V}{x y:D}(a:Sn X.K H v x)(b:Sn X.K H v y):x=y:=by
 cases a with
 | non=>cases b;rfl
 | bl=>cases b;rfl
 | int=>cases b;rfl
 | str=>cases b;rfl
 | tup h r=>
   cases b with
   | tup h' r'=>
     have e:=I.tuple_inj h h'
     subst e
     rw[vH I r r']
   | lst h' r'=>
     exfalso
     obtain⟨its,_,⟨o,h2,h3,_⟩,_⟩:=I.tuple h
     obtain⟨its2,_,pl,_⟩:=I.list h'
     obtain⟨o',h2',h3',_⟩:=pl.isList
     rw[h2]at h2'
     cases h2'
     rw[h3]at h3'
     exact absurd h3' %[|2]
 | lst h r=>
   cases b with
   | lst h' r'=>
     have e:=I.list_inj h h'
     subst e
     rw[vH I r r']
   | tup h' r'=>
     exfalso
     obtain⟨its,_,⟨o,h2,h3,_⟩,_⟩:=I.tuple h'
     obtain⟨its2,_,pl,_⟩:=I.list h
     obtain⟨o',h2',h3',_⟩:=pl.isList
     rw[h2]at h2'
     cases h2'
     rw[h3]at h3'
     exact absurd h3' %[|2]
theorem vH(I:%[|6]){vs:List V}{xs ys:List D}(a:Sns X.K H vs xs)(b:Sns X.K H vs ys):xs=ys:=by
 cases a with
 | nil=>cases b;rfl
 | cons r t=>
   cases b with
   | cons r' t'=>rw[ur I r r',vH I t t']
end
end
theorem eqD_t(a b:List D):eqD (.tup a) (.tup b)=cz a b:=rfl
theorem eqD_i(a b:Int):eqD (.int a) (.int b)=(a==b):=rfl
mutual
theorem qU:∀(x:D),au x=true->eqD x x=true
 | .non,_=>rfl
 | .bl b,_=>beq_self_eq_true b
 | .int i,_=>beq_self_eq_true i
 | .str s,_=>beq_self_eq_true s
 | .tup ds,h=>m6 ds h
 | .lst ds,h=>m6 ds h
 | .loc _,h=>by cases h
 | .dlo _,h=>by cases h
 | .dic,_=>rfl
theorem m6:∀(xs:List D),aa xs=true->cz xs xs=true
 | [],_=>rfl
 | d::ds,h=>by
   obtain⟨h1,h2⟩:=az (show (au d&&aa ds)=true from h)
   show (eqD d d&&cz ds ds)=true
   rw[qU d h1,m6 ds h2]
   rfl
end
abbrev eqJ(ds es:List D)(j:Nat):Bool:=eqD (ds.getD j .non) (es.getD j .non)
theorem Mj(d e:D)(ds es:List D):(eqJ (d::ds) (e::es)) ∘ Nat.succ=eqJ ds es:=by
 funext j;simp[eqJ,List.getD]
theorem lV:∀(ds es:List D),((List.range (min ds.length es.length)).all (eqJ ds es)&&ds.length==es.length)=cz ds es
 | [],[]=>by simp[cz]
 | [],e::es=>by simp[cz]
 | d::ds,[]=>by simp[cz]
 | d::ds,e::es=>by
   have ih:=lV ds es
   have h1:min (d::ds).length (e::es).length=min ds.length es.length+1:=by simp only[List.length_cons];omega
   rw[h1,List.range_succ_eq_map,List.all_cons,List.all_map,Mj]
   have h2:((d::ds).length==(e::es).length)=(ds.length==es.length):=by simp
   have h3:eqJ (d::ds) (e::es) 0=eqD d e:=by simp[eqJ,List.getD]
   rw[h2,h3,Bool.and_assoc,ih]
   simp only[cz]
theorem Ph{es:List D}(h:ds.length=es.length):(List.range ds.length).all (eqJ ds es)=cz ds es:=by
 rw[←lV ds es,←h,Nat.min_self,beq_self_eq_true,Bool.and_true]
theorem R9{es:List D}(h:ds.length≠es.length):cz ds es=false:=by
 rw[←lV ds es]
 have:(ds.length==es.length)=false:=by simpa using h
 rw[this,Bool.and_false]
section
variable {X : Cx}
theorem uI{n:Nat}(ih:∀(x y:D),deep x≤n->∀{pins:Pins}{s:Shared}{σ:DL.St}{H:Hp}{v w:V}{u u':Value}{A:Around},%[|6]->Sn X.K H v x->Sn X.K H w y->RelV v u->RelV w u'->A.units+n<cLine->SeqAt.EqAt A s u u' (eqD x y))
 (x y:D)(hx:deep x≤n+1){pins:Pins}{s:Shared}{σ:DL.St}{H:Hp}{v w:V}{u u':Value}{A:Around}(I:%[|6])(r1:Sn X.K H v x)(r2:Sn X.K H w y)(ru:RelV v u)(ru':RelV w u')(hu:A.units+(n+1)<cLine):
 SeqAt.RcAt A s u u' (eqD x y)/\SeqAt.RcNeAt A s u u' (!eqD x y):=by
 have hu0:A.units<cLine:=%[|0]
 have part:∀{ds es:List D}{xs ys:List V}{its its2:%[|7]},bj ds≤n->Sns X.K H xs ds->Sns X.K H ys es->Vals xs its->Vals ys its2->∀j(h1:j<its.toArray.size)(h2:j<its2.toArray.size),SeqAt.EqAt A.in1 s its.toArray[j] its2.toArray[j] (eqJ ds es j):=by
  intro ds es xs ys its its2 hd q1 q2 v1 v2 j j1 j2
  have l1:its.length=ds.length:=by rw[←v1.length,q1.length]
  have l2:its2.length=es.length:=by rw[←v2.length,q2.length]
  have hj:j<ds.length:=by simpa[l1]using j1
  have hj2:j<es.length:=by simpa[l2]using j2
  obtain⟨z1,a1,b1⟩:=q1.get (y4 hj)
  obtain⟨z2,a2,b2⟩:=q2.get (y4 hj2)
  obtain⟨u1,c1,d1⟩:=v1.get a1
  obtain⟨u2,c2,d2⟩:=v2.get a2
  have e1:its.toArray[j]=u1:=by have:=(y3.mp c1).2;simpa using this
  have e2:its2.toArray[j]=u2:=by have:=(y3.mp c2).2;simpa using this
  rw[e1,e2]
  have e3:eqJ ds es j=eqD ds[j] es[j]:=by simp[eqJ,List.getD,hj,hj2]
  rw[e3]
  have hd':=dZ (y4 hj)
  exact ih ds[j] es[j] %[|0] I b1 b2 d1 d2 (by show A.units+1+n<cLine;omega)
 cases r1 with
 | non=>
   cases ru
   cases r2 with
   | non=>cases ru';exact⟨SeqAt.RcAt.none_none,SeqAt.RcNeAt.none_none⟩
   | bl b=>cases ru';exact⟨SeqAt.RcAt.none_bool b,SeqAt.RcNeAt.none_bool b⟩
   | int i=>obtain⟨t',rfl⟩:=ru';exact⟨SeqAt.RcAt.none_int i t',SeqAt.RcNeAt.none_int i t'⟩
   | str i=>obtain⟨t',rfl⟩:=ru';exact⟨SeqAt.RcAt.none_str i t',SeqAt.RcNeAt.none_str i t'⟩
   | tup h2 q2=>
     cases ru';obtain⟨its2,v2,p2,_⟩:=I.tuple h2
     exact⟨SeqAt.RcAt.none_tuple (show s.heap.IsTuple _ its2.toArray from p2) hu0,SeqAt.RcNeAt.none_tuple (show s.heap.IsTuple _ its2.toArray from p2) hu0⟩
   | lst h2 q2=>
     cases ru';obtain⟨its2,v2,p2,_⟩:=I.list h2
     exact⟨SeqAt.RcAt.none_list p2.isList hu0,SeqAt.RcNeAt.none_list p2.isList hu0⟩
 | bl a=>
   cases ru
   cases r2 with
   | non=>cases ru';exact⟨SeqAt.RcAt.bool_none a,SeqAt.RcNeAt.bool_none a⟩
   | bl b=>cases ru';exact⟨SeqAt.RcAt.bool_bool a b,SeqAt.RcNeAt.bool_bool a b⟩
   | int i=>obtain⟨t',rfl⟩:=ru';exact⟨SeqAt.RcAt.bool_int a i t',SeqAt.RcNeAt.bool_int a i t'⟩
   | str i=>obtain⟨t',rfl⟩:=ru';exact⟨SeqAt.RcAt.bool_str a i t',SeqAt.RcNeAt.bool_str a i t'⟩
   | tup h2 q2=>
     cases ru';obtain⟨its2,v2,p2,_⟩:=I.tuple h2
     exact⟨SeqAt.RcAt.bool_tuple a (show s.heap.IsTuple _ its2.toArray from p2) hu0,SeqAt.RcNeAt.bool_tuple a (show s.heap.IsTuple _ its2.toArray from p2) hu0⟩
   | lst h2 q2=>
     cases ru';obtain⟨its2,v2,p2,_⟩:=I.list h2
     exact⟨SeqAt.RcAt.bool_list a p2.isList hu0,SeqAt.RcNeAt.bool_list a p2.isList hu0⟩
 | int a=>
   obtain⟨t,rfl⟩:=ru
   cases r2 with
   | non=>cases ru';exact⟨SeqAt.RcAt.int_none a t,SeqAt.RcNeAt.int_none a t⟩
   | bl b=>cases ru';exact⟨SeqAt.RcAt.int_bool a t b,SeqAt.RcNeAt.int_bool a t b⟩
   | int i=>obtain⟨t',rfl⟩:=ru';exact⟨SeqAt.RcAt.int_int a t i t',SeqAt.RcNeAt.int_int a t i t'⟩
   | str i=>obtain⟨t',rfl⟩:=ru';exact⟨SeqAt.RcAt.int_str a t i t',SeqAt.RcNeAt.int_str a t i t'⟩
   | tup h2 q2=>
     cases ru';obtain⟨its2,v2,p2,_⟩:=I.tuple h2
     exact⟨SeqAt.RcAt.int_tuple a t (show s.heap.IsTuple _ its2.toArray from p2) hu0,SeqAt.RcNeAt.int_tuple a t (show s.heap.IsTuple _ its2.toArray from p2) hu0⟩
   | lst h2 q2=>
     cases ru';obtain⟨its2,v2,p2,_⟩:=I.list h2
     exact⟨SeqAt.RcAt.int_list a t p2.isList hu0,SeqAt.RcNeAt.int_list a t p2.isList hu0⟩
 | str a=>
   obtain⟨t,rfl⟩:=ru
   cases r2 with
   | non=>cases ru';exact⟨SeqAt.RcAt.str_none a t,SeqAt.RcNeAt.str_none a t⟩
   | bl b=>cases ru';exact⟨SeqAt.RcAt.str_bool a t b,SeqAt.RcNeAt.str_bool a t b⟩
   | int i=>obtain⟨t',rfl⟩:=ru';exact⟨SeqAt.RcAt.str_int a t i t',SeqAt.RcNeAt.str_int a t i t'⟩
   | str i=>obtain⟨t',rfl⟩:=ru';exact⟨SeqAt.RcAt.str_str a t i t',SeqAt.RcNeAt.str_str a t i t'⟩
   | tup h2 q2=>
     cases ru';obtain⟨its2,v2,p2,_⟩:=I.tuple h2
     exact⟨SeqAt.RcAt.str_tuple a t (show s.heap.IsTuple _ its2.toArray from p2) hu0,SeqAt.RcNeAt.str_tuple a t (show s.heap.IsTuple _ its2.toArray from p2) hu0⟩
   | lst h2 q2=>
     cases ru';obtain⟨its2,v2,p2,_⟩:=I.list h2
     exact⟨SeqAt.RcAt.str_list a t p2.isList hu0,SeqAt.RcNeAt.str_list a t p2.isList hu0⟩
 | @tup a xs ds h1 q1=>
   cases ru
   obtain⟨its,v1,p1,_⟩:=I.tuple h1
   have p1:s.heap.IsTuple a its.toArray:=p1
   cases r2 with
   | non=>cases ru';exact⟨SeqAt.RcAt.tuple_none p1 hu0,SeqAt.RcNeAt.tuple_none p1 hu0⟩
   | bl b=>cases ru';exact⟨SeqAt.RcAt.tuple_bool b p1 hu0,SeqAt.RcNeAt.tuple_bool b p1 hu0⟩
   | int i=>obtain⟨t',rfl⟩:=ru';exact⟨SeqAt.RcAt.tuple_int i t' p1 hu0,SeqAt.RcNeAt.tuple_int i t' p1 hu0⟩
   | str i=>obtain⟨t',rfl⟩:=ru';exact⟨SeqAt.RcAt.tuple_str i t' p1 hu0,SeqAt.RcNeAt.tuple_str i t' p1 hu0⟩
   | @tup b ys es h2 q2=>
     cases ru'
     obtain⟨its2,v2,p2,_⟩:=I.tuple h2
     have p2:s.heap.IsTuple b its2.toArray:=p2
     have l1:its.toArray.size=ds.length:=by rw[x9,←v1.length,q1.length]
     have l2:its2.toArray.size=es.length:=by rw[x9,←v2.length,q2.length]
     have hd:bj ds≤n:=by simp[deep]at hx;exact hx
     have a1:=SeqAt.RcAt.tuples (e:=eqJ ds es) p1 p2 hu0 (part hd q1 q2 v1 v2)
     have a2:=SeqAt.RcNeAt.tuples (e:=eqJ ds es) p1 p2 hu0 (part hd q1 q2 v1 v2)
     rw[l1,l2,lV]at a1 a2
     rw[eqD_t]
     exact⟨a1,a2⟩
   | lst h2 q2=>
     cases ru';obtain⟨its2,v2,p2,_⟩:=I.list h2
     exact⟨SeqAt.RcAt.tuple_list p1 p2.isList hu0,SeqAt.RcNeAt.tuple_list p1 p2.isList hu0⟩
 | @lst a xs ds h1 q1=>
   cases ru
   obtain⟨its,v1,p1,_⟩:=I.list h1
   have p1:=p1.isList
   cases r2 with
   | non=>cases ru';exact⟨SeqAt.RcAt.list_none p1 hu0,SeqAt.RcNeAt.list_none p1 hu0⟩
   | bl b=>cases ru';exact⟨SeqAt.RcAt.list_bool b p1 hu0,SeqAt.RcNeAt.list_bool b p1 hu0⟩
   | int i=>obtain⟨t',rfl⟩:=ru';exact⟨SeqAt.RcAt.list_int i t' p1 hu0,SeqAt.RcNeAt.list_int i t' p1 hu0⟩
   | str i=>obtain⟨t',rfl⟩:=ru';exact⟨SeqAt.RcAt.list_str i t' p1 hu0,SeqAt.RcNeAt.list_str i t' p1 hu0⟩
   | tup h2 q2=>
     cases ru';obtain⟨its2,v2,p2,_⟩:=I.tuple h2
     exact⟨SeqAt.RcAt.list_tuple p1 (show s.heap.IsTuple _ its2.toArray from p2) hu0,SeqAt.RcNeAt.list_tuple p1 (show s.heap.IsTuple _ its2.toArray from p2) hu0⟩
   | @lst b ys es h2 q2=>
     cases ru'
     obtain⟨its2,v2,p2,_⟩:=I.list h2
     have p2:=p2.isList
     have l1:its.toArray.size=ds.length:=by rw[x9,←v1.length,q1.length]
     have l2:its2.toArray.size=es.length:=by rw[x9,←v2.length,q2.length]
     have hd:bj ds≤n:=by simp[deep]at hx;exact hx
     rw[show eqD (.lst ds) (.lst es)=cz ds es from rfl]
     by_cases hl:ds.length=es.length
     . have a1:=SeqAt.RcAt.lists (e:=eqJ ds es) p1 p2 (by rw[l1,l2,hl]) hu0 (part hd q1 q2 v1 v2)
       have a2:=SeqAt.RcNeAt.lists (e:=eqJ ds es) p1 p2 (by rw[l1,l2,hl]) hu0 (part hd q1 q2 v1 v2)
       rw[l1,Ph hl]at a1 a2
       exact⟨a1,a2⟩
     . have z:(its.toArray.size !=its2.toArray.size)=true:=by rw[l1,l2];simpa using hl
       rw[R9 hl]
       exact⟨SeqAt.RcAt.lists_lengths p1 p2 z hu0,SeqAt.RcNeAt.lists_lengths p1 p2 z hu0⟩
theorem zE:∀{K:PySem.W.Frag}{H:Hp}{v:V}{x:D},Sn K H v x->au x=true:=by
 intro K H v x h
 refine Sn.rec (motive_1:=λ v x _=>au x=true) (motive_2:=λ vs xs _=>aa xs=true) ?_ ?_ ?_ ?_ ?_ ?_ ?_ ?_ h
 . simp[au]
 . intro b;simp[au]
 . intro b;simp[au]
 . intro b;simp[au]
 . intro a xs ds h r ih;simpa[au]using ih
 . intro a xs ds h r ih;simpa[au]using ih
 . simp[aa]
 . intro v d vs ds r t ih1 ih2;simp[aa,ih1,ih2]
theorem Ox (n:Nat):∀(x y:D),deep x≤n->∀{pins:Pins}{s:Shared}{σ:DL.St}{H:Hp}{v w:V}{u u':Value}{A:Around},%[|6]->Sn X.K H v x->Sn X.K H w y->RelV v u->RelV w u'->A.units+n<cLine->SeqAt.EqAt A s u u' (eqD x y):=by
 induction n with
 | zero=>
   intro x y hx pins s σ H v w u u' A I r1 r2 ru ru' hu
   cases r1 with
   | non=>
     cases ru
     cases r2 with
     | non=>cases ru';exact SeqAt.EqAt.same _
     | bl b=>cases ru';exact SeqAt.EqAt.none_bool b
     | int i=>obtain⟨t',rfl⟩:=ru';exact SeqAt.EqAt.none_int i t'
     | str i=>obtain⟨t',rfl⟩:=ru';exact SeqAt.EqAt.none_str i t'
     | tup h2 q2=>cases ru';obtain⟨its2,v2,p2,_⟩:=I.tuple h2;exact SeqAt.EqAt.none_tuple (show s.heap.IsTuple _ its2.toArray from p2) %[|0]
     | lst h2 q2=>cases ru';obtain⟨its2,v2,p2,_⟩:=I.list h2;exact SeqAt.EqAt.none_list p2.isList %[|0]
   | bl a=>
     cases ru
     cases r2 with
     | non=>cases ru';exact SeqAt.EqAt.bool_none a
     | bl b=>cases ru';exact SeqAt.EqAt.bool_bool a b
     | int i=>obtain⟨t',rfl⟩:=ru';exact SeqAt.EqAt.bool_int a i t'
     | str i=>obtain⟨t',rfl⟩:=ru';exact SeqAt.EqAt.bool_str a i t'
     | tup h2 q2=>cases ru';obtain⟨its2,v2,p2,_⟩:=I.tuple h2;exact SeqAt.EqAt.bool_tuple a (show s.heap.IsTuple _ its2.toArray from p2) %[|0]
     | lst h2 q2=>cases ru';obtain⟨its2,v2,p2,_⟩:=I.list h2;exact SeqAt.EqAt.bool_list a p2.isList %[|0]
   | int a=>
     obtain⟨t,rfl⟩:=ru
     cases r2 with
     | non=>cases ru';exact SeqAt.EqAt.int_none a t
     | bl b=>cases ru';exact SeqAt.EqAt.int_bool a t b
     | int i=>obtain⟨t',rfl⟩:=ru';exact SeqAt.EqAt.int_int a t i t'
     | str i=>obtain⟨t',rfl⟩:=ru';exact SeqAt.EqAt.int_str a t i t'
     | tup h2 q2=>cases ru';obtain⟨its2,v2,p2,_⟩:=I.tuple h2;exact SeqAt.EqAt.int_tuple a t (show s.heap.IsTuple _ its2.toArray from p2) %[|0]
     | lst h2 q2=>cases ru';obtain⟨its2,v2,p2,_⟩:=I.list h2;exact SeqAt.EqAt.int_list a t p2.isList %[|0]
   | str a=>
     obtain⟨t,rfl⟩:=ru
     cases r2 with
     | non=>cases ru';exact SeqAt.EqAt.str_none a t
     | bl b=>cases ru';exact SeqAt.EqAt.str_bool a t b
     | int i=>obtain⟨t',rfl⟩:=ru';exact SeqAt.EqAt.str_int a t i t'
     | str i=>obtain⟨t',rfl⟩:=ru';exact SeqAt.EqAt.str_str a t i t'
     | tup h2 q2=>cases ru';obtain⟨its2,v2,p2,_⟩:=I.tuple h2;exact SeqAt.EqAt.str_tuple a t (show s.heap.IsTuple _ its2.toArray from p2) %[|0]
     | lst h2 q2=>cases ru';obtain⟨its2,v2,p2,_⟩:=I.list h2;exact SeqAt.EqAt.str_list a t p2.isList %[|0]
   | tup _ _=>simp[deep]at hx
   | lst _ _=>simp[deep]at hx
 | succ n ih=>
   intro x y hx pins s σ H v w u u' A I r1 r2 ru ru' hu
   by_cases h0:deep x≤n
   . exact ih x y h0 I r1 r2 ru ru' %[|0]
   . have both:=uI ih x y hx I r1 r2 ru ru' hu
     cases r1 with
     | non=>simp[deep]at h0
     | bl b=>simp[deep]at h0
     | int b=>simp[deep]at h0
     | str b=>simp[deep]at h0
     | @tup a xs ds h1 q1=>
       cases ru
       obtain⟨its,v1,p1,_⟩:=I.tuple h1
       have p1:s.heap.IsTuple a its.toArray:=p1
       cases r2 with
       | non=>cases ru';exact SeqAt.EqAt.tuple_none p1 %[|0]
       | bl b=>cases ru';exact SeqAt.EqAt.tuple_bool b p1 %[|0]
       | int i=>obtain⟨t',rfl⟩:=ru';exact SeqAt.EqAt.tuple_int i t' p1 %[|0]
       | str i=>obtain⟨t',rfl⟩:=ru';exact SeqAt.EqAt.tuple_str i t' p1 %[|0]
       | @tup b ys es h2 q2=>
         cases ru'
         by_cases e:a=b
         . subst e
           have e2:=ur I (.tup h1 q1) (.tup h2 q2)
           rw[←e2,qU _ (zE (.tup h1 q1))]
           exact SeqAt.EqAt.same _
         . exact SeqAt.EqAt.of_refs e both.1
       | @lst b ys es h2 q2=>
         cases ru';obtain⟨its2,v2,p2,_⟩:=I.list h2;exact SeqAt.EqAt.tuple_list p1 p2.isList %[|0]
     | @lst a xs ds h1 q1=>
       cases ru
       obtain⟨its,v1,p1,_⟩:=I.list h1
       have p1:=p1.isList
       cases r2 with
       | non=>cases ru';exact SeqAt.EqAt.list_none p1 %[|0]
       | bl b=>cases ru';exact SeqAt.EqAt.list_bool b p1 %[|0]
       | int i=>obtain⟨t',rfl⟩:=ru';exact SeqAt.EqAt.list_int i t' p1 %[|0]
       | str i=>obtain⟨t',rfl⟩:=ru';exact SeqAt.EqAt.list_str i t' p1 %[|0]
       | tup h2 q2=>cases ru';obtain⟨its2,v2,p2,_⟩:=I.tuple h2;exact SeqAt.EqAt.list_tuple p1 (show s.heap.IsTuple _ its2.toArray from p2) %[|0]
       | @lst b ys es h2 q2=>
         cases ru'
         by_cases e:a=b
         . subst e
           have e2:=ur I (.lst h1 q1) (.lst h2 q2)
           rw[←e2,qU _ (zE (.lst h1 q1))]
           exact SeqAt.EqAt.same _
         . exact SeqAt.EqAt.of_refs e both.1
def vw(S:Store):D->D
 | .loc k=>match S[k]? with | some ds=>.lst ds | none=>.loc k
 | d=>d
def z6(S:Store)(x y:D):Prop:=okD (vw S x)=true/\okD (vw S y)=true/\deep (vw S x)≤50
theorem jj{K:PySem.W.Frag}{O:Own}{H:Hp}{v:V}(st:StOk K O H S)(r:Rep K O H v x)(h:okD (vw S x)=true):Sn K H v (vw S x):=by
 cases r with
 | @loc a k hk=>
   simp only[vw]at h ⊢
   have hl:k<S.length:=by rw[←st.len];exact(y3.mp hk).1
   obtain⟨xs,hx,q⟩:=st.obj k a S[k] hk (y4 hl)
   rw[y4 hl]at h ⊢
   exact .lst (SqL.of hx) (pJ (by simpa[okD]using h) q)
 | non=>exact .non
 | bl b=>exact .bl b
 | int i=>exact .int i
 | str i=>exact .str i
 | tup h1 q1=>exact Ce h (.tup h1 q1)
 | lst h1 q1=>exact Ce h (.lst h1 q1)
 | dic h1 e1=>simp[vw,okD]at h
 | dlo h1 _=>simp[vw,okD]at h
theorem W6(hu:X.A.units+60<cLine)(h:z6 S x y)(w:W (eqD (vw S x) (vw S y)) S):bC X .Eq x y S (asB W):=by
 intro pins s σ H O v w' u u' I st r1 r2 r3 r4
 obtain⟨h1,h2,h3⟩:=h
 have:=(uI (n:=50) (A:=X.A) (Ox 50) (vw S x) (vw S y) %[|0] I (jj st r1 h1) (jj st r2 h2) r3 r4 %[|0]).1
 exact this _ _ _ _ ⟨.bl _,H,I,rfl,QG.here ⟨_,rfl,w⟩ st (.bl _)⟩
theorem WT(hu:X.A.units+60<cLine)(h:z6 S x y)(w:W (!eqD (vw S x) (vw S y)) S):bC X .NotEq x y S (asB W):=by
 intro pins s σ H O v w' u u' I st r1 r2 r3 r4
 obtain⟨h1,h2,h3⟩:=h
 have:=(uI (n:=50) (A:=X.A) (Ox 50) (vw S x) (vw S y) %[|0] I (jj st r1 h1) (jj st r2 h2) r3 r4 %[|0]).2
 exact this _ _ _ _ ⟨.bl _,H,I,rfl,QG.here ⟨_,rfl,w⟩ st (.bl _)⟩
theorem rY:∀{xs:List V}{its:%[|7]}{i:Nat}{v:V},Vals xs its->xs[i]? =some v->∃y,its[i]? =some y/\RelV v y
 | _,_,_,_,.nil,e=>by simp at e
 | _,_,0,_,.cons a _,e=>by simp at e;subst e;exact⟨_,rfl,a⟩
 | _,_,i+1,v,.cons _ t,e=>by
   obtain⟨y,h1,h2⟩:=rY (i:=i) (v:=v) t (by simpa using e)
   exact⟨y,by simpa using h1,h2⟩
theorem Gn{pins:Pins}{s:Shared}{σ:DL.St}{H:Hp}{v w':V}{u u':Value}(hu:X.A.units+60<cLine)(I:%[|6])(sx:Sn X.K H v x)(sy:Sn X.K H w' (.lst ds))(r3:RelV v u)(r4:RelV w' u')(h3:bj ds≤50):
 ∃(l:Addr) (its:%[|7]) (e:Value->Bool),u'=.ref l/\s.heap.IsList l its.toArray/\(∀y,y∈its.toArray->SeqAt.EqAt X.A.in1 s y u (e y))/\its.toArray.any e=ds.any λ d=>eqD d x:=by
 classical
 cases sy with
 | @lst a xs _ h1 q1=>
   cases r4
   obtain⟨its,rv,pl,hz⟩:=I.list h1
   let e:Value->Bool:=λ y=>decide (∃(v':V) (d:D),RelV v' y/\Sn X.K H v' d/\eqD d x=true)
   have ev:∀(y:Value)(v':V)(d:D),RelV v' y->Sn X.K H v' d->e y=eqD d x:=by
    intro y v' d hr hs
    cases hd:eqD d x with
    | true=>exact ZG ⟨v',d,hr,hs,hd⟩
    | false=>
      refine ZH ?_
      rintro⟨v2,d2,hr2,hs2,hd2⟩
      have ev':=hr2.inj hr
      subst ev'
      have:=ur I hs2 hs
      subst this
      rw[hd]at hd2;cases hd2
   refine⟨a,its,e,rfl,pl.isList,?_,?_⟩
   . intro y hy
     have hy':y∈its:=by simpa using hy
     obtain⟨i,hi⟩:=ZR hy'
     have hlt:i<xs.length:=by rw[rv.length];exact(y3.mp hi).1
     obtain⟨d,hd⟩:∃d,ds[i]? =some d:=⟨_,y4 (by rw[←q1.length];exact hlt)⟩
     obtain⟨v',hv',hs⟩:=q1.get hd
     obtain⟨y',hy2,hr⟩:=rY rv hv'
     rw[hi]at hy2;cases hy2
     rw[ev y v' d hr hs]
     exact Ox 50 d x (Nat.le_trans (dZ hd) h3) I hs sx hr r3 (by show X.A.units+1+50<cLine;omega)
   . have hlen:its.length=ds.length:=by rw[←rv.length,q1.length]
     have main:∀(xs:List V)(its:%[|7])(ds:List D),Vals xs its->Sns X.K H xs ds->its.any e=ds.any λ d=>eqD d x:=by
      intro xs its ds rv q1
      induction rv generalizing ds with
      | nil=>cases q1;rfl
      | cons hr _ ih=>
        cases q1 with
        | cons hs ht=>rw[List.any_cons,List.any_cons,ev _ _ _ hr hs,ih _ ht]
     rw[List.any_toArray]
     exact main xs its ds rv q1
theorem Wo(hu:X.A.units+60<cLine)(hy:vw S y=.lst ds)(h1:okD (vw S x)=true)(h2:cX ds=true)(h3:bj ds≤50)(w:W (ds.any λ d=>eqD d (vw S x)) S):bC X .In x y S (asB W):=by
 intro pins s σ H O v w' u u' I st r1 r2 r3 r4
 have sy:=jj st r2 (by rw[hy];simpa[okD]using h2)
 rw[hy]at sy
 obtain⟨l,its,e,rfl,hl,he,ha⟩:=Gn hu I (jj st r1 h1) sy r3 r4 h3
 refine SeqAt.in_listAt e hl he ?_
 rw[ha]
 exact⟨.bl _,H,I,rfl,QG.here ⟨_,rfl,w⟩ st (.bl _)⟩
theorem Vp(hu:X.A.units+60<cLine)(hy:vw S y=.lst ds)(h1:okD (vw S x)=true)(h2:cX ds=true)(h3:bj ds≤50)(w:W (!(ds.any λ d=>eqD d (vw S x))) S):bC X .NotIn x y S (asB W):=by
 intro pins s σ H O v w' u u' I st r1 r2 r3 r4
 have sy:=jj st r2 (by rw[hy];simpa[okD]using h2)
 rw[hy]at sy
 obtain⟨l,its,e,rfl,hl,he,ha⟩:=Gn hu I (jj st r1 h1) sy r3 r4 h3
 refine SeqAt.notIn_listAt e hl he ?_
 rw[ha]
 exact⟨.bl _,H,I,rfl,QG.here ⟨_,rfl,w⟩ st (.bl _)⟩
end
end RF
namespace RF
open PySem PySem.Spec L2 DL
open PyProof.Rows
variable {X : Cx}
def isN:D->Bool
 | .non=>true
 | _=>false
theorem Va{a b:Bool}{S:Store}{W:Bool->%[|5]}(w:W (a==b) S):bC X .Is (.bl a) (.bl b) S (asB W):=by
 intro pins s σ H O v w' u u' I st r1 r2 r3 r4
 cases r1;cases r2;cases r3;cases r4
 refine wpAny_is_plain rfl ?_
 have e:(Value.bool a==Value.bool b)=(a==b):=by cases a<;>cases b<;>rfl
 rw[e]
 exact⟨.bl _,H,I,rfl,QG.here ⟨_,rfl,w⟩ st (.bl _)⟩
theorem Lg{a b:Bool}{S:Store}{W:Bool->%[|5]}(w:W (!(a==b)) S):bC X .IsNot (.bl a) (.bl b) S (asB W):=by
 intro pins s σ H O v w' u u' I st r1 r2 r3 r4
 cases r1;cases r2;cases r3;cases r4
 refine wpAny_isNot_plain rfl ?_
 have e:(Value.bool a==Value.bool b)=(a==b):=by cases a<;>cases b<;>rfl
 rw[e]
 exact⟨.bl _,H,I,rfl,QG.here ⟨_,rfl,w⟩ st (.bl _)⟩
def bEq(x y:D)(ki:Int->Int->Prop)(kb:Bool->Bool->Prop)(g:Prop):Prop:=match x with
 | .int i=>(match y with
   | .int j=>ki i j
   | _=>g)
 | .bl i=>(match y with
   | .bl j=>kb i j
   | _=>g)
 | _=>g
theorem Ft{x y:D}{ki:Int->Int->Prop}{kb:Bool->Bool->Prop}{g:Prop}(h:bEq x y ki kb g):(∃i j,x=.int i/\y=.int j/\ki i j)∨(∃i j,x=.bl i/\y=.bl j/\kb i j)∨g:=by
 cases x<;>first | exact .inr (.inr h) | (cases y<;>first | exact .inr (.inr h) | exact .inl ⟨_,_,rfl,rfl,h⟩ | exact .inr (.inl ⟨_,_,rfl,rfl,h⟩))
def bIs(x y:D)(n:Prop)(kb:Bool->Bool->Prop):Prop:=match y with
 | .non=>n
 | .bl j=>(match x with
   | .bl i=>kb i j
   | _=>False)
 | _=>False
theorem Gk{x y:D}{n:Prop}{kb:Bool->Bool->Prop}(h:bIs x y n kb):(y=.non/\n)∨∃i j,x=.bl i/\y=.bl j/\kb i j:=by
 cases y<;>first | exact h.elim | exact .inl ⟨rfl,h⟩ | (cases x<;>first | exact h.elim | exact .inr ⟨_,_,rfl,rfl,h⟩)
@[irreducible] noncomputable def aP(op:CmpOp)(x y:D)(S:Store)(W:Bool->%[|5]):Prop:=match op with
  | .Lt=>bII x y λ i j=>W (decide (i<j)) S
  | .LtE=>bII x y λ i j=>W (decide (i≤j)) S
  | .Gt=>bII x y λ i j=>W (decide (j<i)) S
  | .GtE=>bII x y λ i j=>W (decide (j≤i)) S
  | .Eq=>bEq x y (λ i j=>W (decide (i=j)) S) (λ i j=>W (i==j) S) (z6 S x y/\W (eqD (vw S x) (vw S y)) S)
  | .NotEq=>bEq x y (λ i j=>W (!decide (i=j)) S) (λ i j=>W (!(i==j)) S) ((z6 S x y/\W (!eqD (vw S x) (vw S y)) S)∨(x=y/\au x=true/\deep x≤50/\W false S))
  | .Is=>bIs x y (W (isN x) S) λ i j=>W (i==j) S
  | .IsNot=>bIs x y (W (!isN x) S) λ i j=>W (!(i==j)) S
  | .In=>∃ds,vw S y=.lst ds/\okD (vw S x)=true/\cX ds=true/\bj ds≤50/\W (ds.any λ d=>eqD d (vw S x)) S
  | .NotIn=>∃ds,vw S y=.lst ds/\okD (vw S x)=true/\cX ds=true/\bj ds≤50/\W (!(ds.any λ d=>eqD d (vw S x))) S
theorem cg{op:CmpOp}{x y:D}{S:Store}{W:Bool->%[|5]}{b:Bool}(h:∀V:WD,V (.bl b) S->bC X op x y S V)(w:W b S):bC X op x y S (asB W):=h (asB W) ⟨b,rfl,w⟩
theorem fZ{op:CmpOp}{x y:D}{S:Store}{W:Bool->%[|5]}(hu:X.A.units+60<cLine)(h:aP op x y S W):bC X op x y S (asB W):=by
 unfold aP at h
 cases op with
 | Lt=>obtain⟨i,j,rfl,rfl,h⟩:=eO h;exact cg (λ _=>Xh) h
 | LtE=>obtain⟨i,j,rfl,rfl,h⟩:=eO h;exact cg (λ _=>Xq) h
 | Gt=>obtain⟨i,j,rfl,rfl,h⟩:=eO h;exact cg (λ _=>Xu) h
 | GtE=>obtain⟨i,j,rfl,rfl,h⟩:=eO h;exact cg (λ _=>Xk) h
 | Eq=>
   rcases Ft h with⟨i,j,rfl,rfl,h⟩ | ⟨i,j,rfl,rfl,h⟩ | h
   . exact cg (λ _=>Xb) h
   . exact cg (λ _=>Wa) h
   . exact W6 hu h.1 h.2
 | NotEq=>
   rcases Ft h with⟨i,j,rfl,rfl,h⟩ | ⟨i,j,rfl,rfl,h⟩ | h | ⟨rfl,h1,h2,h3⟩
   . exact cg (λ _=>Wh) h
   . exact cg (λ _=>V1) h
   . exact WT hu h.1 h.2
   . exact Nk hu h1 h2 ⟨false,rfl,h3⟩
 | Is=>
   rcases Gk h with⟨rfl,h⟩ | ⟨i,j,rfl,rfl,h⟩
   . exact cg (λ V w=>WF w) h
   . exact Va h
 | IsNot=>
   rcases Gk h with⟨rfl,h⟩ | ⟨i,j,rfl,rfl,h⟩
   . refine cg (λ V w=>Rr ?_) h
     cases x<;>exact w
   . exact Lg h
 | In=>obtain⟨ds,h1,h2,h3,h4,h5⟩:=h;exact Wo hu h1 h2 h3 h4 h5
 | NotIn=>obtain⟨ds,h1,h2,h3,h4,h5⟩:=h;exact Vp hu h1 h2 h3 h4 h5
section
variable {i j : Int} {a b : Bool} {x y : D} {S : Store} {W : Bool -> Store -> Prop}
theorem cLt(w:W (decide (i<j)) S):aP .Lt (.int i) (.int j) S W:=by unfold aP;exact w
theorem cLe(w:W (decide (i≤j)) S):aP .LtE (.int i) (.int j) S W:=by unfold aP;exact w
theorem cGt(w:W (decide (j<i)) S):aP .Gt (.int i) (.int j) S W:=by unfold aP;exact w
theorem cEqI(w:W (decide (i=j)) S):aP .Eq (.int i) (.int j) S W:=by unfold aP;exact w
theorem cNeI(w:W (!decide (i=j)) S):aP .NotEq (.int i) (.int j) S W:=by unfold aP;exact w
theorem cIsN(w:W (isN x) S):aP .Is x .non S W:=by unfold aP;cases x<;>exact w
theorem cIn{ds:List D}(h1:vw S y=.lst ds)(h2:okD (vw S x)=true)(h3:cX ds=true)(h4:bj ds≤50)(w:W (ds.any λ d=>eqD d (vw S x)) S):aP .In x y S W:=by unfold aP;cases x<;>exact⟨ds,h1,h2,h3,h4,w⟩
theorem RX(h1:au x=true)(h2:deep x≤50)(w:W false S):aP .NotEq x x S W:=by
 unfold aP
 cases x with
 | int i=>simpa[bEq]using w
 | bl i=>simpa[bEq]using w
 | _=>exact .inr ⟨rfl,h1,h2,w⟩
end
set_option genInjectivity false in
structure Ex(Ω:Wd) where
 lev:Nat
 chk:Bool->%[|1]->Nm->Expr->Bool
 wp:Gam->Store->WD->Prop
 sound:∀{X:Cx}{r:Nat}{top:Bool}{N:%[|1]}{nm:Nm}{e:Expr}{Γ:Gam}{S:Store}{W:WD},At Ω X r top N nm->lev≤r->chk top N nm e=true->wp Γ S W->Ev X Γ S e W
set_option genInjectivity false in
structure Te(Ω:Wd) where
 lev:Nat
 chk:Bool->%[|1]->Nm->Expr->Bool
 wp:Gam->Store->(Bool->%[|5])->Prop
 sound:∀{X:Cx}{r:Nat}{top:Bool}{N:%[|1]}{nm:Nm}{e:Expr}{Γ:Gam}{S:Store}{W:Bool->%[|5]},At Ω X r top N nm->lev≤r->chk top N nm e=true->wp Γ S W->Ts X Γ S e W
set_option genInjectivity false in
structure Ar(Ω:Wd) where
 lev:Nat
 chk:Bool->%[|1]->Nm->List Expr->Bool
 wp:Gam->Store->(List D->%[|5])->Prop
 plain:∀{top:Bool}{N:%[|1]}{nm:Nm}{es:List Expr},chk top N nm es=true->es.all okE=true
 sound:∀{X:Cx}{r:Nat}{top:Bool}{N:%[|1]}{nm:Nm}{es:List Expr}{Γ:Gam}{S:Store}{W:List D->%[|5]},At Ω X r top N nm->lev≤r->chk top N nm es=true->wp Γ S W->EvA X Γ S es W
set_option genInjectivity false in
structure Bo(Ω:Wd) where
 lev:Nat
 chk:Bool->%[|1]->Nm->List Expr->Bool
 wpA:Gam->Store->WD->Prop
 wpO:Gam->Store->WD->Prop
 ne:∀{top:Bool}{N:%[|1]}{nm:Nm}{es:List Expr},chk top N nm es=true->∃b rest,es=b::rest
 soundA:∀{X:Cx}{r:Nat}{top:Bool}{N:%[|1]}{nm:Nm}{es:List Expr}{Γ:Gam}{S:Store}{W:WD}{pos:Pos},At Ω X r top N nm->lev≤r->chk top N nm es=true->wpA Γ S W->Ev X Γ S (.BoolOp .And es pos) W
 soundO:∀{X:Cx}{r:Nat}{top:Bool}{N:%[|1]}{nm:Nm}{es:List Expr}{Γ:Gam}{S:Store}{W:WD}{pos:Pos},At Ω X r top N nm->lev≤r->chk top N nm es=true->wpO Γ S W->Ev X Γ S (.BoolOp .Or es pos) W
set_option genInjectivity false in
structure Bt(Ω:Wd) where
 lev:Nat
 chk:Bool->%[|1]->Nm->List Expr->Bool
 wpA:Gam->Store->(Bool->%[|5])->Prop
 wpO:Gam->Store->(Bool->%[|5])->Prop
 ne:∀{top:Bool}{N:%[|1]}{nm:Nm}{es:List Expr},chk top N nm es=true->∃b rest,es=b::rest
 soundA:∀{X:Cx}{r:Nat}{top:Bool}{N:%[|1]}{nm:Nm}{es:List Expr}{Γ:Gam}{S:Store}{W:Bool->%[|5]}{pos:Pos},At Ω X r top N nm->lev≤r->chk top N nm es=true->wpA Γ S W->TsW X Γ S (.BoolOp .And es pos) W
 soundO:∀{X:Cx}{r:Nat}{top:Bool}{N:%[|1]}{nm:Nm}{es:List Expr}{Γ:Gam}{S:Store}{W:Bool->%[|5]}{pos:Pos},At Ω X r top N nm->lev≤r->chk top N nm es=true->wpO Γ S W->TsW X Γ S (.BoolOp .Or es pos) W
theorem At.hu{Ω:Wd}{r:Nat}{top:Bool}{N:%[|1]}{nm:Nm}(A:At Ω X r top N nm):X.A.units+60<cLine:=by have:=A.room.un;omega
theorem lv2{a b r:Nat}(h:max a b≤r):a≤r/\b≤r:=%[|0]
variable {Ω : Wd}
def Ex.var(i:Nat):Ex Ω where
 lev:=0
 chk _ N nm e:=match e with | .Name x _=>(N[i]? ==some x)&&(vis nm x&&okN x) | _=>false
 wp Γ S W:=match Γ[i]? with | some (some d)=>W d S | _=>False
 sound:=by
  intro X r top N nm e Γ S W A _ hc hw
  cases e with
  | Name x pos=>
    obtain⟨h1,h2,h3⟩:=bV hc
    obtain⟨d1,d2,_⟩:=bZ h3
    have h1:N[i]? =some x:=ZI h1
    cases hΓ:Γ[i]? with
    | none=>rw[hΓ]at hw;exact hw.elim
    | some o=>
      cases o with
      | none=>rw[hΓ]at hw;exact hw.elim
      | some d=>
        rw[hΓ]at hw
        exact Vq i hΓ hw (by rw[A.n];exact h1) (A.vis h2) d1 d2
  | _=>exact fE hc
def Ex.int(i:Int):Ex Ω where
 lev:=0
 chk _ _ _ e:=match e with | .Constant (.int j) _ _=>j==i | _=>false
 wp _ S W:=W (.int i) S
 sound:=by
  intro X r top N nm e Γ S W A _ hc hw
  cases e with
  | Constant c k pos=>
    cases c with
    | int j=>have e:j=i:=ZI hc;subst e;exact U7 hw
    | _=>exact fE hc
  | _=>exact fE hc
def Ex.bl(i:Bool):Ex Ω where
 lev:=0
 chk _ _ _ e:=match e with | .Constant (.bool j) _ _=>j==i | _=>false
 wp _ S W:=W (.bl i) S
 sound:=by
  intro X r top N nm e Γ S W A _ hc hw
  cases e with
  | Constant c k pos=>
    cases c with
    | bool j=>have e:j=i:=ZI hc;subst e;exact Wc hw
    | _=>exact fE hc
  | _=>exact fE hc
def Ex.non:Ex Ω where
 lev:=0
 chk _ _ _ e:=match e with | .Constant .none _ _=>true | _=>false
 wp _ S W:=W .non S
 sound:=by
  intro X r top N nm e Γ S W A _ hc hw
  cases e with
  | Constant c k pos=>
    cases c with
    | none=>exact Vc hw
    | _=>exact fE hc
  | _=>exact fE hc
def Ex.str(i:Str):Ex Ω where
 lev:=0
 chk _ _ _ e:=match e with | .Constant (.str j) _ _=>j==i | _=>false
 wp _ S W:=W (.str i) S
 sound:=by
  intro X r top N nm e Γ S W A _ hc hw
  cases e with
  | Constant c k pos=>
    cases c with
    | str j=>have e:j=i:=ZI hc;subst e;exact J2 hw
    | _=>exact fE hc
  | _=>exact fE hc
def Ex.gint{x:Str}{i:Int}(h:∃t,Ω.mg x=some (.int i t)):Ex Ω where
 lev:=0
 chk _ _ nm e:=match e with | .Name y _=>(y==x)&&(glb nm x&&okN x) | _=>false
 wp _ S W:=W (.int i) S
 sound:=by
  intro X r top N nm e Γ S W A _ hc hw
  cases e with
  | Name y pos=>
    obtain⟨h1,h2,h3⟩:=bV hc
    have e:y=x:=ZI h1
    subst e
    obtain⟨t,h⟩:=h
    exact MJ (by rw[A.g];exact h) hw (A.glb h2) (bZ h3).1
  | _=>exact fE hc
def Ex.bin(op:Operator)(a b:Ex Ω):Ex Ω where
 lev:=max a.lev b.lev
 chk top N nm e:=match e with | .BinOp l o r _=>(o==op)&&(a.chk top N nm l&&b.chk top N nm r) | _=>false
 wp Γ S W:=a.wp Γ S λ x S1=>b.wp Γ S1 λ y S2=>Qf op x y S2 W
 sound:=by
  sleep 1
  obtain⟨l1,l2⟩:=lv2 hl
  cases e with
  | BinOp l o r' pos=>
    obtain⟨h1,h2,h3⟩:=bV hc
    have e:o=op:=ZI h1
    subst e
    exact Ad ((a.sound A l1 h2 hw).mono λ x S1 q=>(b.sound A l2 h3 q).mono λ y S2 q=>Mw q)
  | _=>exact fE hc
def Ex.cmp(op:CmpOp)(a b:Ex Ω):Ex Ω where
 lev:=max a.lev b.lev
 chk top N nm e:=match e with | .Compare l [o] [r] _=>(o==op)&&(okE r&&(a.chk top N nm l&&b.chk top N nm r)) | _=>false
 wp Γ S W:=a.wp Γ S λ x S1=>b.wp Γ S1 λ y S2=>aP op x y S2 λ c S3=>W (.bl c) S3
 sound:=by
  sleep 1
  obtain⟨l1,l2⟩:=lv2 hl
  cases e with
  | Compare l os rs pos=>
    match os,rs,hc with
    | [o],[r'],hc=>
      obtain⟨h1,h0,h2,h3⟩:=cA hc
      have e:o=op:=ZI h1
      subst e
      exact U3 ((a.sound A l1 h2 hw).mono λ x S1 q=>(b.sound A l2 h3 q).mono λ y S2 q=>(fZ A.hu q).mono λ d S3 ⟨c,e,w⟩=>by subst e;exact w) (iy h0)
    | [],_,hc=>exact fE hc
    | [_],[],hc=>exact fE hc
    | [_],_::_::_,hc=>exact fE hc
    | _::_::_,_,hc=>exact fE hc
  | _=>exact fE hc
def Te.cmp(op:CmpOp)(a b:Ex Ω):Te Ω where
 lev:=max a.lev b.lev
 chk top N nm e:=match e with | .Compare l [o] [r] _=>(o==op)&&(okE r&&(a.chk top N nm l&&b.chk top N nm r)) | _=>false
 wp Γ S W:=a.wp Γ S λ x S1=>b.wp Γ S1 λ y S2=>aP op x y S2 W
 sound:=by
  sleep 1
  obtain⟨l1,l2⟩:=lv2 hl
  cases e with
  | Compare l os rs pos=>
    match os,rs,hc with
    | [o],[r'],hc=>
      obtain⟨h1,h0,h2,h3⟩:=cA hc
      have e:o=op:=ZI h1
      subst e
      exact Tj ((a.sound A l1 h2 hw).mono λ x S1 q=>(b.sound A l2 h3 q).mono λ y S2 q=>fZ A.hu q) (iy h0)
    | [],_,hc=>exact fE hc
    | [_],[],hc=>exact fE hc
    | [_],_::_::_,hc=>exact fE hc
    | _::_::_,_,hc=>exact fE hc
  | _=>exact fE hc
abbrev PX(a:Ex Ω)(o1:CmpOp)(b:Ex Ω)(o2:CmpOp)(c:Ex Ω)(Γ:Gam)(S:Store)(W:Bool->%[|5]):Prop:=
 a.wp Γ S λ x S1=>b.wp Γ S1 λ y S2=>aP o1 x y S2 λ k S3=>(k=false->W false S3)/\(k=true->c.wp Γ S3 λ t S4=>aP o2 y t S4 W)
def Ex.ch2(a:Ex Ω)(o1:CmpOp)(b:Ex Ω)(o2:CmpOp)(c:Ex Ω):Ex Ω where
 lev:=max (max a.lev b.lev) c.lev
 chk top N nm e:=match e with | .Compare l [p1,p2] [m,r] _=>(p1==o1)&&((p2==o2)&&(okE r&&(a.chk top N nm l&&(b.chk top N nm m&&c.chk top N nm r)))) | _=>false
 wp Γ S W:=PX a o1 b o2 c Γ S λ k S1=>W (.bl k) S1
 sound:=by
  sleep 1
  obtain⟨l1,l3⟩:=lv2 hl
  obtain⟨l1,l2⟩:=lv2 l1
  cases e with
  | Compare l os rs pos=>
    match os,rs,hc with
    | [p1,p2],[m,r'],hc=>
      obtain⟨h1,h2,h0,h3,h4,h5⟩:=iM hc
      have e:p1=o1:=ZI h1
      subst e
      have e:p2=o2:=ZI h2
      subst e
      refine My ((a.sound A l1 h3 hw).mono λ x S1 q=>(b.sound A l2 h4 q).mono λ y S2 q=>(fZ A.hu q).mono λ d S3 ⟨k,e,w⟩=>⟨k,e,w.1,λ hk=>(c.sound A l3 h5 (w.2 hk)).mono λ t S4 q=>(fZ A.hu q).mono λ d S3 ⟨c,e,w⟩=>by subst e;exact w⟩) (iy h0)
    | [],_,hc=>exact fE hc
    | [_],_,hc=>exact fE hc
    | [_,_],[],hc=>exact fE hc
    | [_,_],[_],hc=>exact fE hc
    | [_,_],_::_::_::_,hc=>exact fE hc
    | _::_::_::_,_,hc=>exact fE hc
  | _=>exact fE hc
def Te.ch2(a:Ex Ω)(o1:CmpOp)(b:Ex Ω)(o2:CmpOp)(c:Ex Ω):Te Ω where
 lev:=max (max a.lev b.lev) c.lev
 chk top N nm e:=match e with | .Compare l [p1,p2] [m,r] _=>(p1==o1)&&((p2==o2)&&(okE r&&(a.chk top N nm l&&(b.chk top N nm m&&c.chk top N nm r)))) | _=>false
 wp Γ S W:=PX a o1 b o2 c Γ S W
 sound:=by
  sleep 1
  obtain⟨l1,l3⟩:=lv2 hl
  obtain⟨l1,l2⟩:=lv2 l1
  cases e with
  | Compare l os rs pos=>
    match os,rs,hc with
    | [p1,p2],[m,r'],hc=>
      obtain⟨h1,h2,h0,h3,h4,h5⟩:=iM hc
      have e:p1=o1:=ZI h1
      subst e
      have e:p2=o2:=ZI h2
      subst e
      refine IV ((a.sound A l1 h3 hw).mono λ x S1 q=>(b.sound A l2 h4 q).mono λ y S2 q=>(fZ A.hu q).mono λ d S3 ⟨k,e,w⟩=>⟨k,e,w.1,λ hk=>(c.sound A l3 h5 (w.2 hk)).mono λ t S4 q=>fZ A.hu q⟩) (iy h0)
    | [],_,hc=>exact fE hc
    | [_],_,hc=>exact fE hc
    | [_,_],[],hc=>exact fE hc
    | [_,_],[_],hc=>exact fE hc
    | [_,_],_::_::_::_,hc=>exact fE hc
    | _::_::_::_,_,hc=>exact fE hc
  | _=>exact fE hc
def Te.val(a:Ex Ω):Te Ω where
 lev:=a.lev
 chk top N nm e:=Mp e&&a.chk top N nm e
 wp Γ S W:=a.wp Γ S λ d S1=>match d with | .bl c=>W c S1 | _=>False
 sound:=by
  sleep 1
  obtain⟨h1,h2⟩:=az hc
  refine Ua ((a.sound A hl h2 hw).mono λ d S1 q=>?_) (KZ h1 _)
  cases d<;>first | exact⟨_,rfl,q⟩ | exact q.elim
def Te.not(t:Te Ω):Te Ω where
 lev:=t.lev
 chk top N nm e:=match e with | .UnaryOp .Not a _=>t.chk top N nm a | _=>false
 wp Γ S W:=t.wp Γ S λ c S1=>W (!c) S1
 sound:=by
  sleep 1
  cases e with
  | UnaryOp o a pos=>
    cases o with
    | Not=>exact Sy (t.sound A hl hc hw)
    | _=>exact fE hc
  | _=>exact fE hc
def Bt.one(t:Te Ω):Bt Ω where
 lev:=t.lev
 chk top N nm es:=match es with | [e]=>t.chk top N nm e | _=>false
 wpA Γ S W:=t.wp Γ S W
 wpO Γ S W:=t.wp Γ S W
 ne:=by
  intro top N nm es hc
  match es,hc with
  | [e],_=>exact⟨_,_,rfl⟩
  | [],hc=>exact fE hc
  | _::_::_,hc=>exact fE hc
 soundA:=by
  intro X r top N nm es Γ S W pos A hl hc hw
  match es,hc with
  | [e],hc=>exact tw_and1 (t.sound A hl hc hw)
  | [],hc=>exact fE hc
  | _::_::_,hc=>exact fE hc
 soundO:=by
  intro X r top N nm es Γ S W pos A hl hc hw
  match es,hc with
  | [e],hc=>exact tw_or1 (t.sound A hl hc hw)
  | [],hc=>exact fE hc
  | _::_::_,hc=>exact fE hc
def Bt.cons(t:Te Ω)(r:Bt Ω):Bt Ω where
 lev:=max t.lev r.lev
 chk top N nm es:=match es with | e::es=>t.chk top N nm e&&r.chk top N nm es | _=>false
 wpA Γ S W:=t.wp Γ S λ c S1=>(c=true->r.wpA Γ S1 W)/\(c=false->W false S1)
 wpO Γ S W:=t.wp Γ S λ c S1=>(c=true->W true S1)/\(c=false->r.wpO Γ S1 W)
 ne:=by
  intro top N nm es hc
  match es,hc with
  | _::_,_=>exact⟨_,_,rfl⟩
  | [],hc=>exact fE hc
 soundA:=by
  intro X r' top N nm es Γ S W pos A hl hc hw
  obtain⟨l1,l2⟩:=lv2 hl
  match es,hc with
  | e::es,hc=>
    obtain⟨h1,h2⟩:=az hc
    obtain⟨b,rest,rfl⟩:=r.ne h2
    exact tw_and (Ts.mono (t.sound A l1 h1 hw) λ c S1 q=>⟨λ hk=>r.soundA A l2 h2 (q.1 hk),q.2⟩)
  | [],hc=>exact fE hc
 soundO:=by
  intro X r' top N nm es Γ S W pos A hl hc hw
  obtain⟨l1,l2⟩:=lv2 hl
  match es,hc with
  | e::es,hc=>
    obtain⟨h1,h2⟩:=az hc
    obtain⟨b,rest,rfl⟩:=r.ne h2
    exact tw_or (Ts.mono (t.sound A l1 h1 hw) λ c S1 q=>⟨q.1,λ hk=>r.soundO A l2 h2 (q.2 hk)⟩)
  | [],hc=>exact fE hc
def Te.and(l:Bt Ω):Te Ω where
 lev:=l.lev
 chk top N nm e:=match e with | .BoolOp .And es _=>l.chk top N nm es | _=>false
 wp Γ S W:=l.wpA Γ S W
 sound:=by
  sleep 1
  cases e with
  | BoolOp o es pos=>
    cases o with
    | And=>exact(l.soundA A hl hc hw).ts
    | _=>exact fE hc
  | _=>exact fE hc
def Te.or(l:Bt Ω):Te Ω where
 lev:=l.lev
 chk top N nm e:=match e with | .BoolOp .Or es _=>l.chk top N nm es | _=>false
 wp Γ S W:=l.wpO Γ S W
 sound:=by
  sleep 1
  cases e with
  | BoolOp o es pos=>
    cases o with
    | Or=>exact(l.soundO A hl hc hw).ts
    | _=>exact fE hc
  | _=>exact fE hc
def Bo.one(t:Ex Ω):Bo Ω where
 lev:=t.lev
 chk top N nm es:=match es with | [e]=>t.chk top N nm e | _=>false
 wpA Γ S W:=t.wp Γ S W
 wpO Γ S W:=t.wp Γ S W
 ne:=by
  intro top N nm es hc
  match es,hc with
  | [e],_=>exact⟨_,_,rfl⟩
  | [],hc=>exact fE hc
  | _::_::_,hc=>exact fE hc
 soundA:=by
  intro X r top N nm es Γ S W pos A hl hc hw
  match es,hc with
  | [e],hc=>exact J0 (t.sound A hl hc hw)
  | [],hc=>exact fE hc
  | _::_::_,hc=>exact fE hc
 soundO:=by
  intro X r top N nm es Γ S W pos A hl hc hw
  match es,hc with
  | [e],hc=>exact J0 (t.sound A hl hc hw)
  | [],hc=>exact fE hc
  | _::_::_,hc=>exact fE hc
def Bo.cons(t:Ex Ω)(r:Bo Ω):Bo Ω where
 lev:=max t.lev r.lev
 chk top N nm es:=match es with | e::es=>t.chk top N nm e&&r.chk top N nm es | _=>false
 wpA Γ S W:=t.wp Γ S λ d S1=>match d with | .bl c=>(c=true->r.wpA Γ S1 W)/\(c=false->W (.bl false) S1) | _=>False
 wpO Γ S W:=t.wp Γ S λ d S1=>match d with | .bl c=>(c=true->W (.bl true) S1)/\(c=false->r.wpO Γ S1 W) | _=>False
 ne:=by
  intro top N nm es hc
  match es,hc with
  | _::_,_=>exact⟨_,_,rfl⟩
  | [],hc=>exact fE hc
 soundA:=by
  intro X r' top N nm es Γ S W pos A hl hc hw
  obtain⟨l1,l2⟩:=lv2 hl
  match es,hc with
  | e::es,hc=>
    obtain⟨h1,h2⟩:=az hc
    obtain⟨b,rest,rfl⟩:=r.ne h2
    refine Ti ((t.sound A l1 h1 hw).mono λ d S1 q=>?_)
    cases d<;>first | exact⟨_,rfl,λ hk=>r.soundA A l2 h2 (q.1 hk),q.2⟩ | exact q.elim
  | [],hc=>exact fE hc
 soundO:=by
  intro X r' top N nm es Γ S W pos A hl hc hw
  obtain⟨l1,l2⟩:=lv2 hl
  match es,hc with
  | e::es,hc=>
    obtain⟨h1,h2⟩:=az hc
    obtain⟨b,rest,rfl⟩:=r.ne h2
    refine V2 ((t.sound A l1 h1 hw).mono λ d S1 q=>?_)
    cases d<;>first | exact⟨_,rfl,q.1,λ hk=>r.soundO A l2 h2 (q.2 hk)⟩ | exact q.elim
  | [],hc=>exact fE hc
def Ex.and(l:Bo Ω):Ex Ω where
 lev:=l.lev
 chk top N nm e:=match e with | .BoolOp .And es _=>l.chk top N nm es | _=>false
 wp Γ S W:=l.wpA Γ S W
 sound:=by
  sleep 1
  cases e with
  | BoolOp o es pos=>
    cases o with
    | And=>exact l.soundA A hl hc hw
    | _=>exact fE hc
  | _=>exact fE hc
def Ex.or(l:Bo Ω):Ex Ω where
 lev:=l.lev
 chk top N nm e:=match e with | .BoolOp .Or es _=>l.chk top N nm es | _=>false
 wp Γ S W:=l.wpO Γ S W
 sound:=by
  sleep 1
  cases e with
  | BoolOp o es pos=>
    cases o with
    | Or=>exact l.soundO A hl hc hw
    | _=>exact fE hc
  | _=>exact fE hc
def Ex.not(a:Ex Ω):Ex Ω where
 lev:=a.lev
 chk top N nm e:=match e with | .UnaryOp .Not b _=>a.chk top N nm b | _=>false
 wp Γ S W:=a.wp Γ S λ d S1=>match d with | .bl c=>W (.bl (!c)) S1 | _=>False
 sound:=by
  sleep 1
  cases e with
  | UnaryOp o b pos=>
    cases o with
    | Not=>
      refine Ui ((a.sound A hl hc hw).mono λ d S1 q=>?_)
      cases d<;>first | exact⟨_,rfl,q⟩ | exact q.elim
    | _=>exact fE hc
  | _=>exact fE hc
def Ex.neg(a:Ex Ω):Ex Ω where
 lev:=a.lev
 chk top N nm e:=match e with | .UnaryOp .USub b _=>a.chk top N nm b | _=>false
 wp Γ S W:=a.wp Γ S λ d S1=>match d with | .int c=>W (.int (-c)) S1 | _=>False
 sound:=by
  sleep 1
  cases e with
  | UnaryOp o b pos=>
    cases o with
    | USub=>
      refine Vj ((a.sound A hl hc hw).mono λ d S1 q=>?_)
      cases d<;>first | exact⟨_,rfl,q⟩ | exact q.elim
    | _=>exact fE hc
  | _=>exact fE hc
def Ex.ifE(c:Te Ω)(a b:Ex Ω):Ex Ω where
 lev:=max c.lev (max a.lev b.lev)
 chk top N nm e:=match e with | .IfExp t x y _=>c.chk top N nm t&&(a.chk top N nm x&&b.chk top N nm y) | _=>false
 wp Γ S W:=c.wp Γ S λ k S1=>(k=true->a.wp Γ S1 W)/\(k=false->b.wp Γ S1 W)
 sound:=by
  sleep 1
  obtain⟨l1,l2⟩:=lv2 hl
  obtain⟨l2,l3⟩:=lv2 l2
  cases e with
  | IfExp t x y pos=>
    obtain⟨h1,h2,h3⟩:=bV hc
    exact O9 (Ts.mono (c.sound A l1 h1 hw) λ k S1 q=>⟨λ hk=>a.sound A l2 h2 (q.1 hk),λ hk=>b.sound A l3 h3 (q.2 hk)⟩)
  | _=>exact fE hc
def Ar.nil:Ar Ω where
 lev:=0
 chk _ _ _ es:=match es with | []=>true | _=>false
 wp _ S W:=W [] S
 plain:=by
  intro top N nm es hc
  match es,hc with
  | [],_=>rfl
  | _::_,hc=>exact fE hc
 sound:=by
  intro X r top N nm es Γ S W A _ hc hw
  match es,hc with
  | [],_=>exact j7 hw
  | _::_,hc=>exact fE hc
def Ar.cons(a:Ex Ω)(r:Ar Ω):Ar Ω where
 lev:=max a.lev r.lev
 chk top N nm es:=match es with | e::es=>okE e&&(a.chk top N nm e&&r.chk top N nm es) | _=>false
 wp Γ S W:=a.wp Γ S λ d S1=>r.wp Γ S1 λ ds S2=>W (d::ds) S2
 plain:=by
  intro top N nm es hc
  match es,hc with
  | e::es,hc=>
    obtain⟨h1,h2,h3⟩:=bV hc
    rw[List.all_cons,h1,r.plain h3];rfl
  | [],hc=>exact fE hc
 sound:=by
  intro X r' top N nm es Γ S W A hl hc hw
  obtain⟨l1,l2⟩:=lv2 hl
  match es,hc with
  | e::es,hc=>
    obtain⟨h1,h2,h3⟩:=bV hc
    exact dX ((a.sound A l1 h2 hw).mono λ d S1 q=>r.sound A l2 h3 q) (aF h1 _ _)
  | [],hc=>exact fE hc
def Ex.tup(as:Ar Ω):Ex Ω where
 lev:=as.lev
 chk top N nm e:=match e with | .Tuple es _ _=>as.chk top N nm es | _=>false
 wp Γ S W:=as.wp Γ S λ ds S1=>ds.length≤1000000/\W (.tup ds) S1
 sound:=by
  sleep 1
  cases e with
  | Tuple es k pos=>exact Tz (as.sound A hl hc hw)
  | _=>exact fE hc
def Ex.lst(as:Ar Ω):Ex Ω where
 lev:=as.lev
 chk top N nm e:=match e with | .List es _=>as.chk top N nm es | _=>false
 wp Γ S W:=as.wp Γ S λ ds S1=>ds.length≤1000000/\W (.lst ds) S1
 sound:=by
  sleep 1
  cases e with
  | List es pos=>exact Vx (as.sound A hl hc hw)
  | _=>exact fE hc
def Ex.own(as:Ar Ω):Ex Ω where
 lev:=as.lev
 chk top N nm e:=match e with | .List es _=>as.chk top N nm es | _=>false
 wp Γ S W:=as.wp Γ S λ ds S1=>ds.length≤1000000/\W (.loc S1.length) (S1++[ds])
 sound:=by
  sleep 1
  cases e with
  | List es pos=>exact RW (as.sound A hl hc hw)
  | _=>exact fE hc
def Ex.ix(a b:Ex Ω):Ex Ω where
 lev:=max a.lev b.lev
 chk top N nm e:=match e with | .Subscript l r _=>okE r&&(a.chk top N nm l&&b.chk top N nm r) | _=>false
 wp Γ S W:=a.wp Γ S λ x S1=>b.wp Γ S1 λ y S2=>MT x y S2 W
 sound:=by
  sleep 1
  obtain⟨l1,l2⟩:=lv2 hl
  cases e with
  | Subscript l r' pos=>
    obtain⟨h1,h2,h3⟩:=bV hc
    exact VV ((a.sound A l1 h2 hw).mono λ x S1 q=>(b.sound A l2 h3 q).mono λ y S2 q=>Sg q) (Ay h1)
  | _=>exact fE hc
set_option genInjectivity false in
structure Po(Ω:Wd) where
 lev:Nat
 chk:Bool->%[|1]->Nm->Option Expr->Bool
 wp:Gam->Store->(Option Int->%[|5])->Prop
 sound:∀{X:Cx}{r:Nat}{top:Bool}{N:%[|1]}{nm:Nm}{e:Option Expr}{Γ:Gam}{S:Store}{W:Option Int->%[|5]},At Ω X r top N nm->lev≤r->chk top N nm e=true->wp Γ S W->PoD X Γ S e W
def Po.no:Po Ω where
 lev:=0
 chk _ _ _ e:=match e with | none=>true | _=>false
 wp _ S W:=W none S
 sound:=by
  sleep 1
  cases e with
  | none=>exact Xe hw
  | some e=>exact fE hc
def Po.so(a:Ex Ω):Po Ω where
 lev:=a.lev
 chk top N nm e:=match e with | some e=>a.chk top N nm e | _=>false
 wp Γ S W:=a.wp Γ S λ d S1=>match d with | .int i=>W (some i) S1 | _=>False
 sound:=by
  sleep 1
  cases e with
  | some e=>
    refine XD ((a.sound A hl hc hw).mono λ d S1 q=>?_)
    cases d<;>first | exact⟨_,rfl,q⟩ | exact q.elim
  | none=>exact fE hc
theorem PoD.mono{Γ:Gam}{S:Store}{e:Option Expr}{W W':Option Int->%[|5]}(h:PoD X Γ S e W)(k:∀c S',W c S'->W' c S'):PoD X Γ S e W':=by
 cases e with
 | none=>exact k _ _ h
 | some e=>exact Ev.mono h λ d S1 ⟨i,e,w⟩=>⟨i,e,k _ _ w⟩
def Ex.sl(a:Ex Ω)(lo hi:Po Ω):Ex Ω where
 lev:=max a.lev (max lo.lev hi.lev)
 chk top N nm e:=match e with | .Subscript l (.Slice x y none _) _=>a.chk top N nm l&&(lo.chk top N nm x&&hi.chk top N nm y) | _=>false
 wp Γ S W:=a.wp Γ S λ x S1=>lo.wp Γ S1 λ l S2=>hi.wp Γ S2 λ h S3=>NQ x l h S3 W
 sound:=by
  sleep 1
  obtain⟨l1,l2⟩:=lv2 hl
  obtain⟨l2,l3⟩:=lv2 l2
  cases e with
  | Subscript l sl pos=>
    cases sl with
    | Slice x y z p2=>
      cases z with
      | none=>
        obtain⟨h1,h2,h3⟩:=bV hc
        exact N5 ((a.sound A l1 h1 hw).mono λ x S1 q=>PoD.mono (lo.sound A l2 h2 q) λ l S2 q=>PoD.mono (hi.sound A l3 h3 q) λ h S3 q=>R6 q)
      | some _=>exact fE hc
    | _=>exact fE hc
  | _=>exact fE hc
def Ex.call{x:Str}{k n:Nat}{F:Ct}(C:Callee Ω.P Ω.w Ω.K Ω.mg Ω.base x k n F)(as:Ar Ω):Ex Ω where
 lev:=max k as.lev
 chk top N nm e:=match e with | .Call (.Name y _) (a::es) [] _=>(y==x)&&(glb nm x&&(okN x&&as.chk top N nm (a::es))) | _=>false
 wp Γ S W:=as.wp Γ S λ ds S1=>ds.length=n/\F ds S1 W
 sound:=by
  sleep 1
  obtain⟨l1,l2⟩:=lv2 hl
  cases e with
  | Call f es ks pos=>
    cases f with
    | Name y p=>
      match es,ks,hc with
      | a::es,[],hc=>
        obtain⟨h1,h2,h3,h4⟩:=cA hc
        have e:y=x:=ZI h1
        subst e
        have pl:=as.plain h4
        rw[List.all_cons]at pl
        obtain⟨p1,p2⟩:=az pl
        have C':Callee X.prog X.w X.K X.mg X.base y k n F:=by rw[A.p,A.w,A.k,A.g,A.b];exact C
        exact Q4 C' (A.room.mono l1) (as.sound A l2 h4 hw) (A.glb h2) (bZ h3).1 (aF p1 _ _) (oH p2 _ _)
      | [],_,hc=>exact fE hc
      | _::_,_::_,hc=>exact fE hc
    | _=>exact fE hc
  | _=>exact fE hc
set_option genInjectivity false in
structure Bf where
 x:Str
 id:String
 boot:bootBuiltins x=some (.builtin id)
 wp:List D->Store->WD->Prop
 sound:∀{X:Cx}{ds:List D}{S:Store}{W:WD},X.calm=true->Room 0 X.A->wp ds S W->cW X (.builtin id) ds S W
def Ex.blt(b:Bf)(hm:Ω.mg b.x=none)(as:Ar Ω):Ex Ω where
 lev:=as.lev
 chk top N nm e:=match e with | .Call (.Name y _) (a::es) [] _=>(y==b.x)&&(glb nm b.x&&(okN b.x&&as.chk top N nm (a::es))) | _=>false
 wp Γ S W:=as.wp Γ S λ ds S1=>b.wp ds S1 W
 sound:=by
  sleep 1
  cases e with
  | Call f es ks pos=>
    cases f with
    | Name y p=>
      match es,ks,hc with
      | a::es,[],hc=>
        obtain⟨h1,h2,h3,h4⟩:=cA hc
        have e:y=b.x:=ZI h1
        subst e
        have pl:=as.plain h4
        rw[List.all_cons]at pl
        obtain⟨p1,p2⟩:=az pl
        exact Nq (EvA.mono (as.sound A hl h4 hw) λ ds S1 q=>b.sound A.calm (A.room.mono (Nat.zero_le _)) q) (by rw[A.g];exact hm) b.boot (A.glb h2) (bZ h3).2.2 (bZ h3).1 (aF p1 _ _) (oH p2 _ _)
      | [],_,hc=>exact fE hc
      | _::_,_::_,hc=>exact fE hc
    | _=>exact fE hc
  | _=>exact fE hc
set_option genInjectivity false in
structure Bc where
 x:Str
 id:String
 boot:bootBuiltins x=some (.type id)
 wp:List D->Store->WD->Prop
 sound:∀{X:Cx}{ds:List D}{S:Store}{W:WD},X.calm=true->Room 0 X.A->wp ds S W->cW X (.type id) ds S W
def Ex.typ(b:Bc)(hm:Ω.mg b.x=none)(as:Ar Ω):Ex Ω where
 lev:=as.lev
 chk top N nm e:=match e with | .Call (.Name y _) (a::es) [] _=>(y==b.x)&&(glb nm b.x&&(okN b.x&&as.chk top N nm (a::es))) | _=>false
 wp Γ S W:=as.wp Γ S λ ds S1=>b.wp ds S1 W
 sound:=by
  sleep 1
  cases e with
  | Call f es ks pos=>
    cases f with
    | Name y p=>
      match es,ks,hc with
      | a::es,[],hc=>
        obtain⟨h1,h2,h3,h4⟩:=cA hc
        have e:y=b.x:=ZI h1
        subst e
        have pl:=as.plain h4
        rw[List.all_cons]at pl
        obtain⟨p1,p2⟩:=az pl
        exact MN (EvA.mono (as.sound A hl h4 hw) λ ds S1 q=>b.sound A.calm (A.room.mono (Nat.zero_le _)) q) (by rw[A.g];exact hm) b.boot (A.glb h2) (bZ h3).2.2 (bZ h3).1 (aF p1 _ _) (oH p2 _ _)
      | [],_,hc=>exact fE hc
      | _::_,_::_,hc=>exact fE hc
    | _=>exact fE hc
  | _=>exact fE hc
def Ex.isi(hm:Ω.mg "isinstance"=none)(a:Ex Ω)(T:Ty)(hT:Ω.mg T.nm=none):Ex Ω where
 lev:=a.lev
 chk top N nm e:=gH e λ y es=>two2 es λ b c=>anB (nameV c) λ t=>(y==("isinstance":Str))&&(glb nm "isinstance"&&((t==T.nm)&&(glb nm T.nm&&(okE b&&a.chk top N nm b))))
 wp Γ S W:=a.wp Γ S λ d S1=>W (.bl (isD T d)) S1
 sound:=by
  sleep 1
  obtain⟨y,p,es,pos,rfl,hc_1⟩:=cY hc
  obtain⟨b,c,rfl,hc_2⟩:=two2_of hc_1
  obtain⟨t,hn,hc_3⟩:=gn hc_2
  obtain⟨q,rfl⟩:=cG hn
  have hc:=hc_3
  . skip
    obtain⟨h1,h2,h3,h4,h5,h6⟩:=iM hc
    have e:y="isinstance":=ZI h1
    subst e
    have e:t=T.nm:=ZI h3
    subst e
    exact Uo (Tn:=T.id) ((a.sound A hl h6 hw).mono λ d S1 q=>by rw[Uj];exact q) T.isT T.boot (by rw[A.g];exact hm) (by rw[A.g];exact hT) (A.glb h2) (A.glb h4) T.ok.2 T.ok.1 (aF h5 _ _) (aF (e:=.Name T.nm q) rfl [] _)
end RF
namespace RF
open PySem PySem.Spec L2 DL
open PyProof.Rows
variable {Γ : Gam}
inductive Tg where
 | nm(i:Nat) | tup(is:List Nat)
def setAll:Gam->List Nat->List D->Gam
 | Γ,i::is,d::ds=>setAll (Γ.set i (some d)) is ds
 | Γ,_,_=>Γ
def Tg.wp:Tg->D->Gam->(Gam->Prop)->Prop
 | .nm i,d,Γ,W=>W (Γ.set i (some d))
 | .tup is,.tup ds,Γ,W=>ds.length=is.length/\W (setAll Γ is ds)
 | .tup _,_,_,_=>False
def Tg.slots:Tg->List Nat
 | .nm i=>[i]
 | .tup is=>is
def yw(top:Bool)(N:%[|1])(nm:Nm)(i:Nat)(e:Expr):Bool:=match e with | .Name x _=>(N[i]? ==some x)&&lcl top nm x | _=>false
def gk(top:Bool)(N:%[|1])(nm:Nm):List Nat->List Expr->Bool
 | [],[]=>true
 | i::is,e::es=>yw top N nm i e&&gk top N nm is es
 | _,_=>false
def Tg.chk(t:Tg)(top:Bool)(N:%[|1])(nm:Nm)(e:Expr):Bool:=match t with
 | .nm i=>yw top N nm i e
 | .tup is=>match e with | .Tuple es _ _=>gk top N nm is es | _=>false
section
variable {Ω : Wd} {X : Cx} {r : Nat} {top : Bool} {N : %[|1]} {nm : Nm}
theorem Lq(A:At Ω X r top N nm){i:Nat}{e:Expr}{d:D}{Γ:Gam}{S:Store}{W:Gam->%[|5]}(hc:yw top N nm i e=true)(hw:W (Γ.set i (some d)) S):BdW X e d Γ S W:=by
 cases e with
 | Name x pos=>
   obtain⟨h1,h2⟩:=az hc
   have h1:N[i]? =some x:=ZI h1
   obtain⟨l1,l2⟩:=A.lcl h2
   exact Rj i hw (by rw[A.n];exact A.nd) (by rw[A.n];exact h1) l1 l2
 | _=>exact fE hc
theorem Cj{i:Nat}{is:List Nat}{es:List Expr}(h:gk top N nm (i::is) es=true):∃x p es',es=.Name x p::es'/\yw top N nm i (.Name x p)=true/\gk top N nm is es'=true:=by
 cases es with
 | nil=>exact(y7 h).elim
 | cons e es=>
   obtain⟨h1,h2⟩:=az h
   cases e with
   | Name x p=>exact⟨x,p,es,rfl,h1,h2⟩
   | _=>exact(y7 h1).elim
theorem FT{es:List Expr}(h:gk top N nm [] es=true):es=[]:=by
 cases es with
 | nil=>rfl
 | cons e es=>exact(y7 h).elim
theorem Ku(A:At Ω X r top N nm){S:Store}{W:Gam->%[|5]}:∀{is:List Nat}{es:List Expr}{ds:List D}{Γ:Gam},gk top N nm is es=true->ds.length=is.length->W (setAll Γ is ds) S->BZ X es ds Γ S W
 | [],es,ds,Γ,hc,hl,hw=>by
   have e:=FT hc
   subst e
   have e:ds=[]:=by simpa using hl
   subst e
   exact RP hw
 | i::is,es,ds,Γ,hc,hl,hw=>by
   obtain⟨x,p,es',rfl,h1,h2⟩:=Cj hc
   cases ds with
   | nil=>simp at hl
   | cons d ds=>exact Mh (Lq A h1 (Ku A h2 (by simpa using hl) hw)) rfl
theorem Gb:∀{is:List Nat}{es:List Expr},gk top N nm is es=true->∀env:Env,(assignEach es env).length=is.length/\(assignEach es env).findIdx? (·.1)=none
 | [],es,hc,env=>by
   have e:=FT hc
   subst e
   exact⟨rfl,rfl⟩
 | i::is,es,hc,env=>by
   obtain⟨x,p,es',rfl,h1,h2⟩:=Cj hc
   obtain⟨a,b⟩:=Gb h2 env
   have e:assignEach (.Name x p::es') env=(false,assign (.Name x p) env)::assignEach es' env:=rfl
   rw[e]
   refine⟨by simp[a],?_⟩
   rw[List.findIdx?_cons,b]
   rfl
theorem Tg.sound(A:At Ω X r top N nm){t:Tg}{e:Expr}{d:D}{Γ:Gam}{S:Store}{W:Gam->%[|5]}(hc:t.chk top N nm e=true)(hw:t.wp d Γ λ Γ'=>W Γ' S):BdW X e d Γ S W:=by
 cases t with
 | nm i=>exact Lq A hc hw
 | tup is=>
   cases e with
   | Tuple es k pos=>
     have hc:gk top N nm is es=true:=hc
     cases d with
     | tup ds=>
       obtain⟨hl,hw⟩:ds.length=is.length/\W (setAll Γ is ds) S:=hw
       obtain⟨a,b⟩:=Gb hc X.env
       exact TQ (Ku A hc hl hw) A.calm (a.trans hl.symm) b
     | _=>exact hw.elim
   | _=>exact fE hc
end
theorem Sub.setAll{Γ:Gam}:∀{is:List Nat}{ds:List D}{Γ':Gam},Sub Γ Γ'->(∀i∈is,Γ[i]? =some none)->Sub Γ (RF.setAll Γ' is ds)
 | [],ds,Γ',h,_=>by cases ds<;>exact h
 | i::is,[],Γ',h,_=>h
 | i::is,d::ds,Γ',h,hi=>show Sub Γ (RF.setAll (Γ'.set i (some d)) is ds)from Sub.setAll (Γ':=Γ'.set i (some d)) (h.set i (some d) (hi i v3)) λ j hj=>hi j (x8 _ hj)
theorem Lx{cap:List (Option Nat)}{i:Nat}(h:cap[i]? =some none):(capt cap Γ)[i]? =some none:=by
 unfold capt
 rw[x5,h];rfl
set_option genInjectivity false in
structure Itb(Ω:Wd) where
 lev:Nat
 chk:Bool->%[|1]->Nm->Expr->Expr->Bool
 wp:Gam->Store->(List D->%[|5])->Prop
 sound:∀{X:Cx}{r:Nat}{top:Bool}{N:%[|1]}{nm:Nm}{tg e:Expr}{Γ:Gam}{S:Store}{W:List D->%[|5]},At Ω X r top N nm->lev≤r->chk top N nm tg e=true->wp Γ S W->ItW X Γ S tg e W
theorem SJ{X:Cx}{S:Store}{tg e:Expr}{W:List D->%[|5]}(h:Ev X Γ S e λ d S1=>match d with | .lst ds=>W ds S1 | .tup ds=>W ds S1 | _=>False):ItW X Γ S tg e W:=by
 sleep 0
 refine thn %[|16] λ u s1 hq_=>?_
 obtain⟨v,H1,I1,r1,O1,d,S1,w,st1,ok1,rep⟩:=hq_
 cases rep with
 | @lst a xs ds h1 q1=>
   cases r1
   obtain⟨its,rv,p,hz⟩:=I1.list h1.sq
   refine wpAny_pyIter_list p.isList ?_
   refine⟨s1.heap.objs.size,[s1.heap.objs.size],_,_,H1,rfl,I1.kept (t':=s1.toks) λ b o e=>ZC _ e,nT a _,⟨_,%[|19],rfl,rfl⟩,λ b hb=>?_,O1,ds,S1,w,st1,ok1,qD h1 q1⟩
   have e:b=s1.heap.objs.size:=by simpa using hb
   subst e
   exact I1.fpOk (x6 _) (I1.hok.fresh (x6 _))
 | @tup a xs ds h1 q1=>
   cases r1
   obtain⟨its,rv,p,hz⟩:=I1.tuple h1.sq
   refine wpAny_pyIter_tuple (show s1.heap.IsTuple a its.toArray from p) ?_
   refine⟨s1.heap.objs.size,[s1.heap.objs.size],_,_,H1,rfl,I1.kept (t':=s1.toks) λ b o e=>ZC _ e,uf a _,⟨_,%[|19],rfl,rfl⟩,λ b hb=>?_,O1,ds,S1,w,st1,ok1,tV h1 q1⟩
   have e:b=s1.heap.objs.size:=by simpa using hb
   subst e
   exact I1.fpOk (x6 _) (I1.hok.fresh (x6 _))
 | _=>exact w.elim
variable {Ω : Wd}
def Itb.seq(a:Ex Ω):Itb Ω where
 lev:=a.lev
 chk top N nm _ e:=a.chk top N nm e
 wp Γ S W:=a.wp Γ S λ d S1=>match d with | .lst ds=>W ds S1 | .tup ds=>W ds S1 | _=>False
 sound:=by
  intro X r top N nm tg e Γ S W A hl hc hw
  exact SJ (a.sound A hl hc hw)
def Itb.rng1(hm:Ω.mg "range"=none)(a:Ex Ω):Itb Ω where
 lev:=a.lev
 chk top N nm _ e:=gH e λ y es=>lz es λ b=>(y==("range":Str))&&(glb nm "range"&&(okE b&&a.chk top N nm b))
 wp Γ S W:=a.wp Γ S λ d S1=>match d with | .int j=>(-(2 ^ 62)≤j/\j<2 ^ 62)/\W (upTo 0 j.toNat) S1 | _=>False
 sound:=by
  intro X r top N nm tg e Γ S W A hl hc hw
  obtain⟨y,p,es,pos,rfl,hc_1⟩:=cY hc
  obtain⟨b,rfl,hc_2⟩:=eF hc_1
  have hc:=hc_2
  . skip
    obtain⟨h1,h2,h3,h4⟩:=cA hc
    have e:y="range":=ZI h1
    subst e
    refine Ju ((a.sound A hl h4 hw).mono λ d S1 q=>?_) (by rw[A.g];exact hm) (A.glb h2) (aF h3 [] _)
    cases d<;>first | exact⟨_,rfl,q.1.1,q.1.2,q.2⟩ | exact q.elim
def Itb.rng2(hm:Ω.mg "range"=none)(a b:Ex Ω):Itb Ω where
 lev:=max a.lev b.lev
 chk top N nm _ e:=gH e λ y es=>two2 es λ l r=>(y==("range":Str))&&(glb nm "range"&&((okE l&&okE r)&&(a.chk top N nm l&&b.chk top N nm r)))
 wp Γ S W:=a.wp Γ S λ d S1=>b.wp Γ S1 λ d' S2=>match d,d' with | .int i,.int j=>(-(2 ^ 62)≤i/\i<2 ^ 62/\ -(2 ^ 62)≤j/\j<2 ^ 62)/\W (upTo i (j-i).toNat) S2 | _,_=>False
 sound:=by
  intro X r top N nm tg e Γ S W A hl hc hw
  obtain⟨l1,l2⟩:=lv2 hl
  obtain⟨y,p,es,pos,rfl,hc_1⟩:=cY hc
  obtain⟨l,r',rfl,hc_2⟩:=two2_of hc_1
  have hc:=hc_2
  . skip
    obtain⟨h1,h2,h3,h4⟩:=cA hc
    obtain⟨h5,h6⟩:=az h3
    obtain⟨h7,h8⟩:=az h4
    have e:y="range":=ZI h1
    subst e
    refine La ((a.sound A l1 h7 hw).mono λ d S1 q=>(b.sound A l2 h8 q).mono λ d' S2 q=>?_) (by rw[A.g];exact hm) (A.glb h2) (by rw[aF h5,aF h6];rfl) (aF h6 [] _)
    cases d<;>first | exact q.elim | (cases d'<;>first | exact⟨_,_,rfl,rfl,q.1,q.2⟩ | exact q.elim)
set_option genInjectivity false in
structure Cd(Ω:Wd) where
 lev:Nat
 chk:Bool->%[|1]->Nm->List Expr->Bool
 wp:Gam->Store->(Bool->%[|5])->Prop
 sound:∀{X:Cx}{r:Nat}{top:Bool}{N:%[|1]}{nm:Nm}{es:List Expr}{Γ:Gam}{S:Store}{W:Bool->%[|5]},At Ω X r top N nm->lev≤r->chk top N nm es=true->wp Γ S W->TsA X Γ S es W
def Cd.no:Cd Ω where
 lev:=0
 chk _ _ _ es:=match es with | []=>true | _=>false
 wp _ S W:=W true S
 sound:=by
  intro X r top N nm es Γ S W A hl hc hw
  match es,hc with
  | [],_=>exact hw
  | _::_,hc=>exact fE hc
@[irreducible] noncomputable def sZ(cap:List (Option Nat))(Γ:Gam)(elt:Ex Ω)(tg:Tg)(cd:Cd Ω)(W:WD)(ds:List D)(C0:%[|5])(S1:Store):Prop:=
  ds.length≤1000000/\∃Pv:Nat->List D->%[|5],Pv 0 [] S1/\(∀i acc S',Pv i acc S'->C0 S')/\
   (∀i d acc S',ds[i]? =some d->Pv i acc S'->tg.wp d (capt cap Γ) λ Γ2=>cd.wp Γ2 S' λ ok S3=>(ok=true->elt.wp Γ2 S3 λ y S4=>Pv (i+1) (acc++[y]) S4)/\(ok=false->Pv (i+1) acc S3))/\
   ∀acc S',Pv ds.length acc S'->W (.lst acc) S'∨W (.loc S'.length) (S'++[acc])
abbrev pM(cap:List (Option Nat))(Γ:Gam)(elt:Ex Ω)(tg:Tg)(cd:Cd Ω)(W:WD)(ds:List D)(S1:Store):Prop:=sZ cap Γ elt tg cd W ds (λ _=>True) S1
theorem Mq{cap:List (Option Nat)}{elt:Ex Ω}{tg:Tg}{cd:Cd Ω}{W:WD}{ds:List D}{C0:%[|5]}{S1:Store}(h:ds.length≤1000000/\∃Pv:Nat->List D->%[|5],Pv 0 [] S1/\(∀i acc S',Pv i acc S'->C0 S')/\
 (∀i d acc S',ds[i]? =some d->Pv i acc S'->tg.wp d (capt cap Γ) λ Γ2=>cd.wp Γ2 S' λ ok S3=>(ok=true->elt.wp Γ2 S3 λ y S4=>Pv (i+1) (acc++[y]) S4)/\(ok=false->Pv (i+1) acc S3))/\
 ∀acc S',Pv ds.length acc S'->W (.lst acc) S'∨W (.loc S'.length) (S'++[acc])):sZ cap Γ elt tg cd W ds C0 S1:=by unfold sZ;exact h
theorem gU{cap:List (Option Nat)}{elt:Ex Ω}{tg:Tg}{cd:Cd Ω}{W:WD}{ds:List D}{S1:Store}(h:ds.length≤1000000/\∃Pv:Nat->List D->%[|5],Pv 0 [] S1/\
 (∀i d acc S',ds[i]? =some d->Pv i acc S'->tg.wp d (capt cap Γ) λ Γ2=>cd.wp Γ2 S' λ ok S3=>(ok=true->elt.wp Γ2 S3 λ y S4=>Pv (i+1) (acc++[y]) S4)/\(ok=false->Pv (i+1) acc S3))/\
 ∀acc S',Pv ds.length acc S'->W (.lst acc) S'):pM cap Γ elt tg cd W ds S1:=by
 obtain⟨hz,Pv,p0,pt,pe⟩:=h
 exact Mq ⟨hz,Pv,p0,λ _ _ _ _=>trivial,pt,λ acc S' q=>.inl (pe acc S' q)⟩
def pD(N':%[|1])(cap:List (Option Nat))(elt:Ex Ω)(tg:Tg)(it:Itb Ω)(cd:Cd Ω)(top:Bool)(N:%[|1])(nm:Nm)(e:Expr):Bool:=match e with
 | .ListComp x [⟨t,i,cs,0⟩] sc _=>(sc.kind==.function)&&(zy sc.names&&(freeOk nm sc.names&&((sc.names.all λ y=>!(y.2==.local)||(sc.names.lookup y.1==some .local))&&(bh N nm N' sc.names cap N'&&
  (okE i&&((tg.slots.all λ j=>cap[j]? ==some none)&&(decide N'.Nodup&&(it.chk top N nm t i&&(tg.chk false N' sc.names t&&(cd.chk false N' sc.names cs&&elt.chk false N' sc.names x))))))))))
 | _=>false
section
variable {X : Cx} {r : Nat} {top : Bool} {N : %[|1]} {nm : Nm}
theorem vZ(A:At Ω X r top N nm){x:Str}(h:nm.lookup x=some .cell∨nm.lookup x=some .free):X.env.scope.names.lookup x=some .cell∨X.env.scope.names.lookup x=some .free:=by
 rcases h with h | h
 . rcases A.look x _ h with q | ⟨q,_⟩
   . exact .inl q
   . exact nomatch q
 . rcases A.look x _ h with q | ⟨_,q⟩
   . exact .inr q
   . exact .inl q
theorem v9(A:At Ω X r top N nm){names:Nm}(h:freeOk nm names=true):freeOk X.env.scope.names names=true:=by
 unfold freeOk
 refine List.all_eq_true.mpr λ y hy=>?_
 by_cases e:y.2=.free
 . have:=vZ A (n8 h y hy e)
   rcases this with q | q<;>simp[q]
 . simp[e]
theorem lJ(A:At Ω X r top N nm){N':%[|1]}{names':Nm}:∀{cap:List (Option Nat)}{t:%[|1]},bh N nm N' names' cap t=true->bh X.N X.env.scope.names N' names' cap t=true
 | [],[],_=>rfl
 | [],_::_,h=>by simp[bh]at h
 | none::_,[],h=>by simp[bh]at h
 | some _::_,[],h=>by simp[bh]at h
 | none::r,_::t,h=>by simp only[bh]at h ⊢;exact lJ A h
 | some j::r,x::t,h=>by
   simp only[bh,Bool.and_eq_true,Bool.or_eq_true,beq_iff_eq]at h ⊢
   exact⟨⟨⟨by rw[A.n];exact h.1.1.1,vZ A h.1.1.2⟩,h.1.2⟩,lJ A h.2⟩
theorem Tr(A:At Ω X r top N nm){sc:Scope}{N':%[|1]}{C:Addr}{s:Shared}{H:Hp}{ex:List Addr}{cl:List (Str×Addr)}(hk:sc.kind=.function)(nd:N'.Nodup):At Ω (f9 X sc N' C s H ex cl) r false N' sc.names where
 cd:=λ h=>nomatch h
 p:=A.p
 w:=A.w
 k:=A.k
 g:=A.g
 b:=A.b
 room:=A.room
 xe:=A.xe
 calm:=A.calm
 n:=rfl
 nd:=nd
 kind:=hk
 look:=by
  intro x k h
  show(relabel sc X.env).names.lookup x=some k∨_
  rw[lW,fG,h]
  rcases su X.env x k with q | ⟨q1,q2⟩
  . exact .inl (congrArg some q)
  . refine .inr ⟨q1,?_⟩
    show(relabel sc X.env).names.lookup x=some .cell
    rw[lW,fG,h]
    exact congrArg some q2
 fn:=λ x h=>by show(sc.names.lookup x==some .cell)=true;rw[h];rfl
theorem ul(A:At Ω X r top N nm){sc:Scope}{N':%[|1]}{cap:List (Option Nat)}{elt:Ex Ω}{tg:Tg}{cd:Cd Ω}{x t:Expr}{cs:List Expr}{Γ:Gam}{W:WD}{ds:List D}{C0:%[|5]}{S1:Store}(le:elt.lev≤r)(lc:cd.lev≤r)(hk:sc.kind=.function)(nd:N'.Nodup)(hs:(tg.slots.all λ j=>cap[j]? ==some none)=true)
 (ht:tg.chk false N' sc.names t=true)(hcd:cd.chk false N' sc.names cs=true)(he:elt.chk false N' sc.names x=true)(h:sZ cap Γ elt tg cd W ds C0 S1):yq X sc N' cap Γ x t cs W ds C0 S1:=by
 unfold sZ at h
 obtain⟨hz,Pv,p0,pC,pt,pe⟩:=h
 refine⟨hz,Pv,p0,pC,λ i d acc S' hd hp C s H ex cl=>?_,pe⟩
 have B:=Tr A (C:=C) (s:=s) (H:=H) (ex:=ex) (cl:=cl) hk nd
 have sl:∀j∈tg.slots,(capt cap Γ)[j]? =some none:=λ j hj=>Lx (by
  have:=List.all_eq_true.mp hs j hj
  exact ZI this)
 have base:=pt i d acc S' hd hp
 have go:∀Γ2,(cd.wp Γ2 S' λ ok S3=>(ok=true->elt.wp Γ2 S3 λ y S4=>Pv (i+1) (acc++[y]) S4)/\(ok=false->Pv (i+1) acc S3))->
  TsA (f9 X sc N' C s H ex cl) Γ2 S' cs λ ok S3=>(ok=true->Ev (f9 X sc N' C s H ex cl) Γ2 S3 x λ y S4=>Pv (i+1) (acc++[y]) S4)/\(ok=false->Pv (i+1) acc S3):=by
  intro Γ2 q
  have:=cd.sound B lc hcd q
  match cs,this with
  | [],this=>exact⟨λ hk=>elt.sound B le he (this.1 hk),this.2⟩
  | [c],this=>exact Ts.mono this λ ok S3 z=>⟨λ hk=>elt.sound B le he (z.1 hk),z.2⟩
  | _::_::_,this=>exact this.elim
 refine Tg.sound B (W:=λ Γ2 S2=>Sub (capt cap Γ) Γ2/\TsA (f9 X sc N' C s H ex cl) Γ2 S2 cs λ ok S3=>(ok=true->Ev (f9 X sc N' C s H ex cl) Γ2 S3 x λ y S4=>Pv (i+1) (acc++[y]) S4)/\(ok=false->Pv (i+1) acc S3)) ht ?_
 cases tg with
 | nm j=>exact⟨(Sub.refl _).set j _ (sl j (by simp[Tg.slots])),go _ base⟩
 | tup is=>
   cases d with
   | tup es=>exact⟨base.1,Sub.setAll (Sub.refl _) sl,go _ base.2⟩
   | _=>exact base.elim
end
def Ex.comp(N':%[|1])(cap:List (Option Nat))(elt:Ex Ω)(tg:Tg)(it:Itb Ω)(cd:Cd Ω):Ex Ω where
 lev:=max elt.lev (max it.lev cd.lev)
 chk top N nm e:=pD N' cap elt tg it cd top N nm e
 wp Γ S W:=it.wp Γ S λ ds S1=>pM cap Γ elt tg cd W ds S1
 sound:=by
  sleep 1
  obtain⟨l1,l2⟩:=lv2 hl
  obtain⟨l2,l3⟩:=lv2 l2
  unfold pD at hc
  split at hc
  . rename_i x t i cs sc pos
    obtain⟨h1,h2,h3,h4,h5,h6,hc⟩:=oZ hc
    obtain⟨h7,h8,h9,h10,h11,h12⟩:=iM hc
    have hk:sc.kind=.function:=ZI h1
    refine Rc N' cap (ItW.toC (ItW.mono (it.sound A l2 h9 hw) λ ds S1 q=>ul A l1 l3 hk (ZF h8) h7 h10 h11 h12 q)) A.xe A.calm hk h2 (v9 A h3) (λ y hy e=>?_) (lJ A h5) (pB h6 _)
    . have:=List.all_eq_true.mp h4 y hy
      simpa[e]using this
  . exact fE hc
end RF
namespace RF
open PySem PySem.Spec L2 DL
open PyProof.Rows
variable {Ω : Wd}
theorem wj{e:Expr}(h:noC e=true)(t:Expr)(l:Nat)(env:Env):swapsWithSole [t] e l env=pure false:=by
 unfold swapsWithSole
 exact lq h (some t) l env
set_option genInjectivity false in
structure Sm(Ω:Wd) where
 lev:Nat
 chk:Bool->%[|1]->Nm->Stmt->Bool
 wp:Gam->Store->DL.Fin->Prop
 sound:∀{X:Cx}{r:Nat}{top:Bool}{N:%[|1]}{nm:Nm}{st:Stmt}{Γ:Gam}{S:Store}{W:DL.Fin},At Ω X r top N nm->lev≤r->chk top N nm st=true->wp Γ S W->Rn X Γ S st W
set_option genInjectivity false in
structure Bl(Ω:Wd) where
 lev:Nat
 chk:Bool->%[|1]->Nm->List Stmt->Bool
 wp:Gam->Store->DL.Fin->Prop
 sound:∀{X:Cx}{r:Nat}{top:Bool}{N:%[|1]}{nm:Nm}{sts:List Stmt}{Γ:Gam}{S:Store}{W:DL.Fin},At Ω X r top N nm->lev≤r->chk top N nm sts=true->wp Γ S W->Rns X Γ S sts W
def Bl.nil:Bl Ω where
 lev:=0
 chk _ _ _ sts:=match sts with | []=>true | _=>false
 wp Γ S W:=W.nx Γ S
 sound:=by
  intro X r top N nm sts Γ S W A hl hc hw
  match sts,hc with
  | [],_=>exact S9 hw
  | _::_,hc=>exact fE hc
def Bl.cons(s:Sm Ω)(b:Bl Ω):Bl Ω where
 lev:=max s.lev b.lev
 chk top N nm sts:=match sts with | st::sts=>s.chk top N nm st&&b.chk top N nm sts | _=>false
 wp Γ S W:=s.wp Γ S {W with nx:=λ Γ1 S1=>b.wp Γ1 S1 W}
 sound:=by
  intro X r top N nm sts Γ S W A hl hc hw
  obtain⟨l1,l2⟩:=lv2 hl
  match sts,hc with
  | st::sts,hc=>
    obtain⟨h1,h2⟩:=az hc
    exact Gi (Rn.mono (s.sound A l1 h1 hw) (λ G S1 q=>b.sound A l2 h2 q) (λ _ _ q=>q) (λ _ _ q=>q) λ _ _ q=>q)
  | [],hc=>exact fE hc
def Sm.ret(a:Ex Ω):Sm Ω where
 lev:=a.lev
 chk top N nm st:=match st with | .Return (some e) _=>a.chk top N nm e | _=>false
 wp Γ S W:=a.wp Γ S W.rt
 sound:=by
  intro X r top N nm st Γ S W A hl hc hw
  cases st with
  | Return o pos=>
    cases o with
    | some e=>exact Ww (a.sound A hl hc hw)
    | none=>exact fE hc
  | _=>exact fE hc
def Sm.expr(a:Ex Ω):Sm Ω where
 lev:=a.lev
 chk top N nm st:=match st with | .Expr e _=>noC e&&a.chk top N nm e | _=>false
 wp Γ S W:=a.wp Γ S λ _ S1=>W.nx Γ S1
 sound:=by
  intro X r top N nm st Γ S W A hl hc hw
  cases st with
  | Expr e pos=>
    obtain⟨h1,h2⟩:=az hc
    exact T9 (a.sound A hl h2 hw) (lq h1 _ _ _)
  | _=>exact fE hc
def Sm.ite(c:Te Ω)(a b:Bl Ω):Sm Ω where
 lev:=max c.lev (max a.lev b.lev)
 chk top N nm st:=match st with | .If t xs ys _=>c.chk top N nm t&&(a.chk top N nm xs&&b.chk top N nm ys) | _=>false
 wp Γ S W:=c.wp Γ S λ k S1=>(k=true->a.wp Γ S1 W)/\(k=false->b.wp Γ S1 W)
 sound:=by
  intro X r top N nm st Γ S W A hl hc hw
  obtain⟨l1,l2⟩:=lv2 hl
  obtain⟨l2,l3⟩:=lv2 l2
  cases st with
  | If t xs ys pos=>
    obtain⟨h1,h2,h3⟩:=bV hc
    exact Xn (Ts.mono (c.sound A l1 h1 hw) λ k S1 q=>⟨λ hk=>a.sound A l2 h2 (q.1 hk),λ hk=>b.sound A l3 h3 (q.2 hk)⟩)
  | _=>exact fE hc
def Sm.set(i:Nat)(a:Ex Ω):Sm Ω where
 lev:=a.lev
 chk top N nm st:=setB st λ x e=>(N[i]? ==some x)&&(lcl top nm x&&(noC e&&a.chk top N nm e))
 wp Γ S W:=a.wp Γ S λ d S1=>W.nx (Γ.set i (some d)) S1
 sound:=by
  intro X r top N nm st Γ S W A hl hc hw
  obtain⟨x,xp,e,sp,rfl,hc_1⟩:=vg hc
  have hc:=hc_1
  . obtain⟨h1,h2,h3,h4⟩:=cA hc
    obtain⟨l1,l2⟩:=A.lcl h2
    exact Qg i (a.sound A hl h4 hw) (by rw[A.n];exact A.nd) (by rw[A.n];exact ZI h1) l1 (lq h3 _ _ _) l2
def Sm.setC(i:Nat)(N':%[|1])(cap:List (Option Nat))(elt:Ex Ω)(tg:Tg)(it:Itb Ω)(cd:Cd Ω):Sm Ω where
 lev:=max elt.lev (max it.lev cd.lev)
 chk top N nm st:=match st with | .Assign [.Name x p] e _=>(N[i]? ==some x)&&(lcl top nm x&&(top&&(pD N' cap elt tg it cd top N nm e))) | _=>false
 wp Γ S W:=it.wp Γ S λ ds S1=>pM cap Γ elt tg cd (λ d S2=>W.nx (Γ.set i (some d)) S2) ds S1
 sound := by
  intro X r top N nm st Γ S W A hl hc hw
  split at hc
  . rename_i x p e spos
    obtain⟨k1,k2,k0,hcomp⟩:=cA hc
    obtain⟨l1,l2⟩:=A.lcl k2
    have hN:X.N[i]? =some x:=by rw[A.n];exact ZI k1
    have nd:X.N.Nodup:=by rw[A.n];exact A.nd
    have hc2:=hcomp
    obtain⟨le,l3⟩:=lv2 hl
    obtain⟨li,lc⟩:=lv2 l3
    unfold pD at hc2
    split at hc2
    . rename_i x' t i' cs sc pos
      obtain⟨h1,h2,h3,h4,h5,h6,hc⟩:=oZ hc2
      obtain⟨h7,h8,h9,h10,h11,h12⟩:=iM hc
      have hk:sc.kind=.function:=ZI h1
      by_cases hb:(X.env.blockKind==.function&&X.env.kindOf x==some .local&&p.line==(Expr.ListComp x' [⟨t,i',cs,0⟩] sc pos).pos.line&& !(sc.names.any λ(n,k)=>n==x&&(k==.local||k==.cell)))=true
      . refine KQ i N' cap (ItW.toC (ItW.mono (it.sound A li h9 hw) λ ds S1 q=>ul A le lc hk (ZF h8) h7 h10 h11 h12 q)) nd hN l1 ?_ l2 A.xe A.calm hk h2 (v9 A h3) (λ y hy e=>?_) (lJ A h5) (pB h6 _)
        . show(pure (X.env.blockKind==.function&&X.env.kindOf x==some .local&&p.line==(Expr.ListComp x' [⟨t,i',cs,0⟩] sc pos).pos.line&& !(sc.names.any λ(n,k)=>n==x&&(k==.local||k==.cell))):Sem Bool)=pure true
          rw[hb]
        . have:=List.all_eq_true.mp h4 y hy
          simpa[e]using this
      . have hb:_=false:=Bool.eq_false_iff.mpr hb
        refine Qg i ((Ex.comp N' cap elt tg it cd).sound A hl hcomp hw) nd hN l1 ?_ l2
        show(pure (X.env.blockKind==.function&&X.env.kindOf x==some .local&&p.line==(Expr.ListComp x' [⟨t,i',cs,0⟩] sc pos).pos.line&& !(sc.names.any λ(n,k)=>n==x&&(k==.local||k==.cell))):Sem Bool)=pure false
        rw[hb]
    . exact(y7 hc2).elim
  . exact fE hc
def Sm.setIx(o i a:Ex Ω):Sm Ω where
 lev:=max a.lev (max o.lev i.lev)
 chk top N nm st:=match st with | .Assign [.Subscript x y _] e _=>noC e&&(okE y&&(a.chk top N nm e&&(o.chk top N nm x&&i.chk top N nm y))) | _=>false
 wp Γ S W:=a.wp Γ S λ d S1=>o.wp Γ S1 λ x S2=>i.wp Γ S2 λ y S3=>match x,y with | .loc k,.int n=>∃ds j,S3[k]? =some ds/\ixN ds.length n=some j/\W.nx Γ (S3.set k (ds.set j d)) | _,_=>False
 sound:=by
  intro X r top N nm st Γ S W A hl hc hw
  obtain⟨l1,l2⟩:=lv2 hl
  obtain⟨l2,l3⟩:=lv2 l2
  split at hc
  . rename_i x y p e spos
    obtain⟨h1,h2,h3,h4,h5⟩:=Hm hc
    refine Ry ((a.sound A l1 h3 hw).mono λ d S1 q=>(o.sound A l2 h4 q).mono λ x S2 q=>(i.sound A l3 h5 q).mono λ y S3 q=>?_) ?_ (wj h1 _ _ _) ?_ rfl
    . cases x<;>first | exact q.elim | (cases y<;>first | exact q.elim | (obtain⟨ds,j,a,b,c⟩:=q;exact⟨_,_,ds,j,rfl,rfl,a,b,c⟩))
    . intro v
      cases y<;>first | rfl | exact(y7 h2).elim
    . rfl
  . exact fE hc
theorem Ny{X:Cx}{Γ:Gam}{S:Store}{tg e:Expr}{pos:Pos}{W:DL.Fin}(h:Ev X Γ S e λ d S1=>BdW X tg d Γ S1 W.nx)(hs:swapsWithSole [tg] e pos.line X.env=pure false)(hw:swappedStores [tg] e X.env=pure none)(h1:(assignEach [tg] X.env).map (·.2)=[assign tg X.env]):Rn X Γ S (.Assign [tg] e pos) W:=by
 intro pins s σ H O I env ok
 refine wpAny_Assign_stores (thn (h pins s σ H O I env ok) λ u s1 hq_=>?_) hs hw
 obtain⟨v,H1,I1,r1,O1,d,S1,w1,st1,ok1,rep1⟩:=hq_
 rw[h1]
 show wpAny _ _ (assign tg X.env u) _ _ _
 refine thn (w1 pins s1 σ H1 O1 v u I1 (env.mono st1) ok1 rep1 r1) λ _ s2 ⟨σ',H',I',q⟩=>⟨σ',H',I',QN.pre st1 q⟩
def Wm:Expr->Bool
 | .Tuple .. =>false
 | e=>noC e
def Sm.unpack(t:List Nat)(a:Ex Ω):Sm Ω where
 lev:=a.lev
 chk top N nm st:=match st with | .Assign [.Tuple es k p] e _=>Wm e&&((Tg.tup t).chk top N nm (.Tuple es k p)&&a.chk top N nm e) | _=>false
 wp Γ S W:=a.wp Γ S λ d S1=>(Tg.tup t).wp d Γ λ Γ1=>W.nx Γ1 S1
 sound:=by
  intro X r top N nm st Γ S W A hl hc hw
  split at hc
  . rename_i es k p e spos
    obtain⟨h1,h2,h3⟩:=bV hc
    have hnc:noC e=true:=by cases e<;>first | rfl | exact(y7 h1).elim
    refine Ny ((a.sound A hl h3 hw).mono λ d S1 q=>Tg.sound A (W:=W.nx) h2 q) (wj hnc _ _ _) ?_ rfl
    cases e<;>first | rfl | exact(y7 h1).elim
  . exact fE hc
@[irreducible] noncomputable def jE(Γ:Gam)(tg:Tg)(body:Bl Ω)(W:DL.Fin)(ds:List D)(S1:Store):Prop:=
  ∃Pv:Nat->Gam->%[|5],Pv 0 Γ S1/\(∀i d Γ' S',ds[i]? =some d->Pv i Γ' S'->tg.wp d Γ' λ Γ2=>body.wp Γ2 S' {W with nx:=Pv (i+1),ct:=Pv (i+1),bk:=W.nx})/\(∀Γ' S',Pv ds.length Γ' S'->W.nx Γ' S')
theorem aN{Γ:Gam}{tg:Tg}{body:Bl Ω}{W:DL.Fin}{ds:List D}{S1:Store}(h:∃Pv:Nat->Gam->%[|5],Pv 0 Γ S1/\(∀i d Γ' S',ds[i]? =some d->Pv i Γ' S'->tg.wp d Γ' λ Γ2=>body.wp Γ2 S' {W with nx:=Pv (i+1),ct:=Pv (i+1),bk:=W.nx})/\(∀Γ' S',Pv ds.length Γ' S'->W.nx Γ' S')):jE Γ tg body W ds S1:=by unfold jE;exact h
def Sm.for(tg:Tg)(it:Itb Ω)(body:Bl Ω):Sm Ω where
 lev:=max it.lev body.lev
 chk top N nm st:=match st with | .For t i b [] _=>okE i&&(tg.chk top N nm t&&(it.chk top N nm t i&&body.chk top N nm b)) | _=>false
 wp Γ S W:=it.wp Γ S λ ds S1=>jE Γ tg body W ds S1
 sound:=by
  intro X r top N nm st Γ S W A hl hc hw
  obtain⟨l1,l2⟩:=lv2 hl
  split at hc
  . rename_i t i b pos
    obtain⟨h1,h2,h3,h4⟩:=cA hc
    refine V0 (ItW.mono (it.sound A l1 h3 hw) λ ds S1 q=>?_) (by rw[A.xe];exact PassesOwn.never) A.calm (pB h1 _)
    unfold jE at q
    obtain⟨Pv,p0,pt,pe⟩:=q
    refine⟨Pv,p0,λ i d Γ' S' hd hp=>BdW.mono (Tg.sound A (W:=λ Γ2 S2=>body.wp Γ2 S2 {W with nx:=Pv (i+1),ct:=Pv (i+1),bk:=W.nx}) h2 (pt i d Γ' S' hd hp)) λ Γ2 S2 q=>body.sound A l2 h4 q,pe⟩
  . exact fE hc
def WN(N ps:%[|1])(sm:Stmt)(k:Nat)(body:Bl Ω):Bool:=
 ((aq sm).kind==.function)&&(!(aq sm).isCoroutine&&(!(aq sm).isGenerator&&(decide N.Nodup&&(decide (N.take ps.length=ps)&&((ps.all λ x=>(aq sm).names.lookup x==some .local||(aq sm).names.lookup x==some .cell)&&
   (((aq sm).names.all λ y=>!(y.2==.free))&&(Nat.ble body.lev k&&body.chk true N (aq sm).names (bM sm))))))))
theorem aA(N0:Ω.cd=none){x qual:Str}{sm:Stmt}{f:Addr}{fd:FuncData}{N ps:%[|1]}{k:Nat}{F:Ct}(FF:Fun Ω.K x qual sm f fd)(body:Bl Ω)(hc:WN N ps sm k body=true)
 (vc:∀(ds:List D)(S:Store)(W:WD),F ds S W->ds.length=ps.length->body.wp (ds.map some++List.replicate (N.length-ds.length) none) S %[|25]):FnOk Ω.P Ω.w Ω.K Ω.mg Ω.base CX0 (k+1) f fd ps (spC Ω.K ps.length F):=by
 obtain⟨h1,h2,h3,h4,h5,h6,hc⟩:=oZ hc
 obtain⟨h7,h8,h9⟩:=bV hc
 have nd:N.Nodup:=ZF h4
 have sc:FnScope N ps (aq sm):=⟨ZI h1,nt h2,nt h3,nd,ZF h5,λ x hx=>by
  have:=List.all_eq_true.mp h6 x hx
  simpa using this,λ y hy e=>by
  have:=List.all_eq_true.mp h7 y hy
  simp[e]at this⟩
 refine Qh FF sc λ cdv A outer s H E ds S W _ hr hl h=>?_
 refine body.sound (r:=k) (top:=true) (N:=N) (nm:=(aq sm).names) ⟨rfl,rfl,rfl,rfl,rfl,hr,rfl,rfl,rfl,nd,sc.kind,λ x kk h=>.inl h,λ _ _=>rfl,λ _ p q=>nomatch (N0.symm.trans q)⟩ (Nat.le_of_ble_eq_true h8) h9 (vc ds S W h hl)
theorem callee{x qual:Str}{sm:Stmt}{f:Addr}{fd:FuncData}{ps:%[|1]}{k n:Nat}{F:Ct}(FF:Fun Ω.K x qual sm f fd)(h:FnOk Ω.P Ω.w Ω.K Ω.mg Ω.base CX0 k f fd ps (spC Ω.K n F))(hm:Ω.mg x=some (.ref f))(b:Binds Ω.K fd ps []):Callee Ω.P Ω.w Ω.K Ω.mg Ω.base x k n F:=⟨f,fd,ps,h,hm,FF.kp,b⟩
end RF
namespace RF
open PySem PySem.Spec L2 DL
open PyProof.Rows
def bc:Bf where
 x:="len"
 id:="len"
 boot:=%[|14]
 wp ds S W:=match ds with
  | [.tup ds]=>W (.int ds.length) S
  | [.lst ds]=>W (.int ds.length) S
  | [.loc k]=>∃ds,S[k]? =some ds/\W (.int ds.length) S
  | _=>False
 sound:=by
  intro X ds S W hc hr h
  split at h
  . exact VJ h
  . exact Uk h
  . obtain⟨ds,h1,h2⟩:=h;exact VR h1 h2
  . exact h.elim
def eU:Bf where
 x:="all"
 id:="all"
 boot:=%[|14]
 wp ds S W:=match ds with
  | [.lst ds]=>∃bs:List Bool,ds=bs.map .bl/\W (.bl (bs.all id)) S
  | _=>False
 sound:=by
  intro X ds S W hc hr h
  split at h
  . obtain⟨bs,rfl,h⟩:=h;exact k_all h hc
  . exact h.elim
def Xv:Bf where
 x:="abs"
 id:="abs"
 boot:=%[|14]
 wp ds S W:=match ds with
  | [.int i]=>W (.int (if i<0 then-i else i)) S
  | _=>False
 sound:=by
  intro X ds S W hc hr h
  split at h
  . refine bJ M5 λ O H vs st r=>?_
    obtain⟨v,rfl,r'⟩:=cF r
    cases r'
    exact⟨_,rfl,QG.here h st (.int _)⟩
  . exact h.elim
theorem Qa{K:PySem.W.Frag}{O:Own}{H:Hp}{vs:List V}{d e:D}(r:Reps K O H vs [d,e]):∃v w,vs=[v,w]/\Rep K O H v d/\Rep K O H w e:=by
 cases r with
 | cons a t=>
   cases t with
   | cons b t=>cases t;exact⟨_,_,rfl,a,b⟩
def XS:Bf where
 x:="min"
 id:="min"
 boot:=%[|14]
 wp ds S W:=match ds with
  | [.int i,.int j]=>W (.int (if j<i then j else i)) S
  | _=>False
 sound:=by
  intro X ds S W hc hr h
  split at h
  . refine bJ (Jv hc) λ O H vs st r=>?_
    obtain⟨v,w,rfl,r1,r2⟩:=Qa r
    cases r1
    cases r2
    exact⟨_,_,rfl,QG.here h st (.int _)⟩
  . exact h.elim
def Xr:Bf where
 x:="max"
 id:="max"
 boot:=%[|14]
 wp ds S W:=match ds with
  | [.int i,.int j]=>W (.int (if j>i then j else i)) S
  | _=>False
 sound:=by
  intro X ds S W hc hr h
  split at h
  . refine bJ (KR hc) λ O H vs st r=>?_
    obtain⟨v,w,rfl,r1,r2⟩:=Qa r
    cases r1
    cases r2
    exact⟨_,_,rfl,QG.here h st (.int _)⟩
  . exact h.elim
def bA:Bc where
 x:="tuple"
 id:="tuple"
 boot:=%[|14]
 wp ds S W:=match ds with
  | [.lst ds]=>W (.tup ds) S
  | [.loc k]=>∃ds,S[k]? =some ds/\W (.tup ds) S
  | _=>False
 sound:=by
  intro X ds S W hc hr h
  split at h
  . exact Vf h
  . obtain⟨ds,h1,h2⟩:=h;exact Vl h1 h2
  . exact h.elim
def V8:Bc where
 x:="list"
 id:="list"
 boot:=%[|14]
 wp ds S W:=match ds with
  | [.tup ds]=>W (.lst ds) S
  | [.lst ds]=>W (.lst ds) S
  | _=>False
 sound:=by
  intro X ds S W hc hr h
  split at h
  . exact Vg h
  . exact Vv h
  . exact h.elim
def Xz:Bc where
 x:="int"
 id:="int"
 boot:=%[|14]
 wp ds S W:=match ds with
  | [.int i]=>W (.int i) S
  | [.bl k]=>W (.int (if k then 1 else 0)) S
  | _=>False
 sound:=by
  intro X ds S W hc hr h
  split at h
  . refine bJ oY λ O H vs st r=>?_
    obtain⟨v,rfl,r'⟩:=cF r
    cases r'
    exact .inl ⟨_,rfl,QG.here h st (.int _)⟩
  . refine bJ oY λ O H vs st r=>?_
    obtain⟨v,rfl,r'⟩:=cF r
    cases r'
    exact .inr ⟨_,rfl,QG.here h st (.int _)⟩
  . exact h.elim
section
variable {X : Cx} {Γ : Gam} {S : Store} {e : Expr} {pos : Pos}
theorem Q8{elts:List Expr}{k:Nat}{tp p:Pos}{W:List D->%[|5]}(h:Ev X Γ S e λ d S1=>match d with | .lst ds=>W (ds.mapIdx λ i d=>.tup [.int i,d]) S1 | .tup ds=>W (ds.mapIdx λ i d=>.tup [.int i,d]) S1 | _=>False)(hm:X.mg "enumerate"=none)(hg:Gl X "enumerate")(hs:starEach [e] X.env=[(false,eval e X.env)]):
 ItW X Γ S (.Tuple elts k tp) (.Call (.Name "enumerate" p) [e] [] pos) W:=by
 sleep 0
 refine Call_ (cB I hg hm boot_enumerate (PyProof.Rows.callWith_type1 (thn (bL h.pe fH hs pos pins s σ H (λ vs H'=>∃v,vs=[v]/\QG X.K O H (λ d S1=>match d with | .lst ds=>W (ds.mapIdx λ i d=>.tup [.int i,d]) S1 | .tup ds=>W (ds.mapIdx λ i d=>.tup [.int i,d]) S1 | _=>False) v H') I ⟨O,env,st,λ v H' q=>⟨v,rfl,q⟩⟩) λ us s1 hq_=>?_) hs rfl))
 obtain⟨vs,H1,I1,r1,v,ev,O1,d,S1,w,st1,ok1,rep⟩:=hq_
 subst ev
 obtain⟨u,rfl,ru⟩:=vals1 r1
 cases rep with
 | @lst a xs ds h1 q1=>
   cases ru
   obtain⟨its,rv,pl,hz⟩:=I1.list h1.sq
   refine call_enumerate_list pl.isList λ h' he hi _ kp=>Gs (W9 X.prog X.w X.K) I1 he hi kp ⟨O1,_,S1,w,st1,ok1,qF _ λ O' H' cv=>⟨xs,(h1.conv cv).sq,q1.conv cv⟩⟩
 | @tup a xs ds h1 q1=>
   cases ru
   obtain⟨its,rv,pl,hz⟩:=I1.tuple h1.sq
   obtain⟨⟨c,dct,dt,sl⟩,hl,hc,n,hd⟩:=pl
   replace hc:c=.type "tuple":=hc
   replace hd:dt=.seq its.toArray n:=hd
   subst hc hd
   refine callType_new F.called_enumerate %[|2] (F.typeCall_enumerate_1 _) (F.newCall_enumerate_1 _) (λ obj=>F.args_object_init_2 obj _) F.entry_enumerate_new (Ks a its.toArray n dct sl) ⟨hl,?_⟩
   have hz:(s1.heap.push {cls:=.type "tuple_iterator",data:=.fields #[.ref a,.int 0 0]}).objs.size=s1.heap.objs.size+1:=Heap.size_push ..
   show _/\_
   rw[hz]
   have he:IsEnum ((s1.heap.push {cls:=.type "tuple_iterator",data:=.fields #[.ref a,.int 0 0]}).push {cls:=.type "enumerate",data:=.fields #[.none,.bool false,.ref s1.heap.objs.size,rawInt 0,.none,.none]}) (s1.heap.objs.size+1) s1.heap.objs.size 0 .none:=by
    have:=ZD (s1.heap.push {cls:=.type "tuple_iterator",data:=.fields #[.ref a,.int 0 0]}) (o:={cls:=.type "enumerate",data:=.fields #[.none,.bool false,.ref s1.heap.objs.size,rawInt 0,.none,.none]}) rfl
    rw[hz]at this
    exact this
   have hi:Heap.IsTupleIter ((s1.heap.push {cls:=.type "tuple_iterator",data:=.fields #[.ref a,.int 0 0]}).push {cls:=.type "enumerate",data:=.fields #[.none,.bool false,.ref s1.heap.objs.size,rawInt 0,.none,.none]}) s1.heap.objs.size a 0:=
    ⟨_,ZC _ %[|19],rfl,rfl⟩
   exact⟨⟨_,he,rfl⟩,Gs (Mu X.prog X.w X.K) I1 he hi (λ b o e=>ZC _ (ZC _ e)) ⟨O1,_,S1,w,st1,ok1,qF _ λ O' H' cv=>⟨xs,(h1.conv cv).sq,q1.conv cv⟩⟩⟩
 | _=>exact w.elim
end
variable {Ω : Wd}
def Itb.enm(hm:Ω.mg "enumerate"=none)(a:Ex Ω):Itb Ω where
 lev:=a.lev
 chk top N nm tg e:=HS tg&&gH e λ y es=>lz es λ b=>(y==("enumerate":Str))&&(glb nm "enumerate"&&(okE b&&a.chk top N nm b))
 wp Γ S W:=a.wp Γ S λ d S1=>match d with | .lst ds=>W (ds.mapIdx λ i d=>.tup [.int i,d]) S1 | .tup ds=>W (ds.mapIdx λ i d=>.tup [.int i,d]) S1 | _=>False
 sound:=by
  intro X r top N nm tg e Γ S W A hl hc hw
  obtain⟨h0,hc_1⟩:=az hc
  obtain⟨ts,k,tp,rfl⟩:=Gw h0
  obtain⟨y,p,es,pos,rfl,hc_2⟩:=cY hc_1
  obtain⟨b,rfl,hc_3⟩:=eF hc_2
  have hc:=hc_3
  . obtain⟨h1,h2,h3,h4⟩:=cA hc
    have e:=ZI h1
    subst e
    exact Q8 (a.sound A hl h4 hw) (by rw[A.g];exact hm) (A.glb h2) (aF h3 [] _)
def Itb.zip(hm:Ω.mg "zip"=none)(a b:Ex Ω):Itb Ω where
 lev:=max a.lev b.lev
 chk top N nm tg e:=HS tg&&gH e λ y es=>two2 es λ l r=>(y==("zip":Str))&&(glb nm "zip"&&((okE l&&okE r)&&(a.chk top N nm l&&b.chk top N nm r)))
 wp Γ S W:=a.wp Γ S λ d S1=>b.wp Γ S1 λ d' S2=>match d,d' with | .tup ds,.tup es=>W (List.zipWith (λ x y=>.tup [x,y]) ds es) S2 | _,_=>False
 sound:=by
  intro X r top N nm tg e Γ S W A hl hc hw
  obtain⟨l1,l2⟩:=lv2 hl
  obtain⟨h0,hc_1⟩:=az hc
  obtain⟨ts,k,tp,rfl⟩:=Gw h0
  obtain⟨y,p,es,pos,rfl,hc_2⟩:=cY hc_1
  obtain⟨l',r',rfl,hc_3⟩:=two2_of hc_2
  have hc:=hc_3
  . obtain⟨h1,h2,h3,h4⟩:=cA hc
    obtain⟨h5,h6⟩:=az h3
    obtain⟨h7,h8⟩:=az h4
    have e:=ZI h1
    subst e
    refine Oi ((a.sound A l1 h7 hw).mono λ d S1 q=>(b.sound A l2 h8 q).mono λ d' S2 q=>?_) (by rw[A.g];exact hm) (A.glb h2) (aF h5 _ _) (aF h6 [] _)
    cases d<;>first | exact q.elim | (cases d'<;>first | exact⟨_,_,rfl,rfl,q⟩ | exact q.elim)
end RF
namespace RF
theorem ff{P:Prop}(h:false=true):P:=(y7 h).elim
theorem tf{P:Prop}(h:true=false):P:=(y7 h.symm).elim
open PySem PySem.Spec L2 DL
open PyProof.Rows
abbrev Cal(Ω:Wd)(x:Str)(k n:Nat)(F:Ct):Prop:=Callee Ω.P Ω.w Ω.K Ω.mg Ω.base x k n F
abbrev Ok(Ω:Wd)(k:Nat)(f:Addr)(fd:FuncData)(ps:%[|1])(F:Ct):Prop:=FnOk Ω.P Ω.w Ω.K Ω.mg Ω.base CX0 k f fd ps (spC Ω.K ps.length F)
def pG:Ct:=λ ds S W=>∃ns,ds=[.lst (List.map .int ns)]/\ns.length≤63/\(∀S',W (.bl true) S')/\S=[]
theorem U0{K:PySem.W.Frag}{H:Hp}{a:Addr}{ns:%[|3]}{E:XK}(hl:ns.length≤63)(hS:SqL K H a (ns.map V.int)):spC K 1 pG [.ref a] H (λ v _=>v=.bl true) E:=by
 refine⟨⟨[],[]⟩,[.lst (ns.map .int)],[],λ d _=>d=.bl true,rfl,.cons (.lst (xs:=ns.map V.int) ?_ (Reps.of_ints ns)) .nil,?_,⟨ns,rfl,hl,λ _=>rfl,rfl⟩,λ v H' q=>?_⟩
 . rcases hS with h | h
   . exact .inl ⟨λ z=>by rcases z with z | z<;>exact absurd (show a∈([]:List Addr)from z) (by simp),h⟩
   . exact .inr (.inr h)
 . exact⟨List.nodup_nil,rfl,λ k a ds e=>by simp at e,λ k a ds e=>by simp at e,λ a h=>absurd (show a∈([]:List Addr)from h) (by simp),λ a h=>absurd (show a∈([]:List Addr)from h) (by simp)⟩
 . obtain⟨O',d,S',w,_,_,r⟩:=q
   subst w
   cases r
   rfl
theorem walk{lev:Nat}{x:Str}{l:PySem.W.OpenLaw}{q:Program}{loose:%[|1]}{XP:%[|15]->Heap->Prop}{YP:World->Heap->Prop}{d:DefRec}{K:Params->PySem.W.Frag}(hn:l.most=some 63)(hdf:d.params.defaults=[])(hr:Room lev callerA)
 (hY:∀(w:World)(h:Heap),YP w h->(K w.params).In h)
 (F:∀(w:World)(mg:%[|15])(fa:Addr)(h:Heap),(K w.params).In h->h.Ns mainGlobals mg->mg d.name=some (.ref fa)->
  ∃fd:FuncData,(∀(s:Shared)(u:Value),BindsTo s fd ⟨[u],[]⟩ [(x,u)])/\∀base:Heap,(K w.params).In base->base.Ns mainGlobals mg->FnOk l.prog w (K w.params) mg base CX0 lev fa fd [x] (spC (K w.params) 1 pG)):
 PySem.W.WalkO q loose XP YP l.row.toRowW d [] (λ f vs=>PySem.call f vs):=
 L2.walk_of (n:=63) (k:=lev) (x:=x) (CX:=λ _=>CX0) (sp:=λ w=>spC (K w.params) 1 pG) hn %[|2] hdf hr hY F (λ _ _ a ns hl _ hS=>U0 hl hS) λ _ _ _ _ _ z=>z
theorem Tg.mono{t:Tg}{d:D}{Γ:Gam}{W W':Gam->Prop}(h:t.wp d Γ W)(k:∀G,W G->W' G):t.wp d Γ W':=by
 cases t with
 | nm i=>exact k _ h
 | tup is=>
   cases d with
   | tup ds=>exact⟨h.1,k _ h.2⟩
   | _=>exact h.elim
section
variable {Ω : Wd} {cap : List (Option Nat)} {Γ : Gam} {elt : Ex Ω} {tg : Tg} {cd : Cd Ω} {W : WD} {ds : List D} {S1 : Store}
theorem cL(f:D->D)(hz:ds.length≤1000000)(h:∀(i:Nat)(d:D),ds[i]? =some d->∀Q:WD,Q (f d) S1->tg.wp d (capt cap Γ) λ Γ2=>elt.wp Γ2 S1 Q)(w:W (.lst (ds.map f)) S1):pM cap Γ elt tg (Cd.no (Ω:=Ω)) W ds S1:=by
 refine gU ⟨hz,λ i acc S'=>acc=(ds.take i).map f/\S'=S1,⟨rfl,rfl⟩,?_,?_⟩
 . rintro i d acc S' hd ⟨rfl,rfl⟩
   refine Tg.mono (h i d hd (λ y S4=>(ds.take i).map f++[y]=(ds.take (i+1)).map f/\S4=S') ⟨?_,rfl⟩) λ G q=>⟨λ _=>q,λ z=>tf z⟩
   rw[aV hd,List.map_append];rfl
 . rintro acc S' ⟨rfl,rfl⟩
   rw[List.take_length];exact w
end
theorem bT{A B:Prop}(h:A):(true=true->A)/\(true=false->B):=⟨λ _=>h,λ z=>tf z⟩
theorem bF{A B:Prop}(h:B):(false=true->A)/\(false=false->B):=⟨λ z=>ff z,λ _=>h⟩
variable {ds : List D} {W : WD} {Γ : Gam} {S : Store} {i : Int}
mutual
theorem dY{K:PySem.W.Frag}{O O':Own}{H:Hp}(h:∀a,¬O.has a->¬O'.has a):∀{v:V}{d:D},au d=true->Rep K O H v d->Rep K O' H v d
 | _,_,_,.non=>.non
 | _,_,_,.bl b=>.bl b
 | _,_,_,.int i=>.int i
 | _,_,_,.str x=>.str x
 | _,_,n,.tup h1 r=>.tup ⟨h _ h1.1,h1.2⟩ (eG h (by simpa[au]using n) r)
 | _,_,n,.lst h1 r=>.lst (h1.imp (λ q=>⟨h _ q.1,q.2⟩) id) (eG h (by simpa[au]using n) r)
 | _,_,n,.loc _=>by simp[au]at n
 | _,_,n,.dlo _ _=>by simp[au]at n
 | _,_,_,.dic h1 e=>.dic (h _ h1) e
theorem eG{K:PySem.W.Frag}{O O':Own}{H:Hp}(h:∀a,¬O.has a->¬O'.has a):∀{vs:List V}{ds:List D},aa ds=true->Reps K O H vs ds->Reps K O' H vs ds
 | _,_,_,.nil=>.nil
 | _,_,n,.cons r t=>by
   simp only[aa,Bool.and_eq_true]at n
   exact .cons (dY h n.1 r) (eG h n.2 t)
end
theorem zZ{K:PySem.W.Frag}{O O':Own}{H:Hp}(h:∀a,¬O.has a->¬O'.has a):∀{vs:List (List Key×V)}{ds:List D},aa ds=true->Kps K O H vs ds->Kps K O' H vs ds
 | _,_,_,.nil=>.nil
 | _,_,n,.cons r t=>by
   simp only[aa,au,Bool.and_eq_true]at n
   exact .cons (dY h n.1.2.1 r) (zZ h n.2 t)
theorem Bm{K:PySem.W.Frag}{O O':Own}{H:Hp}(h:∀a,¬O.has a->¬O'.has a):∀{vs:Cy}{ds:List D},aa ds=true->Kcs K O H vs ds->Kcs K O' H vs ds
 | _,_,_,.nil=>.nil
 | _,_,n,.cons e rk rv r t=>by
   simp only[aa,au,Bool.and_eq_true]at n
   exact .cons e (dY h n.1.1 rk) rv (dY h n.1.2.1 r) (Bm h n.2 t)
theorem Bu{K:PySem.W.Frag}{O O':Own}{H:Hp}(h:∀a,¬O.has a->¬O'.has a):∀{vs:Oy}{ds:List D},aa ds=true->Kos K O H vs ds->Kos K O' H vs ds
 | _,_,_,.nil=>.nil
 | _,_,n,.cons e rv r t=>by
   simp only[aa,au,Bool.and_eq_true]at n
   exact .cons e rv (dY h n.1.2.1 r) (Bu h n.2 t)
theorem Og{K:PySem.W.Frag}{O O':Own}{H:Hp}{a:Addr}(h:∀a,¬O.has a->¬O'.has a)(n:aa ds=true)(b:DOb K O H a ds):DOb K O' H a ds:=by
 cases b with
 | t kvs e r=>exact .t kvs e (zZ h n r)
 | c ys z e r=>exact .c ys z e (Bm h n r)
 | o ys z e r=>exact .o ys z e (Bu h n r)
 | p ps z b l c y q k e hd g=>exact .p ps z b l c y q k e hd (g.imp id λ⟨g1,x,g2,g3,g4⟩=>⟨g1,x,g2,h _ g3,g4⟩)
def flat(S:Store):Prop:=∀l∈S,aa l=true
theorem qZ{A:List (Addr×Bool)}{n:Nat}{a:Addr}(h:a∈adr (A.take n)):a∈adr A:=by
 obtain⟨x,hx,rfl⟩:=ZO.mp h
 exact ZO.mpr ⟨x,List.mem_of_mem_take hx,rfl⟩
theorem qN{K:PySem.W.Frag}{O O':Own}{H H':Hp}{S':Store}{J:List (List D)}(st:Step O O' H H')(ok:StOk K O' H' (S'++J))(hl:O.A.length≤S'.length)(hS:flat S'):
 Step O ⟨O'.A.take S'.length,O'.B⟩ H H'/\StOk K ⟨O'.A.take S'.length,O'.B⟩ H' S'/\(∀b,¬O'.has b->¬(⟨O'.A.take S'.length,O'.B⟩:Own).has b)/\∀j a,S'.length≤j->∀{q:Bool},O'.A[j]? =some (a,q)->¬(⟨O'.A.take S'.length,O'.B⟩:Own).has a:=by
 obtain⟨N,eA,fN⟩:=st.ext
 have len:O'.A.length=S'.length+J.length:=by have:=ok.len;simpa using this
 have sub:∀b,¬O'.has b->¬(⟨O'.A.take S'.length,O'.B⟩:Own).has b:=λ b hb z=>hb (z.imp qZ id)
 have nd:(adr (O'.A.take S'.length)).Nodup:=by
  show(List.map _ (List.take _ _)).Nodup
  rw[List.map_take]
  exact ok.nd.sublist (List.take_sublist _ _)
 refine⟨⟨st.kept,st.dom,⟨N.take (S'.length-O.A.length),by
  show O'.A.take S'.length=_
  rw[eA,List.take_append,List.take_of_length_le %[|0]],λ b hb=>fN b (qZ hb)⟩,st.hid⟩,⟨nd,by simp[len],λ k b es e1 e2=>?_,λ k b es e1 e2=>?_,λ b hb=>ok.apart b (qZ hb),ok.hidden⟩,sub,λ j a hj q ha z=>?_⟩
 . have hk:k<S'.length:=(y3.mp e2).1
   have e1':(O'.A.take S'.length)[k]? =some (b,false):=e1
   rw[List.getElem?_take,if_pos hk]at e1'
   obtain⟨ys,hy,r'⟩:=ok.obj k b es e1' (by rw[List.getElem?_append_left hk];exact e2)
   exact⟨ys,hy,eG sub (hS es (y6 e2)) r'⟩
 . have hk:k<S'.length:=(y3.mp e2).1
   have e1':(O'.A.take S'.length)[k]? =some (b,true):=e1
   rw[List.getElem?_take,if_pos hk]at e1'
   exact Og sub (hS es (y6 e2)) (ok.dob k b es e1' (by rw[List.getElem?_append_left hk];exact e2))
 . rcases z with z | z
   . obtain⟨⟨a',q'⟩,hm,rfl⟩:=ZO.mp z
     obtain⟨i,hi⟩:=ZR hm
     rw[List.getElem?_take]at hi
     split at hi
     . rename_i hlt
       exact HN ok.nd hi ha %[|0] rfl
     . cases hi
   . exact ok.apart a (dO ha) z
def Frz(n:Nat)(W:WD):WD:=λ d S1=>W d S1∨∃ds S',d=.loc S'.length/\S1=S'++[ds]/\n≤S'.length/\aa ds=true/\flat S'/\W (.lst ds) S'
theorem QG.frz{K:PySem.W.Frag}{O:Own}{H H':Hp}{v:V}{n:Nat}(hn:O.A.length=n)(q:QG K O H (Frz n W) v H'):QG K O H W v H':=by
 obtain⟨O',d,S1,w,st,ok,r⟩:=q
 rcases w with w | ⟨ds,S',rfl,rfl,hl,hd,hS,w⟩
 . exact⟨O',d,S1,w,st,ok,r⟩
 . obtain⟨st2,ok2,sub,na⟩:=qN st ok %[|0] hS
   cases r with
   | @loc a _ ha=>
     obtain⟨xs,hx,q1⟩:=ok.obj S'.length a ds ha (by simp)
     exact⟨_,.lst ds,S',w,st2,ok2,.lst (.inl ⟨na _ a (x6 _) ha,.inl hx⟩) (eG sub hd q1)⟩
theorem RZ{X:Cx}{sts:List Stmt}{W:DL.Fin}(h:Rns X Γ S sts {W with rt:=Frz S.length W.rt}):Rns X Γ S sts W:=λ pins s σ H O I env ok=>
 thn (h pins s σ H O I env ok) λ f s' q=>by
  cases f with
  | next=>exact q
  | brk=>exact q
  | cont=>exact q
  | ret u=>obtain⟨v,σ',H',I',r,q⟩:=q;exact⟨v,σ',H',I',r,QG.frz ok.len q⟩
variable {Ω : Wd}
def Bl.frz(b:Bl Ω):Bl Ω where
 lev:=b.lev
 chk:=b.chk
 wp Γ S W:=b.wp Γ S {W with rt:=Frz S.length W.rt}
 sound:=by
  intro X r top N nm sts Γ S W A hl hc hw
  exact RZ (b.sound A hl hc hw)
def hand(W:WD)(ds:List D)(S:Store):Prop:=W (.lst ds) S∨W (.loc S.length) (S++[ds])
theorem qL(h:hand W ds S)(hd:aa ds=true)(hS:flat S):Frz S.length W (.loc S.length) (S++[ds]):=by
 rcases h with h | h
 . exact .inr ⟨ds,S,rfl,rfl,x6 _,hd,hS,h⟩
 . exact .inl h
theorem Kd{X:Cx}{o e:Expr}{apos cpos:Pos}(h:Ev X Γ S o λ x S1=>∃k,x=.loc k/\Ev X Γ S1 e λ d S2=>∃ds,S2[k]? =some ds/\ds.length<1000000/\W .non (S2.set k (ds++[d])))
 (hbase:attributeBase o "append" X.env (eval o X.env)=eval o X.env)(hs:starEach [e] X.env=[(false,eval e X.env)])(hline:(apos.endLine==cpos.line)=true):Ev X Γ S (.Call (.Attribute o "append" apos) [e] [] cpos) W:=by
 sleep 0
 have hty:∀(O1:Own)(x:D)(v:V)(H1:Hp)(S1:Store),(∃k,x=.loc k)->StOk X.K O1 H1 S1->Rep X.K O1 H1 v x->tyV X.K "list" v H1:=by
  rintro O1 x v H1 S1 ⟨k,rfl⟩ ok r
  cases r with
  | @loc a _ ha=>
    have hl:k<S1.length:=by rw[←ok.len];exact(y3.mp ha).1
    obtain⟨xs,hx,_⟩:=ok.obj k a S1[k] ha (y4 hl)
    exact .inl ⟨rfl,xs,SqL.of hx⟩
 have hA:PA X [e] (λ σ H Q=>∃O Γ S W',EnvOk X.K O H σ Γ/\StOk X.K O H S/\Ev X Γ S e W'/\∀v H',QG X.K O H W' v H'->Q [v] H'):=by
  rintro pos pins s σ H Q I ⟨O,Γ,S,W',env,st,he,k⟩
  rw[hs]
  show wpAny _ _ (spliced ((false,eval e X.env)::backTo pos (starEach [] X.env))) _ _ s
  refine Calls.spliced_cons (thn (he pins s σ H O I env st) λ u s1 hq_=>?_)
  obtain⟨v,H1,I1,r1,q⟩:=hq_
  exact Calls.spliced_nil ⟨[v],H1,I1,.cons r1 .nil,k v H1 q⟩
 refine PT (T:="list") PySem.F.plainAttrs_list PySem.F.slot_list_append PySem.F.type_list_append vX (h.pe) hA hbase (by rw[hs];rfl) hline hs rfl pins s σ H _ I ⟨O,env,st,λ v H' q=>?_⟩
 obtain⟨O1,x,S1,⟨k,rfl,he⟩,st1,ok1,rep1⟩:=q
 refine⟨hty O1 _ v H' S1 ⟨k,rfl⟩ ok1 rep1,O1,Γ,S1,_,env.mono st1,ok1,he,λ v2 H2 q2=>?_⟩
 obtain⟨O2,d,S2,⟨ds,hk,hz,w⟩,st2,ok2,rep2⟩:=q2
 have r:=rep1.mono st2
 cases r with
 | @loc a _ ha=>
   obtain⟨xs,hx,q1⟩:=ok2.obj k a ds ha hk
   exact⟨a,xs,v2,rfl,rfl,hx,by rw[q1.length];exact ZM hz %[|2],O2,.non,_,w,(st1.trans st2).trans (Step.put (dO ha) _),ok2.put ha (q1.append (.cons rep2 .nil)),.non⟩
def nameE:Expr->Bool
 | .Name .. =>true
 | _=>false
def Ex.m_append(o a:Ex Ω):Ex Ω where
 lev:=max o.lev a.lev
 chk top N nm e:=match e with | .Call (.Attribute x m p) [y] [] q=>(m==("append":Str))&&(nameE x&&((p.endLine==q.line)&&(okE y&&(o.chk top N nm x&&a.chk top N nm y)))) | _=>false
 wp Γ S W:=o.wp Γ S λ x S1=>match x with | .loc k=>a.wp Γ S1 λ d S2=>∃ds,S2[k]? =some ds/\ds.length<1000000/\W .non (S2.set k (ds++[d])) | _=>False
 sound:=by
  sleep 1
  obtain⟨l1,l2⟩:=lv2 hl
  split at hc
  . rename_i x m p y q
    obtain⟨h1,h2,h3,h4,h5,h6⟩:=iM hc
    have e:=ZI h1
    subst e
    refine Kd ((o.sound A l1 h5 hw).mono λ x S1 q=>?_) ?_ (aF h4 [] _) h3
    . cases x<;>first | exact q.elim | exact⟨_,rfl,a.sound A l2 h6 q⟩
    . cases x<;>first | rfl | exact ff h2
  . exact ff hc
theorem RQ{X:Cx}{c:Expr}{body:List Stmt}{pos:Pos}{W:DL.Fin}(h:∃(Pv:Nat->Gam->%[|5]) (m0:Nat),Pv m0 Γ S/\∀m Γ' S',Pv m Γ' S'->
 Ts X Γ' S' c λ k S1=>(k=true->Rns X Γ' S1 body {W with nx:=λ G T=>∃m',m'<m/\Pv m' G T,ct:=λ G T=>∃m',m'<m/\Pv m' G T,bk:=W.nx})/\(k=false->W.nx Γ' S1))
 (hp:PassesOwn %[|8] X.A X.env X.xe):Rn X Γ S (.While c body [] pos) W:=by
 intro pins s σ H O I env ok
 obtain⟨Pv,m0,p0,turn⟩:=h
 refine wpAny_While (codeAny_whileLoop (λ n s'=>∃σ' H' O' Γ' S',Inv X pins σ' H' s'/\Pv n Γ' S'/\Step O O' H H'/\StOk X.K O' H' S'/\EnvOk X.K O' H' σ' Γ') ?_ m0 ⟨σ,H,O,Γ,S,I,p0,Step.refl _ _,ok,env⟩)
 rintro n s1 ⟨σ1,H1,O1,Γ1,S1,I1,p1,st1,ok1,env1⟩
 refine wpAny_passesOwn hp (thn (turn n Γ1 S1 p1 pins s1 σ1 H1 O1 I1 env1 ok1) λ b s2 hq_=>?_)
 obtain⟨H2,I2,O2,S2,w2,st2,ok2⟩:=hq_
 cases b with
 | true=>
   rw[if_pos rfl]
   refine wpAny_passesOwn hp (thn (w2.1 rfl pins s2 σ1 H2 O2 I2 (env1.mono st2) ok2) λ f s3 q3=>?_)
   cases f with
   | next=>
     obtain⟨σ3,H3,I3,O3,Γ3,S3,⟨m',hm,p3⟩,st3,ok3,env3⟩:=q3
     exact⟨m',hm,σ3,H3,O3,Γ3,S3,I3,p3,(st1.trans st2).trans st3,ok3,env3⟩
   | cont=>
     obtain⟨σ3,H3,I3,O3,Γ3,S3,⟨m',hm,p3⟩,st3,ok3,env3⟩:=q3
     exact⟨m',hm,σ3,H3,O3,Γ3,S3,I3,p3,(st1.trans st2).trans st3,ok3,env3⟩
   | brk=>
     obtain⟨σ3,H3,I3,q⟩:=q3
     exact⟨σ3,H3,I3,QN.pre (st1.trans st2) q⟩
   | ret v=>
     obtain⟨x,σ3,H3,I3,r3,q⟩:=q3
     exact⟨x,σ3,H3,I3,r3,QG.pre (st1.trans st2) q⟩
 | false=>
   rw[if_neg y7]
   exact wpAny_execs_nil ⟨σ1,H2,I2,O2,Γ1,S2,w2.2 rfl,st1.trans st2,ok2,env1.mono st2⟩
@[irreducible] noncomputable def tH(c:Te Ω)(body:Bl Ω)(Γ:Gam)(S:Store)(W:DL.Fin):Prop:=∃(Pv:Nat->Gam->%[|5]) (m0:Nat),Pv m0 Γ S/\∀m Γ' S',Pv m Γ' S'->
 c.wp Γ' S' λ k S1=>(k=true->body.wp Γ' S1 {W with nx:=λ G T=>∃m',m'<m/\Pv m' G T,ct:=λ G T=>∃m',m'<m/\Pv m' G T,bk:=W.nx})/\(k=false->W.nx Γ' S1)
theorem Ol{c:Te Ω}{body:Bl Ω}{W:DL.Fin}(h:∃(Pv:Nat->Gam->%[|5]) (m0:Nat),Pv m0 Γ S/\∀m Γ' S',Pv m Γ' S'->
 c.wp Γ' S' λ k S1=>(k=true->body.wp Γ' S1 {W with nx:=λ G T=>∃m',m'<m/\Pv m' G T,ct:=λ G T=>∃m',m'<m/\Pv m' G T,bk:=W.nx})/\(k=false->W.nx Γ' S1)):tH c body Γ S W:=by unfold tH;exact h
def Sm.while(c:Te Ω)(body:Bl Ω):Sm Ω where
 lev:=max c.lev body.lev
 chk top N nm st:=match st with | .While t b [] _=>c.chk top N nm t&&body.chk top N nm b | _=>false
 wp Γ S W:=tH c body Γ S W
 sound:=by
  intro X r top N nm st Γ S W A hl hc hw
  obtain⟨l1,l2⟩:=lv2 hl
  split at hc
  . obtain⟨h1,h2⟩:=az hc
    unfold tH at hw
    obtain⟨Pv,m0,p0,turn⟩:=hw
    exact RQ ⟨Pv,m0,p0,λ m Γ' S' p=>Ts.mono (c.sound A l1 h1 (turn m Γ' S' p)) λ k S1 q=>⟨λ hk=>body.sound A l2 h2 (q.1 hk),q.2⟩⟩ (by rw[A.xe];exact PassesOwn.never)
  . exact ff hc
def Sm.never:Sm Ω where
 lev:=0
 chk _ _ _ st:=match st with | .Raise _ _ _=>true | _=>false
 wp _ _ _:=False
 sound:=λ _ _ _ h=>h.elim
theorem bw(S:Store)(x:List D):(S++[x])[S.length]? =some x:=by simp
theorem bO(S:Store)(x y:List D):(S++[x]).set S.length y=S++[y]:=by simp
theorem bK{α β:Type}{xs:List α}{f:α->β}{i:Nat}{e:β}(h:(xs.map f)[i]? =some e):∃x,xs[i]? =some x/\e=f x:=by
 rw[x5]at h
 cases e1:xs[i]? with
 | none=>rw[e1]at h;cases h
 | some x=>rw[e1]at h;cases h;exact⟨x,rfl,rfl⟩
theorem FJ{α β:Type}{xs:List α}{f:Nat->α->β}{i:Nat}{e:β}(h:(xs.mapIdx f)[i]? =some e):∃x,xs[i]? =some x/\e=f i x:=by
 rw[List.getElem?_mapIdx]at h
 cases e1:xs[i]? with
 | none=>rw[e1]at h;cases h
 | some x=>rw[e1]at h;cases h;exact⟨x,rfl,rfl⟩
theorem dM{cap:List (Option Nat)}{elt:Ex Ω}{tg:Tg}{S1:Store}{α:Type}{xs:List α}{enc:α->D}(f:α->D)(hz:xs.length≤1000000)(h:∀(i:Nat)(x:α),xs[i]? =some x->∀Q:WD,Q (f x) S1->tg.wp (enc x) (capt cap Γ) λ Γ2=>elt.wp Γ2 S1 Q)
 (w:W (.lst (xs.map f)) S1):pM cap Γ elt tg (Cd.no (Ω:=Ω)) W (xs.map enc) S1:=by
 refine gU ⟨by rw[y8];exact hz,λ i acc S'=>acc=(xs.take i).map f/\S'=S1,⟨rfl,rfl⟩,?_,?_⟩
 . rintro i d acc S' hd ⟨rfl,rfl⟩
   obtain⟨x,hx,rfl⟩:=bK hd
   refine Tg.mono (h i x hx (λ y S4=>(xs.take i).map f++[y]=(xs.take (i+1)).map f/\S4=S') ⟨?_,rfl⟩) λ G q=>⟨λ _=>q,λ z=>tf z⟩
   rw[aV hx,List.map_append];rfl
 . rintro acc S' ⟨rfl,rfl⟩
   rw[y8,List.take_length];exact w
theorem wM1{j:Int}{P:Prop}(h:L2.CMul i j)(p:P):L2.CMul i j/\P:=⟨h,p⟩
theorem wM2{j:Int}{P:Prop}(h:L2.CPow i j)(p:P):L2.CPow i j/\P:=⟨h,p⟩
theorem wM3{j:Int}{P:Prop}(h:0<i/\i<j)(p:P):(0<i/\i<j)/\P:=⟨h,p⟩
theorem wM4{P:Prop}(h:0<i)(p:P):0<i/\P:=⟨h,p⟩
theorem wM5{α:Type}{l:List α}{P:Prop}(h:l.length≤1000000)(p:P):l.length≤1000000/\P:=⟨h,p⟩
theorem wM6{α β:Type}{l:List α}{k:List β}{P:Prop}(h:l.length+k.length≤1000000)(p:P):l.length+k.length≤1000000/\P:=⟨h,p⟩
theorem wM7{k j:Nat}{n:Int}{Q:List D->Nat->Prop}(h:S[k]? =some ds)(g:L2.ixN ds.length n=some j)(q:Q ds j):∃ds j,S[k]? =some ds/\L2.ixN ds.length n=some j/\Q ds j:=⟨ds,j,h,g,q⟩
theorem wM8{k:Nat}{n:Int}{d:D}{Q:List D->D->Prop}(h:S[k]? =some ds)(g:L2.atI ds n=some d)(q:Q ds d):∃ds d,S[k]? =some ds/\L2.atI ds n=some d/\Q ds d:=⟨ds,d,h,g,q⟩
theorem wM9{n:Int}{d:D}{Q:D->Prop}(g:L2.atI ds n=some d)(q:Q d):∃d,L2.atI ds n=some d/\Q d:=⟨d,g,q⟩
end RF
namespace RF
open PySem PySem.Spec L2 DL
open PyProof.Rows
section
variable {prog : Program} {w : World} {A : Around} {E : Value -> Shared -> Prop} {s : Shared}
def ltF(fin:Bool):%[|3]->%[|3]->Bool
 | x::xs,y::ys=>if x=y then ltF fin xs ys else decide (x<y)
 | _,_=>fin
def ltI(xs ys:%[|3]):Bool:=ltF (decide (xs.length<ys.length)) xs ys
theorem Q7{flag:Bool}{a b:Int}{t u:Tok}{Q:Bool->Shared->Prop}(h:Q (decide (a<b)) s):wpAny %[|10] A (oneLt' flag (.int a t) (.int b u)) Q E s:=by
 cases flag with
 | true=>exact oneLt_int h
 | false=>exact PySem.W.kat_one _ _ (wpAny_lt_int h)
def fc(h:Heap)(v:Value)(ns:%[|3]):Prop:=∃b o xs k,v=.ref b/\h.get? b=some o/\o.cls=.type "tuple"/\o.data=.seq xs k/\IntsAre xs.toList ns
end
def jD(k:Nat)(ds:List D):Option D->Option D
 | some (.loc j)=>if j=k then some (.lst ds)else some (.loc j)
 | o=>o
def atTop(Γ:Gam):Prop:=∀(i:Nat)(d:D),Γ[i]? =some (some d)->au d=true∨∃j,d=.loc j
def Ub(n:Nat)(W:Gam->%[|5]):Gam->%[|5]:=λ Γ S1=>W Γ S1∨∃ds S',S1=S'++[ds]/\n≤S'.length/\aa ds=true/\flat S'/\atTop Γ/\W (Γ.map (jD S'.length ds)) S'
theorem QN.frz {K:PySem.W.Frag}{O:Own}{H H':Hp}{W:Gam->%[|5]}{σ:DL.St}{n:Nat}(hn:O.A.length=n)(q:QN K O H (Ub n W) σ H'):QN K O H W σ H':=by
 obtain⟨O',Γ,S1,w,st,ok,r⟩:=q
 rcases w with w | ⟨ds,S',rfl,hl,hd,hS,ht,w⟩
 . exact⟨O',Γ,S1,w,st,ok,r⟩
 . obtain ⟨st2,ok2,sub,na⟩:=qN st ok %[|0] hS
   have len:O'.A.length=S'.length+1:=by have:=ok.len;simpa using this
   refine⟨⟨O'.A.take S'.length,O'.B⟩,_,S',w,st2,ok2,⟨by rw[y8];exact r.len,λ i d e=>?_⟩⟩
   . rw [x5] at e
     cases e1:Γ[i]? with
     | none=>rw[e1]at e;cases e
     | some o=>
       rw[e1]at e
       cases o with
       | none=>cases e
       | some d0=>
         obtain⟨v,hv,rv⟩:=r.at_ i d0 e1
         rcases ht i d0 e1 with nl | ⟨j,rfl⟩
         . have e2:d0=d:=by
            cases d0 with
            | loc j=>simp[au]at nl
            | _=>simpa[jD]using e
           subst e2
           exact⟨v,hv,dY sub nl rv⟩
         . cases rv with
           | @loc a _ ha=>
             by_cases hj:j=S'.length
             . subst hj
               have e2:d=.lst ds:=by simpa[jD]using e.symm
               subst e2
               obtain⟨xs,hx,q1⟩:=ok.obj S'.length a ds ha (by simp)
               exact⟨_,hv,.lst (.inl ⟨na _ a (x6 _) ha,.inl hx⟩) (eG sub hd q1)⟩
             . have e2:d=.loc j:=by simpa[jD,hj]using e.symm
               subst e2
               refine⟨_,hv,.loc ?_⟩
               have:j<O'.A.length:=(y3.mp ha).1
               show(O'.A.take S'.length)[j]? =some (a,false)
               rw[List.getElem?_take,if_pos %[|0]];exact ha
section
variable {Ω : Wd}
def Bl.fzl(b:Bl Ω):Bl Ω where
 lev:=b.lev
 chk:=b.chk
 wp Γ S W:=b.wp Γ S {W with nx:=Ub S.length W.nx}
 sound:=by
  intro X r top N nm sts Γ S W A hl hc hw pins s σ H O I env ok
  refine thn (b.sound A hl hc hw pins s σ H O I env ok) λ f s' q=>?_
  cases f with
  | next=>obtain⟨σ,H',I,q⟩:=q;exact⟨σ,H',I,QN.frz ok.len q⟩
  | brk=>exact q
  | cont=>exact q
  | ret u=>exact q
end
theorem Hu{K:PySem.W.Frag}{O:Own}{H:Hp}{a:Addr}{k:Nat}{ds:List D}(h:O.A[k]? =some (a,false)):uw K (Itl K a) O H (λ S=>S[k]? =some ds) ds:=by
 intro O' H' S' st ok hS i
 have h':O'.A[k]? =some (a,false):=st.lc k _ h
 obtain⟨xs,hx,r⟩:=ok.obj k a ds h' hS
 have hq:SqL K H' a xs:=SqL.of hx
 refine⟨λ d hd=>?_,λ hi=>⟨xs,hq,by rw[r.length];exact Nat.le_of_eq hi.symm⟩⟩
 obtain⟨v,hv,rv⟩:=r.get hd
 refine⟨⟨xs,v,hq,hv⟩,λ x H'' y=>?_⟩
 obtain⟨e,y⟩:=y
 subst e
 have e:=y xs hq
 rw[hv]at e
 cases e
 exact⟨bB.refl _,rv⟩
abbrev itC(W:List D->%[|5]->%[|5]):WD:=λ d S1=>match d with
 | .lst ds=>W ds (λ _=>True) S1
 | .tup ds=>W ds (λ _=>True) S1
 | .loc k=>∃ds,S1[k]? =some ds/\W ds (λ S=>S[k]? =some ds) S1
 | _=>False
theorem Td{X:Cx}{Γ:Gam}{S:Store}{tg e:Expr}{W:List D->%[|5]->%[|5]}(h:Ev X Γ S e (itC W)):ItC X Γ S tg e W:=by
 sleep 0
 refine thn %[|16] λ u s1 hq_=>?_
 obtain⟨v,H1,I1,r1,O1,d,S1,w,st1,ok1,rep⟩:=hq_
 cases rep with
 | @lst a xs ds h1 q1=>
   cases r1
   obtain⟨its,rv,p,hz⟩:=I1.list h1.sq
   refine wpAny_pyIter_list p.isList ?_
   refine⟨s1.heap.objs.size,[s1.heap.objs.size],_,_,H1,rfl,I1.kept (t':=s1.toks) λ b o e=>ZC _ e,nT a _,⟨_,%[|19],rfl,rfl⟩,λ b hb=>?_,O1,ds,_,S1,w,st1,ok1,sI (qD h1 q1)⟩
   have e:b=s1.heap.objs.size:=by simpa using hb
   subst e
   exact I1.fpOk (x6 _) (I1.hok.fresh (x6 _))
 | @tup a xs ds h1 q1=>
   cases r1
   obtain⟨its,rv,p,hz⟩:=I1.tuple h1.sq
   refine wpAny_pyIter_tuple (show s1.heap.IsTuple a its.toArray from p) ?_
   refine⟨s1.heap.objs.size,[s1.heap.objs.size],_,_,H1,rfl,I1.kept (t':=s1.toks) λ b o e=>ZC _ e,uf a _,⟨_,%[|19],rfl,rfl⟩,λ b hb=>?_,O1,ds,_,S1,w,st1,ok1,sI (tV h1 q1)⟩
   have e:b=s1.heap.objs.size:=by simpa using hb
   subst e
   exact I1.fpOk (x6 _) (I1.hok.fresh (x6 _))
 | @loc a k h1=>
   cases r1
   obtain⟨ds,hk,w⟩:=w
   obtain⟨xs,hx,q1⟩:=ok1.obj k a ds h1 hk
   obtain⟨its,rv,p,hz⟩:=I1.list (SqL.of hx)
   refine wpAny_pyIter_list p.isList ?_
   refine⟨s1.heap.objs.size,[s1.heap.objs.size],_,_,H1,rfl,I1.kept (t':=s1.toks) λ b o e=>ZC _ e,nT a _,⟨_,%[|19],rfl,rfl⟩,λ b hb=>?_,O1,ds,_,S1,w,st1,ok1,Hu h1⟩
   have e:b=s1.heap.objs.size:=by simpa using hb
   subst e
   exact I1.fpOk (x6 _) (I1.hok.fresh (x6 _))
 | _=>exact w.elim
theorem Tq{X:Cx}{Γ:Gam}{S:Store}{W:DL.Fin}{pos:Pos}{tg iter:Expr}{body:List Stmt}(h:ItC X Γ S tg iter λ ds C S1=>∃Pv:Nat->Gam->%[|5],Pv 0 Γ S1/\(∀i Γ' S',Pv i Γ' S'->C S')/\
 (∀i d Γ' S',ds[i]? =some d->Pv i Γ' S'->BdW X tg d Γ' S' λ Γ2 S2=>Rns X Γ2 S2 body {W with nx:=Pv (i+1),ct:=Pv (i+1),bk:=W.nx})/\(∀Γ' S',Pv ds.length Γ' S'->W.nx Γ' S'))
 (hp:PassesOwn %[|8] X.A X.env X.xe)(hc:X.calm=true)(hs:∀x,foldedSetIterable iter X.env x=pure x):Rn X Γ S (.For tg iter body [] pos) W:=by
 intro pins s σ H O I env ok
 let WI:List D->%[|5]->%[|5]:=λ ds C S1=>∃Pv:Nat->Gam->%[|5],Pv 0 Γ S1/\(∀i Γ' S',Pv i Γ' S'->C S')/\
     (∀i d Γ' S',ds[i]? =some d->Pv i Γ' S'->BdW X tg d Γ' S' λ Γ2 S2=>Rns X Γ2 S2 body {W with nx:=Pv (i+1),ct:=Pv (i+1),bk:=W.nx})/\(∀Γ' S',Pv ds.length Γ' S'->W.nx Γ' S')
 have hI:PI X tg iter (λ σ H R=>∃O,EnvOk X.K O H σ Γ/\StOk X.K O H S/\∀J H',QIc X.K O H WI J H'->R J H'):=λ pins s σ H R I hh=>by
  obtain⟨O,env,st,k⟩:=hh
  refine thn %[|16] λ _ _ q=>thn q λ _ _ q2=>?_
  obtain⟨it,fp,tn,J,H',e1,e2,e3,e4,e5,e6⟩:=q2
  exact⟨it,fp,tn,J,H',e1,e2,e3,e4,e5,k J H' e6⟩
 have hG:PG X tg (λ v σ H Q=>∃O d Γ S W',EnvOk X.K O H σ Γ/\StOk X.K O H S/\Rep X.K O H v d/\BdW X tg d Γ S W'/\∀σ' H',QN X.K O H W' σ' H'->Q σ' H'):=λ pins s σ H v u Q I ru hh=>by
  obtain⟨O,d,Γ,S,W',env,st,r,b,k⟩:=hh
  refine thn (b pins s σ H O v u I env st r ru) λ _ _ q2=>?_
  obtain⟨σ',H',I',q⟩:=q2
  exact⟨σ',H',I',k σ' H' q⟩
 have hB:PSs X body (λ D σ H=>∃O Γ S W',EnvOk X.K O H σ Γ/\StOk X.K O H S/\Rns X Γ S body W'/\(∀σ' H',QN X.K O H W'.nx σ' H'->D.nx σ' H')/\(∀v H',QG X.K O H W'.rt v H'->D.rt v H')/\(∀σ' H',QN X.K O H W'.bk σ' H'->D.bk σ' H')/\∀σ' H',QN X.K O H W'.ct σ' H'->D.ct σ' H'):=
  λ pins s σ H D I hh=>by
   obtain⟨O,Γ,S,W',env,st,b,k1,k2,k3,k4⟩:=hh
   refine thn (b pins s σ H O I env st) λ f s' q=>?_
   cases f with
   | next=>obtain⟨σ',H',I',q⟩:=q;exact⟨σ',H',I',k1 σ' H' q⟩
   | brk=>obtain⟨σ',H',I',q⟩:=q;exact⟨σ',H',I',k3 σ' H' q⟩
   | cont=>obtain⟨σ',H',I',q⟩:=q;exact⟨σ',H',I',k4 σ' H' q⟩
   | ret u=>obtain⟨v,σ',H',I',r,q⟩:=q;exact⟨v,σ',H',I',r,k2 v H' q⟩
 refine JX hp hc hI hG hB hs pins s σ H _ I ⟨O,env,ok,λ J H1 q=>?_⟩
 obtain⟨O1,ds,C,S1,⟨Pv,p0,pC,pt,pe⟩,st1,ok1,yl⟩:=q
 refine⟨λ i m σ' H'=>m=ds.length-i/\i≤ds.length/\∃O' Γ' S',Pv i Γ' S'/\Step O1 O' H1 H'/\StOk X.K O' H' S'/\EnvOk X.K O' H' σ' Γ',⟨ds.length,by simp,Nat.zero_le _,O1,Γ,S1,p0,Step.refl _ _,ok1,env.mono st1⟩,?_⟩
 rintro i m σ2 H2 ⟨rfl,hi,O2,Γ2,S2,p2,st2,ok2,env2⟩
 obtain⟨y1,y2⟩:=yl O2 H2 S2 st2.conv ok2 (pC _ _ _ p2) i
 by_cases hlt:i<ds.length
 . obtain⟨go,yy⟩:=y1 ds[i] (y4 hlt)
   refine .inr ⟨go,λ σ' H'=>i+1≤ds.length/\∃O' Γ' S',Pv (i+1) Γ' S'/\Step O1 O' H1 H'/\StOk X.K O' H' S'/\EnvOk X.K O' H' σ' Γ',λ σ' H' q=>⟨ds.length-(i+1),%[|0],rfl,q.1,q.2⟩,λ x H3 y=>?_⟩
   obtain⟨sm,rx⟩:=yy x H3 y
   have st3:=Step.same (O:=O2) sm
   refine⟨O2,ds[i],Γ2,S2,_,env2.mono st3,ok2.same sm,rx,pt i ds[i] Γ2 S2 (y4 hlt) p2,λ σ4 H4 q4=>?_⟩
   obtain⟨O4,Γ4,S4,w4,st4,ok4,env4⟩:=q4
   have stA:=(st2.trans st3).trans st4
   refine⟨O4,Γ4,S4,_,env4,ok4,w4,?_,?_,?_,?_⟩
   . rintro σ5 H5 ⟨O5,Γ5,S5,w5,st5,ok5,env5⟩
     exact⟨hlt,O5,Γ5,S5,w5,stA.trans st5,ok5,env5⟩
   . exact λ v H' q=>QG.pre (st1.trans stA) q
   . exact λ σ' H' q=>QN.pre (st1.trans stA) q
   . rintro σ5 H5 ⟨O5,Γ5,S5,w5,st5,ok5,env5⟩
     exact⟨hlt,O5,Γ5,S5,w5,stA.trans st5,ok5,env5⟩
 . have e:i=ds.length:=%[|0]
   subst e
   exact .inl ⟨y2 rfl,O2,Γ2,S2,pe Γ2 S2 p2,st1.trans st2,ok2,env2⟩
section
variable {Ω : Wd}
@[irreducible] noncomputable def Ia(Γ:Gam)(tg:Tg)(body:Bl Ω)(W:DL.Fin)(k:Nat)(ds:List D)(S1:Store):Prop:=
  ∃Pv:Nat->Gam->%[|5],Pv 0 Γ S1/\(∀i Γ' S',Pv i Γ' S'->S'[k]? =some ds)/\(∀i d Γ' S',ds[i]? =some d->Pv i Γ' S'->tg.wp d Γ' λ Γ2=>body.wp Γ2 S' {W with nx:=Pv (i+1),ct:=Pv (i+1),bk:=W.nx})/\(∀Γ' S',Pv ds.length Γ' S'->W.nx Γ' S')
theorem Fw{Γ:Gam}{tg:Tg}{body:Bl Ω}{W:DL.Fin}{k:Nat}{ds:List D}{S1:Store}(h:∃Pv:Nat->Gam->%[|5],Pv 0 Γ S1/\(∀i Γ' S',Pv i Γ' S'->S'[k]? =some ds)/\(∀i d Γ' S',ds[i]? =some d->Pv i Γ' S'->tg.wp d Γ' λ Γ2=>body.wp Γ2 S' {W with nx:=Pv (i+1),ct:=Pv (i+1),bk:=W.nx})/\(∀Γ' S',Pv ds.length Γ' S'->W.nx Γ' S')):Ia Γ tg body W k ds S1:=by unfold Ia;exact h
def Sm.forL(tg:Tg)(it:Ex Ω)(body:Bl Ω):Sm Ω where
 lev:=max it.lev body.lev
 chk top N nm st:=match st with | .For t i b [] _=>okE i&&(tg.chk top N nm t&&(it.chk top N nm i&&body.chk top N nm b)) | _=>false
 wp Γ S W:=it.wp Γ S λ d S1=>match d with
  | .lst ds=>jE Γ tg body W ds S1
  | .tup ds=>jE Γ tg body W ds S1
  | .loc k=>∃ds,S1[k]? =some ds/\Ia Γ tg body W k ds S1
  | _=>False
 sound:=by
  intro X r top N nm st Γ S W A hl hc hw
  obtain⟨l1,l2⟩:=lv2 hl
  split at hc
  . rename_i t i b pos
    obtain⟨h1,h2,h3,h4⟩:=cA hc
    have step:∀(Pv:Nat->Gam->%[|5])(ds:List D),(∀i d Γ' S',ds[i]? =some d->Pv i Γ' S'->tg.wp d Γ' λ Γ2=>body.wp Γ2 S' {W with nx:=Pv (i+1),ct:=Pv (i+1),bk:=W.nx})->∀i d Γ' S',ds[i]? =some d->Pv i Γ' S'->BdW X t d Γ' S' λ Γ2 S2=>Rns X Γ2 S2 b {W with nx:=Pv (i+1),ct:=Pv (i+1),bk:=W.nx}:=
     λ Pv ds pt i d Γ' S' hd hp=>BdW.mono (Tg.sound A (W:=λ Γ2 S2=>body.wp Γ2 S2 {W with nx:=Pv (i+1),ct:=Pv (i+1),bk:=W.nx}) h2 (pt i d Γ' S' hd hp)) λ Γ2 S2 q=>body.sound A l2 h4 q
    refine Tq (Td (Ev.mono (it.sound A l1 h3 hw) λ d S1 q=>?_)) (by rw[A.xe];exact PassesOwn.never) A.calm (pB h1 _)
    cases d with
    | lst ds=>
      have q:jE Γ tg body W ds S1:=q
      unfold jE at q
      obtain⟨Pv,p0,pt,pe⟩:=q
      exact⟨Pv,p0,λ _ _ _ _=>trivial,step Pv ds pt,pe⟩
    | tup ds=>
      have q:jE Γ tg body W ds S1:=q
      unfold jE at q
      obtain⟨Pv,p0,pt,pe⟩:=q
      exact⟨Pv,p0,λ _ _ _ _=>trivial,step Pv ds pt,pe⟩
    | loc k=>
      obtain⟨ds,hk,q⟩:=q
      unfold Ia at q
      obtain⟨Pv,p0,pC,pt,pe⟩:=q
      exact⟨ds,hk,Pv,p0,pC,step Pv ds pt,pe⟩
    | _=>exact(show False from q).elim
  . exact fE hc
end
variable {ds : List D}
def jB(S:Store):D->Option (List D)
 | .lst ds=>some ds
 | .loc k=>S[k]?
 | _=>none
def putL(own:Bool)(W:WD)(ds:List D)(S:Store):Prop:=match own with
 | true=>W (.loc S.length) (S++[ds])
 | false=>W (.lst ds) S
section
variable {X : Cx} {S : Store} {W : WD}
theorem yr{pins:Pins}{s:Shared}{σ:DL.St}{H:Hp}{O:Own}{v:V}{d:D}(st:StOk X.K O H S)(r:Rep X.K O H v d)(h:jB S d=some ds):∃a xs,v=.ref a/\SqL X.K H a xs/\Reps X.K O H xs ds:=by
 cases r with
 | @lst a xs _ h1 q1=>cases h;exact⟨a,xs,rfl,h1.sq,q1⟩
 | @loc a k h1=>
   obtain⟨xs,hx,q1⟩:=st.obj k a ds h1 h
   exact⟨a,xs,rfl,SqL.of hx,q1⟩
 | _=>cases h
theorem Jy{own:Bool}{K:PySem.W.Frag}{O:Own}{H:Hp}{p:Addr}{xs:List V}(w:putL own W ds S)(st:StOk K O H S)(h:H p=none)(r:Reps K O H xs ds):QG K O H W (.ref p) (upd H p (.lst xs)):=by
 cases own with
 | true=>exact ou w st h r
 | false=>exact iB w st h r
theorem VH{own:Bool}{x y:D}{es:List D}(hx:jB S x=some ds)(hy:jB S y=some es)(hz:ds.length+es.length≤1000000)(w:putL own W (ds++es) S):dJ X .Add x y S W:=by
 intro pins s σ H O v w' u u' I st r1 r2 r3 r4
 obtain⟨a,xs,rfl,h1,q1⟩:=yr (pins:=pins) (s:=s) (σ:=σ) st r1 hx
 obtain⟨b,ys,rfl,h2,q2⟩:=yr (pins:=pins) (s:=s) (σ:=σ) st r2 hy
 cases r3
 cases r4
 obtain⟨its,v1,p1,_⟩:=I.list h1
 obtain⟨its2,v2,p2,_⟩:=I.list h2
 obtain⟨⟨cls,dd,data,sl⟩,n,ho,hc,hdd,hd⟩:=id p1
 obtain⟨⟨cls2,dd2,data2,sl2⟩,n2,ho2,hc2,hdd2,hd2⟩:=id p2
 simp only at hc hd hc2 hd2
 subst hc hd hc2 hd2
 have z:its.length+its2.length≤sizeLine:=by rw[←v1.length,←v2.length,q1.length,q2.length];exact small hz
 refine concat_meets ⟨_,ho,rfl⟩ ⟨_,ho2,rfl⟩ noFill_list_add seq_list_add PySem.F.slot_list_add PySem.F.entry_list_add (PySem.F.args_list_add_2 _ _)
  (list_addW a b its.toArray its2.toArray n n2 dd dd2 sl sl2 (by simpa using z)) ⟨ho,ho2,?_⟩
 have ea:its.toArray++its2.toArray=(its++its2).toArray:=by simp
 rw[ea]
 exact⟨%[|21],_,I.lnew (t':=s.toks) (v1.append v2) (by rw[List.length_append,q1.length,q2.length];exact small hz),rfl,Jy w st I.fresh (q1.append q2)⟩
theorem T6{own:Bool}{x:D}{k:Int}(hx:jB S x=some ds)(hk: -(2 ^ 63)≤k/\k<2 ^ 63)(hz:ds.length*k.toNat≤1000000)(w:putL own W (List.replicate k.toNat ds).flatten S):dJ X .Mult x (.int k) S W:=by
 intro pins s σ H O v w' u u' I st r1 r2 r3 r4
 obtain⟨a,xs,rfl,h1,q1⟩:=yr (pins:=pins) (s:=s) (σ:=σ) st r1 hx
 cases r2
 cases r3
 obtain⟨t,rfl⟩:=r4
 obtain⟨its,v1,p1,_⟩:=I.list h1
 obtain⟨⟨cls,dd,data,sl⟩,n,ho,hc,hdd,hd⟩:=id p1
 simp only at hc hd
 subst hc hd
 have l1:its.length=ds.length:=by rw[←v1.length,q1.length]
 have big:its.length*k.toNat≤1000000:=by rw[l1];exact hz
 have sz:(1000000:Nat)≤sizeLine:=%[|2]
 refine PySem.wpAny_binaryOp_repeat_ref (T:="list") (U:="int") %[|2] ⟨_,ho,rfl⟩ (λ s'=>typeIs_int s' k t) PySem.noFill_list_mul F.fills_int_mul F.slot_int_rmul PySem.repeat_list F.slot_int_index.lookup
  (call_meets F.slot_int_rmul (typeIs_int s k t) F.entry_int_rmul (F.args_int_rmul_2 _ _) (PySem.lm_int_rmul_list_any k t a its.toArray n dd sl) ⟨ho,rfl,⟨_,ho,rfl⟩,?_⟩)
 refine call_meets F.slot_list_mul ⟨_,ho,rfl⟩ F.entry_list_mul (F.args_list_mul_2 _ _) (PySem.lm_list_mul_any a its.toArray n dd sl k t ?_ ?_ ?_) ⟨ho,?_⟩
 . have c1:Builtin.List.listFitsIndex k=true:=by
    unfold Builtin.List.listFitsIndex
    rw[ZG %[|0],ZG %[|0]];rfl
   rw[c1];decide
 . rw[x9];omega
 . rw[x9]
   unfold Builtin.List.listTooLong
   rw[decide_eq_true_eq];omega
 . have ez:(List.replicate (if its.toArray.isEmpty=true then 0 else k.toNat) its.toArray).foldl (λ x1 x2=>x1++x2) #[]=(List.replicate k.toNat its).flatten.toArray:=by
    have fz:∀m:Nat,(List.replicate m its.toArray).foldl (λ x1 x2=>x1++x2) #[]=(List.replicate m its).flatten.toArray:=λ m=>by
     have:=foldl_rep its m []
     rw[List.nil_append]at this
     exact this
    rw[fz]
    by_cases e:its=[]
    . subst e;simp
    . have:its.toArray.isEmpty=false:=by simpa using e
      rw[this];rfl
   rw[ez]
   exact⟨%[|21],_,I.lnew (t':=s.toks) (v1.rep _) (by rw[len_rep,q1.length,Nat.mul_comm];exact small hz),rfl,Jy w st I.fresh (Reps.rep q1 _)⟩
theorem Tv{ns:%[|3]}(w:W (.int ns.sum) S)(hc:X.calm=true):cW X (.builtin "sum") [.tup (ns.map .int)] S W:=by
 intro pins s σ H O vs us I st r ru
 obtain⟨v,rfl,r'⟩:=cF r
 obtain⟨u,rfl,ru'⟩:=vals1 ru
 cases r' with
 | @tup a xs _ h1 q1=>
   cases ru'
   obtain⟨its,rv,pl,hz⟩:=I.tuple h1.sq
   have ex:=q1.ints
   subst ex
   have hi:IntsAre its ns:=intsAre_of rv
   obtain⟨zs,ez⟩:=hi.allInts.items
   have hT:s.heap.IsTuple a its.toArray:=pl
   rw[ez]at hT
   have hlt:a<s.heap.objs.size:=by obtain⟨_,e,_⟩:=hT;exact ZE e
   refine call_sum_walkG (wpAny_pyIter_tuple hT ?_)
   refine⟨_,_,_,_,_,_,numAt zs,rfl,Walks.tuple (A:=X.A.in1) (I.ok.hd hc) _ a (ZN hlt) (intItems zs),⟨⟨_,%[|19],rfl,rfl⟩,hT.push _⟩,(λ b hb=>?_),(λ _ _=>intItems_at),λ h' tk t' hk=>?_⟩
   . show b<(s.heap.push _).objs.size
     rw[Heap.size_push]
     rcases ZJ.mp hb with rfl | hb
     . exact Nat.lt_succ_self _
     . rcases ZJ.mp hb with rfl | hb
       . exact Nat.lt_succ_of_lt hlt
       . cases hb
   . have e:preSum (numAt zs) (intItems zs).size=ns.sum:=by
      rw[show(intItems zs).size=zs.size by simp[intItems],preSum_eq,List.take_of_length_le (by simp),←nums_intItems,←ez]
      exact congrArg List.sum hi.numsOf
     rw[e]
     refine⟨.int _,H,I.kept (λ b o q=>hk b o (λ z=>?_) (ZC _ q)),⟨_,rfl⟩,QG.here w st (.int _)⟩
     have z':b=s.heap.objs.size:=by simpa using z
     exact absurd (ZE q) (by rw[z'];exact Nat.lt_irrefl _)
end
def Hx:Bf where
 x:="sum"
 id:="sum"
 boot:=%[|14]
 wp ds S W:=match ds with
  | [.lst ds]=>∃ns:%[|3],ds=ns.map .int/\W (.int ns.sum) S
  | [.tup ds]=>∃ns:%[|3],ds=ns.map .int/\W (.int ns.sum) S
  | _=>False
 sound:=by
  intro X ds S W hc hr h
  split at h
  . obtain⟨bs,rfl,h⟩:=h;exact Xc h hc
  . obtain⟨bs,rfl,h⟩:=h;exact Tv h hc
  . exact h.elim
def yF(own:Bool)(op:Operator)(x y:D)(S:Store)(W:WD):Prop:=match op with
 | .Add=>∃ds es,jB S x=some ds/\jB S y=some es/\ds.length+es.length≤1000000/\putL own W (ds++es) S
 | .Mult=>∃ds k,jB S x=some ds/\y=.int k/\(-(2 ^ 63)≤k/\k<2 ^ 63)/\ds.length*k.toNat≤1000000/\putL own W (List.replicate k.toNat ds).flatten S
 | _=>False
theorem JR{X:Cx}{own:Bool}{op:Operator}{x y:D}{S:Store}{W:WD}(h:yF own op x y S W):dJ X op x y S W:=by
 unfold yF at h
 split at h
 . obtain⟨ds,es,h1,h2,h3,h4⟩:=h;exact VH h1 h2 h3 h4
 . obtain⟨ds,k,h1,rfl,h3,h4,h5⟩:=h;exact T6 h1 h3 h4 h5
 . exact h.elim
section
variable {Ω : Wd}
def Ex.binL(own:Bool)(op:Operator)(a b:Ex Ω):Ex Ω where
 lev:=max a.lev b.lev
 chk top N nm e:=match e with | .BinOp l o r _=>(o==op)&&(a.chk top N nm l&&b.chk top N nm r) | _=>false
 wp Γ S W:=a.wp Γ S λ x S1=>b.wp Γ S1 λ y S2=>yF own op x y S2 W
 sound:=by
  sleep 1
  obtain⟨l1,l2⟩:=lv2 hl
  cases e with
  | BinOp l o r' pos=>
    obtain⟨h1,h2,h3⟩:=bV hc
    have e:o=op:=ZI h1
    subst e
    exact Ad ((a.sound A l1 h2 hw).mono λ x S1 q=>(b.sound A l2 h3 q).mono λ y S2 q=>JR q)
  | _=>exact fE hc
def Ex.fdiv(a b:Ex Ω):Ex Ω where
 lev:=max a.lev b.lev
 chk top N nm e:=match e with | .BinOp l o r _=>(o==.FloorDiv)&&(a.chk top N nm l&&b.chk top N nm r) | _=>false
 wp Γ S W:=a.wp Γ S λ x S1=>b.wp Γ S1 λ y S2=>match x,y with
  | .int i,.int j=>(0<j/\j<1000000000000000000000000000000000000000000000000000000000000)/\W (.int (i/j)) S2
  | _,_=>False
 sound:=by
  sleep 1
  obtain⟨l1,l2⟩:=lv2 hl
  cases e with
  | BinOp l o r' pos=>
    obtain⟨h1,h2,h3⟩:=bV hc
    have e:o=.FloorDiv:=ZI h1
    subst e
    refine Ad ((a.sound A l1 h2 hw).mono λ x S1 q=>(b.sound A l2 h3 q).mono λ y S2 q=>?_)
    split at q
    . rename_i i j
      refine jW (C:=λ _ j=>0<j/\j<1000000000000000000000000000000000000000000000000000000000000) (g:=λ i j=>i/j) (opI λ i j _ _ _ _ _ hc q=>?_) q.1 q.2
      have h1:(0:Int)<j:=hc.1
      have h2:j<1000000000000000000000000000000000000000000000000000000000000:=hc.2
      refine floordiv_int %[|0] (by rw[Int.fdiv_eq_ediv_of_nonneg i %[|0]];exact q) (.inl (PyProof.noPylong_of_log2 ?_))
      have h3:j.natAbs<2 ^ 200:=%[|0]
      have:j.natAbs.log2<200:=(Nat.log2_lt %[|0]).mpr h3
      omega
    . exact q.elim
  | _=>exact fE hc
end
end RF
namespace RF
open PySem PySem.Spec L2 DL
open PyProof.Rows
def Drp(n:Nat)(W:WD):WD:=λ d S1=>W d S1∨∃J S',S1=S'++J/\n≤S'.length/\au d=true/\flat S'/\W d S'
theorem QG.drp{K:PySem.W.Frag}{O:Own}{H H':Hp}{W:WD}{v:V}{n:Nat}(hn:O.A.length=n)(q:QG K O H (Drp n W) v H'):QG K O H W v H':=by
 obtain⟨O',d,S1,w,st,ok,r⟩:=q
 rcases w with w | ⟨J,S',rfl,hl,hd,hS,w⟩
 . exact⟨O',d,S1,w,st,ok,r⟩
 . obtain⟨st2,ok2,sub,na⟩:=qN st ok %[|0] hS
   exact⟨_,d,S',w,st2,ok2,dY sub hd r⟩
section
variable {Ω : Wd}
def Bl.drp(b:Bl Ω):Bl Ω where
 lev:=b.lev
 chk:=b.chk
 wp Γ S W:=b.wp Γ S {W with rt:=Drp S.length W.rt}
 sound:=by
  intro X r top N nm sts Γ S W A hl hc hw pins s σ H O I env ok
  refine thn (b.sound A hl hc hw pins s σ H O I env ok) λ f s' q=>?_
  cases f with
  | next=>exact q
  | brk=>exact q
  | cont=>exact q
  | ret u=>obtain⟨v,σ',H',I',r,q⟩:=q;exact⟨v,σ',H',I',r,QG.drp ok.len q⟩
end
variable {v : Value} {c : Int × %[|3]} {b : Addr} {ns : %[|3]} {n : Nat} {Q : Bool -> Shared -> Prop}
def aZ(h:Heap)(v:Value)(c:Int×%[|3]):Prop:=
 ∃b o k tk u,v=.ref b/\h.get? b=some o/\o.cls=.type "tuple"/\o.data=.seq #[.int c.1 tk,u] k/\fc h u c.2
theorem aZ.keep{h h':Heap}(k:∀b o,h.get? b=some o->o.cls=.type "tuple"->h'.get? b=some o)(hc:aZ h v c):aZ h' v c:=by
 obtain⟨b,o,n,tk,u,e1,e2,e3,e4,b',o',xs,n',e5,e6,e7,e8,e9⟩:=hc
 exact⟨b,o,n,tk,u,e1,k _ _ e2 e3,e3,e4,b',o',xs,n',e5,k _ _ e6 e7,e7,e8,e9⟩
section
variable {prog : Program} {w : World} {A : Around} {E : Value -> Shared -> Prop} {s : Shared}
theorem lY:∀{vs:%[|7]}{ns:%[|3]},IntsAre vs ns->ItemsAre (intKind prog w) ns vs
 | _,_,.nil=>.nil
 | _,_,.cons n t r=>.cons (intKind_is _ _ _ _) (lY r)
theorem zc{h:Heap}(ht:fc h (.ref b) ns):IsTupleKey (intKind prog w) h ns b:=by
 obtain⟨b',o,xs,k,e,e1,e2,e3,e4⟩:=ht
 cases e
 exact⟨o,xs,k,e1,e2,e3,lY e4⟩
theorem qx:∀{vs:%[|7]}{ns ms:%[|3]},IntsAre vs ns->IntsAre vs ms->ns=ms
 | _,_,_,.nil,.nil=>rfl
 | _,_,_,.cons _ _ r,.cons _ _ r'=>by rw[qx r r']
theorem Oj{h:Heap}{ms:%[|3]}(x:fc h v ns)(y:fc h v ms):ns=ms:=by
 obtain⟨b,o,xs,k,rfl,e1,e2,e3,e4⟩:=x
 obtain⟨b',o',xs',k',e,e1',e2',e3',e4'⟩:=y
 cases e
 obtain rfl:o=o':=Option.some.inj (e1.symm.trans e1')
 have e5:=e3.symm.trans e3'
 injection e5 with e5 _
 subst e5
 exact qx e4 e4'
def hC(prog:Program)(w:World)(c:Int×%[|3]):Int:=reduceHash (Builtin.Tuple.tupleHashOf [(intKind prog w).hash c.1,tupleKeyHash (intKind prog w) c.2])
theorem J8{Q:Int->Shared->Prop}(hu:A.units+5<cLine)(hc:aZ s.heap v c)(h:Q (hC prog w c) {s with toks:=s.toks+(c.2.length+3)}):wpAny %[|10] A (pyHash v) Q E s:=by
 obtain⟨a,o,n,tk,u,rfl,ho,hcl,hd,hu'⟩:=hc
 have hT:s.TypeIs (.ref a) "tuple":=⟨o,ho,hcl⟩
 have hk:∀b,u=.ref b->IsTupleKey (intKind prog w) s.heap c.2 b:=λ b e=>zc (e▸hu')
 obtain⟨b,_,_,_,rfl,_⟩:=id hu'
 have hk:=hk b rfl
 unfold pyHash
 first | unfold pyHashByItsType | skip
 first | refine ZA (wpAny_cRoomFor_or (.inr %[|0]) ?_) | skip
 refine ZA (wpAny_specialOf hT F.slot_tuple_hash.lookup ?_)
 show wpAny _ _ (if(some (Value.builtin "tuple.__hash__")==some Value.none)=true then _ else _) Q E s
 rw[if_neg (by rw[beq_builtin_none];exact y7)]
 refine ZA (wpAny_specialOf hT F.slot_tuple_hash.lookup ?_)
 show wpAny _ _ (callSpecialIfBoundUnlessNone? (.ref a) "__hash__" _>>=_) Q E s
 refine ZA (wpAny_callSpecialIfBoundUnlessNone?_slot hT F.slot_tuple_hash (ZP F.slot_tuple_hash hT F.entry_tuple_hash ?_ (F.args_tuple_hash_1 _)))
 show wpAny _ _ (Builtin.Tuple.tupleItemsOf (.ref a)>>=_) _ _ s
 refine ZA (wpAny_tupleItemsOf ho hd ?_)
 refine ZA ?_
 rw[←Array.forIn_toList]
 refine wpAny_forIn_list _
  (λ rest (b':Array Int) s'=>∃n,s'={s with toks:=s.toks+n}/\((rest=[.int c.1 tk,.ref b]/\b'=#[]/\n=0)∨(rest=[.ref b]/\b'=#[(intKind prog w).hash c.1]/\n=1)∨(rest=[]/\n=c.2.length+2/\b'=#[(intKind prog w).hash c.1,tupleKeyHash (intKind prog w) c.2])))
  _ ?_ ?_ _ _ ⟨0,rfl,.inl ⟨rfl,rfl,rfl⟩⟩
 . rintro x rest b' s' ⟨n,rfl,⟨e,rfl,rfl⟩ | ⟨e,rfl,rfl⟩ | ⟨e,rfl,rfl⟩⟩
   . cases e
     refine ZA ((intKind prog w).pyHash (intKind_is _ _ _ _) ?_)
     first
      | exact ZB ⟨1,rfl,.inr (.inl ⟨rfl,rfl,rfl⟩)⟩
      | exact ZA (ZB (ZB ⟨1,rfl,.inr (.inl ⟨rfl,rfl,rfl⟩)⟩))
   . cases e
     refine ZA (wpAny_pyHash_tuple (knd:=intKind prog w) ?_ hk ?_)
     . show A.units+1<cLine
       omega
     . first
       | exact ZB ⟨1+(c.2.length+1),by simp[Nat.add_assoc],.inr (.inr ⟨rfl,%[|0],rfl⟩)⟩
       | exact ZA (ZB (ZB ⟨1+(c.2.length+1),by simp[Nat.add_assoc],.inr (.inr ⟨rfl,%[|0],rfl⟩)⟩))
   . cases e
 . rintro b' s' ⟨n,rfl,⟨e,rfl,rfl⟩ | ⟨e,rfl,rfl⟩ | ⟨e,rfl,rfl⟩⟩
   . cases e
   . cases e
   show wpAny _ _ (retInt (Builtin.Tuple.tupleHashOf [(intKind prog w).hash c.1,tupleKeyHash (intKind prog w) c.2])) _ _ _
   refine wpAny_ret_mkInt ?_
   show wpAny _ _ (if(decide (-(2:Int) ^ 63≤Builtin.Tuple.tupleHashOf _)&&decide (Builtin.Tuple.tupleHashOf _<2 ^ 63))=true then _ else _) Q E _
   unfold hC reduceHash at h
   split
   . rename_i hr
     rw[if_pos hr]at h
     exact ZB h
   . rename_i hr
     rw[if_neg hr]at h
     exact ZA (wpAny_rule (ZB h))
theorem Bj{Q:Int->Shared->Prop}(hu:A.units+5<cLine)(hc:aZ s.heap v c)(h:∀n,Q (hC prog w c) {s with toks:=s.toks+n}):wpAny %[|10] A (pyHash v) Q E s:=J8 hu hc (h _)
theorem oE{h:Heap}(ht:fc h (.ref b) ns):∃o xs k,h.get? b=some o/\o.cls=.type "tuple"/\o.data=.seq xs k/\∀v∈xs.toList,∃i t,v=Value.int i t:=by
 obtain⟨b',o,xs,k,e,e1,e2,e3,e4⟩:=ht
 cases e
 refine⟨o,xs,k,e1,e2,e3,λ v hv=>?_⟩
 obtain⟨i,hi⟩:=ZR hv
 obtain⟨t,e⟩:=IntsAre.int_at e4 i v hi
 exact⟨_,t,e⟩
theorem JQ(ht:fc s.heap (.ref b) ns)(h:Q true s):wpAny %[|10] A (eqIsQuiet (n+1) (.ref b)) Q E s:=by
 obtain⟨o,xs,k,ho,hc,hd,hi⟩:=oE ht
 have hT:s.TypeIs (.ref b) "tuple":=⟨o,ho,hc⟩
 unfold eqIsQuiet
 refine ZA (wpAny_specialOf hT F.slot_tuple_eq.lookup ?_)
 show wpAny _ _ (isInstance (.ref b) (.type "tuple")>>=_) _ _ s
 refine ZA (wpAny_isInstance hT isSubtype_tuple_tuple ?_)
 simp only[Bool.not_true,Bool.false_eq_true,if_false]
 refine ZA (wpAny_seqItems ho hd ?_)
 refine ZA ?_
 show wpAny _ _ (forIn xs _ _) _ _ s
 rw[←Array.forIn_toList]
 refine wpAny_forIn_list _ (λ rest r s'=>r.1=none/\s'=s/\∀v∈rest,∃i t,v=Value.int i t) _ ?_ ?_ _ _ ⟨rfl,rfl,hi⟩
 . rintro v rest r s' ⟨hr,rfl,hall⟩
   obtain⟨i,t,rfl⟩:=hall v v3
   rw[eqIsQuiet_byValue _ (by rfl)]
   refine ZA %[|12]
   simp only[Bool.not_true,Bool.false_eq_true,if_false]
   exact ZB ⟨rfl,rfl,λ u hu'=>hall u (x8 _ hu')⟩
 . rintro⟨r1,r2⟩ s' ⟨hr,rfl,_⟩
   simp only at hr
   subst hr
   exact ZB h
theorem v7(ht:aZ s.heap (.ref b) c)(h:Q true s):wpAny %[|10] A (eqIsQuiet (n+2) (.ref b)) Q E s:=by
 obtain⟨a,o,k,tk,u,e,ho,hc,hd,hu'⟩:=ht
 cases e
 obtain⟨b',_,_,_,rfl,_⟩:=id hu'
 have hT:s.TypeIs (.ref b) "tuple":=⟨o,ho,hc⟩
 unfold eqIsQuiet
 refine ZA (wpAny_specialOf hT F.slot_tuple_eq.lookup ?_)
 show wpAny _ _ (isInstance (.ref b) (.type "tuple")>>=_) _ _ s
 refine ZA (wpAny_isInstance hT isSubtype_tuple_tuple ?_)
 simp only[Bool.not_true,Bool.false_eq_true,if_false]
 refine ZA (wpAny_seqItems ho hd ?_)
 refine ZA ?_
 show wpAny _ _ (forIn #[Value.int c.1 tk,.ref b'] _ _) _ _ s
 rw[←Array.forIn_toList]
 refine wpAny_forIn_list _ (λ rest r s'=>r.1=none/\s'=s/\∀v∈rest,v=Value.int c.1 tk∨v=.ref b') _ ?_ ?_ _ _ ⟨rfl,rfl,by simp⟩
 . rintro v rest r s' ⟨hr,rfl,hall⟩
   rcases hall v v3 with rfl | rfl
   . rw[eqIsQuiet_byValue _ (by rfl)]
     refine ZA %[|12]
     simp only[Bool.not_true,Bool.false_eq_true,if_false]
     exact ZB ⟨rfl,rfl,λ u hu'=>hall u (x8 _ hu')⟩
   . refine ZA (JQ hu' ?_)
     simp only[Bool.not_true,Bool.false_eq_true,if_false]
     exact ZB ⟨rfl,rfl,λ u hu'=>hall u (x8 _ hu')⟩
 . rintro⟨r1,r2⟩ s' ⟨hr,rfl,_⟩
   simp only at hr
   subst hr
   exact ZB h
theorem Fy(n:Nat)(i:Int)(t:Tok):hashByValue n (.int i t)=pure true:=by cases n<;>rfl
theorem Rk(ht:fc s.heap (.ref b) ns)(h:Q true s):wpAny %[|10] A (hashByValue (n+1) (.ref b)) Q E s:=by
 obtain⟨o,xs,k,ho,hc,hd,hi⟩:=oE ht
 have hT:s.TypeIs (.ref b) "tuple":=⟨o,ho,hc⟩
 unfold hashByValue
 refine ZA (wpAny_specialOf hT F.slot_tuple_hash.lookup ?_)
 show wpAny _ _ (seqItems? (.ref b)>>=_) _ _ s
 refine ZA (wpAny_seqItems ho hd ?_)
 refine ZA ?_
 show wpAny _ _ (forIn xs _ _) _ _ s
 rw[←Array.forIn_toList]
 refine wpAny_forIn_list _ (λ rest r s'=>r.1=none/\s'=s/\∀v∈rest,∃i t,v=Value.int i t) _ ?_ ?_ _ _ ⟨rfl,rfl,hi⟩
 . rintro v rest r s' ⟨hr,rfl,hall⟩
   obtain⟨i,t,rfl⟩:=hall v v3
   rw[Fy]
   refine ZA %[|12]
   simp only[Bool.not_true,Bool.false_eq_true,if_false]
   exact ZB ⟨rfl,rfl,λ u hu'=>hall u (x8 _ hu')⟩
 . rintro⟨r1,r2⟩ s' ⟨hr,rfl,_⟩
   simp only at hr
   subst hr
   exact ZB h
theorem uR(ht:aZ s.heap (.ref b) c)(h:Q true s):wpAny %[|10] A (hashByValue (n+2) (.ref b)) Q E s:=by
 obtain⟨a,o,k,tk,u,e,ho,hc,hd,hu'⟩:=ht
 cases e
 obtain⟨b',_,_,_,rfl,_⟩:=id hu'
 have hT:s.TypeIs (.ref b) "tuple":=⟨o,ho,hc⟩
 unfold hashByValue
 refine ZA (wpAny_specialOf hT F.slot_tuple_hash.lookup ?_)
 show wpAny _ _ (seqItems? (.ref b)>>=_) _ _ s
 refine ZA (wpAny_seqItems ho hd ?_)
 refine ZA ?_
 show wpAny _ _ (forIn #[Value.int c.1 tk,.ref b'] _ _) _ _ s
 rw[←Array.forIn_toList]
 refine wpAny_forIn_list _ (λ rest r s'=>r.1=none/\s'=s/\∀v∈rest,v=Value.int c.1 tk∨v=.ref b') _ ?_ ?_ _ _ ⟨rfl,rfl,by simp⟩
 . rintro v rest r s' ⟨hr,rfl,hall⟩
   rcases hall v v3 with rfl | rfl
   . rw[Fy]
     refine ZA %[|12]
     simp only[Bool.not_true,Bool.false_eq_true,if_false]
     exact ZB ⟨rfl,rfl,λ u hu'=>hall u (x8 _ hu')⟩
   . refine ZA (Rk hu' ?_)
     simp only[Bool.not_true,Bool.false_eq_true,if_false]
     exact ZB ⟨rfl,rfl,λ u hu'=>hall u (x8 _ hu')⟩
 . rintro⟨r1,r2⟩ s' ⟨hr,rfl,_⟩
   simp only at hr
   subst hr
   exact ZB h
theorem Fv(n:Nat)(i:Int)(t:Tok):ofAClassStatement n (.int i t)=pure false:=by cases n<;>rfl
theorem RK(ht:fc s.heap (.ref b) ns)(h:Q false s):wpAny %[|10] A (ofAClassStatement (n+1) (.ref b)) Q E s:=by
 obtain⟨o,xs,k,ho,hc,hd,hi⟩:=oE ht
 have hT:s.TypeIs (.ref b) "tuple":=⟨o,ho,hc⟩
 unfold ofAClassStatement
 refine ZA (wpAny_typeOf hT ?_)
 show wpAny _ _ ((pure true:Sem Bool)>>=_) _ _ s
 refine ZA %[|12]
 simp only[Bool.not_true,Bool.false_eq_true,if_false]
 refine ZA (wpAny_seqItems ho hd ?_)
 refine ZA ?_
 show wpAny _ _ (forIn xs _ _) _ _ s
 rw[←Array.forIn_toList]
 refine wpAny_forIn_list _ (λ rest r s'=>r.1=none/\s'=s/\∀v∈rest,∃i t,v=Value.int i t) _ ?_ ?_ _ _ ⟨rfl,rfl,hi⟩
 . rintro v rest r s' ⟨hr,rfl,hall⟩
   obtain⟨i,t,rfl⟩:=hall v v3
   rw[Fv]
   refine ZA %[|12]
   simp only[Bool.false_eq_true,if_false]
   exact ZB ⟨rfl,rfl,λ u hu'=>hall u (x8 _ hu')⟩
 . rintro⟨r1,r2⟩ s' ⟨hr,rfl,_⟩
   simp only at hr
   subst hr
   exact ZB h
theorem Ep(ht:aZ s.heap (.ref b) c)(h:Q false s):wpAny %[|10] A (ofAClassStatement (n+2) (.ref b)) Q E s:=by
 obtain⟨a,o,k,tk,u,e,ho,hc,hd,hu'⟩:=ht
 cases e
 obtain⟨b',_,_,_,rfl,_⟩:=id hu'
 have hT:s.TypeIs (.ref b) "tuple":=⟨o,ho,hc⟩
 unfold ofAClassStatement
 refine ZA (wpAny_typeOf hT ?_)
 show wpAny _ _ ((pure true:Sem Bool)>>=_) _ _ s
 refine ZA %[|12]
 simp only[Bool.not_true,Bool.false_eq_true,if_false]
 refine ZA (wpAny_seqItems ho hd ?_)
 refine ZA ?_
 show wpAny _ _ (forIn #[Value.int c.1 tk,.ref b'] _ _) _ _ s
 rw[←Array.forIn_toList]
 refine wpAny_forIn_list _ (λ rest r s'=>r.1=none/\s'=s/\∀v∈rest,v=Value.int c.1 tk∨v=.ref b') _ ?_ ?_ _ _ ⟨rfl,rfl,by simp⟩
 . rintro v rest r s' ⟨hr,rfl,hall⟩
   rcases hall v v3 with rfl | rfl
   . rw[Fv]
     refine ZA %[|12]
     simp only[Bool.false_eq_true,if_false]
     exact ZB ⟨rfl,rfl,λ u hu'=>hall u (x8 _ hu')⟩
   . refine ZA (RK hu' ?_)
     simp only[Bool.false_eq_true,if_false]
     exact ZB ⟨rfl,rfl,λ u hu'=>hall u (x8 _ hu')⟩
 . rintro⟨r1,r2⟩ s' ⟨hr,rfl,_⟩
   simp only at hr
   subst hr
   exact ZB h
theorem Oa{x:Value}{ys:%[|7]}(hx:aZ s.heap x c)(hy:∀y∈ys,∃d,aZ s.heap y d)(h:Q false s):wpAny %[|10] A (searchCouldBeSeen x ys) Q E s:=by
 have hx0:=hx
 obtain⟨a,_,_,_,_,rfl,_⟩:=hx
 unfold searchCouldBeSeen
 refine ZA ?_
 refine wpAny_forIn_list _ (λ rest r s'=>r.1=none/\s'=s/\∀v∈rest,∃d,aZ s.heap v d) _ ?_ ?_ _ _ ⟨rfl,rfl,hy⟩
 . rintro v rest r s' ⟨hr,rfl,hall⟩
   obtain⟨d,hd⟩:=hall v v3
   have hd0:=hd
   obtain⟨b,_,_,_,_,rfl,_⟩:=hd
   have tl:∀v∈rest,∃d,aZ s'.heap v d:=λ u hu'=>hall u (x8 _ hu')
   dsimp only
   split
   . exact ZB ⟨rfl,rfl,tl⟩
   . refine ZA (v7 hx0 ?_)
     simp only[Bool.not_true,Bool.false_eq_true,if_false]
     refine ZA (v7 hd0 ?_)
     simp only[Bool.not_true,Bool.false_eq_true,if_false]
     refine ZA (Ep hx0 ?_)
     simp only[Bool.false_eq_true,if_false]
     refine ZA (Ep hd0 ?_)
     simp only[Bool.false_eq_true,if_false]
     exact ZB ⟨rfl,rfl,tl⟩
 . rintro⟨r1,r2⟩ s' ⟨hr,rfl,_⟩
   simp only at hr
   subst hr
   exact ZB h
theorem Af{u:Value}{ms:%[|3]}(hu:A.units<cLine)(hx:fc s.heap u ns)(hy:fc s.heap v ms):SeqAt.EqAt A s u v (decide (ns=ms)):=by
 intro prog w E Q h
 obtain⟨a,_,_,_,rfl,_⟩:=id hx
 obtain⟨b,_,_,_,rfl,_⟩:=id hy
 exact wpAny_eqBool_tuple (knd:=intKind prog w) hu (zc hx) (zc hy) h
theorem M6{u:Value}{d:Int×%[|3]}(hu:A.units+2<cLine)(hx:aZ s.heap u c)(hy:aZ s.heap v d):SeqAt.EqAt A s u v (decide (c=d)):=by
 obtain⟨a,o,k,tk,u,rfl,ho,hc,hd,hu'⟩:=hx
 obtain⟨a2,o2,k2,tk2,u2,rfl,ho2,hc2,hd2,hu2⟩:=hy
 by_cases e:a=a2
 . subst e
   obtain rfl:o=o2:=Option.some.inj (ho.symm.trans ho2)
   have e1:=hd.symm.trans hd2
   injection e1 with e1 _
   have e2:[Value.int c.1 tk,u]=[Value.int d.1 tk2,u2]:=congrArg Array.toList e1
   injection e2 with e3 e4
   injection e3 with e3 _
   injection e4 with e4 _
   subst e4
   obtain⟨b,_,_,_,rfl,_⟩:=id hu'
   have e5:c.2=d.2:=Oj hu' hu2
   have e6:c=d:=Prod.ext e3 e5
   rw[ZG e6]
   exact SeqAt.EqAt.same _
 . have key:=SeqAt.RcAt.tuples (A:=A) (s:=s) (e:=λ j=>if j=0 then decide (c.1=d.1)else decide (c.2=d.2)) ⟨o,ho,hc,k,hd⟩ ⟨o2,ho2,hc2,k2,hd2⟩ %[|0] (λ j h1 h2=>by
    match j,h1,h2 with
    | 0,_,_=>
      have:=SeqAt.EqAt.int_int (A:=A.in1) (s:=s) c.1 tk d.1 tk2
      rw[show(c.1==d.1)=decide (c.1=d.1)from by rw[Bool.eq_iff_iff];simp]at this
      exact this
    | 1,_,_=>exact Af (by show A.units+1<_;omega) hu' hu2
    | j+2,h1,_=>exact absurd h1 (by simp))
   have e2:((List.range (min #[Value.int c.1 tk,u].size #[Value.int d.1 tk2,u2].size)).all (λ j=>if j=0 then decide (c.1=d.1)else decide (c.2=d.2))&&#[Value.int c.1 tk,u].size==#[Value.int d.1 tk2,u2].size)=decide (c=d):=by
    rw[Bool.eq_iff_iff]
    simp[List.range_succ,Prod.ext_iff]
   rw[e2]at key
   exact SeqAt.EqAt.of_refs e key
end
end RF
namespace RF
open PySem PySem.Spec L2 DL
open PyProof.Rows
variable {ps : List Nat} {j0 ep : Nat} {h : Int} {a : Addr} {v v0 : Value} {c c0 : Int × %[|3]}
abbrev tbl(led:Bool)(ps:List Nat):SetTable:={mask:=7,place:=ps.toArray,dummies:=#[],finger:=0,led:=led,moves:=0,plain:=true}
abbrev bU(led:Bool)(es:List (Int×Value))(ps:List Nat)(ep:Nat):Obj:={cls:=.type "set",dict:=none,data:=.set es.toArray ep (tbl led ps),slots:=#[]}
theorem tX(j0 j:Nat):SetTable.below #[j0] j=if j0<j then 1 else 0:=by
 simp[SetTable.below,SetTable.below.go]
theorem rZ(led:Bool)(j0 j:Nat):(tbl led [j0]).slot j=if j=j0 then .live 0 else .empty:=by
 unfold SetTable.slot
 show(if(#[j0][SetTable.below #[j0] j]? ==some j)=true then SetTable.Slot.live (SetTable.below #[j0] j)else if SetTable.has #[] j=true then .dummy else .empty)=_
 rw[tX]
 by_cases h:j=j0
 . subst h
   rw[if_neg (Nat.lt_irrefl _),if_pos rfl,if_pos (by simp)]
 . rw[if_neg h]
   have hd:SetTable.has #[] j=false:=rfl
   rw[hd]
   by_cases h2:j0<j
   . rw[if_pos h2];simp
   . rw[if_neg h2]
     have:¬j0=j:=λ e=>h e.symm
     simp[this]
structure Std(p:SetTable.Probe)(k:Nat):Prop where
 ji:p.j=p.i
 lt:p.i<8
 more:p.more=0
 dummy:p.dummy=none
 small:p.perturb<32 ^ k
theorem Ma(i:Nat):SetTable.runEnd 7 i=i:=by unfold SetTable.runEnd;rw[if_neg %[|0]]
theorem wF(led:Bool)(ps:List Nat)(h:Int):Std ((tbl led ps).probeStart h) 13:=by
 have hb:SetTable.bits h<2 ^ 64:=by
  unfold SetTable.bits
  have h1:=Int.emod_nonneg h (b:=2 ^ 64) %[|2]
  have h2:=Int.emod_lt_of_pos h (b:=2 ^ 64) %[|2]
  omega
 refine⟨rfl,Nat.mod_lt _ (Nat.succ_pos _),?_,rfl,?_⟩
 . show SetTable.runEnd 7 _-_=0
   rw[Ma];omega
 . show SetTable.bits h<32 ^ 13
   exact ZM hb %[|2]
theorem Ab{led:Bool}{p:SetTable.Probe}{k:Nat}(s:Std p (k+1)):Std ((tbl led ps).advance p) k:=by
 unfold SetTable.advance
 rw[if_neg (by rw[s.more];exact Nat.lt_irrefl _)]
 refine⟨rfl,Nat.mod_lt _ (Nat.succ_pos _),?_,s.dummy,?_⟩
 . show SetTable.runEnd 7 _-_=0
   rw[Ma];omega
 . show p.perturb/32<32 ^ k
   have:=s.small
   rw[Nat.pow_succ]at this
   exact Nat.div_lt_of_lt_mul %[|0]
theorem yR{led:Bool}{p:SetTable.Probe}(s:Std p 0):Std ((tbl led ps).advance p) 0/\((tbl led ps).advance p).j≠p.j:=by
 have hp:p.perturb=0:=by have:=s.small;simpa using this
 unfold SetTable.advance
 rw[if_neg (by rw[s.more];exact Nat.lt_irrefl _)]
 refine⟨⟨rfl,Nat.mod_lt _ (Nat.succ_pos _),?_,s.dummy,?_⟩,?_⟩
 . show SetTable.runEnd 7 _-_=0
   rw[Ma];omega
 . show p.perturb/32<32 ^ 0
   rw[hp];decide
 . show(p.i*5+1+p.perturb/32) % (7+1)≠p.j
   rw[s.ji,hp]
   have:=s.lt
   omega
theorem jQ{led:Bool}{n:Nat}{hs:Nat->Int}{p:SetTable.Probe}(hj:p.j≠j0):SetTable.probe.go (tbl led [j0]) hs h (n+1) p=some (.empty p.j p.dummy):=by
 unfold SetTable.probe.go
 rw[rZ,if_neg hj]
theorem jX{led:Bool}{n:Nat}{hs:Nat->Int}{p:SetTable.Probe}(hj:p.j=j0):SetTable.probe.go (tbl led [j0]) hs h (n+1) p=if hs 0==h then some (.candidate p.j 0 ((tbl led [j0]).advance p))else SetTable.probe.go (tbl led [j0]) hs h n ((tbl led [j0]).advance p):=by
 conv=>lhs;unfold SetTable.probe.go
 rw[rZ,if_pos hj]
theorem Ai{led:Bool}{j0:Nat}{hs:Nat->Int}{h:Int}(hne:(hs 0==h)=false):∀(k n:Nat)(p:SetTable.Probe),Std p k->k+2≤n->∃j,j≠j0/\j<8/\SetTable.probe.go (tbl led [j0]) hs h n p=some (.empty j none)
 | k,0,p,s,hn=>%[|0]
 | 0,n+1,p,s,hn=>by
   by_cases hj:p.j=j0
   . obtain⟨s1,ne⟩:=yR (led:=led) (ps:=[j0]) s
     obtain⟨m,rfl⟩:∃m,n=m+1:=⟨n-1,%[|0]⟩
     refine⟨((tbl led [j0]).advance p).j,by rw[←hj];exact ne,by rw[s1.ji];exact s1.lt,?_⟩
     rw[jX hj,hne]
     show SetTable.probe.go _ _ _ _ _=_
     rw[jQ (by rw[←hj];exact ne),s1.dummy]
   . exact⟨p.j,hj,by rw[s.ji];exact s.lt,by rw[jQ hj,s.dummy]⟩
 | k +1,n+1,p,s,hn=>by
   by_cases hj:p.j=j0
   . obtain⟨j,h1,h2,h3⟩:=Ai hne k n _ (Ab (led:=led) (ps:=[j0]) s) %[|0]
     refine⟨j,h1,h2,?_⟩
     rw[jX hj,hne]
     exact h3
   . exact⟨p.j,hj,by rw[s.ji];exact s.lt,by rw[jQ hj,s.dummy]⟩
theorem Pa{led:Bool}{hs:Nat->Int}{n:Nat}{p:SetTable.Probe}(hne:(hs 0==h)=false):SetTable.probe.go (tbl led [j0]) hs h n p=SetTable.probe.go (tbl led [j0]) (λ _=>h+1) h n p:=by
 induction n generalizing p with
 | zero=>rfl
 | succ n ih=>
   by_cases hj:p.j=j0
   . have h1:(h+1==h)=false:=by simp;omega
     rw[jX hj,jX hj,hne,h1]
     exact ih
   . rw[jQ hj,jQ hj]
section
variable {prog : Program} {w : World} {A : Around} {E : Value -> Shared -> Prop} {s : Shared}
theorem ig{led:Bool}{es:List (Int×Value)}(h:ps.length=es.length)(h7:ps.length≤7):(tbl led ps).fits es.toArray.size=true:=by
 unfold SetTable.fits SetTable.fill
 simp[h]
 omega
theorem bR{led:Bool}{es:List (Int×Value)}{Q:(Array (Int×Value)×Nat×SetTable)->Shared->Prop}(ho:s.heap.get? a=some (bU led es ps ep))(h:ps.length=es.length)(h7:ps.length≤7)(hq:Q (es.toArray,ep,tbl led ps) s):
 wpAny %[|10] A (setState a) Q E s:=wpAny_setState_of ho rfl (ig h h7) hq
theorem zK{M:Model}{b:Addr}{Q:Bool->Shared->Prop}(h:Q true s):wpAny M A (isSame (.ref b) (.ref b)) Q E s:=by
 unfold isSame
 dsimp only
 rw[if_pos (beq_self_eq_true b)]
 exact ZB h
theorem jG{led:Bool}{m:Nat}{st:Option SetTable.Probe}{Q:SetFound->Shared->Prop}(hu:A.units+2<cLine)(ho:s.heap.get? a=some (bU led [(h,v0)] [j0] ep))(hv:aZ s.heap v c)(hv0:aZ s.heap v0 c0)
 (hd:(st.getD ((tbl led [j0]).probeStart h)).dummy=none)
 (h0:(st.getD ((tbl led [j0]).probeStart h)).j≠j0->Q (.free (st.getD ((tbl led [j0]).probeStart h)).j false) s)
 (h1:c=c0->Q (.there none) s)
 (h2:c≠c0->(st.getD ((tbl led [j0]).probeStart h)).j=j0->wpAny %[|10] A (setSearchFrom a v h true m (some ((tbl led [j0]).advance (st.getD ((tbl led [j0]).probeStart h))))) Q E s):
 wpAny %[|10] A (setSearchFrom a v h true (m+1) st) Q E s:=by
 have hv1:=hv0
 obtain⟨b0,_,_,_,_,rfl,_⟩:=hv1
 have state:∀{Q:(Array (Int×Value)×Nat×SetTable)->Shared->Prop},Q ([(h,Value.ref b0)].toArray,ep,tbl led [j0]) s->wpAny %[|10] A (setState a) Q E s:=λ hq=>bR ho rfl (Nat.le_of_ble_eq_true rfl) hq
 unfold setSearchFrom
 refine ZA (state ?_)
 dsimp only
 rw[if_neg (show ¬(SetTable.gaveWay (tbl led [j0])=true)from by simp[SetTable.gaveWay])]
 unfold SetTable.probe
 rw[show 10*SetTable.turns (tbl led [j0]).mask=219+1 from rfl]
 by_cases hj:(st.getD ((tbl led [j0]).probeStart h)).j=j0
 . rw [jX hj,if_pos (by show(h==h)=true;exact beq_self_eq_true h)]
   dsimp only
   have hs:∀y∈List.map (λ x:Int×Value=>x.2) (Array.filter (λ x=>x.fst==h) #[(h,Value.ref b0)]).toList,∃d,aZ s.heap y d:=by
    intro y hy
    rw[List.mem_map]at hy
    obtain⟨e,he,rfl⟩:=hy
    have:e∈#[(h,Value.ref b0)]:=(Array.mem_filter.mp (Array.mem_toList_iff.mp he)).1
    have:e=(h,Value.ref b0):=by simpa using this
    subst this
    exact⟨c0,hv0⟩
   have eqq:SeqAt.EqAt A s (Value.ref b0) v (decide (c0=c)):=M6 hu hv0 hv
   have slq:(tbl led [j0]).slot (st.getD ((tbl led [j0]).probeStart h)).j=.live 0:=by rw[rZ,if_pos hj]
   cases led
   . rw[if_pos (show(!false)=true from rfl)]
     refine ZA (Oa hv hs ?_)
     rw[if_neg y7]
     have e0:#[(h,Value.ref b0)][0]? =some (h,Value.ref b0):=rfl
     rw[e0]
     dsimp only
     refine ZA (ZQ (eqq prog w E _ ?_))
     refine ZA (state ?_)
     by_cases ec:c0=c
     . rw[ZG ec]
       exact ZB (h1 ec.symm)
     . rw[ZH ec]
       dsimp only
       rw[if_neg (show ¬((true&&false)=true)from y7)]
       have e1:SetTable.sameMemory (tbl false [j0]) 0 7=some true:=rfl
       rw[e1]
       dsimp only
       rw[if_pos rfl,slq]
       dsimp only
       rw[e0]
       dsimp only
       refine ZA (zK ?_)
       refine ZA %[|12]
       exact h2 (λ e=>ec e.symm) hj
   . rw[if_neg (show ¬(!true)=true from y7)]
     have e0:#[(h,Value.ref b0)][0]? =some (h,Value.ref b0):=rfl
     rw[e0]
     dsimp only
     refine ZA (ZQ (eqq prog w E _ ?_))
     refine ZA (state ?_)
     by_cases ec:c0=c
     . rw[ZG ec]
       exact ZB (h1 ec.symm)
     . rw[ZH ec]
       dsimp only
       rw[if_neg (show ¬((true&&false)=true)from y7)]
       have e1:SetTable.sameMemory (tbl true [j0]) 0 7=some true:=rfl
       rw[e1]
       dsimp only
       rw[if_pos rfl,slq]
       dsimp only
       rw[e0]
       dsimp only
       refine ZA (zK ?_)
       refine ZA %[|12]
       exact h2 (λ e=>ec e.symm) hj
 . rw[jQ hj,hd]
   dsimp only
   exact ZB (h0 hj)
theorem Cp{led:Bool}{Q:SetFound->Shared->Prop}(hu:A.units+2<cLine)(ho:s.heap.get? a=some (bU led [(h,v0)] [j0] ep))(hv:aZ s.heap v c)(hv0:aZ s.heap v0 c0)
 (h1:c=c0->Q (.there none) s)(h2:c≠c0->∀j,j≠j0->j<8->Q (.free j false) s)(ne:c=c0->((tbl led [j0]).probeStart h).j=j0):
 ∀(k fuel:Nat)(st:Option SetTable.Probe),Std (st.getD ((tbl led [j0]).probeStart h)) k->(st.isSome=true->c≠c0)->k+2≤fuel->wpAny %[|10] A (setSearchFrom a v h true fuel st) Q E s:=by
 intro k
 induction k with
 | zero=>
   intro fuel st sd hst hf
   obtain⟨m,rfl⟩:∃m,fuel=m+1+1:=⟨fuel-2,%[|0]⟩
   refine jG hu ho hv hv0 sd.dummy (λ hj=>?_) h1 λ nc hj=>?_
   . by_cases ec:c=c0
     . cases st with
       | none=>exact absurd (ne ec) hj
       | some p=>exact absurd ec (hst rfl)
     . exact h2 ec _ hj (by rw[sd.ji];exact sd.lt)
   . obtain⟨s1,ne⟩:=yR (led:=led) (ps:=[j0]) sd
     rw[hj]at ne
     exact jG hu ho hv hv0 s1.dummy (λ hj=>h2 nc _ hj (by rw[Option.getD_some,s1.ji];exact s1.lt)) h1 λ _ hj=>absurd hj ne
 | succ k ih=>
   intro fuel st sd hst hf
   obtain⟨m,rfl⟩:∃m,fuel=m+1:=⟨fuel-1,%[|0]⟩
   refine jG hu ho hv hv0 sd.dummy (λ hj=>?_) h1 λ nc hj=>?_
   . by_cases ec:c=c0
     . cases st with
       | none=>exact absurd (ne ec) hj
       | some p=>exact absurd ec (hst rfl)
     . exact h2 ec _ hj (by rw[sd.ji];exact sd.lt)
   . exact ih m _ (Ab sd) (λ _=>nc) %[|0]
theorem Dl{led:Bool}{h0:Int}{Q:SetFound->Shared->Prop}(hu:A.units+2<cLine)(hj0:j0=SetTable.bits h0 % 8)(hh:c=c0->h0=h)(ho:s.heap.get? a=some (bU led [(h0,v0)] [j0] ep))(hv:aZ s.heap v c)(hv0:aZ s.heap v0 c0)
 (h1:c=c0->Q (.there none) s)(h2:c≠c0->∀j,j≠j0->j<8->Q (.free j false) s):wpAny %[|10] A (setSearch a v h true) Q E s:=by
 unfold setSearch
 generalize hf:(100000:Nat)=fuel
 by_cases he:h0=h
 . subst he
   exact Cp hu ho hv hv0 h1 h2 (λ _=>hj0.symm) 13 fuel none (wF _ _ _) (λ h=>nomatch h) %[|0]
 . have nc:c≠c0:=λ e=>he (hh e)
   obtain⟨m,rfl⟩:∃m,fuel=m+1:=⟨fuel-1,%[|0]⟩
   unfold setSearchFrom
   refine ZA (bR ho rfl (Nat.le_of_ble_eq_true rfl) ?_)
   dsimp only
   rw[if_neg (show ¬(SetTable.gaveWay (tbl led [j0])=true)from by simp[SetTable.gaveWay])]
   unfold SetTable.probe
   rw[Pa (by show(h0==h)=false;simpa using he)]
   obtain⟨j,h3,h4,h5⟩:=Ai (led:=led) (j0:=j0) (hs:=λ _=>h+1) (h:=h) (by simp;omega) 13 (10*SetTable.turns (tbl led [j0]).mask) _ (wF led [j0] h) (by show 15≤220;decide)
   simp only[Option.getD_none]
   rw[h5]
   exact ZB (h2 nc j h3 h4)
theorem HD{led:Bool}{Q:SetFound->Shared->Prop}(ho:s.heap.get? a=some (bU led [] [] ep))
 (h1:Q (.free (SetTable.bits h % 8) false) s):wpAny %[|10] A (setSearch a v h true) Q E s:=by
 unfold setSearch
 generalize hf:(100000:Nat)=fuel
 obtain⟨m,rfl⟩:∃m,fuel=m+1:=⟨fuel-1,%[|0]⟩
 unfold setSearchFrom
 refine ZA (bR ho rfl (Nat.zero_le _) ?_)
 dsimp only
 rw[if_neg (show ¬(SetTable.gaveWay (tbl led [])=true)from by simp[SetTable.gaveWay])]
 exact ZB h1
theorem oR{led:Bool}{es:List (Int×Value)}{es':List (Int×Value)}{ps':List Nat}{Q:Unit->Shared->Prop}(ho:s.heap.get? a=some (bU led es ps ep))(hz:es'.length≤7)
 (h:∀h',Heap.SameBut a s.heap h'->h'.get? a=some (bU led es' ps' (ep+1))->Q () {s with heap:=h'}):wpAny %[|10] A (storeSet a es'.toArray (tbl led ps')) Q E s:=by
 refine wpAny_storeSet_of ho rfl (h _ (Heap.SameBut.update s.heap a _) ?_) (Nat.le_trans (by rw[x9];exact hz) (%[|2]:7≤sizeLine))
 have:=Heap.get?_update_self (Obj.putSet es'.toArray (tbl led ps')) ho (by rw[putSet_of _ _ rfl];rfl)
 rw[putSet_of _ _ rfl]at this
 exact this
theorem Q5{led:Bool}{Q:Bool->Shared->Prop}(hu:A.units+5<cLine)(ho:s.heap.get? a=some (bU led [] [] ep))(hv:aZ s.heap v c)
 (h:∀h' tk b,Heap.SameBut a s.heap h'->h'.get? a=some (bU led [(hC prog w c,v)] [SetTable.bits (hC prog w c) % 8] (ep+1))->Q b {s with heap:=h',toks:=s.toks+tk}):
 wpAny %[|10] A (setAdd a v) Q E s:=by
 unfold setAdd
 refine ZQ (ZA (Bj hu hv λ n=>?_))
 unfold setAddHashed
 refine ZQ ?_
 generalize hf:(100000:Nat)=fuel
 obtain⟨m,rfl⟩:∃m,fuel=m+1:=⟨fuel-1,%[|0]⟩
 unfold setAddHashedIn
 refine ZA (bR (s:={s with toks:=s.toks+n}) ho rfl (Nat.zero_le _) ?_)
 have hv1:=hv
 obtain⟨b0,_,_,_,_,rfl,_⟩:=hv1
 dsimp only
 rw[if_neg (show ¬(byScan (.ref b0) _=true)from y7)]
 refine ZA (HD (s:={s with toks:=s.toks+n}) ho ?_)
 dsimp only
 refine ZA (bR (s:={s with toks:=s.toks+n}) ho rfl (Nat.zero_le _) ?_)
 have e1:(tbl led []).put (SetTable.bits (hC prog w c) % 8)=(tbl led [SetTable.bits (hC prog w c) % 8],0):=rfl
 rw[e1]
 dsimp only
 rw[if_pos rfl]
 refine ZA (uR (s:={s with toks:=s.toks+n}) (n:=6) hv ?_)
 rw[if_pos rfl]
 refine ZA (oR (s:={s with toks:=s.toks+n}) (es':=[(hC prog w c,Value.ref b0)]) ho (by simp) λ h' k1 k2=>?_)
 rw[if_neg (by simp[SetTable.tooFull,SetTable.fill])]
 exact ZB (h h' n true k1 k2)
theorem Rv(led:Bool)(j0 j:Nat)(hj:j≠j0):(tbl led [j0]).put j=if j0<j then(tbl led [j0,j],1)else(tbl led [j,j0],0):=by
 unfold SetTable.put
 show((⟨7,SetTable.insertAt #[j0] (SetTable.below #[j0] j) j,if SetTable.has #[] j=true then _ else #[],0,led,0,true⟩:SetTable),SetTable.below #[j0] j)=_
 rw[if_neg (show ¬SetTable.has #[] j=true from y7),tX]
 by_cases h:j0<j
 . rw[if_pos h,if_pos h];rfl
 . rw[if_neg h,if_neg h];rfl
theorem Rz{led:Bool}{Q:Bool->Shared->Prop}(hu:A.units+5<cLine)(ho:s.heap.get? a=some (bU led [(hC prog w c0,v0)] [SetTable.bits (hC prog w c0) % 8] ep))(hv:aZ s.heap v c)(hv0:aZ s.heap v0 c0)
 (h1:c=c0->∀tk b,Q b {s with toks:=s.toks+tk})
 (h2:c≠c0->∀h' tk b es ps,Heap.SameBut a s.heap h'->h'.get? a=some (bU led es ps (ep+1))->(∃e1 e2 v1 v2 j1 j2,es=[(e1,v1),(e2,v2)]/\ps=[j1,j2]/\j1<j2/\j2<8/\(v1=v0/\v2=v∨v1=v/\v2=v0))->Q b {s with heap:=h',toks:=s.toks+tk}):
 wpAny %[|10] A (setAdd a v) Q E s:=by
 unfold setAdd
 refine ZQ (ZA (Bj hu hv λ n=>?_))
 unfold setAddHashed
 refine ZQ ?_
 generalize hf:(100000:Nat)=fuel
 obtain⟨m,rfl⟩:∃m,fuel=m+1:=⟨fuel-1,%[|0]⟩
 have hh:c=c0->hC prog w c0=hC prog w c:=λ e=>by rw[e]
 generalize hC prog w c=h at hh ⊢
 generalize hC prog w c0=h0 at hh ho ⊢
 unfold setAddHashedIn
 refine ZA (bR (s:={s with toks:=s.toks+n}) ho rfl (Nat.le_of_ble_eq_true rfl) ?_)
 have hv1:=hv
 obtain⟨b0,_,_,_,_,rfl,_⟩:=hv1
 dsimp only
 rw[if_neg (show ¬(byScan (.ref b0) _=true)from y7)]
 refine ZA (Dl (s:={s with toks:=s.toks+n}) %[|0] rfl hh ho hv hv0 (λ e=>?_) λ nc j hj h8=>?_)
 . exact ZB (h1 e n false)
 dsimp only
 refine ZA (bR (s:={s with toks:=s.toks+n}) ho rfl (Nat.le_of_ble_eq_true rfl) ?_)
 have hb0:SetTable.bits h0 % 8<8:=Nat.mod_lt _ %[|2]
 generalize SetTable.bits h0 % 8=j0 at ho hj hb0 ⊢
 dsimp only
 rw[Rv led j0 j hj]
 by_cases hlt:j0<j
 . rw[if_pos hlt]
   dsimp only
   rw[if_pos rfl]
   refine ZA (uR (s:={s with toks:=s.toks+n}) (n:=6) hv ?_)
   rw[if_pos rfl]
   refine ZA (oR (s:={s with toks:=s.toks+n}) (es':=[(h0,v0),(h,Value.ref b0)]) ho (by simp) λ h' k1 k2=>?_)
   rw[if_neg (by simp[SetTable.tooFull,SetTable.fill])]
   exact ZB (h2 nc h' n true _ _ k1 k2 ⟨_,_,_,_,_,_,rfl,rfl,hlt,h8,.inl ⟨rfl,rfl⟩⟩)
 . rw[if_neg hlt]
   dsimp only
   rw[if_pos rfl]
   refine ZA (uR (s:={s with toks:=s.toks+n}) (n:=6) hv ?_)
   rw[if_pos rfl]
   refine ZA (oR (s:={s with toks:=s.toks+n}) (es':=[(h,Value.ref b0),(h0,v0)]) ho (by simp) λ h' k1 k2=>?_)
   rw[if_neg (by simp[SetTable.tooFull,SetTable.fill])]
   exact ZB (h2 nc h' n true _ _ k1 k2 ⟨_,_,_,_,_,_,rfl,rfl,%[|0],hb0,.inr ⟨rfl,rfl⟩⟩)
end
end RF
namespace RF
open PySem PySem.Spec L2 DL
open PyProof.Rows
section
variable {prog : Program} {w : World} {A : Around} {R : Result -> Shared -> Prop} {I : Addr} {fp wr : List Addr} {G : Array GenState -> Array GenState -> Prop} {n : Nat} {P : Nat -> Value -> Prop} {St : Nat -> Shared -> Prop}
theorem N7(W:WalksS prog w A.in1 I fp wr G n P St)(S:Addr)(hSf:S∉fp)(SS:Nat->Heap->Prop)
 (hframe:∀i h h',SS i h->(∀b o,b∉wr->h.get? b=some o->h'.get? b=some o)->SS i h')
 (hadd:∀i v(s:Shared)(Q:Bool->Shared->Prop)(E:%[|11]),i<n->P i v->SS i s.heap->(∀b h' tk,Heap.SameBut S s.heap h'->SS (i+1) h'->Q b {s with heap:=h',toks:=s.toks+tk})->wpAny %[|10] A.in1 (setAdd S v) Q E s):
 ∀ (k i:Nat)(s:Shared),n-i=k->i≤n->St i s->SS i s.heap->
   (∀s',Moved (S::wr) G s s'->SS n s'.heap->R (.ok (.ret .none)) s')->
   codeAny %[|10] A (.builtin "set.update.loop" ⟨[.ref S,.ref I],[]⟩) R s:=by
 have hSw:S∉wr:=λ h=>hSf (W.sub _ h)
 have hsub:∀b∈wr,b∈S::wr:=λ b hb=>x8 _ hb
 intro k
 induction k with
 | zero=>
   intro i s hk hi hst hS hR
   have hin:i=n:=%[|0]
   subst hin
   refine codeAny_builtin F.entry_set_update_loop ?_
   rw[Around.under_plainId F.plain_set_update_loop _]
   show wpAny _ A.in1 (pyNext (.ref I)>>=_) _ _ s
   refine ZA (W.done s _ _ hst λ s' hm=>?_)
   show wpAny _ A.in1 (ret Value.none) _ _ s'
   exact ZB (hR s' (hm.mono hsub) (hframe _ _ _ hS hm.heap))
 | succ k ih=>
   intro i s hk hi hst hS hR
   have hlt:i<n:=%[|0]
   refine codeAny_builtin F.entry_set_update_loop ?_
   rw[Around.under_plainId F.plain_set_update_loop _]
   show wpAny _ A.in1 (pyNext (.ref I)>>=_) _ _ s
   refine ZA (W.item i s _ _ hlt hst λ v s' hP hst' hm=>?_)
   have hS':=hframe _ _ _ hS hm.heap
   show wpAny _ A.in1 (holding [v] (setAdd S v)>>=_) _ _ s'
   refine ZA (ZQ (hadd i v s' _ _ hlt hP hS' λ b h' tk hsb hS2=>?_))
   refine ZB ⟨plainId_quiet F.plain_set_update_loop _,ih (i+1) _ %[|0] hlt (W.frame _ s' _ _ hst' (Nat.le_add_right _ _) λ b hb o e=>?_) hS2 λ s'' hm'' hS''=>?_⟩
   . rw[hsb.2 b (λ h:b=S=>hSf (by rw[←h];exact hb))];exact e
   . refine hR s'' (Moved.trans W.gtrans ((hm.mono hsub).then_heap (Nat.le_add_right _ _) λ b o hb e=>?_) hm'') hS''
     rw[hsb.2 b (λ h:b=S=>hb (by rw[h];exact v3))];exact e
end
def Lies(prog:Program)(w:World)(its:%[|7])(cs:List (Int×%[|3]))(i:Nat)(es:List (Int×Value))(ps:List Nat):Prop:=
 match i with
 | 0=>es=[]/\ps=[]
 | 1=>∃v c,its[0]? =some v/\cs[0]? =some c/\es=[(hC prog w c,v)]/\ps=[SetTable.bits (hC prog w c) % 8]
 | _ =>∃v0 v c0 c,its=[v0,v]/\cs=[c0,c]/\((c=c0/\es=[(hC prog w c0,v0)]/\ps=[SetTable.bits (hC prog w c0) % 8])∨
     (c≠c0/\∃e1 e2 v1 v2 j1 j2,es=[(e1,v1),(e2,v2)]/\ps=[j1,j2]/\j1<j2/\j2<8/\(v1=v0/\v2=v∨v1=v/\v2=v0)))
section
variable {prog : Program} {w : World} {A : Around} {E : Value -> Shared -> Prop} {s : Shared}
abbrev d9(w:World):Bool:=!(w.params.followText "set-order")
theorem z8(a:Value){Q₁:%[|11]}
 (h:Q₁ %[|21] {s with heap:=s.heap.push {cls:=.type "set",dict:=none,data:=.set #[] 0 (.fresh 0 0 (d9 w))}}):
 codeAny %[|10] A (.call (.builtin "set.__new__") ⟨[.type "set",a],[]⟩) (wants Q₁ E) s:=by
 refine codeAny_of_tree ?_
 show wpAny _ A.in1 (do checkBuiltinCall "set.__new__" ⟨[.type "set",a],[]⟩;again (.builtin "set.__new__" ⟨[.type "set",a],[]⟩)) _ _ s
 refine ZA (wpAny_of_eq (F.newCall_set_1 a) (ZB ⟨plainId_quiet F.plain_set_new _,codeAny_builtin F.entry_set_new ?_⟩))
 rw[Around.under_plainId F.plain_set_new _]
 unfold Builtin.«set.__new__» Builtin.Frozenset.newClass
 have hsub:=sub_set_self
 obtain⟨hp,g,d,tk,os⟩:=s
 dsimp only
 wp_walk
 refine wpAny_askSetting %[|12]
 dsimp only
 simp only[newObj]
 refine ZA (wpAny_alloc %[|12])
 exact ZB h
theorem two_at{α:Type}{l:List α}{a b:α}(h:l.length≤2)(h0:l[0]? =some a)(h1:l[1]? =some b):l=[a,b]:=by
 cases l with
 | nil=>cases h0
 | cons x l=>cases l with
   | nil=>cases h1
   | cons y l=>cases l with
     | nil=>cases h0;cases h1;rfl
     | cons=>simp at h
theorem R1{α:Type}{l:List α}(h:l.length=2):∃a b,l=[a,b]:=by
 cases l with
 | nil=>cases h
 | cons x l=>cases l with
   | nil=>cases h
   | cons y l=>cases l with
     | nil=>exact⟨x,y,rfl⟩
     | cons=>simp at h
set_option maxHeartbeats 8000000 in
theorem zm {l:Addr}{its:%[|7]}{cs:List (Int×%[|3])}{Q:%[|11]}
 (hh:A.handled=none)(hu:A.units+12<cLine)(hl:s.heap.IsList l its.toArray)(hlen:its.length=cs.length)(hc:∀(i:Nat)(v:Value)(c:Int×%[|3]),its[i]? =some v->cs[i]? =some c->aZ s.heap v c)(hb:its.length≤2)
 (h:∀(h':Heap)(tk:Nat)(es:List (Int×Value))(ps:List Nat)(ep:Nat),h'.get? s.heap.objs.size=some (bU (d9 w) es ps ep)->Lies prog w its cs its.length es ps->
  (∀b o,b<s.heap.objs.size->s.heap.get? b=some o->h'.get? b=some o)->Q %[|21] {s with heap:=h',toks:=tk}):
 wpAny %[|10] A (call (.type "set") [.ref l]) Q E s:=by
 obtain⟨c,tl,hmro⟩:=F.called_set.mro
 have hmade:=F.called_set.made
 have hsub:=F.called_set.sub
 refine wpAny_call (codeAny_of_tree ?_)
 show wpAny _ _ (callAny (.type "set") _) _ _ _
 refine ZB ⟨Code.quiet_builtin _ %[|14],codeAny_builtin F.entry_type_call ?_⟩
 rw[Around.under_plain (weight_type_call_type "set" [.ref l] []) rfl]
 have h1:=F.called_set.notType
 have h2:=F.called_set.canCreate
 have hct:=F.typeCall_set_1 (.ref l)
 repeat(any_goals (first | assumption | wp_step))
 refine codeAny_mono (z8 (.ref l) (E:=E) (Q₁:=λ obj s₁=>∃led:Bool,led=d9 w/\obj=%[|21]/\s₁={s with heap:=s.heap.push {cls:=.type "set",dict:=none,data:=.set #[] 0 (.fresh 0 0 led)}}) ⟨_,rfl,rfl,rfl⟩) λ r s₁ hr=>?_
 cases r with
 | error e=>exact hr
 | ok fl =>
   cases fl with
   | next=>exact hr.elim
   | brk=>exact hr.elim
   | cont=>exact hr.elim
   | ret obj=>
     obtain⟨led,hled,rfl,rfl⟩:=hr
     have hS:(s.heap.push {cls:=.type "set",dict:=none,data:=.set #[] 0 (.fresh 0 0 led)}).get? s.heap.objs.size=some {cls:=.type "set",dict:=none,data:=.set #[] 0 (.fresh 0 0 led)}:=%[|19]
     have hT:Shared.TypeIs {s with heap:=s.heap.push {cls:=.type "set",dict:=none,data:=.set #[] 0 (.fresh 0 0 led)}} %[|21] "set":=⟨_,hS,rfl⟩
     have hli:=F.called_set.init.lookup
     have hbi:=F.called_set.init.bind %[|21]
     repeat(any_goals (first | assumption | wp_step))
     refine codeAny_mono (codeAny_call_builtin (R:=wants (λ r s₂=>r=.none/\∃h' tk es ps ep,s₂={s with heap:=h',toks:=tk}/\
      h'.get? s.heap.objs.size=some (bU led es ps ep)/\Lies prog w its cs its.length es ps/\
      (∀b o,b<s.heap.objs.size->s.heap.get? b=some o->h'.get? b=some o)) E) F.called_set.init.plain F.entry_set_init (check_set_init_1 hT ?_)) λ r₂ s₂ hr₂=>?_
     . obtain⟨ol,hol,hcl,nl,hdl⟩:=hl
       obtain⟨ocls,odict,odata,oslots⟩:=ol
       simp only at hcl hdl
       subst hcl;subst hdl
       have hol':(s.heap.push {cls:=.type "set",dict:=none,data:=.set #[] 0 (.fresh 0 0 led)}).get? l=some {cls:=.type "list",dict:=odict,data:=.seq its.toArray nl,slots:=oslots}:=ZC _ hol
       have hsls:=F.sub_list_set
       have hslf:=F.sub_list_frozenset
       have hne:(Value.type "list"==Value.type "dict")=false:=%[|2]
       have hl1:(s.heap.push {cls:=.type "set",dict:=none,data:=.set #[] 0 (.fresh 0 0 led)}).IsList l its.toArray:=⟨_,hol',rfl,nl,rfl⟩
       unfold Builtin.«set.__init__» noKeywords Builtin.Frozenset.updateFrom
       generalize hPI:pyIter=PI
       wp_walk
       subst hPI
       refine wpAny_pyIter_list hl1 ?_
       refine ZA (wpAny_runValue ?_)
       have hlS:l<s.heap.objs.size:=ZE hol
       have hh3:A.in1.in1.in1.handled=none:=by simp[hh]
       have hneI:l≠(s.heap.push {cls:=.type "set",dict:=none,data:=.set #[] 0 (.fresh 0 0 led)}).objs.size:=by
        rw[Heap.size_push];exact ZN (Nat.lt_succ_of_lt hlS)
       have hSf:s.heap.objs.size∉[(s.heap.push {cls:=.type "set",dict:=none,data:=.set #[] 0 (.fresh 0 0 led)}).objs.size,l]:=by
        rw[Heap.size_push];simp only[List.mem_cons,List.mem_singleton,List.not_mem_nil,or_false,not_or]
        exact⟨ZN (Nat.lt_succ_self _),Nat.ne_of_gt hlS⟩
       have hI:(s.heap.push {cls:=.type "set",dict:=none,data:=.set #[] 0 (.fresh 0 0 led)}).objs.size=s.heap.objs.size+1:=by rw[Heap.size_push]
       refine N7 ((Walks.list hh3 _ l hneI its.toArray).toS) s.heap.objs.size hSf
        (λ i h'=>(∀b o,b<s.heap.objs.size->s.heap.get? b=some o->h'.get? b=some o)/\∃es ps ep,h'.get? s.heap.objs.size=some (bU led es ps ep)/\Lies prog w its cs i es ps)
        ?hfr ?hadd (its.toArray.size-0) 0 _ %[|0] (Nat.zero_le _)
        ⟨⟨_,%[|19],rfl,rfl⟩,(hl1.push _)⟩ ?hS0 ?hR
       case hfr=>
        rintro i h1 h2 ⟨k1,es,ps,ep,k2,k3⟩ k
        refine⟨λ b o hb e=>k b o ?_ (k1 b o hb e),es,ps,ep,k _ _ ?_ k2,k3⟩
        . intro z;have:=ZL.mp z;rw[hI]at this;exact absurd this (ZN (Nat.lt_succ_of_lt hb))
        . intro z;have:=ZL.mp z;rw[hI]at this;exact absurd this (ZN (Nat.lt_succ_self _))
       case hadd=>
        rintro i v s1 Q1 E1 hi hv ⟨k1,es,ps,ep,k2,k3⟩ hq
        have hi':i<its.length:=by simpa using hi
        have hv':its[i]? =some v:=by simpa using hv
        obtain⟨c,hci⟩:∃c,cs[i]? =some c:=⟨_,y4 %[|0]⟩
        have cel:∀(i:Nat)(v:Value)(c:Int×%[|3]),its[i]? =some v->cs[i]? =some c->aZ s1.heap v c:=λ i v c e1 e2=>(hc i v c e1 e2).keep λ b o e _=>k1 b o (ZE e) e
        have hu1:A.in1.in1.in1.in1.units+5<cLine:=by show A.units+1+1+1+1+5<cLine;omega
        match i,hi',k3 with
        | 0,_,k3=>
          obtain⟨rfl,rfl⟩:=k3
          refine Q5 (by first | exact hu1 | (show A.units+1+1+1+5<cLine;omega)) k2 (cel 0 v c hv' hci) λ h' tk b sb g=>hq b h' tk sb ⟨λ b' o' hb' e'=>?_,_,_,_,g,v,c,hv',hci,rfl,rfl⟩
          rw[sb.2 b' (ZN hb')];exact k1 b' o' hb' e'
        | 1,hi',k3=>
          obtain⟨v0,c0,e1,e2,rfl,rfl⟩:=k3
          have e3:its=[v0,v]:=two_at (by simpa using hb) e1 hv'
          have e4:cs=[c0,c]:=by
           have:cs.length=2:=by rw[←hlen,e3];rfl
           exact two_at (Nat.le_of_eq this) e2 hci
          refine Rz (by first | exact hu1 | (show A.units+1+1+1+5<cLine;omega)) k2 (cel 1 v c hv' hci) (cel 0 v0 c0 e1 e2) (λ ec tk b=>?_) λ nc h' tk b es ps sb g z=>?_
          . exact hq b s1.heap tk (Heap.SameBut.refl _ _) ⟨k1,_,_,_,k2,v0,v,c0,c,e3,e4,.inl ⟨ec,rfl,rfl⟩⟩
          . refine hq b h' tk sb ⟨λ b' o' hb' e'=>?_,_,_,_,g,v0,v,c0,c,e3,e4,.inr ⟨nc,z⟩⟩
            rw[sb.2 b' (ZN hb')];exact k1 b' o' hb' e'
        | i+2,hi',_=>omega
       case hS0=>
        refine⟨λ b o hb e=>ZC _ (ZC _ e),[],[],0,ZC _ hS,rfl,rfl⟩
       case hR=>
        intro s' hm hS'
        obtain⟨h',g',d',tk',os'⟩:=s'
        have eg:g'=s.gens:=hm.gens
        have ed:d'=s.drawn:=hm.drawn
        have eo:os'=s.os:=hm.os
        subst eg;subst ed;subst eo
        obtain⟨k1,es,ps,ep,k2,k3⟩:=hS'
        show wpAny _ _ _ _ _ _
        refine %[|12]
        show wpAny _ _ (ret Value.none) _ _ _
        refine ZB ⟨rfl,h',tk',es,ps,ep,rfl,k2,by simpa using k3,k1⟩
     . cases r₂ with
       | error e=>exact hr₂
       | ok fl₂=>
         cases fl₂ with
         | next=>exact hr₂.elim
         | brk=>exact hr₂.elim
         | cont=>exact hr₂.elim
         | ret r=>
           obtain⟨rfl,h',tk,es,ps,ep,rfl,k2,k3,k1⟩:=hr₂
           repeat(any_goals (first | assumption | wp_step))
           exact h _ _ _ _ _ (hled▸k2) k3 k1
end
variable {es : List (Int × Value)} {ps : List Nat} {S I : Addr} {ep : Nat}
theorem uz:entryFor table "set.__iter__"=some Builtin.«frozenset.__iter__»:=
 entryFor_alias (id':="frozenset.__iter__") (by kernel_rfl) rfl %[|14] (by kernel_rfl)
theorem aQ:Slot "set_iterator" "__next__" "set_iterator.__next__":=
 .of (owner:="set_iterator") (n:="__next__") (by rw[typeLookup_type,builtinLookup_eq_fast];kernel_rfl) %[|14] %[|14] %[|14]
  (by first | exact .inl %[|14] | exact .inr %[|14]) (by rw[isSubtype_type];kernel_rfl)
theorem dw:entryFor table "set_iterator.__next__"=some Builtin.«set_iterator.__next__»:=entryFor_of_tree (by kernel_rfl)
theorem gm:Manifest.owners.lookup (String.ofList ['r','o','t','a','r','e','t','i','_','t','e','s'].reverse)=some Manifest.sig_set_iterator:=by kernel_rfl
theorem cV(a:Value):argsOk "set_iterator.__next__" ⟨[a],[]⟩:=by
 unfold argsOk;rw[signature?_of (id:="set_iterator.__next__") (n:=['_','_','t','x','e','n','_','_']) (o:=['r','o','t','a','r','e','t','i','_','t','e','s']) (by kernel_rfl) gm];kernel_rfl
theorem dR:Slot "set_iterator" "__iter__" "set_iterator.__iter__":=
 .of (owner:="set_iterator") (n:="__iter__") (by rw[typeLookup_type,builtinLookup_eq_fast];kernel_rfl) %[|14] %[|14] %[|14]
  (by first | exact .inl %[|14] | exact .inr %[|14]) (by rw[isSubtype_type];kernel_rfl)
theorem jc:entryFor table "set_iterator.__iter__"=some Builtin.«dict_keyiterator.__iter__»:=
 entryFor_alias (id':="dict_keyiterator.__iter__") (by kernel_rfl) rfl %[|14] (by kernel_rfl)
theorem iu(a:Value):argsOk "set_iterator.__iter__" ⟨[a],[]⟩:=by
 unfold argsOk;rw[signature?_of (id:="set_iterator.__iter__") (n:=['_','_','r','e','t','i','_','_']) (o:=['r','o','t','a','r','e','t','i','_','t','e','s']) (by kernel_rfl) gm];kernel_rfl
def slotAt(ps:List Nat):Nat->Nat
 | 0=>0
 | i+1=>ps.getD i 0+1
theorem G4:∀(ps:List Nat)(i:Nat),(ps=[]∨(∃j,ps=[j])∨∃j k,ps=[j,k]/\j<k)->i≤ps.length->SetTable.below ps.toArray (slotAt ps i)=i:=by
 rintro ps i (rfl | ⟨j,rfl⟩ | ⟨j,k,rfl,hjk⟩) hi
 . have:i=0:=by simpa using hi
   subst this
   rfl
 . match i,hi with
   | 0,_=>rw[show([j].toArray:Array Nat)=#[j]from rfl,tX];simp[slotAt]
   | 1,_=>rw[show([j].toArray:Array Nat)=#[j]from rfl,tX];simp[slotAt]
   | i+2,h=>simp at h
 . match i,hi with
   | 0,_=>simp[slotAt,SetTable.below,SetTable.below.go]
   | 1,_=>
     have h1:¬k<j+1:=%[|0]
     simp[slotAt,SetTable.below,SetTable.below.go,h1]
   | 2,_=>simp[slotAt,SetTable.below,SetTable.below.go]
   | i+3,h=>simp at h
def bz(w:World)(a:Addr)(ep:Nat)(es:List (Int×Value)):Array (Int×Value):=
 if w.params.followText "set-order"=true then pickOrder (w.params.setOrder a ep) es.toArray else es.toArray
abbrev cj(w:World)(ps:List Nat)(S:Addr)(n ep i:Nat):Obj:={cls:=.type "set_iterator",dict:=none,data:=.fields #[rawInt (if w.params.followText "set-order"=true then 0 else slotAt ps i:Nat),rawInt (i:Nat),.ref S,rawInt (n:Nat),rawInt (ep:Nat)],slots:=#[]}
structure Rise(es:List (Int×Value))(ps:List Nat):Prop where
 len:ps.length=es.length
 sh:ps=[]∨(∃j,ps=[j])∨∃j k,ps=[j,k]/\j<k
theorem Rise.seven(r:Rise es ps):ps.length≤7:=by
 rcases r.sh with rfl | ⟨j,rfl⟩ | ⟨j,k,rfl,_⟩<;>simp
section
variable {prog : Program} {w : World} {A : Around} {E : Value -> Shared -> Prop} {s : Shared}
theorem zT{i:Nat}{Q:Option (Value×Nat)->Shared->Prop}(r:Rise es ps)(hi:i≤es.length)(ho:s.heap.get? S=some (bU (d9 w) es ps ep))
 (h:Q (((bz w S ep es)[i]?).map λ e=>(e.2,if w.params.followText "set-order"=true then 0 else slotAt ps (i+1))) s):
 wpAny %[|10] A (setNext S (if w.params.followText "set-order"=true then 0 else slotAt ps i) i ep) Q E s:=by
 unfold setNext
 refine ZA (bR ho r.len r.seven ?_)
 unfold setsByText
 dsimp only
 refine ZA (ZA (wpAny_askSetting %[|12]))
 show wpAny _ _ (if w.params.followText "set-order"=true then _ else _) _ _ _
 unfold bz at h
 by_cases bt:w.params.followText "set-order"=true
 . rw[if_pos bt]
   rw[if_pos bt]at h
   simp only[if_pos bt]at h
   rw[if_neg (by simp)]
   unfold setWalk
   refine ZA (ZA (bR ho r.len r.seven ?_))
   unfold setsByText
   dsimp only
   refine ZA (ZA (wpAny_askSetting %[|12]))
   show wpAny _ _ (if w.params.followText "set-order"=true then _ else _) _ _ _
   rw[if_pos bt]
   refine ZA (wpAny_askSetting (ZB %[|12]))
   simp only[if_pos bt]
   exact h
 . rw [if_neg bt]
   rw[if_neg bt]at h
   simp only[if_neg bt]at h ⊢
   have hled:d9 w=true:=by simp[d9,bt]
   split
   . exact absurd (by assumption) y7
   . refine ZA ?_
     show wpAny _ _ (if(!(d9 w)&& !(es.toArray.isEmpty))=true then _ else pure PUnit.unit) _ _ _
     rw[hled,if_neg (show ¬((!true&& !(es.toArray.isEmpty))=true)from y7)]
     refine %[|12]
     rw[G4 ps i r.sh (by rw[r.len];exact hi)]
     refine %[|12]
     have e2:slotAt ps (i+1)=ps.getD i 0+1:=rfl
     rw[e2]at h
     rw[List.getElem?_toArray]at h
     rw[List.getElem?_toArray,List.getElem?_toArray]
     cases he:es[i]? with
     | none=>rw[he]at h;exact h
     | some e=>
       rw[he]at h
       have hlt:i<ps.length:=by rw[r.len];exact(y3.mp he).1
       rw[y4 hlt]
       rw[List.getD_eq_getElem?_getD,y4 hlt]at h
       exact h
theorem lO{n i:Nat}(ho:s.heap.get? I=some (cj w ps S n ep i)):s.TypeIs (.ref I) "set_iterator":=⟨_,ho,rfl⟩
theorem kE{h:Heap}{vs:Array Value}{k:Nat}{x:Value}(ho:h.get? I=some {cls:=.type "set_iterator",dict:=none,data:=.fields vs,slots:=#[]}):
 (h.update I (Obj.mapFields (·.setIfInBounds k x))).get? I=some {cls:=.type "set_iterator",dict:=none,data:=.fields (vs.setIfInBounds k x),slots:=#[]}:=Heap.get?_update_self _ ho rfl
theorem Kh{i:Nat}{e:Int×Value}{Q:%[|27]->Shared->Prop}(hne:S≠I)(r:Rise es ps)(hi:i<es.length)(hI:s.heap.get? I=some (cj w ps S es.length ep i))(ho:s.heap.get? S=some (bU (d9 w) es ps ep))
 (he:(bz w S ep es)[i]? =some e)(h:∀h',Heap.SameBut I s.heap h'->h'.get? I=some (cj w ps S es.length ep (i+1))->Q (some e.2) {s with heap:=h'}):
 wpAny %[|10] A (pyNext (.ref I)) Q E s:=by
 have hT:=lO hI
 unfold pyNext
 refine ZA (wpAny_attempt (wpAny_callSpecial?_slot (name:=Str.ofString "__next__") hT aQ
  (ZP aQ hT dw ?_ (cV _))))
 unfold Builtin.«set_iterator.__next__»
 refine ZA %[|12]
 refine ZA (wpAny_fieldsOf hI rfl ?_)
 dsimp only
 refine ZA (wpAny_setEntries_of ho rfl (ig r.len r.seven) ?_)
 rw[if_neg (by simp)]
 refine ZA ?_
 simp only[rawInt,Int.toNat_natCast]
 refine zT r (Nat.le_of_lt hi) ho ?_
 rw[he]
 dsimp only[Option.map]
 refine ZA (wpAny_setField hI rfl (by simp) ?_)
 refine ZA (wpAny_setField (s:={s with heap:=_}) (kE hI) rfl (by simp) ?_)
 exact ZB ⟨_,rfl,ZB (h _ ((Heap.SameBut.update ..).trans (Heap.SameBut.update ..)) (by
  have:=kE (k:=1) (x:=rawInt (i+1)) (kE (k:=0) (x:=rawInt (if w.params.followText "set-order"=true then 0 else slotAt ps (i+1):Nat)) hI)
  exact this))⟩
theorem Ky{Q:%[|27]->Shared->Prop}(hh:A.handled=none)(hne:S≠I)(r:Rise es ps)(hI:s.heap.get? I=some (cj w ps S es.length ep es.length))(ho:s.heap.get? S=some (bU (d9 w) es ps ep))
 (he:(bz w S ep es)[es.length]? =none)(h:∀h',Heap.ExtBut I s.heap h'->Q none {s with heap:=h'}):
 wpAny %[|10] A (pyNext (.ref I)) Q E s:=by
 have hT:=lO hI
 unfold pyNext
 refine ZA (wpAny_attempt (wpAny_callSpecial?_slot (name:=Str.ofString "__next__") hT aQ
  (ZP aQ hT dw ?_ (cV _))))
 unfold Builtin.«set_iterator.__next__»
 refine ZA %[|12]
 refine ZA (wpAny_fieldsOf hI rfl ?_)
 dsimp only
 refine ZA (wpAny_setEntries_of ho rfl (ig r.len r.seven) ?_)
 rw[if_neg (by simp)]
 refine ZA ?_
 simp only[rawInt,Int.toNat_natCast]
 refine zT r (x6 _) ho ?_
 rw[he]
 dsimp only[Option.map]
 refine ZA (wpAny_setField hI rfl (by simp) ?_)
 show wpAny _ _ (newExc (.type "StopIteration") []>>=_) _ _ _
 refine ZA ?_
 simp only[newExc,newTuple]
 refine ZA (wpAny_newObj_type ?_ (by size_fits))
 refine ZA (m:=firstArgMember _ _) (wpAny_of_eq (a:=Value.none) (by first | rfl | (simp only[firstArgMember];rfl)) ?_)
 refine wpAny_newObj_type ?_ (by size_fits)
 simp only[raiseNew]
 refine ZA (wpAny_handled ?_)
 rw[show A.in1.handled=none from hh]
 refine ZA (ZB (wpAny_throw ?_))
 refine ZA (wpAny_isInstance (T:="StopIteration") (b:=true) ⟨_,%[|19],rfl⟩ isSubtype_stop ?_)
 exact ZB (h _ (((Heap.SameBut.update ..).extBut.push _).push _))
theorem gr(w:World)(S:Addr)(ep:Nat){es:List (Int×Value)}{ps:List Nat}(r:Rise es ps):
 (es=[]/\bz w S ep es=#[])∨(∃e,es=[e]/\bz w S ep es=#[e])∨∃e1 e2,es=[e1,e2]/\(bz w S ep es=#[e1,e2]∨bz w S ep es=#[e2,e1]):=by
 have hl:=r.len
 unfold bz
 rcases r.sh with rfl | ⟨j,rfl⟩ | ⟨j,k,rfl,_⟩
 . have:es=[]:=List.length_eq_zero_iff.mp hl.symm
   subst this
   exact .inl ⟨rfl,by split<;>rfl⟩
 . obtain⟨e,rfl⟩:∃e,es=[e]:=List.length_eq_one_iff.mp hl.symm
   refine .inr (.inl ⟨e,rfl,?_⟩)
   split
   . simp[pickOrder,pickOrder.go,Nat.mod_one]
   . rfl
 . obtain⟨e1,e2,rfl⟩:∃e1 e2,es=[e1,e2]:=R1 (by rw[←hl];rfl)
   refine .inr (.inr ⟨e1,e2,rfl,?_⟩)
   split
   . rcases Nat.mod_two_eq_zero_or_one (w.params.setOrder S ep 0)with h | h
     . left;simp[pickOrder,pickOrder.go,h,Nat.mod_one]
     . right;simp[pickOrder,pickOrder.go,h,Nat.mod_one]
   . exact .inl rfl
theorem j8(w:World)(S:Addr)(ep:Nat){es:List (Int×Value)}{ps:List Nat}(r:Rise es ps):(bz w S ep es).size=es.length:=by
 rcases gr w S ep r with⟨h1,h2⟩ | ⟨e,h1,h2⟩ | ⟨e1,e2,h1,h2 | h2⟩<;>rw[h2,h1]<;>rfl
theorem K8(hh:A.handled=none)(I S:Addr)(hne:S≠I)(es:List (Int×Value))(ps:List Nat)(ep:Nat)(r:Rise es ps):
 Walks prog w A I [I,S] [I] es.length (λ i v=>∃e,(bz w S ep es)[i]? =some e/\e.2=v) (λ i h=>h.get? I=some (cj w ps S es.length ep i)/\h.get? S=some (bU (d9 w) es ps ep)) where
 sub:=λ b hb=>by simp at hb;simp[hb]
 frame:=λ _ _ _ st hk=>⟨hk I (by simp) _ st.1,hk S (by simp) _ st.2⟩
 item:=λ i s Q E hi st hQ=>by
  obtain⟨e,he⟩:∃e,(bz w S ep es)[i]? =some e:=⟨_,Array.getElem?_eq_getElem (by rw[j8 w S ep r];exact hi)⟩
  refine Kh hne r hi st.1 st.2 he λ h' sb g=>hQ e.2 h' s.toks ⟨e,he,rfl⟩ ⟨g,?_⟩ λ b o hb e=>sb.extBut b o (λ h=>hb (by simp[h])) e
  rw[sb.2 S hne];exact st.2
 done:=λ s Q E st hQ=>Ky hh hne r st.1 st.2 (Array.getElem?_eq_none (by rw[j8 w S ep r];exact x6 _)) λ h' he'=>hQ h' s.toks λ b o hb e=>he' b o (λ h=>hb (by simp[h])) e
 self:=λ _ s Q E st hQ=>by
  have hT:=lO (s:=s) st.1
  refine wpAny_pyIter_slot hT dR (ZP dR hT jc ?_ (iu _))
  show wpAny _ _ (ret (.ref I)) _ _ s
  exact ZB ⟨_,rfl,"set_iterator",_,hT,aQ.lookup,hQ⟩
theorem Pu{Q:%[|11]}(r:Rise es ps)(ho:s.heap.get? S=some (bU (d9 w) es ps ep))
 (h:Q %[|21] {s with heap:=s.heap.push (cj w ps S es.length ep 0)}):wpAny %[|10] A (pyIter (.ref S)) Q E s:=by
 have hT:s.TypeIs (.ref S) "set":=⟨_,ho,rfl⟩
 refine wpAny_pyIter_slot hT F.slot_set_iter (ZP F.slot_set_iter hT uz ?_ (F.args_set_iter_1 _))
 unfold Builtin.«frozenset.__iter__» Builtin.Frozenset.slot0 Builtin.Frozenset.sizeOf setDrawn
 refine ZA (ZA (ZB %[|12]))
 refine ZA (ZA (wpAny_setEntries_of ho rfl (ig r.len r.seven) %[|12]))
 refine ZA (ZA (bR ho r.len r.seven ?_))
 unfold setsByText
 dsimp only
 refine ZA (ZA (wpAny_askSetting (ZB %[|12])))
 split
 . rename_i hx
   rw[Bool.and_eq_true]at hx
   exact absurd hx.2 y7
 . refine ZA %[|12]
   refine ZA (wpAny_setEpoch_of ho rfl (ig r.len r.seven) ?_)
   refine ZA (wpAny_newObj_type ?_ (by size_fits))
   have hz:es.toArray.size=es.length:=x9
   have e1:((if w.params.followText "set-order"=true then 0 else slotAt ps 0:Nat))=0:=by split<;>rfl
   have key:cj w ps S es.length ep 0={cls:=.type "set_iterator",dict:=none,data:=.fields [rawInt 0,rawInt 0,.ref S,rawInt (es.toArray.size:Nat),rawInt (ep:Nat)].toArray,slots:=#[]}:=by
    unfold cj
    rw[e1,hz]
    rfl
   rw[key]at h
   exact ZB ⟨_,rfl,"set_iterator",_,⟨_,%[|19],rfl⟩,aQ.lookup,h⟩
theorem Ek{Q:%[|7]->Shared->Prop}(hh:A.handled=none)(r:Rise es ps)(ho:s.heap.get? S=some (bU (d9 w) es ps ep))
 (h:∀h' tk,(∀b o,b<s.heap.objs.size->s.heap.get? b=some o->h'.get? b=some o)->s.heap.objs.size≤h'.objs.size->Q ((bz w S ep es).toList.map (·.2)) {s with heap:=h',toks:=tk}):wpAny %[|10] A (collect (.ref S)) Q E s:=by
 have hS:S<s.heap.objs.size:=ZE ho
 have hSL:s.heap.objs.size≠S:=Nat.ne_of_gt hS
 unfold collect
 refine ZA (wpAny_runValue (codeAny_builtin F.entry_proto_collect ?_))
 rw[Around.under_plainId F.plain_proto_collect _]
 show wpAny _ A.in1 (newList []>>=λ l=>again (.builtin "list.__iadd__" ⟨[l,.ref S],[]⟩)) _ _ s
 refine ZA (wpAny_newObj_type ?_)
 refine ZB ⟨plainId_quiet F.plain_list_iadd _,codeAny_builtin F.entry_list_iadd ?_⟩
 rw[Around.under_plainId F.plain_list_iadd _]
 have ho1:(s.heap.push {cls:=.type "list",data:=.seq ([]:%[|7]).toArray}).get? S=some (bU (d9 w) es ps ep):=ZC _ ho
 have hT1:Shared.TypeIs {s with heap:=s.heap.push {cls:=.type "list",data:=.seq ([]:%[|7]).toArray}} (.ref S) "set":=⟨_,ho1,rfl⟩
 show wpAny _ A.in1 (Builtin.List.listExtendWith %[|21] (.ref S) %[|21]) _ _ _
 unfold Builtin.List.listExtendWith
 refine ZA (wpAny_typeOf hT1 ?_)
 have h1:Builtin.List.listSameRef %[|21] (.ref S)=false:=by simp[Builtin.List.listSameRef,hSL]
 have h2:(Value.type "set"==Value.type "list")=false:=%[|2]
 have h3:(Value.type "set"==Value.type "tuple")=false:=%[|2]
 simp only[h1,h2,h3,Bool.or_false,Bool.false_eq_true,if_false]
 refine ZA (Pu (s:={s with heap:=s.heap.push {cls:=.type "list",data:=.seq ([]:%[|7]).toArray}}) r ho1 ?_)
 refine ZA (ZQ ?_)
 have sz1:(s.heap.push {cls:=.type "list",data:=.seq ([]:%[|7]).toArray}).objs.size=s.heap.objs.size+1:=size_push' _ _
 have ho2:((s.heap.push {cls:=.type "list",data:=.seq ([]:%[|7]).toArray}).push (cj w ps S es.length ep 0)).get? S=some (bU (d9 w) es ps ep):=ZC _ ho1
 have hI2:((s.heap.push {cls:=.type "list",data:=.seq ([]:%[|7]).toArray}).push (cj w ps S es.length ep 0)).get? (s.heap.objs.size+1)=some (cj w ps S es.length ep 0):=by
  rw[←sz1];exact %[|19]
 have hT2:Shared.TypeIs {s with heap:=(s.heap.push {cls:=.type "list",data:=.seq ([]:%[|7]).toArray}).push (cj w ps S es.length ep 0)} (.ref S) "set":=⟨_,ho2,rfl⟩
 have hS₁:((s.heap.push {cls:=.type "list",data:=.seq ([]:%[|7]).toArray}).push (cj w ps S es.length ep 0)).get? s.heap.objs.size=some {cls:=.type "list",data:=.seq ([]:%[|7]).toArray}:=ZC _ %[|19]
 show wpAny %[|10] A.in1 (Builtin.List.listLengthHint (.ref S)) _ _ {s with heap:=(s.heap.push {cls:=.type "list",data:=.seq ([]:%[|7]).toArray}).push (cj w ps S es.length ep 0)}
 unfold Builtin.List.listLengthHint
 refine ZA (wpAny_specialOf hT2 F.slot_set_len.lookup ?_)
 have hsp:splitId "set.__len__"=some ("set","__len__"):=by kernel_rfl
 dsimp only
 rw[hsp]
 dsimp only
 refine ZA (wpAny_isInstance hT2 sub_set_self ?_)
 rw[if_neg (show ¬((!true)=true)from y7)]
 rw[if_pos]
 . refine ZA (wpAny_typeOf hT2 ?_)
   dsimp only
   refine %[|12]
   rw[if_pos]
   . refine ZA (wpAny_rule ?_)
     refine ZA ?_
     show wpAny _ A.in1 (updateSeq s.heap.objs.size (·.push .none)>>=λ _=>updateSeq s.heap.objs.size (·.pop)) _ _ _
     refine ZA (wpAny_updateSeq hS₁ rfl ?_)
     have hS₂:=Heap.get?_update_self (Obj.mapSeq (·.push Value.none)) hS₁ rfl
     refine wpAny_updateSeq hS₂ rfl ?_
     have hS₃:=Heap.get?_update_self (Obj.mapSeq (·.pop)) hS₂ rfl
     have oth:∀b o,b≠s.heap.objs.size->((s.heap.push {cls:=.type "list",data:=.seq ([]:%[|7]).toArray}).push (cj w ps S es.length ep 0)).get? b=some o->
      ((((s.heap.push {cls:=.type "list",data:=.seq ([]:%[|7]).toArray}).push (cj w ps S es.length ep 0)).update s.heap.objs.size (Obj.mapSeq (·.push Value.none))).update s.heap.objs.size (Obj.mapSeq (·.pop))).get? b=some o:=
      λ b o hb e=>(Heap.get?_update_other _ _ (Ne.symm hb)).trans ((Heap.get?_update_other _ _ (Ne.symm hb)).trans e)
     have hSI:S≠s.heap.objs.size+1:=ZN (Nat.lt_succ_of_lt hS)
     have hLf:s.heap.objs.size∉[s.heap.objs.size+1,S]:=by
      intro z
      rcases ZJ.mp z with z | z
      . exact absurd z (ZN (Nat.lt_succ_self _))
      . exact hSL (ZL.mp z)
     have hn:es.length≤sizeLine:=by rw[←r.len];exact Nat.le_trans r.seven %[|2]
     rw[sz1]
     refine ZB ⟨plainId_quiet F.plain_extend_loop _,codeAny_extend_loopS (K8 (prog:=prog) (A:=A.in1) (by simpa using hh) (s.heap.objs.size+1) S hSI es ps ep r).toS hn _ hLf _ es.length 0 _ _ _ rfl (Nat.zero_le _)
      ⟨oth _ _ (Nat.ne_of_gt (Nat.lt_succ_self _)) hI2,oth _ _ hSL.symm ho2⟩ hS₃ (ItemsOf.nil _) λ s' acc' c' hm hS' hacc=>?_⟩
     show wpAny _ A (load s.heap.objs.size>>=_) _ _ s'
     refine ZA (wpAny_load hS' ?_)
     obtain⟨h',g',d',tk',os'⟩:=s'
     have eg:g'=s.gens:=hm.gens
     have ed:d'=s.drawn:=hm.drawn
     have eo:os'=s.os:=hm.os
     subst eg;subst ed;subst eo
     have eacc:acc'.toList=(bz w S ep es).toList.map (·.2):=by
      apply List.ext_getElem?
      intro j
      rw[x5,Array.getElem?_toList,Array.getElem?_toList]
      by_cases hj:j<es.length
      . have hj1:j<acc'.size:=by rw[hacc.1];exact hj
        obtain⟨e,he,hv⟩:=hacc.2 j acc'[j] (Array.getElem?_eq_getElem hj1)
        rw[Array.getElem?_eq_getElem hj1,he,←hv];rfl
      . rw[Array.getElem?_eq_none (by rw[hacc.1];omega),Array.getElem?_eq_none (by rw[j8 w S ep r];omega)];rfl
     refine %[|12]
     show Q acc'.toList _
     rw[eacc]
     refine h h' tk' (λ b o hb e=>?_) ?_
     . refine hm.heap b o ?_ (oth b o (ZN hb) (ZC _ (ZC _ e)))
       intro z
       rcases ZJ.mp z with z | z
       . exact absurd z (ZN hb)
       . exact absurd (ZL.mp z) (ZN (Nat.lt_succ_of_lt hb))
     . exact Nat.le_of_lt (ZE hS')
   . decide
 . decide
end
end RF
namespace RF
open PySem PySem.Spec L2 DL
open PyProof.Rows
theorem Js{α:Type}{l:List α}(h:l.length=2):∃a b,l=[a,b]:=by
 cases l with
 | nil=>cases h
 | cons x l=>cases l with
   | nil=>cases h
   | cons y l=>cases l with
     | nil=>exact⟨x,y,rfl⟩
     | cons=>simp at h
theorem An(fin:Bool):∀ns:%[|3],ltF fin ns ns=fin
 | []=>rfl
 | n::ns=>by unfold ltF;rw[if_pos rfl];exact An fin ns
theorem Oo(ns:%[|3]):ltI ns ns=false:=by unfold ltI;rw[An];simp
def ltC(c d:Int×%[|3]):Bool:=if c.1=d.1 then ltI c.2 d.2 else decide (c.1<d.1)
section
variable {prog : Program} {w : World} {A : Around} {E : Value -> Shared -> Prop} {s : Shared}
theorem Q3{a b:Addr}{ns ms:%[|3]}{P:PySem.Fin->Shared->Prop}(hx:fc s.heap (.ref a) ns)(hy:fc s.heap (.ref b) ms)(h:P (.done (.ret (.bool (ltI ns ms)))) s):
 wpAny %[|10] A (Builtin.«tuple.__lt__» ⟨[.ref a,.ref b],[]⟩) P E s:=by
 obtain⟨a',oa,xs,na,e,hoa,hca,hda,hia⟩:=hx
 cases e
 obtain⟨b',ob,ys,nb,e,hob,hcb,hdb,hib⟩:=hy
 cases e
 have hTb:s.TypeIs (.ref b) "tuple":=⟨ob,hob,hcb⟩
 show wpAny _ _ (isInstance (.ref b) (.type "tuple")>>=_) _ _ s
 refine ZA (wpAny_isInstance hTb isSubtype_tuple_tuple ?_)
 simp only[Bool.not_true,Bool.false_eq_true,if_false]
 refine ZA (wpAny_tupleItemsOf hoa hda ?_)
 refine ZA (wpAny_tupleItemsOf hob hdb ?_)
 refine ZA ?_
 have l1:xs.size=ns.length:=by rw[←Array.length_toList];exact hia.length
 have l2:ys.size=ms.length:=by rw[←Array.length_toList];exact hib.length
 refine wpAny_forIn_list _
  (λ rest r s'=>r.1=none/\s'=s/\∃ns' ms' xs' ys',rest=List.zip xs' ys'/\IntsAre xs' ns'/\IntsAre ys' ms'/\ltF (decide (ns.length<ms.length)) ns' ms'=ltI ns ms)
  _ ?_ ?_ _ _ ⟨rfl,rfl,ns,ms,xs.toList,ys.toList,rfl,hia,hib,rfl⟩
 . rintro⟨u,v⟩ rest r s' ⟨hr,rfl,ns',ms',xs',ys',hz,hx',hy',hdec⟩
   cases hx' with
   | nil=>simp at hz
   | @cons k1 t1 xs'' ns'' hx''=>
     cases hy' with
     | nil=>simp at hz
     | @cons k2 t2 ys'' ms'' hy''=>
       simp only[List.zip_cons_cons,List.cons.injEq,Prod.mk.injEq]at hz
       obtain⟨⟨rfl,rfl⟩,rfl⟩:=hz
       refine ZA (wpAny_eqBool_int ?_)
       unfold ltF at hdec
       by_cases hk:k1=k2
       . subst hk
         rw[beq_self_eq_true]
         simp only[Bool.not_true,Bool.false_eq_true,if_false]
         rw[if_pos rfl]at hdec
         exact ZB ⟨rfl,rfl,_,_,_,_,rfl,hx'',hy'',hdec⟩
       . rw[if_neg hk]at hdec
         rw[show(k1==k2)=false from by simpa using hk]
         simp only[Bool.not_false,if_true]
         rw[←hdec]at h
         refine ZA (wpAny_rule ?_)
         refine ZA (show wpAny _ _ (compareOp .Lt _ _) _ _ _ from wpAny_lt_int ?_)
         exact ZA (ZB (ZB (ZB h)))
 . rintro⟨r1,r2⟩ s' ⟨hr,rfl,ns',ms',xs',ys',hz,hx',hy',hdec⟩
   simp only at hr
   subst hr
   refine %[|12]
   have hfin:decide (xs.size<ys.size)=ltI ns ms:=by
    rw[←hdec,l1,l2]
    cases hx' with
    | nil=>rfl
    | cons _ _ _=>
      cases hy' with
      | nil=>rfl
      | cons _ _ _=>simp at hz
   show P (.done (.ret (.bool (decide (xs.size<ys.size))))) s'
   rw[hfin];exact h
theorem GZ{u v:Value}{ns ms:%[|3]}{Q:%[|11]}(hu:A.units<cLine)(hx:fc s.heap u ns)(hy:fc s.heap v ms)(h:Q (.bool (ltI ns ms)) s):wpAny %[|10] A (compareOp .Lt u v) Q E s:=by
 obtain⟨a,oa,_,_,rfl,hoa,hca,_⟩:=id hx
 obtain⟨b,ob,_,_,rfl,hob,hcb,_⟩:=id hy
 exact wpAny_richCompare_same_room (op:=.Lt) ⟨oa,hoa,hca⟩ ⟨ob,hob,hcb⟩ F.slot_tuple_lt
  (ZP F.slot_tuple_lt ⟨oa,hoa,hca⟩ F.entry_tuple_lt (Q3 hx hy ⟨_,rfl,(λ e=>nomatch e),h⟩) (F.args_tuple_lt_2 _ _)) hu
theorem Uy{b:Bool}{v u:Value}{c d:Int×%[|3]}{Q:Bool->Shared->Prop}(hu:A.units+2<cLine)(hv:aZ s.heap v c)(hw:aZ s.heap u d)(h:Q (ltC c d) s):wpAny %[|10] A (keyLt' (tuples' b) v u) Q E s:=by
 obtain⟨a,o,k,tk,x,rfl,ho,hc,hd,hx⟩:=hv
 obtain⟨a2,o2,k2,tk2,x2,rfl,ho2,hc2,hd2,hx2⟩:=hw
 refine PySem.W.kat_lt ho hd ho2 hd2 ?_
 show PySem.W.KatLex prog w A b _ Q [(Value.int c.1 tk,Value.int d.1 tk2),(x,x2)] 0 s
 refine PySem.W.kat_cons (wpAny_eqBool_int ?_)
 unfold ltC at h
 by_cases e:c.1=d.1
 . rw[e,beq_self_eq_true]
   rw[if_pos e]at h
   refine PySem.W.kat_yes (PySem.W.kat_cons (Af %[|0] hx hx2 prog w _ _ ?_))
   by_cases e2:c.2=d.2
   . rw[ZG e2]
     refine PySem.W.kat_yes (PySem.W.kat_nil ?_)
     rw[e2,Oo]at h
     exact h
   . rw[ZH e2]
     refine PySem.W.kat_no ?_
     rw[show(b&&0+1==0)=false from by cases b<;>rfl]
     exact PySem.W.kat_one _ _ (GZ %[|0] hx hx2 h)
 . rw[show(c.1==d.1)=false from by simpa using e]
   rw[if_neg e]at h
   exact PySem.W.kat_no (Q7 h)
def jK:%[|7]->List (Int×%[|3])->%[|7]
 | [v1,v2],[c1,c2]=>if ltC c2 c1=true then[v2,v1]else[v1,v2]
 | vs,_=>vs
theorem xP{a:Addr}{vs:%[|7]}{n:Nat}{cs:List (Int×%[|3])}{P:PySem.Fin->Shared->Prop}(hu:A.units+2<cLine)(ho:s.heap.get? a=some (seqObj "list" vs.toArray n))
 (hl:vs.length=cs.length)(hr:∀(i:Nat)(v:Value)(c:Int×%[|3]),vs[i]? =some v->cs[i]? =some c->aZ s.heap v c)(hsm:vs.length≤2)
 (h:P (.done (.ret .none)) {s with heap:=sortedHeap s.heap a vs (jK vs cs).toArray}):
 wpAny %[|10] A (Builtin.«list.sort» ⟨[.ref a],[]⟩) P E s:=by
 rw[list_sort_plain]
 have hla:a<s.heap.objs.size:=ZE ho
 have hsl:vs.length≤sizeLine:=Nat.le_trans hsm %[|2]
 refine ZA (listItems_at ho rfl ?_)
 refine ZA (listUpdate_at ho rfl ?_ (by rw[x9];exact hsl) (Nat.zero_le _))
 obtain⟨e1,ho1⟩:∃e1,(s.heap.update a (Obj.mapSeq λ _=>#[])).get? a=some (seqObj "list" #[] e1):=⟨_,get?_update_seq ho (λ _=>#[])⟩
 refine ZA (seqEpoch_at ho1 rfl ?_)
 refine ZA (wpAny_newTuple ?_ (by show vs.length≤_;exact hsl))
 refine ZA (wpAny_newList ?_ (Nat.zero_le _))
 refine ZQ ?_
 have ho6:(((s.heap.update a (Obj.mapSeq λ _=>#[])).push (seqObj "tuple" vs.toArray 0)).push (seqObj "list" #[] 0)).get? a=some (seqObj "list" #[] e1):=by
  rw[Heap.get?_push_ne _ _ _ (by rw[size_push',Heap.size_update];exact ZN (Nat.lt_succ_of_lt hla)),Heap.get?_push_ne _ _ _ (by rw[Heap.size_update];exact ZN hla)]
  exact ho1
 show wpAny %[|10] A _ P E {s with heap:=((s.heap.update a (Obj.mapSeq λ _=>#[])).push (seqObj "tuple" vs.toArray 0)).push (seqObj "list" #[] 0)}
 dsimp only
 have hout:(vs.toArray.zip vs.toArray).map (·.2)=vs.toArray:=by
  apply Array.toList_inj.mp
  simp[List.map_snd_zip]
 have hr':∀(i:Nat)(v:Value)(c:Int×%[|3]),vs[i]? =some v->cs[i]? =some c->aZ (((s.heap.update a (Obj.mapSeq λ _=>#[])).push (seqObj "tuple" vs.toArray 0)).push (seqObj "list" #[] 0)) v c:=λ i v c q1 q2=>(hr i v c q1 q2).keep λ b o e c=>by
  have hba:b≠a:=by
   rintro rfl
   rw[ho]at e;cases e
   exact absurd (show Value.type "list"=Value.type "tuple" from c) %[|2]
  have hlb:b<s.heap.objs.size:=ZE e
  rw[Heap.get?_push_ne _ _ _ (by rw[size_push',Heap.size_update];exact ZN (Nat.lt_succ_of_lt hlb)),Heap.get?_push_ne _ _ _ (by rw[Heap.size_update];exact ZN hlb),Heap.get?_update_ne _ _ _ _ hba]
  exact e
 by_cases h2:vs.toArray.size<2
 . rw [if_pos h2,if_pos h2]
   refine ZA %[|12]
   rw[StateT.run_pure]
   refine ZA %[|12]
   dsimp only
   refine ZA (seqEpoch_at ho6 rfl ?_)
   rw[show arrOf (SortSt.mk' general' (vs.toArray.zip vs.toArray) #[] 7 none)=vs.toArray.zip vs.toArray from rfl,hout]
   refine ZA (listUpdate_at ho6 rfl ?_ (Nat.zero_le _) (by rw[x9];omega))
   simp only[bne_self_eq_false,Bool.false_eq_true,if_false]
   have es:jK vs cs=vs:=by
    cases vs with
    | nil=>unfold jK;simp
    | cons v vs=>cases vs with
      | nil=>unfold jK;simp
      | cons=>simp at h2;omega
   rw[es]at h
   exact ZB h
 . rw [if_neg h2,if_neg h2]
   obtain⟨v1,v2,c1,c2,rfl,rfl⟩:∃v1 v2 c1 c2,vs=[v1,v2]/\cs=[c1,c2]:=by
    obtain⟨v1,v2,rfl⟩:=Js (l:=vs) (by simp at h2;omega)
    obtain⟨c1,c2,rfl⟩:=Js (l:=cs) hl.symm
    exact⟨_,_,_,_,rfl,rfl⟩
   have q1:=hr' 0 v1 c1 rfl rfl
   have q2:=hr' 1 v2 c2 rfl rfl
   have q1':=q1
   have q2':=q2
   obtain⟨b1,o1,k1,tk1,u1,rfl,g1,g2,g3,g4⟩:=q1'
   obtain⟨b2,o2,k2,tk2,u2,rfl,f1,f2,f3,f4⟩:=q2'
   refine ZA (PySem.W.kat_kind (T:=.type "int") (PySem.W.KatTups.cons (f:=.int c1.1 tk1) g1 g2 g3 rfl (PySem.W.KatTups.cons (f:=.int c2.1 tk2) f1 f2 f3 rfl PySem.W.KatTups.nil)) (Nat.succ_pos _) (λ v hv=>?_) %[|2] ?_)
   . rcases ZJ.mp hv with rfl | hv
     . exact .now
     . rcases ZJ.mp hv with rfl | hv
       . exact .now
       . cases hv
   have hw:(PySem.W.kas_sort 2).kasWp (PySem.W.kas_ask prog w A (tuples' (Value.type "int" !=Value.type "tuple")) [Value.ref b1,Value.ref b2]) (λ p s'=>s'={s with heap:=((s.heap.update a (Obj.mapSeq λ _=>#[])).push (seqObj "tuple" [Value.ref b1,Value.ref b2].toArray 0)).push (seqObj "list" #[] 0)}/\p=if ltC c2 c1=true then #[1,0]else #[0,1]) {s with heap:=((s.heap.update a (Obj.mapSeq λ _=>#[])).push (seqObj "tuple" [Value.ref b1,Value.ref b2].toArray 0)).push (seqObj "list" #[] 0)}:=by
    show PySem.W.kas_ask prog w A _ [Value.ref b1,Value.ref b2] 1 0 _ _
    unfold PySem.W.kas_ask
    refine Uy (s:={s with heap:=((s.heap.update a (Obj.mapSeq λ _=>#[])).push (seqObj "tuple" [Value.ref b1,Value.ref b2].toArray 0)).push (seqObj "list" #[] 0)}) hu q2 q1 ?_
    cases hlt:ltC c2 c1 with
    | true=>exact⟨rfl,rfl⟩
    | false=>exact⟨rfl,rfl⟩
   refine ZA (wpAny_mono (PySem.W.kat_run (Q:=λ st' s'=>s'={s with heap:=((s.heap.update a (Obj.mapSeq λ _=>#[])).push (seqObj "tuple" [Value.ref b1,Value.ref b2].toArray 0)).push (seqObj "list" #[] 0)}/\failedOf st'=none/\(arrOf st').map (·.2)=(jK [Value.ref b1,Value.ref b2] [c1,c2]).toArray) rfl (x6 2) (by show 2<64;decide) (λ p st' s' a1 a2 a3 a4=>⟨a4.1,a3,?_⟩) hw) ?_ λ _ _ e=>e)
   . rw[PySem.W.kat_snds rfl a2,a4.2]
     show _=(if ltC c2 c1=true then[Value.ref b2,Value.ref b1]else[Value.ref b1,Value.ref b2]).toArray
     by_cases hlt:ltC c2 c1=true
     . rw[if_pos hlt,if_pos hlt];rfl
     . rw[if_neg hlt,if_neg hlt];rfl
   . rintro⟨⟨⟩,st'⟩ s' ⟨rfl,hf,hp⟩
     dsimp only
     refine ZA (seqEpoch_at ho6 rfl ?_)
     rw[hp]
     have hz:(jK [Value.ref b1,Value.ref b2] [c1,c2]).length=2:=by
      show(if ltC c2 c1=true then[Value.ref b2,Value.ref b1]else[Value.ref b1,Value.ref b2]).length=2
      split<;>rfl
     refine ZA (listUpdate_at ho6 rfl ?_ (Nat.zero_le _) (by rw[x9,hz];exact Nat.le_succ_of_le hsl))
     rw[hf]
     simp only[bne_self_eq_false,Bool.false_eq_true,if_false]
     exact ZB h
end
theorem ww{f g:Bool}(hfg:f=true->g=false):∀{ns ms:%[|3]},ltF f ns ms=true->ltF g ms ns=false
 | [],[],h=>by unfold ltF at h ⊢;exact hfg h
 | [],_::_,h=>by unfold ltF at h ⊢;exact hfg h
 | _::_,[],h=>by unfold ltF at h ⊢;exact hfg h
 | n ::ns,m::ms,h=>by
   unfold ltF at h ⊢
   by_cases e:n=m
   . rw[if_pos e]at h;rw[if_pos e.symm];exact ww hfg h
   . rw[if_neg e]at h;rw[if_neg (λ z=>e z.symm)]
     have:=ZF h
     exact ZH %[|0]
theorem Lw{ns ms:%[|3]}(h:ltI ns ms=true):ltI ms ns=false:=by
 unfold ltI at h ⊢
 exact ww (λ h1=>ZH (by have:=ZF h1;omega)) h
theorem wg{f g:Bool}:∀{ns ms:%[|3]},(ns.length<ms.length->f=true)->(ms.length<ns.length->g=true)->ltF f ns ms=false->ltF g ms ns=false->ns=ms
 | [],[],_,_,_,_=>rfl
 | [],_::_,hf,_,h,_=>by unfold ltF at h;rw[hf (by simp)]at h;cases h
 | _::_,[],_,hg,_,h=>by unfold ltF at h;rw[hg (by simp)]at h;cases h
 | n ::ns,m::ms,hf,hg,h1,h2=>by
   unfold ltF at h1 h2
   by_cases e:n=m
   . rw[if_pos e]at h1;rw[if_pos e.symm]at h2
     rw[e,wg (λ z=>hf (by simpa using z)) (λ z=>hg (by simpa using z)) h1 h2]
   . rw[if_neg e]at h1;rw[if_neg (λ z=>e z.symm)]at h2
     have a:=of_decide_eq_false h1
     have b:=of_decide_eq_false h2
     omega
theorem Lb{ns ms:%[|3]}(h1:ltI ns ms=false)(h2:ltI ms ns=false):ns=ms:=by
 unfold ltI at h1 h2
 exact wg (λ h=>ZG h) (λ h=>ZG h) h1 h2
theorem Ji{c d:Int×%[|3]}(h:ltC c d=true):ltC d c=false:=by
 unfold ltC at h ⊢
 by_cases e:c.1=d.1
 . rw[if_pos e]at h;rw[if_pos e.symm];exact Lw h
 . rw[if_neg e]at h;rw[if_neg (λ z=>e z.symm)]
   have:=ZF h
   exact ZH %[|0]
theorem JK{c d:Int×%[|3]}(h1:ltC c d=false)(h2:ltC d c=false):c=d:=by
 unfold ltC at h1 h2
 by_cases e:c.1=d.1
 . rw[if_pos e]at h1;rw[if_pos e.symm]at h2
   exact Prod.ext e (Lb h1 h2)
 . rw[if_neg e]at h1;rw[if_neg (λ z=>e z.symm)]at h2
   have a:=of_decide_eq_false h1
   have b:=of_decide_eq_false h2
   exact absurd %[|0] e
def sset{α:Type}(f:α->Int×%[|3]):List α->List α
 | [x,y]=>if f y=f x then[x]else if ltC (f y) (f x)=true then[y,x]else[x,y]
 | xs=>xs
section
variable {prog : Program} {w : World} {A : Around} {E : Value -> Shared -> Prop} {s : Shared}
theorem Df{S:Addr}{ep:Nat}{its:%[|7]}{cs:List (Int×%[|3])}{es:List (Int×Value)}{ps:List Nat}(hl:its.length=cs.length)(h2:its.length≤2)(h:Lies prog w its cs its.length es ps):
 Rise es ps/\∃ds:List (Int×%[|3]),((bz w S ep es).toList.map (·.2)).length=ds.length/\(∀(i:Nat)(v:Value)(c:Int×%[|3]),((bz w S ep es).toList.map (·.2))[i]? =some v->ds[i]? =some c->(v,c)∈its.zip cs)/\
  jK ((bz w S ep es).toList.map (·.2)) ds=(sset (·.2) (its.zip cs)).map (·.1):=by
 match its,cs,hl,h2,h with
 | [],[],_,_,h=>
   obtain⟨rfl,rfl⟩:=h
   have r:Rise [] []:=⟨rfl,.inl rfl⟩
   refine⟨r,[],?_⟩
   rcases gr w S ep r with⟨_,h2⟩ | ⟨e,h1,_⟩ | ⟨e1,e2,h1,_⟩
   . rw[h2];exact⟨rfl,λ i v c e=>by simp at e,rfl⟩
   . cases h1
   . cases h1
 | [v],[c],_,_,h=>
   obtain⟨v',c',e1,e2,rfl,rfl⟩:=h
   cases e1;cases e2
   have r:Rise [(hC prog w c,v)] [SetTable.bits (hC prog w c) % 8]:=⟨rfl,.inr (.inl ⟨_,rfl⟩)⟩
   refine⟨r,[c],?_⟩
   rcases gr w S ep r with⟨h1,_⟩ | ⟨e,h1,h2⟩ | ⟨e1,e2,h1,_⟩
   . cases h1
   . cases h1
     rw[h2]
     refine⟨rfl,λ i v' c' e1 e2=>?_,rfl⟩
     match i with
     | 0=>simp at e1 e2;simp[e1,e2]
     | i+1=>simp at e1
   . cases h1
 | [v0, v], [c0,c],_,_,h=>
   obtain⟨v0',v',c0',c',e1,e2,h⟩:=h
   cases e1;cases e2
   rcases h with⟨rfl,rfl,rfl⟩ | ⟨nc,e1,e2,v1,v2,j1,j2,rfl,rfl,hj,h8,hv⟩
   . have r:Rise [(hC prog w c,v0)] [SetTable.bits (hC prog w c) % 8]:=⟨rfl,.inr (.inl ⟨_,rfl⟩)⟩
     refine⟨r,[c],?_⟩
     rcases gr w S ep r with⟨h1,_⟩ | ⟨e,h1,h2⟩ | ⟨e1,e2,h1,_⟩
     . cases h1
     . cases h1
       rw[h2]
       refine⟨rfl,λ i v' c' e1 e2=>?_,?_⟩
       . match i with
         | 0=>simp at e1 e2;simp[e1,e2]
         | i+1=>simp at e1
       . show[v0]=_
         simp[sset]
     . cases h1
   . have r :Rise [(e1,v1),(e2,v2)] [j1,j2]:=⟨rfl,.inr (.inr ⟨_,_,rfl,hj⟩)⟩
     refine⟨r,?_⟩
     have key:∀(x y:Value)(p q:Int×%[|3]),(bz w S ep [(e1,v1),(e2,v2)]).toList.map (·.2)=[x,y]->((x,p)=(v0,c0)/\(y,q)=(v,c)∨(x,p)=(v,c)/\(y,q)=(v0,c0))->
      ∃ ds:List (Int×%[|3]),((bz w S ep [(e1,v1),(e2,v2)]).toList.map (·.2)).length=ds.length/\(∀(i:Nat)(v':Value)(c':Int×%[|3]),((bz w S ep [(e1,v1),(e2,v2)]).toList.map (·.2))[i]? =some v'->ds[i]? =some c'->(v',c')∈[v0,v].zip [c0,c])/\
        jK ((bz w S ep [(e1,v1),(e2,v2)]).toList.map (·.2)) ds=(sset (·.2) ([v0,v].zip [c0,c])).map (·.1):=by
      intro x y p q hm hxy
      rw[hm]
      refine⟨[p,q],rfl,λ i v' c' g1 g2=>?_,?_⟩
      . match i with
        | 0=>
          simp at g1 g2;subst g1 g2
          rcases hxy with⟨a,b⟩ | ⟨a,b⟩<;>(rw[a];simp)
        | 1=>
          simp at g1 g2;subst g1 g2
          rcases hxy with⟨a,b⟩ | ⟨a,b⟩<;>(rw[b];simp)
        | i+2=>simp at g1
      . show(if ltC q p=true then[y,x]else[x,y])=(if c=c0 then[(v0,c0)]else if ltC c c0=true then[(v,c),(v0,c0)]else[(v0,c0),(v,c)]).map (·.1)
        rw[if_neg nc]
        rcases hxy with⟨a,b⟩ | ⟨a,b⟩
        . cases a;cases b
          split<;>rfl
        . cases a;cases b
          cases h1:ltC c0 c with
          | true=>rw[Ji h1];rfl
          | false=>
            cases h2:ltC c c0 with
            | true=>rfl
            | false=>exact absurd (JK h2 h1) nc
     rcases gr w S ep r with⟨h1,_⟩ | ⟨e,h1,_⟩ | ⟨f1,f2,h1,h2⟩
     . cases h1
     . cases h1
     . cases h1
       rcases hv with⟨rfl,rfl⟩ | ⟨rfl,rfl⟩
       . rcases h2 with h2 | h2
         . exact key v1 v2 c0 c (by rw[h2];rfl) (.inl ⟨rfl,rfl⟩)
         . exact key v2 v1 c c0 (by rw[h2];rfl) (.inr ⟨rfl,rfl⟩)
       . rcases h2 with h2 | h2
         . exact key v1 v2 c c0 (by rw[h2];rfl) (.inr ⟨rfl,rfl⟩)
         . exact key v2 v1 c0 c (by rw[h2];rfl) (.inl ⟨rfl,rfl⟩)
 | _::_::_::_,_,_,h2,_=>simp at h2
theorem Hf{S:Addr}{vs:%[|7]}{cs:List (Int×%[|3])}{es:List (Int×Value)}{ps:List Nat}{ep:Nat}{Q:%[|11]}(hh:A.handled=none)(hu:A.units+8<cLine)(r:Rise es ps)(ho:s.heap.get? S=some (bU (d9 w) es ps ep))
 (hvs:vs=(bz w S ep es).toList.map (·.2))(hl:vs.length=cs.length)(h2:vs.length≤2)(hc:∀(i:Nat)(v:Value)(c:Int×%[|3]),vs[i]? =some v->cs[i]? =some c->aZ s.heap v c)
 (h:∀h' tk a e,(∀b o,b<s.heap.objs.size->s.heap.get? b=some o->h'.get? b=some o)->s.heap.objs.size≤a->h'.get? a=some (seqObj "list" (jK vs cs).toArray e)->Q (.ref a) {s with heap:=h',toks:=tk}):
 wpAny %[|10] A (call (.builtin "sorted") [.ref S]) Q E s:=by
 refine Calls.call_function_entry kind_sorted plain_sorted entry_sorted (args_sorted1 _) ?_
 unfold Builtin.«sorted»
 refine ZA (m:=checkCount "sorted" 1 1 _) %[|12]
 refine ZA (Ek (by simpa using hh) r ho λ h' tk k1 k2=>?_)
 rw[←hvs]
 have hsl:vs.length≤sizeLine:=Nat.le_trans h2 %[|2]
 refine ZA (wpAny_newList ?_ hsl)
 have hoL:(h'.push (seqObj "list" vs.toArray 0)).get? h'.objs.size=some (seqObj "list" vs.toArray 0):=%[|19]
 have keep:∀b o,s.heap.get? b=some o->(h'.push (seqObj "list" vs.toArray 0)).get? b=some o:=λ b o q=>ZC _ (k1 b o (ZE q) q)
 show wpAny _ _ _ _ _ {s with heap:=h'.push (seqObj "list" vs.toArray 0),toks:=tk}
 refine ZA (ZQ (ZP slot_list_sort ⟨_,hoL,rfl⟩ entry_list_sort (xP ?_ hoL hl (λ i v c e1 e2=>(hc i v c e1 e2).keep λ b o e _=>keep b o e) h2 ⟨_,rfl,?_⟩) (args_list_sort _)))
 . show A.units+1+1+2<cLine
   omega
 . obtain⟨e,he⟩:=sortedHeap_at (out:=(jK vs cs).toArray) hoL
   refine ZB ⟨_,rfl,h _ tk _ e (λ b o hb q=>?_) k2 he⟩
   have hlt:b<h'.objs.size:=ZM hb k2
   rw[sortedHeap_old (ZN hlt) (by rw[size_push'];exact Nat.lt_succ_of_lt hlt)]
   exact keep b o q
end
def cD(c:Int×%[|3]):D:=.tup [.int c.1,.tup (c.2.map .int)]
section
variable {X : Cx}
theorem TY {pins:%[|13]}{σ:DL.St}{H:Hp}{s:Shared}{O:Own}(I:%[|6]){y:V}{u:Value}{c:Int×%[|3]}(r:Rep X.K O H y (cD c))(ru:RelV y u):aZ s.heap u c:=by
 unfold cD at r
 cases r with
 | @tup a xs _ h1 q1=>
   cases ru
   obtain⟨js,rv,⟨o,p1,p2,n,p3⟩,hz⟩:=I.tuple h1.sq
   cases q1 with
   | cons r1 t1=>
     cases t1 with
     | cons r2 t2=>
       cases t2
       cases rv with
       | cons a1 b1=>
         cases b1 with
         | cons a2 b2=>
           cases b2
           cases r1
           obtain⟨tk,rfl⟩:=a1
           cases r2 with
           | @tup a' xs' _ h1' q1'=>
             cases a2
             obtain⟨js',rv',⟨o',p1',p2',n',p3'⟩,hz'⟩:=I.tuple h1'.sq
             have ex:=q1'.ints
             subst ex
             exact⟨a,o,n,tk,_,rfl,p1,p2,p3,_,o',_,n',rfl,p1',p2',p3',intsAre_of rv'⟩
theorem Li {K :PySem.W.Frag}{O:Own}{H:Hp}{cs:List (Int×%[|3])}{its:%[|7]}{xs:List V}(h2:cs.length≤2)(rv:Vals xs its)(hq:Reps K O H xs (cs.map cD)):
 ∃ys,Vals ys ((sset (·.2) (its.zip cs)).map (·.1))/\Reps K O H ys ((sset id cs).map cD)/\ys.length≤2:=by
 rcases cs with _ | ⟨c0,_ | ⟨c,_ | ⟨c',cs⟩⟩⟩
 . cases hq;cases rv;exact⟨[],.nil,.nil,Nat.zero_le _⟩
 . cases hq with
   | cons b1 t=>
     cases t
     cases rv with
     | cons a1 t=>
       cases t
       exact⟨[_],.cons a1 .nil,.cons b1 .nil,Nat.le_succ _⟩
 . cases hq with
   | cons b1 t=>
     cases t with
     | cons b2 t=>
       cases t
       cases rv with
       | cons a1 t=>
         cases t with
         | cons a2 t=>
           cases t
           rename_i y0 y x0 x
           have key:∃ys,Vals ys ((if c=c0 then[(x0,c0)]else if ltC c c0=true then[(x,c),(x0,c0)]else[(x0,c0),(x,c)]).map (·.1))/\Reps K O H ys ((if c=c0 then[c0]else if ltC c c0=true then[c,c0]else[c0,c]).map cD)/\ys.length≤2:=by
            by_cases e1:c=c0
            . rw[if_pos e1,if_pos e1];exact⟨[y0],.cons a1 .nil,.cons b1 .nil,Nat.le_succ _⟩
            . rw[if_neg e1,if_neg e1]
              by_cases e2:ltC c c0=true
              . rw[if_pos e2,if_pos e2];exact⟨[y,y0],.cons a2 (.cons a1 .nil),.cons b2 (.cons b1 .nil),x6 _⟩
              . rw[if_neg e2,if_neg e2];exact⟨[y0,y],.cons a1 (.cons a2 .nil),.cons b1 (.cons b2 .nil),x6 _⟩
           exact key
 . simp at h2
theorem CT{cs:List (Int×%[|3])}{S:Store}{W:WD}{d:D}(hc:X.calm=true)(hu:X.A.units+60<cLine)(h2:cs.length≤2)(hd:d=.lst (cs.map cD)∨∃k,d=.loc k/\S[k]? =some (cs.map cD))
 (w:∀(O:Own)(H:Hp)(p:Addr)(ys:List V),StOk X.K O H S->H p=none->Reps X.K O H ys ((sset id cs).map cD)->QG X.K O H W (.ref p) (upd H p (.lst ys)))
 {pins:Pins}{s:Shared}{σ:DL.St}{H:Hp}{O:Own}{v:V}{u:Value}(I:%[|6])(st:StOk X.K O H S)(r':Rep X.K O H v d)(ru':RelV v u):
 wpAny %[|8] X.A (call (.type "set") [u]) (λ u1 s1=>wpAny %[|8] X.A (call (.builtin "sorted") [u1]) (EP X pins σ (QG X.K O H W)) X.xe s1) X.xe s:=by
 have main:∀(a:Addr)(xs:List V),v=.ref a->SqL X.K H a xs->Reps X.K O H xs (cs.map cD)->wpAny %[|8] X.A (call (.type "set") [u]) (λ u1 s1=>wpAny %[|8] X.A (call (.builtin "sorted") [u1]) (EP X pins σ (QG X.K O H W)) X.xe s1) X.xe s:=by
  rintro a xs rfl hs hq
  cases ru'
  obtain⟨its,rv,pl,hz⟩:=I.list hs
  have l1:xs.length=cs.length:=by rw[hq.length,y8]
  have l2:its.length=cs.length:=by rw[←rv.length,l1]
  have cel:∀(i:Nat)(x:Value)(c:Int×%[|3]),its[i]? =some x->cs[i]? =some c->aZ s.heap x c:=by
   intro i x c e1 e2
   have e3:(cs.map cD)[i]? =some (cD c):=by rw[x5,e2];rfl
   obtain⟨y,hy,ry⟩:=hq.get e3
   obtain⟨x',hx',rx⟩:=rY rv hy
   rw[e1]at hx';cases hx'
   exact TY I ry rx
  refine zm (I.ok.hd hc) %[|0] pl.isList l2 cel %[|0] λ h1 tk es ps ep g1 lies k1=>?_
  obtain⟨rise,ds,m1,m2,m3⟩:=Df (S:=s.heap.objs.size) (ep:=ep) l2 %[|0] lies
  have hlt:∀b o,s.heap.get? b=some o->h1.get? b=some o:=λ b o e=>k1 b o (ZE e) e
  have sz1:s.heap.objs.size≤h1.objs.size:=Nat.le_of_lt (ZE g1)
  have m4:((bz X.w s.heap.objs.size ep es).toList.map (·.2)).length≤2:=by
   rw[y8,Array.length_toList,j8 _ _ _ rise]
   rcases rise.sh with e | ⟨j,e⟩ | ⟨j,k,e,_⟩<;>(have:=rise.len;rw[e]at this;simp at this;omega)
  refine Hf (s:={s with heap:=h1,toks:=tk}) (I.ok.hd hc) %[|0] rise g1 rfl m1 m4 (λ i x c e1 e2=>?_) λ h2' tk2 p e k2 hp he=>?_
  . have hm:=m2 i x c e1 e2
    obtain⟨j,hj⟩:=ZR hm
    rw[List.getElem?_zip_eq_some]at hj
    exact(cel j x c hj.1 hj.2).keep λ b o e _=>hlt b o e
  . rw[m3]at he
    have hp':s.heap.objs.size≤p:=Nat.le_trans sz1 hp
    have hpn:H p=none:=I.hok.fresh hp'
    obtain⟨ys,vy,ry,ly⟩:=Li h2 rv hq
    have hys:ys.length≤sizeLine:=Nat.le_trans ly %[|2]
    refine⟨.ref p,_,I.laid (t':=tk2) (λ b o q=>k2 b o (ZM (ZE q) sz1) (hlt b o q)) hp' (show bu X.prog X.w _ _ _ (.lst ys)from⟨hys,_,e,vy,he⟩),rfl,w O H p ys st hpn ry⟩
 rcases hd with rfl | ⟨k,rfl,hk⟩
 . cases r' with
   | @lst a xs _ h1 q1=>exact main a xs rfl h1.sq q1
 . cases r' with
   | @loc p _ h1=>
     obtain⟨xs,hx,q1⟩:=st.obj k p _ h1 hk
     exact main p xs rfl (SqL.of hx) q1
end
section
variable {Ω : Wd}
def Te.lval(a:Ex Ω):Te Ω where
 lev:=a.lev
 chk top N nm e:=Mp e&&a.chk top N nm e
 wp Γ S W:=a.wp Γ S λ d S1=>∃ds,vw S1 d=.lst ds/\(d=.lst ds∨∃k,d=.loc k/\S1[k]? =some ds)/\ds.length≤1000000/\W (!ds.isEmpty) S1
 sound:=by
  sleep 1
  obtain⟨h1,h2⟩:=az hc
  sleep 0
  refine isTrue_plain (thn (a.sound A hl h2 hw pins s σ H O I env st) λ u s3 hq_=>?_) (KZ h1 _ _)
  obtain⟨z,H3,I3,r3,O3,d,S3,⟨ds,_,hd,hz,wc⟩,st3,ok3,rep3⟩:=hq_
  have main:∀(p:Addr)(xs:List V),z=.ref p->SqL X.K H3 p xs->xs.length=ds.length->wpAny %[|8] X.A (truthy u) (TP X pins σ (QT X.K O H W)) X.xe s3:=by
   rintro p xs rfl hs hlen
   cases r3
   obtain⟨its,rv,pl,hzz⟩:=I3.list hs
   have hl2:its.length=ds.length:=by rw[←rv.length,hlen]
   refine wpAny_truthy_list pl.isList (by rw[x9];omega) ?_
   have e:(!its.toArray.isEmpty)= !ds.isEmpty:=by
    cases its with
    | nil=>cases ds with
      | nil=>rfl
      | cons _ _=>simp at hl2
    | cons _ _=>cases ds with
      | nil=>simp at hl2
      | cons _ _=>rfl
   rw[e]
   exact⟨H3,I3.tok _,O3,S3,wc,st3,ok3⟩
  rcases hd with rfl | ⟨k,rfl,hk⟩
  . cases rep3 with
    | @lst p xs _ g1 q1=>exact main p xs rfl g1.sq q1.length
  . cases rep3 with
    | @loc p _ g1=>
      obtain⟨xs,hx,q1⟩:=ok3.obj k p _ g1 hk
      exact main p xs rfl (SqL.of hx) q1.length
end
section
variable {Ω : Wd}
def Ex.ssetO(hm:Ω.mg "sorted"=none)(hm2:Ω.mg "set"=none)(a:Ex Ω):Ex Ω where
 lev:=a.lev
 chk top N nm e:=gH e λ y es=>lz es λ c=>gH c λ z bs=>lz bs λ b=>(y=="sorted")&&((z=="set")&&(glb nm "sorted"&&(glb nm "set"&&(okE b&&a.chk top N nm b))))
 wp Γ S W:=a.wp Γ S λ d S1=>∃cs:List (Int×%[|3]),cs.length≤2/\(d=.lst (cs.map cD)∨∃k,d=.loc k/\S1[k]? =some (cs.map cD))/\W (.loc S1.length) (S1++[(RF.sset id cs).map cD])
 sound:=by
  sleep 1
  obtain⟨y,p,es,pos,rfl,hc_1⟩:=cY hc
  obtain⟨c,rfl,hc_2⟩:=eF hc_1
  obtain⟨z,p',bs,pos',rfl,hc_3⟩:=cY hc_2
  obtain⟨b,rfl,hc_4⟩:=eF hc_3
  have hc:=hc_4
  . skip
    obtain⟨h1,h2,h3,h4,h5,h6⟩:=iM hc
    have e1:=ZI h1
    have e2:=ZI h2
    subst e1 e2
    sleep 0
    refine wpAny_Call_Name_kw (cB I (A.glb h3) (by rw[A.g];exact hm) (show bootBuiltins "sorted"=some (.builtin "sorted")from %[|14]) ?_ %[|2] %[|2])
    refine PyProof.Rows.callWith_builtin1 ?_ rfl rfl
    show wpAny _ _ (spliced ((false,eval _ X.env)::backTo pos (starEach [] X.env))) _ _ s
    refine Calls.spliced_cons ?_
    refine wpAny_Call_Name_kw (cB I (A.glb h4) (by rw[A.g];exact hm2) (show bootBuiltins "set"=some (.type "set")from %[|14]) ?_ %[|2] %[|2])
    refine PyProof.Rows.callWith_type1 ?_ (aF h5 _ _) rfl
    rw[aF h5 [] X.env]
    show wpAny _ _ (spliced ((false,eval b X.env)::backTo pos' (starEach [] X.env))) _ _ s
    refine Calls.spliced_cons (thn (a.sound A hl h6 hw pins s σ H O I env st) λ u s1 hq_=>?_)
    obtain⟨v,H1,I1,r1,O1,x,S1,hb,st1,ok1,rep1⟩:=hq_
    obtain⟨cs,c1,c2,c3⟩:=hb
    refine Calls.spliced_nil ?_
    refine thn (CT (W:=W) A.calm A.hu c1 c2 (λ O H p ys st hp r=>ou c3 st hp r) I1 ok1 rep1 r1) λ u2 s2 q=>?_
    refine Calls.spliced_nil ?_
    exact thn q λ _ _ q=>du st1 q
end
section
variable {X : Cx}
theorem TF{Γ:Gam}{S:Store}{o e:Expr}{es:List Expr}{name:Str}{id:String}{r:V->List V->Hp->VK->Prop}{apos cpos:Pos}{W:WD}(slot:Slot "list" name id)(hty:typeOf (.builtin id)=pure (.type "method_descriptor"))(hm:MtM X id r)(hmo:∀{x:V}{vs:List V}{H:Hp}{Q Q':VK},r x vs H Q->(∀v H',Q v H'->Q' v H')->r x vs H Q')
 (h:Ev X Γ S o λ x S1=>∃k,x=.loc k/\EvA X Γ S1 (e::es) λ ds S2=>∃ds0,S2[k]? =some ds0/\∀(O:Own)(H:Hp)(a:Addr)(xs vs:List V),O.A[k]? =some (a,false)->H a=some (.lst xs)->Reps X.K O H xs ds0->Reps X.K O H vs ds->StOk X.K O H S2->r (.ref a) vs H (QG X.K O H W))
 (hbase:attributeBase o name X.env (eval o X.env)=eval o X.env)
 (hfew:((backTo cpos (starEach (e::es) X.env)).all (λ x=>!x.1)&&(backToKw cpos (keywordEach [] X.env)).all (λ x=>x.1.isSome)
  &&decide ((e::es).length+([]:List Keyword).length+(if([]:List Keyword).isEmpty then 0 else 1)<30))=true)
 (hline:(apos.endLine==cpos.line)=true)(hs:starEach (e::es) X.env=(false,eval e X.env)::starEach es X.env)(hplain:(backTo cpos (starEach es X.env)).any (·.1)=false):Ev X Γ S (.Call (.Attribute o name apos) (e::es) [] cpos) W:=by
 sleep 0
 have hty':∀(O1:Own)(x:D)(v:V)(H1:Hp)(S1:Store),(∃k,x=.loc k)->StOk X.K O1 H1 S1->Rep X.K O1 H1 v x->tyV X.K "list" v H1:=by
  rintro O1 x v H1 S1 ⟨k,rfl⟩ ok r
  cases r with
  | @loc a _ ha=>
    have hl:k<S1.length:=by rw[←ok.len];exact(y3.mp ha).1
    obtain⟨xs,hx,_⟩:=ok.obj k a S1[k] ha (y4 hl)
    exact .inl ⟨rfl,xs,SqL.of hx⟩
 have hA:PA X (e::es) (λ σ H Q=>∃O Γ S W',EnvOk X.K O H σ Γ/\StOk X.K O H S/\EvA X Γ S (e::es) W'/\∀vs H',QA X.K O H W' vs H'->Q vs H'):=by
  rintro pos pins s σ H Q I ⟨O,Γ,S,W',env,st,he,k⟩
  exact thn (he pos pins s σ H O I env st) λ us s1 ⟨vs,H1,I1,r1,q⟩=>⟨vs,H1,I1,r1,k vs H1 q⟩
 refine PT (T:="list") PySem.F.plainAttrs_list slot hty hm (h.pe) hA hbase hfew hline hs hplain pins s σ H _ I ⟨O,env,st,λ v H' q=>?_⟩
 obtain⟨O1,x,S1,⟨k,rfl,he⟩,st1,ok1,rep1⟩:=q
 refine⟨hty' O1 _ v H' S1 ⟨k,rfl⟩ ok1 rep1,O1,Γ,S1,_,env.mono st1,ok1,he,λ vs H2 q2=>?_⟩
 obtain⟨O2,ds,S2,⟨ds0,hk,w⟩,st2,ok2,rep2⟩:=q2
 have r':=rep1.mono st2
 cases r' with
 | @loc a _ ha=>
   obtain⟨xs,hx,q1⟩:=ok2.obj k a ds0 ha hk
   exact hmo (w O2 H2 a xs vs ha hx q1 rep2 ok2) λ v' H3 q3=>q3.pre (st1.trans st2)
end
section
variable {Ω : Wd}
theorem Xl{e:Expr}{env:Env}{cpos:Pos}(h:okE e=true):((backTo cpos (starEach [e] env)).all (λ x=>!x.1)&&(backToKw cpos (keywordEach [] env)).all (λ x=>x.1.isSome)
 &&decide ([e].length+([]:List Keyword).length+(if([]:List Keyword).isEmpty then 0 else 1)<30))=true:=by
 rw[aF h [] env];rfl
end
theorem zA(l:Addr)(items:Array Value)(n:Nat)(b:Addr)(items2:Array Value)(n2:Nat)(dd2:Option Addr)(sl2:Array %[|27])(hc0:¬(!items.isEmpty&&Builtin.List.listTooLong (items.size+items2.size))=true)(hc1:items.size≤sizeLine)(hs2:items.size+items2.size≤sizeLine+1):
 Meets (Builtin.«list.extend» ⟨[.ref l,.ref b],[]⟩) (λ _ R s=>s.heap.get? l=some {cls:=.type "list",dict:=none,data:=.seq items n,slots:=#[]}/\s.heap.get? b=some {cls:=.type "list",dict:=dd2,data:=.seq items2 n2,slots:=sl2}/\R (.ok (.ret Value.none)) {s with heap:=s.heap.update l (Obj.mapSeq λ x=>x++items2),toks:=s.toks}):=
 .of_wp λ prog w A R s h=>by
  obtain⟨hp,g,d,tk,os⟩:=s;obtain⟨hl,hb,h⟩:=h;have f1:=AutoSeq1.idx_int;have f2:=AutoSeq1.sub_tuple_tuple;have f3:=AutoSeq1.sub_list_list;have f4:=AutoSeq1.sub_tuple_list;have f5:=AutoSeq1.sub_list_tuple;
  have hz':(items++items2).size≤sizeLine+1:=by rw[Array.size_append];exact hs2
  wp_walk using(wpAny_updateSeq hl rfl (hz:=hc1) (_hz':=hz')),AutoSeq1.wpAny_loadPart' hl,AutoSeq1.wpAny_loadPart' hb;exact⟨_,rfl,h⟩
def Hw(K:PySem.W.Frag):V->List V->Hp->VK->Prop:=λ x vs H Q=>∃l b xs zs,x=.ref l/\vs=[.ref b]/\H l=some (.lst xs)/\SqL K H b zs/\xs.length+zs.length≤sizeLine/\Q .non (upd H l (.lst (xs++zs)))
theorem HY{K:PySem.W.Frag}{x:V}{vs:List V}{H:Hp}{Q Q':VK}(h:Hw K x vs H Q)(k:∀v H',Q v H'->Q' v H'):Hw K x vs H Q':=by
 obtain⟨l,b,xs,zs,e1,e2,e3,e4,e5,q⟩:=h
 exact⟨l,b,xs,zs,e1,e2,e3,e4,e5,k _ _ q⟩
section
variable {X : Cx}
theorem Ht:MtM X "list.extend" (Hw X.K):=by
 intro pins s σ H x vs v us Q I rx rv h
 obtain⟨l,b,xs,zs,rfl,rfl,hH,hB,hz,q⟩:=h
 cases rx
 obtain⟨u,rfl,ru⟩:=rv.one
 cases ru
 obtain⟨z,its,n,r,hl,e⟩:=I.lstM hH
 obtain⟨its2,r2,p2,z2⟩:=I.list hB
 obtain⟨⟨cls2,dd2,data2,sl2⟩,n2,ho2,hc2,hdd2,hd2⟩:=id p2
 simp only at hc2 hd2
 subst hc2 hd2
 have l1:=r.length
 have l2:=r2.length
 have hsz:its.toArray.size+its2.toArray.size≤sizeLine:=by rw[x9,x9];omega
 have hlong:¬(!its.toArray.isEmpty&&Builtin.List.listTooLong (its.toArray.size+its2.toArray.size))=true:=by
  rw[LC hsz,Bool.and_false]
  exact y7
 refine call_meets F.slot_list_extend ⟨_,e,rfl⟩ F.entry_list_extend (F.args_list_extend_2 _ _)
  (zA l its.toArray n b its2.toArray n2 dd2 sl2 hlong (by rw[x9];omega) %[|0]) ⟨e,ho2,?_⟩
 refine⟨.non,_,I.lset (its':=its++its2) hH e (by simp) (r.append r2) ?_,rfl,q⟩
 rw[List.length_append]
 omega
end
section
variable {Ω : Wd}
def Ex.m_extend(o a:Ex Ω):Ex Ω where
 lev:=max o.lev a.lev
 chk top N nm e:=match e with | .Call (.Attribute x m p) [y] [] q=>(m==("extend":Str))&&(nameE x&&((p.endLine==q.line)&&(okE y&&(o.chk top N nm x&&a.chk top N nm y)))) | _=>false
 wp Γ S W:=o.wp Γ S λ x S1=>match x with | .loc k=>a.wp Γ S1 λ d S2=>∃ds es,S2[k]? =some ds/\jB S2 d=some es/\ds.length+es.length≤1000000/\W .non (S2.set k (ds++es)) | _=>False
 sound:=by
  sleep 1
  obtain⟨l1,l2⟩:=lv2 hl
  split at hc
  . rename_i x m p y q
    obtain⟨h1,h2,h3,h4,h5,h6⟩:=iM hc
    have e:=ZI h1
    subst e
    refine TF F.slot_list_extend F.type_list_extend Ht HY ((o.sound A l1 h5 hw).mono λ x S1 q=>?_) ?_ (Xl h4) h3 (aF h4 _ _) rfl
    . cases x<;>first | exact q.elim | skip
      refine⟨_,rfl,dX ((a.sound A l2 h6 q).mono λ d S2 q=>j7 ?_) (aF h4 _ _)⟩
      obtain⟨ds,es,hk,he,hz,w⟩:=q
      refine⟨ds,hk,λ O H a xs vs ha hx rx rv st=>?_⟩
      cases rv with
      | cons r1 t=>
        cases t
        have key:∀v,Rep X.K O H v d->∃b zs,v=.ref b/\SqL X.K H b zs/\Reps X.K O H zs es:=by
         intro v r1
         cases r1 with
         | @lst b zs _ g1 q1=>cases he;exact⟨b,zs,rfl,g1.sq,q1⟩
         | @loc b j g1=>
           obtain⟨zs,hz',q1⟩:=st.obj j b es g1 he
           exact⟨b,zs,rfl,SqL.of hz',q1⟩
         | _=>cases he
        obtain⟨b,zs,rfl,hb,rz⟩:=key _ r1
        refine⟨a,b,xs,zs,rfl,rfl,hx,hb,by rw[rx.length,rz.length];exact small hz,O,.non,_,w,Step.put (dO ha) _,?_,.non⟩
        exact st.put ha (rx.append rz)
    . cases x<;>first | rfl | exact ff h2
  . exact ff hc
end
end RF
namespace XE
open PySem PySem.Spec PySem.W PySem.Calls PyProof.Rows Builtin Builtin.ObjectAttr Builtin.Getset_descriptor
def bN(x C:Addr)(h:Heap):Prop:=∃o vs,h.get? x=some o/\o.cls=.ref C/\o.data=.fields vs
structure Atr(K:Frag)(C:Addr):Prop where
 ga:findIn K (.ref C) "__getattribute__"=some (some (.builtin "BaseException.__getattribute__"))
 gh:findIn K (.ref C) "__getattr__"=some none
 ca:findIn K (.ref C) "__class__"=some (some (.builtin "object.__class__"))
 sp:specialIn K (.builtin "object.__class__") "__get__"=some (some (.builtin "getset_descriptor.__get__"))
 tk:takesIn K (.builtin "object.__class__")=some true
 mo:mroIn K C (.type "object")=some true
 mb:mroIn K C (.type "BaseException")=some true
section
variable {K : Frag} {x C : Addr}
theorem Atr.cd(a:Atr K C):∃cd,clsIn K C=some cd:=by
 have:=a.mo
 unfold mroIn at this
 cases e:clsIn K C with
 | none=>rw[e]at this;cases this
 | some cd=>exact⟨cd,rfl⟩
theorem bN.ty{M:Model}{h:Heap}(p:bN x C h):Looks M h (typeOf (.ref x)) (.ref C):=by
 obtain⟨o,_,h1,h2,_⟩:=p
 exact h2▸(Looks.ld h1).andThen .now
theorem PJ{M:Model}{h:Heap}(X:K.In h)(a:Atr K C):Looks M h (find (.ref x) (.ref C) "__class__") (.bind (.builtin "getset_descriptor.__get__") (.builtin "object.__class__")):=by
 unfold ObjectAttr.find
 refine(looks_findIn X a.ca).andThen ?_
 refine Looks.andThen (a:=some (.builtin "getset_descriptor.__get__")) (looks_specialIn X a.sp) ?_
 refine Looks.andThen (a:=some (.builtin "getset_descriptor.__get__",.builtin "object.__class__")) ?_ (Looks.tag .now)
 exact(looks_takesIn X a.tk).andThen .now
variable {prog : Program} {w : World} {A : Around} {E : Value -> Shared -> Prop} {s : Shared}
theorem Sh{tp:Value}{R:Result->Shared->Prop}(X:K.In s.heap)(p:bN x C s.heap)(a:Atr K C)(hq:R (.ok (.ret (.ref C))) s):
 codeAny %[|10] A (.call (.builtin "getset_descriptor.__get__") ⟨[.builtin "object.__class__",.ref x,tp],[]⟩) R s:=by
 obtain⟨hh,g,dr,t,os⟩:=s
 have Lt:=p.ty (M:=%[|10]);have Lm:=looks_mroIn (M:=%[|10]) X a.mo
 refine codeAny_call_builtin KF.slot_gs.plain KF.entry_gs ?_;refine KF.slot_gs.check _ _ _ _ _ _ _ _ KF.type_class (KF.args_gs _ _ _) ?_
 unfold Builtin.«getset_descriptor.__get__» descrGet;rw[dga_obj];refine ZA %[|12]
 unfold descrGetter descrCheckInstance descrNameAndClass isInstance;simp only[KF.owner_class]
 repeat lk
 refine⟨Code.quiet_builtin _ %[|14],?_⟩;refine codeAny_builtin KF.entry_class ?_
 unfold Builtin.«object.__class__» shownTypeOf;(repeat lk)
 exact hq
theorem RD{Q:%[|27]->Shared->Prop}(X:K.In s.heap)(p:bN x C s.heap)(a:Atr K C)(hq:Q (some (.ref C)) {s with toks:=s.toks+1}):wpAny %[|10] A (getAttr? (.ref x) "__class__") Q E s:=by
 obtain⟨hh,g,dr,t,os⟩:=s
 have L0:=p.ty (M:=%[|10])
 have L1:=looks_findIn (M:=%[|10]) X a.ga
 have L2:=looks_findIn (M:=%[|10]) X a.gh
 have L3:=PJ (M:=%[|10]) (x:=x) X a
 have LB:=looks_mroIn (M:=%[|10]) X a.mb
 have hne:(Value.builtin "BaseException.__getattribute__"==Value.builtin "object.__getattribute__")=false:=%[|14]
 unfold getAttr? getAttrBy? getAttrBy
 refine ZA (wpAny_mkText ?_)
 refine ZA (wpAny_attempt (ZQ ?_))
 refine ZA (L0.at (ZA (L1.at ?_)))
 dsimp only
 rw[if_neg (by rw[hne,Bool.and_false];decide)]
 unfold getAttrByItsOwn hookBefore
 rw[if_pos (show onTheHeap (Value.ref C)=true from rfl)]
 refine ZA (L2.at ?_)
 refine ZA (wpAny_attempt (ZQ ?_))
 unfold callGetattribute boundAndCalled
 rw[if_neg %[|2],F.attr_ValueError.ga.bind]
 refine ZA %[|12]
 refine wpAny_call (codeAny_call_builtin F.attr_ValueError.ga.plain F.entry_bexc_ga ?_)
 have hk:builtinKind "BaseException.__getattribute__"=some .slot:=%[|14]
 have hs:splitId "BaseException.__getattribute__"=some ("BaseException","__getattribute__"):=%[|14]
 have ha:=F.args_bexc_ga (.ref x) (.str "__class__" t)
 simp only[checkBuiltinCall,hk,hs]
 refine ZA (ZA (L0.at (LB.at ?_)))
 rw[if_neg %[|2]]
 unfold argsOk at ha
 rw[show([Value.ref x]++[Value.str (Str.ofString "__class__") t])=[Value.ref x,Value.str "__class__" t]from rfl]
 refine wpAny_of_eq (a:=()) (by with_unfolding_all exact ha) ?_
 unfold Builtin.«object.__getattribute__»
 refine ZA (wpAny_of_eq (a:=(Value.ref x,[Value.str "__class__" t])) rfl ?_)
 refine ZA (wpAny_of_eq (a:=("__class__":Str)) rfl ?_)
 refine ZA (L0.at (ZA (L3.at ?_)))
 dsimp only
 unfold bindTo
 dsimp only
 refine ZA (ZQ (wpAny_call ?_))
 refine Sh (K:=K) (C:=C) X p a ?_
 refine %[|12]
 refine wpAny_of_eq (a:=Value.ref C) rfl ?_
 exact ZB hq
theorem zj(a:Atr K C):KitX K (.ref x) (.ref C) (bN x C) where
 ty _ _ _ p:=p.ty
 it M h X _:=by
  obtain⟨cd,hc⟩:=a.cd
  unfold clsIn at hc
  split at hc
  . next ho=>intro A' Q' E' s' k q;unfold isType loadHead;exact ZA (wpAny_loadPart (k _ _ (X _ _ ho)) (ZB q))
  . cases hc
 ne h tp dd its n sl X htp:=by
  obtain⟨cd,hc⟩:=a.cd
  unfold clsIn at hc
  split at hc
  . next ho=>
    cases hb:(Value.ref C==.ref tp)with
    | false=>rfl
    | true=>
      have e:C=tp:=Value.ref.inj (ZI hb)
      have z:=X _ _ ho
      rw[e,htp]at z
      cases z
  . cases hc
 ca X p k:=RD X p a k
end
abbrev yG:%[|7]:=[.type "ValueError",.type "Exception",.type "BaseException",.type "object"]
abbrev t7:String:="ValueError.__new__"
theorem QM{K:Frag}{h:Heap}{x:Str}{C:Addr}{bmB:%[|7]}{nid:String}{mg:%[|15]}(X:K.In h)(hm:mg x=some (.ref C))(q:excIn K C bmB nid=true):OwnCls x C bmB nid mg h:=by
 constructor
 . exact hm
 . unfold excIn at q
   split at q
   . next dd cd sl ho=>
     split at q
     . next C' bm k0 k1 k2 k3 n k5 hmr hsl=>
       rw[Bool.and_eq_true,Bool.and_eq_true,Bool.and_eq_true,Bool.and_eq_true,Bool.and_eq_true]at q
       obtain⟨⟨⟨⟨⟨e1,e2⟩,e3⟩,e4⟩,e5⟩,e6⟩:=q
       have e1:=ZI e1
       have e2:=ZI e2
       subst e1
       subst e2
       obtain⟨nm,bs,mro,ns,qn,hd,sn,sub,ab,col,del⟩:=cd
       simp only[Bool.not_eq_true']at hmr e3 e5 e6
       subst hmr
       subst e3
       obtain⟨l⟩:=sl
       obtain rfl:l=_:=hsl
       exact⟨bm,ns,nm,qn,bs,hd,sn,sub,ab,col,dd,k0,k1,k2,k3,k5,_,X _ _ ho,.of_isNs (isNs_of_in X e5),nsMap_none_of_in X e5 (ZI e6),tail_of_in X e4⟩
     . cases q
   . cases q
open PySem PySem.Spec L2 DL RF
open PyProof.Rows
theorem bu.some{P:Program}{w:World}{H:Hp}{h:Heap}{a:Addr}{o:HO}(x:bu P w H h a o):∃u,h.get? a=some u:=by
 cases o with
 | lst xs=>obtain⟨_,_,_,_,e⟩:=x;exact⟨_,e⟩
 | tup xs=>obtain⟨_,_,_,o,e,_⟩:=x;exact⟨_,e⟩
 | dK kvs=>obtain⟨_,_,_,_,o,_,_,e,_⟩:=x;exact⟨_,e⟩
 | dT kvs=>obtain⟨_,_,_,_,o,_,_,e,_⟩:=x;exact⟨_,e⟩
 | set S n=>obtain⟨o,_,_,_,e,_⟩:=x;exact⟨_,e⟩
 | ins C dx fs=>obtain⟨_,_,_,e,_⟩:=x;exact⟨_,e⟩
 | own y=>exact x
 | xd fs=>obtain⟨_,⟨_,_,_,e,_⟩,_⟩:=x;exact⟨_,e⟩
 | rng lo hi=>obtain⟨_,_,_,e⟩:=x;exact⟨_,e⟩
 | frz ob u=>exact⟨_,x.1⟩
 | tbl ps=>exact⟨_,show h.get? a=_ from x⟩
 | met f y=>exact⟨_,show h.get? a=_ from x⟩
 | ext φ=>exact x.2.1
theorem HOk.none{P:Program}{w:World}{H:Hp}{h:Heap}{a:Addr}(k:HOk P w H h)(e:h.get? a=none):H a=none:=by
 cases q:H a with
 | none=>rfl
 | some o=>obtain⟨u,z⟩:=bu.some (k a o q);rw[e]at z;cases z
structure Fl(P:Program)(w:World)(outer:List Env)(H:Hp)(h0:Heap)(H':Hp)(B h:Heap):Prop where
 hok:HOk P w H' B
 keep:∀b o,h0.get? b=some o->H b=none->b∉frs outer->B.get? b=some o
 there:∀b o,h0.get? b=some o->b∉frs outer->∃o',B.get? b=some o'
 slot:∀b o,h0.get? b=some o->b∈frs outer->∃sl,h.get? b=some {o with slots:=sl}
 free:∀b o,h0.get? b=some o->H b=none->H' b=none
 tups:∀b xs,H b=some (.tup xs)->H' b=some (.tup xs)
 frzs:∀b o u,H b=some (.frz o u)->H' b=some (.frz o u)
 tbls:∀b ps,H b=some (.tbl ps)->∃more,H' b=some (.tbl (ps++more))
section
variable {P : Program} {w : World} {outer : List Env} {H H' : Hp} {h0 B h h' : Heap}
theorem Fl.un(f:Fl P w outer H h0 H' B h)(st:B.StaysIn h):Un (frs outer) [] H H' h0 h where
 keep b o q n hb _:=st b o (f.keep b o q n hb)
 slot b o q n hb _:=f.slot b o q hb
 free b o q n _:=f.free b o q n
 there b o q _:=by
  by_cases hb:b∈frs outer
  . obtain⟨sl,e⟩:=f.slot b o q hb;exact⟨_,e⟩
  . obtain⟨o',e⟩:=f.there b o q hb;exact⟨o',st b o' e⟩
 tups:=f.tups
 frzs:=f.frzs
 tbls:=f.tbls
theorem Fl.on(f:Fl P w outer H h0 H' B h)(u:h.UpToSlots h')(ff:h.FunFrames B outer):Fl P w outer H h0 H' B h':=by
 refine⟨f.hok,f.keep,f.there,λ b o q hb=>?_,f.free,f.tups,f.frzs,f.tbls⟩
 obtain⟨sl,e⟩:=f.slot b o q hb
 obtain⟨_,o',e',d⟩:=ff.mem hb
 rw[e]at e'
 cases e'
 obtain⟨sl2,e2⟩:=u b _ e d
 exact⟨sl2,e2⟩
end
def CXE(P:Program)(w:World):CXT:=λ outer H s E e s'=>∃a C t H' B,e=.ref a/\s'.os=s.os/\AllBare s'.gens/\Fl P w outer H s.heap H' B s'.heap/\Heap.FlyingW B outer a (.ref C) (.ref t) s'.heap/\E (.ref C) none H'
section
variable {X : Cx} {pins : Pins} {σ : L2.St} {H1 : Hp} {s1 : Shared}
theorem qM(l:List Env)(env:Env){L:Addr}(h:env.frame=some L):frs (env::l)=L::frs l:=by
 unfold frs;rw[List.filterMap_cons,h]
theorem Xa(I:Inv X pins σ H1 s1)(hst:X.stack=X.env::X.outer)(hfr:X.env.frame=some X.env.locals)(hex:X.ex=[]){h':Heap}
 (hs:∀b o,s1.heap.get? b=some o->b∈frs X.outer->∃sl,h'.get? b=some {o with slots:=sl}):
 Fl X.prog X.w X.outer X.H₀ X.s₀.heap H1 (PySem.W.hideAll s1.heap (frs X.stack)) h':=by
 have ne:∀b o,X.s₀.heap.get? b=some o->b≠X.env.locals:=λ b o q z=>absurd (ZM (ZE q) (z▸I.ok.above)) (Nat.lt_irrefl _)
 have nin:∀b o,X.s₀.heap.get? b=some o->b∉frs X.outer->b∉frs X.stack:=λ b o q hb z=>by
  rw[hst,qM _ _ hfr]at z
  rcases ZJ.mp z with z | z
  . exact ne b o q z
  . exact hb z
 have nx:∀b,b∉X.ex:=λ b z=>by rw[hex]at z;cases z
 refine⟨λ a o e=>?_,λ b o q n hb=>?_,λ b o q hb=>?_,λ b o q hb=>?_,λ b o q n=>I.base.free b o q n (nx b),I.base.tups,I.base.frzs,I.base.tbls⟩
 . refine(I.hok a o e).stay (λ b u hb r=>?_) (λ _ r=>r) (λ _ _ r=>r)
   refine PySem.W.hideAll_get _ r λ z=>?_
   have n:=I.stkFree b z
   rcases hb with rfl | hb
   . rw[e]at n;cases n
   . rw[hb]at n;cases n
 . exact PySem.W.hideAll_get _ (I.base.keep b o q n hb (nx b)) (nin b o q hb)
 . obtain⟨o',e⟩:=I.base.there b o q (nx b)
   exact⟨o',PySem.W.hideAll_get _ e (nin b o q hb)⟩
 . obtain⟨sl,e⟩:=I.base.slot b o q (I.ok.frf b hb) hb (nx b)
   obtain⟨sl2,e2⟩:=hs b _ e hb
   exact⟨sl2,e2⟩
theorem HF{P:Program}{w:World}{K:PySem.W.Frag}{mg:%[|15]}{base:Heap}{N:%[|1]}{qual:Str}{sc:Scope}{f:Addr}{cd:Value}{A:Around}{outer:List Env}{s:Shared}{H:Hp}{E:XK}{a C:Addr}{vs:%[|7]}{s2:Shared}
 (I:Inv (dB (CXE P w) P w K mg base N qual sc f cd A outer s H E) pins σ H1 s1)(ho:s2.os=s1.os)(hg:s2.gens=s1.gens)(hx:Heap.MadeExcOf s1.heap s2.heap a (.ref C) vs)(hE:E (.ref C) none H1):
 (dB (CXE P w) P w K mg base N qual sc f cd A outer s H E).xe (.ref a) s2:=by
 let X:=dB (CXE P w) P w K mg base N qual sc f cd A outer s H E
 have hin:∀env∈X.stack,∀b,env.frame=some b->b∈frs X.stack:=λ env he b hb=>List.mem_filterMap.mpr ⟨env,he,hb⟩
 refine wpAny_leaves_madeW (base:=PySem.W.hideAll s1.heap (frs X.stack)) (h:=s1.heap) (outer:=outer) I.ok.frames rfl (λ b o q=>PySem.W.of_hideAll _ q) (PySem.W.funFrames_hide I.stack hin) hx λ h' t x1 x2 x3 x4=>?_
 refine⟨a,C,t,H1,_,rfl,ho.trans I.os,by show AllBare s2.gens;rw[hg];exact I.bare,?_,x1,hE⟩
 refine Xa I rfl rfl rfl λ b o q hb=>?_
 obtain⟨_,o',e',d⟩:=I.funs.mem hb
 rw[q]at e'
 cases e'
 exact x4 b o (hx.keeps b o q) d
theorem MF{P:Program}{w:World}{K:PySem.W.Frag}{mg:%[|15]}{base:Heap}{N:%[|1]}{qual:Str}{sc:Scope}{f:Addr}{cd:Value}{A:Around}{outer:List Env}{s:Shared}{H:Hp}{E E':XK}{e:Value}{s2:Shared}
 (I:Inv (dB (CXE P w) P w K mg base N qual sc f cd A outer s H E) pins σ H1 s1)(h:CXE P w (dB (CXE P w) P w K mg base N qual sc f cd A outer s H E).stack H1 s1 E' e s2)(hE:∀c H',E' (.ref c) none H'->E (.ref c) none H'):
 (dB (CXE P w) P w K mg base N qual sc f cd A outer s H E).xe e s2:=by
 let X:=dB (CXE P w) P w K mg base N qual sc f cd A outer s H E
 obtain⟨a,C,t,H',B,rfl,ho,hg,fl,fw,hq⟩:=h
 refine wpAny_leaves_onW (base:=B) (outer:=outer) I.ok.frames rfl fw λ h' x1 x2=>?_
 refine⟨a,C,t,H',B,rfl,ho.trans I.os,hg,?_,x1,hE _ _ hq⟩
 have ne:∀b o,s.heap.get? b=some o->b≠X.env.locals:=λ b o q z=>absurd (ZM (ZE q) (z▸I.ok.above)) (Nat.lt_irrefl _)
 have nin:∀b o,s.heap.get? b=some o->b∉frs outer->b∉frs X.stack:=λ b o q hb z=>by
  rw[show frs X.stack=X.env.locals::frs outer from qM outer X.env rfl]at z
  rcases ZJ.mp z with z | z
  . exact ne b o q z
  . exact hb z
 have nx:∀b:Addr,b∉([]:List Addr):=λ b z=>nomatch z
 refine⟨fl.hok,λ b o q n hb=>?_,λ b o q hb=>?_,λ b o q hb=>?_,λ b o q n=>?_,λ b xs q=>fl.tups b xs (I.base.tups b xs q),λ b o u q=>fl.frzs b o u (I.base.frzs b o u q),λ b ps q=>?_⟩
 . exact fl.keep b o (I.base.keep b o q n hb (nx b)) (I.base.free b o q n (nx b)) (nin b o q hb)
 . obtain⟨o',e⟩:=I.base.there b o q (nx b)
   exact fl.there b o' e (nin b o q hb)
 . obtain⟨sl,e⟩:=I.base.slot b o q (I.ok.frf b hb) hb (nx b)
   have hb':b∈frs X.stack:=by rw[show frs X.stack=X.env.locals::frs outer from qM outer X.env rfl];exact x8 _ hb
   obtain⟨sl2,e2⟩:=fl.slot b _ e hb'
   obtain⟨_,o',e',d⟩:=fw.2.2.1.mem hb'
   rw[e2]at e'
   cases e'
   obtain⟨sl3,e3⟩:=x2 b _ e2 d
   exact⟨sl3,e3⟩
 . obtain⟨o',e⟩:=I.base.there b o q (nx b)
   exact fl.free b o' e (I.base.free b o q n (nx b))
 . obtain⟨m1,e1⟩:=I.base.tbls b ps q
   obtain⟨m2,e2⟩:=fl.tbls b _ e1
   exact⟨m1++m2,by rw[e2,Array.append_assoc]⟩
end
abbrev WX:=Str->%[|5]
abbrev XCt:=List D->Store->WD->WX->Prop
def QX(mg:%[|15])(K:PySem.W.Frag)(O:Own)(H:Hp)(WE:WX)(c:Value)(H':Hp):Prop:=∃nm O' S',mg nm=some c/\WE nm S'/\Step O O' H H'/\StOk K O' H' S'
theorem QX.pre{mg:%[|15]}{K:PySem.W.Frag}{O O1:Own}{H H1 H':Hp}{WE:WX}{c:Value}(st:Step O O1 H H1)(q:QX mg K O1 H1 WE c H'):QX mg K O H WE c H':=by
 obtain⟨nm,O',S',h1,h2,h3,h4⟩:=q
 exact⟨nm,O',S',h1,h2,st.trans h3,h4⟩
def spX(mg:%[|15])(K:PySem.W.Frag)(n:Nat)(F:XCt):Sp:=λ vs H Q E=>∃O ds S W WE,ds.length=n/\Reps K O H vs ds/\StOk K O H S/\F ds S W WE/\(∀v H',QG K O H W v H'->Q v H')/\∀c H',QX mg K O H WE (.ref c) H'->E (.ref c) none H'
def XR(X:Cx)(O:Own)(H:Hp)(WE:WX)(e:Value)(s2:Shared):Prop:=
 (∃pins σ H1 s1 a C vs,e=.ref a/\Inv X pins σ H1 s1/\s2.os=s1.os/\s2.gens=s1.gens/\Heap.MadeExcOf s1.heap s2.heap a (.ref C) vs/\QX X.mg X.K O H WE (.ref C) H1)∨
 (∃pins σ H1 s1 E',Inv X pins σ H1 s1/\CXE X.prog X.w X.stack H1 s1 E' e s2/\∀c H',E' (.ref c) none H'->QX X.mg X.K O H WE (.ref c) H')
theorem XR.pre{X:Cx}{O O1:Own}{H H1:Hp}{WE:WX}{e:Value}{s2:Shared}(st:Step O O1 H H1)(h:XR X O1 H1 WE e s2):XR X O H WE e s2:=by
 rcases h with⟨pins,σ,H2,s1,a,C,vs,h1,h2,h3,h4,h5,h6⟩ | ⟨pins,σ,H2,s1,E',h1,h2,h3⟩
 . exact .inl ⟨pins,σ,H2,s1,a,C,vs,h1,h2,h3,h4,h5,h6.pre st⟩
 . exact .inr ⟨pins,σ,H2,s1,E',h1,h2,λ c H' z=>(h3 c H' z).pre st⟩
def gW(X:Cx)(Γ:Gam)(S:Store)(sts:List Stmt)(W:DL.Fin)(WE:WX):Prop:=
 ∀ (pins:Pins)(s:Shared)(σ:L2.St)(H:Hp)(O:Own),%[|6]->EnvOk X.K O H σ Γ->StOk X.K O H S->
   wpAny %[|8] X.A (execs sts X.env) (SP X pins (ends X.K O H W)) (XR X O H WE) s
section
variable {X : Cx} {Γ : Gam} {S : Store} {sts : List Stmt} {st : Stmt} {W : DL.Fin} {WE : WX} {e : Expr} {es : List Expr}
theorem WM(h:Rns X.nox Γ S sts W):gW X Γ S sts W WE:=λ pins s σ H O I env ok=>
 wpAny_mono (h pins s σ H O (I.wish _) env ok) (λ _ _ q=>q.unwish) λ _ _ z=>z.elim
theorem Ru(h:Rn X.nox Γ S st {W with nx:=λ Γ1 S1=>gW X Γ1 S1 sts W WE}):gW X Γ S (st::sts) W WE:=by
 intro pins s σ H O I env ok
 refine wpAny_execs_cons (wpAny_mono (h pins s σ H O (I.wish _) env ok) (λ f s1 q=>?_) λ _ _ z=>z.elim)
 cases f with
 | next=>
   obtain⟨σ',H',I',O1,Γ1,S1,w,st1,ok1,env1⟩:=q
   exact wpAny_mono (w pins s1 σ' H' O1 I'.unwish env1 ok1) (λ _ _ q=>lF st1 q) λ _ _ z=>z.pre st1
 | ret v=>exact q.unwish
 | brk=>exact q.unwish
 | cont=>exact q.unwish
def Exc(Ω:Wd)(x:Str):Prop:=∃C,Ω.mg x=some (.ref C)/\PySem.W.excIn Ω.K C yG t7=true/\Atr Ω.K C
theorem Rf{x:Str}{C:Addr}{np cp rp:Pos}{pins:Pins}{s:Shared}{σ:L2.St}{H:Hp}{O:Own}{Q:Flow->Shared->Prop}(hm:X.mg x=some (.ref C))(hx:PySem.W.excIn X.K C yG t7=true)(hcalm:X.calm=true)
 (h:EvA X.nox Γ S [e] λ ds S1=>ds.length=1/\WE x S1)(hg:Gl X x)(hdb:(x==("__debug__":Str))=false)(hs:starEach [e] X.env=[(false,eval e X.env)])
 (I:%[|6])(env:EnvOk X.K O H σ Γ)(ok:StOk X.K O H S):
 wpAny %[|8] X.A (exec (.Raise (some (.Call (.Name x np) [e] [] cp)) none rp) X.env) Q (XR X O H WE) s:=by
 have OC:=QM (mg:=X.mg) I.ok.mod.kin hm hx
 obtain⟨tl,N,nm,q,bs,hd,sn,sub,ab,col,dd,k0,k1,k2,k3,k5,mN,hC,hN,hni,T⟩:=OC.obj
 have hpl:(backTo cp (starEach [e] X.env)).any (·.1)=false:=by rw[hs];rfl
 refine wpAny_Raise_call_subT (C:=C) (bm:=tl) (mN:=mN) (hdct:=hd) (N:=N) (nm:=nm) (q:=q) (bs:=bs) (sn:=sn) (sub:=sub) (ab:=ab) (col:=col) (dd:=dd) (k0:=k0) (k1:=k1) (k2:=k2) (k3:=k3) (k5:=k5) PySem.F.excBase_ValueError (T.hasType PySem.F.excBase_ValueError.hasBase) (I.ok.hd hcalm) hpl hni (jZ I hg hm ⟨rfl,?_⟩ hdb)
 have h':=h cp pins s σ H O (I.wish _) env ok
 have h':wpAny %[|8] X.A (spliced (backTo cp (starEach [e] X.env))) (AP X.nox pins σ (QA X.K O H λ ds S1=>ds.length=1/\WE x S1)) (λ _ _=>False) s:=h'
 rw[hs]at h' ⊢
 refine Calls.evalArgs_plain (wpAny_mono h' (λ vs s2 hq=>?_) λ _ _ z=>z.elim)
 obtain⟨ws,H1,I1,r1,O1,ds,S1,⟨l1,w1⟩,st1,ok1,rp1⟩:=hq
 have I1:=I1.unwish
 refine⟨rfl,?_,I1.bk _ _ hC,hN.keeps I1.bk,T.keeps I1.bk,λ h2 a hm2=>.inl ⟨pins,σ,H1,s2,a,C,vs,rfl,I1,rfl,rfl,hm2,x,O1,S1,hm,w1,st1,ok1⟩⟩
 rw[←r1.length,rp1.length,l1];decide
theorem UL{c:Expr}{x:Str}{C:Addr}{np cp rp pos:Pos}(hm:X.mg x=some (.ref C))(hx:PySem.W.excIn X.K C yG t7=true)(hcalm:X.calm=true)
 (h:Ts X.nox Γ S c λ k S1=>(k=true->EvA X.nox Γ S1 [e] λ ds S2=>ds.length=1/\WE x S2)/\(k=false->gW X Γ S1 sts W WE))(hg:Gl X x)(hdb:(x==("__debug__":Str))=false)(hs:starEach [e] X.env=[(false,eval e X.env)]):
 gW X Γ S (.If c [.Raise (some (.Call (.Name x np) [e] [] cp)) none rp] [] pos::sts) W WE:=by
 intro pins s σ H O I env ok
 refine wpAny_execs_cons (wpAny_If (wpAny_mono (h pins s σ H O (I.wish _) env ok) (λ d s1 hq=>?_) λ _ _ z=>z.elim))
 obtain⟨H1,I1,O1,S1,w,st1,ok1⟩:=hq
 have I1:=I1.unwish
 cases d with
 | true=>
   refine wpAny_execs_cons (wpAny_mono (Rf (Q:=λ _ _=>False) hm hx hcalm (w.1 rfl) hg hdb hs I1 (env.mono st1) ok1) (λ _ _ z=>z.elim) λ _ _ z=>z.pre st1)
 | false=>
   refine wpAny_execs_nil ?_
   exact wpAny_mono (w.2 rfl pins s1 σ H1 O1 I1 (env.mono st1) ok1) (λ _ _ q=>lF st1 q) λ _ _ z=>z.pre st1
end
variable {Ω : Wd}
structure BX(Ω:Wd) where
 lev:Nat
 chk:Bool->%[|1]->Nm->List Stmt->Bool
 wp:Gam->Store->DL.Fin->WX->Prop
 sound:∀{X:Cx}{r:Nat}{top:Bool}{N:%[|1]}{nm:Nm}{sts:List Stmt}{Γ:Gam}{S:Store}{W:DL.Fin}{WE:WX},At Ω X.nox r top N nm->lev≤r->chk top N nm sts=true->wp Γ S W WE->gW X Γ S sts W WE
def BX.of(b:Bl Ω):BX Ω where
 lev:=b.lev
 chk:=b.chk
 wp Γ S W _:=b.wp Γ S W
 sound:=by
  intro X r top N nm sts Γ S W WE A hl hc hw
  exact WM (b.sound A hl hc hw)
def Od:Stmt->Option (Expr×List Stmt×Bool)
 | .If e b o _=>some (e,b,o.isEmpty)
 | _=>none
theorem Rm{st:Stmt}{e:Expr}{b:List Stmt}(h:Od st=some (e,b,true)):∃p,st=.If e b [] p:=by
 unfold Od at h
 split at h
 . rename_i e' b' o p
   have h:=Option.some.inj h
   have h1:e'=e:=congrArg Prod.fst h
   have h2:b'=b:=congrArg (λ z=>z.2.1) h
   have h3:o.isEmpty=true:=congrArg (λ z=>z.2.2) h
   cases o with
   | nil=>subst h1 h2;exact⟨p,rfl⟩
   | cons=>cases h3
 . cases h
def rsV:Stmt->Option (Option Expr×Bool)
 | .Raise e c _=>some (e,c.isNone)
 | _=>none
theorem U5{st:Stmt}{e:Option Expr}(h:rsV st=some (e,true)):∃p,st=.Raise e none p:=by
 unfold rsV at h
 split at h
 . rename_i e' c p
   have h:=Option.some.inj h
   have h1:e'=e:=congrArg Prod.fst h
   have h2:c.isNone=true:=congrArg Prod.snd h
   cases c with
   | none=>subst h1;exact⟨p,rfl⟩
   | some=>cases h2
 . cases h
def Nb:Expr->Bool
 | .Constant (.str _) _ _=>true
 | _=>false
theorem Q9{e:Expr}(h:Nb e=true):∃x k p,e=.Constant (.str x) k p:=by
 unfold Nb at h
 split at h
 . exact⟨_,_,_,rfl⟩
 . cases h
def BX.ifr{x:Str}(ex:Exc Ω x)(c:Te Ω)(rest:BX Ω):BX Ω where
 lev:=max c.lev rest.lev
 chk top N nm sts:=match sts with
  | []=>false
  | st::sts=>anB (Od st) λ z=>z.2.2&&lz z.2.1 λ b=>anB (rsV b) λ u=>u.2&&anB u.1 λ v=>gH v λ y es=>lz es λ m=>Nb m&&((y==x)&&(glb nm x&&(okN x&&(c.chk top N nm z.1&&rest.chk top N nm sts))))
 wp Γ S W WE:=c.wp Γ S λ k S1=>(k=true->WE x S1)/\(k=false->rest.wp Γ S1 W WE)
 sound:=by
  intro X r top N nm sts Γ S W WE A hl hc hw
  obtain⟨l1,l2⟩:=lv2 hl
  cases sts with
  | nil=>exact fE hc
  | cons st sts=>
    obtain⟨⟨ce,bs,bb⟩,g1,hc_1⟩:=gn hc
    obtain⟨g2,hc_2⟩:=az hc_1
    obtain⟨b,g3,hc_3⟩:=eF hc_2
    obtain⟨⟨v,vb⟩,g4,hc_4⟩:=gn hc_3
    obtain⟨g5,hc_5⟩:=az hc_4
    obtain⟨v',g6,hc_6⟩:=gn hc_5
    obtain⟨y,np,es,cp,rfl,hc_7⟩:=cY hc_6
    obtain⟨m,rfl,hc_8⟩:=eF hc_7
    obtain⟨g7,hc_9⟩:=az hc_8
    obtain⟨m',j,cp0,rfl⟩:=Q9 g7
    have hc:=hc_9
    have g2:bb=true:=g2
    have g3:bs=[b]:=g3
    have g5:vb=true:=g5
    have g6:v=some (.Call (.Name y np) [.Constant (.str m') j cp0] [] cp):=g6
    subst g2 g3 g5 g6
    obtain⟨pos,rfl⟩:=Rm g1
    obtain⟨rp,rfl⟩:=U5 g4
    obtain⟨h1,h2,h3,h4,h5⟩:=Hm hc
    have e:y=x:=ZI h1
    subst e
    obtain⟨C,hm,hx,_⟩:=ex
    refine UL (C:=C) (by rw[show X.mg=Ω.mg from A.g];exact hm) (by rw[show X.K=Ω.K from A.k];exact hx) A.calm (Ts.mono (c.sound A l1 h4 hw) λ k S1 q=>⟨λ hk=>?_,λ hk=>rest.sound A l2 h5 (q.2 hk)⟩) (A.glb h2) (bZ h3).1 rfl
    exact dX (J2 (j7 ⟨rfl,q.1 hk⟩)) rfl
def BX.cons(s:Sm Ω)(rest:BX Ω):BX Ω where
 lev:=max s.lev rest.lev
 chk top N nm sts:=match sts with | st::sts=>s.chk top N nm st&&rest.chk top N nm sts | _=>false
 wp Γ S W WE:=s.wp Γ S {W with nx:=λ Γ1 S1=>rest.wp Γ1 S1 W WE}
 sound:=by
  intro X r top N nm sts Γ S W WE A hl hc hw
  obtain⟨l1,l2⟩:=lv2 hl
  cases sts with
  | nil=>exact fE hc
  | cons st sts=>
    obtain⟨h1,h2⟩:=az hc
    exact Ru (Rn.mono (s.sound A l1 h1 hw) (λ G S1 q=>rest.sound A l2 h2 q) (λ _ _ q=>q) (λ _ _ q=>q) λ _ _ q=>q)
structure CalleeX(P:Program)(w:World)(K:PySem.W.Frag)(mg:%[|15])(base:Heap)(x:Str)(k n:Nat)(F:XCt):Prop where
 ex:∃f fd ps,FnOk P w K mg base (CXE P w) k f fd ps (spX mg K n F)/\mg x=some (.ref f)/\PySem.W.keepIn K (.ref f)=true/\Binds K fd ps []
abbrev cC(Ω:Wd)(x:Str)(k n:Nat)(F:XCt):Prop:=CalleeX Ω.P Ω.w Ω.K Ω.mg Ω.base x k n F
abbrev OkX(Ω:Wd)(k:Nat)(f:Addr)(fd:FuncData)(ps:%[|1])(F:XCt):Prop:=FnOk Ω.P Ω.w Ω.K Ω.mg Ω.base (CXE Ω.P Ω.w) k f fd ps (spX Ω.mg Ω.K ps.length F)
theorem pP{x qual:Str}{sm:Stmt}{f:Addr}{fd:FuncData}{ps:%[|1]}{k n:Nat}{F:XCt}(FF:Fun Ω.K x qual sm f fd)(h:FnOk Ω.P Ω.w Ω.K Ω.mg Ω.base (CXE Ω.P Ω.w) k f fd ps (spX Ω.mg Ω.K n F))(hm:Ω.mg x=some (.ref f))(b:Binds Ω.K fd ps []):CalleeX Ω.P Ω.w Ω.K Ω.mg Ω.base x k n F:=⟨f,fd,ps,h,hm,FF.kp,b⟩
theorem KD{K:PySem.W.Frag}{O:Own}{H:Hp}{N:%[|1]}{vs:List V}{ds:List D}(r:Reps K O H vs ds):EnvOk K O H (L2.start N vs) (ds.map some++List.replicate (N.length-ds.length) none):=by
 have hv:vs.length=ds.length:=r.length
 constructor
 . simp[L2.start,hv]
 . intro i d h
   by_cases hi:i<ds.length
   . rw[List.getElem?_append_left (by simpa using hi),x5]at h
     cases e:ds[i]? with
     | none=>rw[e]at h;cases h
     | some d'=>
       rw[e]at h
       cases h
       obtain⟨v,hv',rv⟩:=r.get e
       refine⟨v,?_,rv⟩
       unfold L2.start
       rw[List.getElem?_append_left (by rw[y8,hv];exact hi),x5,hv']
       rfl
   . rw[List.getElem?_append_right (by simpa using hi),List.getElem?_replicate]at h
     split at h<;>cases h
theorem Uh{P:Program}{w:World}{K:PySem.W.Frag}{mg:%[|15]}{base:Heap}{x qual:Str}{sm:Stmt}{f:Addr}{fd:FuncData}{N ps:%[|1]}{k:Nat}{F:XCt}(FF:Fun K x qual sm f fd)(SC:FnScope N ps (aq sm))
 (body:∀(cdv:Value)(A:Around)(outer:List Env)(s:Shared)(H:Hp)(E:XK)(ds:List D)(S:Store)(W:WD)(WE:WX),Room k (A.deeper (envOfC qual (aq sm) s.heap.objs.size f cdv))->ds.length=ps.length->F ds S W WE->
  gW (dB (CXE P w) P w K mg base N qual (aq sm) f cdv A outer s H E) (ds.map some++List.replicate (N.length-ds.length) none) S (bM sm) %[|25] WE):FnOk P w K mg base (CXE P w) (k+1) f fd ps (spX mg K ps.length F):=by
 obtain⟨oc,od,kV,doc,pm,an,cdv,ct,osl,rfl,lk,hcd⟩:=FF.ex
 refine Qi lk hcd SC (λ vs H Q E h=>?_) λ A outer s H vs Q E hr h=>?_
 . obtain⟨O,ds,S,W,WE,hl,r,_⟩:=h
   rw[r.length,hl]
 . obtain⟨O,ds,S,W,WE,hl,r,st,hF,q,qe⟩:=h
   have hB:=body cdv A outer s H E ds S W WE hr hl hF
   refine⟨λ D σ H'=>σ=L2.start N vs/\H'=H/\(∀σ' H2,QN K O H (λ _ S1=>W .non S1) σ' H2->D.nx σ' H2)/\(∀v H2,QG K O H W v H2->D.rt v H2),?_,rfl,rfl,?_,λ v H2 z=>q v H2 z⟩
   . rintro pins s1 σ H' D I ⟨rfl,rfl,k1,k2⟩
     refine wpAny_mono (hB pins s1 _ H' O I (KD r) st) (λ f s' q=>?_) λ e s2 z=>?_
     . cases f with
       | next=>obtain⟨σ',H',I',q⟩:=q;exact⟨σ',H',I',k1 σ' H' q⟩
       | brk=>obtain⟨σ',H',I',_,_,_,q,_⟩:=q;exact q.elim
       | cont=>obtain⟨σ',H',I',_,_,_,q,_⟩:=q;exact q.elim
       | ret u=>obtain⟨v,σ',H',I',r,q⟩:=q;exact⟨v,σ',H',I',r,k2 v H' q⟩
     . rcases z with⟨pins,σ,H1,s1,a,C,vs,rfl,I1,h3,h4,h5,h6⟩ | ⟨pins,σ,H2,s1,E',I1,h2,h3⟩
       . exact HF I1 h3 h4 h5 (qe C H1 h6)
       . exact MF I1 h2 λ c H' z=>qe c H' (h3 c H' z)
   . rintro σ' H2 ⟨O',Γ',S',w,st',ok',_⟩
     exact q _ _ ⟨O',.non,S',w,st',ok',.non⟩
def Sw(N ps:%[|1])(sm:Stmt)(k:Nat)(body:BX Ω):Bool:=
 ((aq sm).kind==.function)&&(!(aq sm).isCoroutine&&(!(aq sm).isGenerator&&(decide N.Nodup&&(decide (N.take ps.length=ps)&&((ps.all λ x=>(aq sm).names.lookup x==some .local||(aq sm).names.lookup x==some .cell)&&
   (((aq sm).names.all λ y=>!(y.2==.free))&&(Nat.ble body.lev k&&body.chk true N (aq sm).names (bM sm))))))))
theorem yx(N0:Ω.cd=none){x qual:Str}{sm:Stmt}{f:Addr}{fd:FuncData}{N ps:%[|1]}{k:Nat}{F:XCt}(FF:Fun Ω.K x qual sm f fd)(body:BX Ω)(hc:Sw N ps sm k body=true)
 (vc:∀(ds:List D)(S:Store)(W:WD)(WE:WX),F ds S W WE->ds.length=ps.length->body.wp (ds.map some++List.replicate (N.length-ds.length) none) S %[|25] WE):OkX Ω (k+1) f fd ps F:=by
 obtain⟨h1,h2,h3,h4,h5,h6,hc⟩:=oZ hc
 obtain⟨h7,h8,h9⟩:=bV hc
 have nd:N.Nodup:=ZF h4
 have sc:FnScope N ps (aq sm):=⟨ZI h1,nt h2,nt h3,nd,ZF h5,λ x hx=>by
  have:=List.all_eq_true.mp h6 x hx
  simpa using this,λ y hy e=>by
  have:=List.all_eq_true.mp h7 y hy
  simp[e]at this⟩
 refine Uh FF sc λ cdv A outer s H E ds S W WE hr hl h=>?_
 refine body.sound (r:=k) (top:=true) (N:=N) (nm:=(aq sm).names) ⟨rfl,rfl,rfl,rfl,rfl,hr,rfl,rfl,rfl,nd,sc.kind,λ x kk h=>.inl h,λ _ _=>rfl,λ _ p q=>nomatch (N0.symm.trans q)⟩ (Nat.le_of_ble_eq_true h8) h9 (vc ds S W WE h hl)
def XQ(X:Cx)(pins:Pins)(σ:L2.St)(O:Own)(H:Hp)(WE:WX)(e:Value)(s2:Shared):Prop:=
 ∃H1 s1 E',Inv X pins σ H1 s1/\CXE X.prog X.w X.stack H1 s1 E' e s2/\∀c H',E' (.ref c) none H'->QX X.mg X.K O H WE (.ref c) H'
def EvX(X:Cx)(Γ:Gam)(S:Store)(e:Expr)(W:WD)(WE:WX):Prop:=
 ∀ (pins:Pins)(s:Shared)(σ:L2.St)(H:Hp)(O:Own),%[|6]->EnvOk X.K O H σ Γ->StOk X.K O H S->
   wpAny %[|8] X.A (eval e X.env) (EP X pins σ (QG X.K O H W)) (XQ X pins σ O H WE) s
section
variable {X : Cx} {Γ : Gam} {S : Store} {W : WD} {WE : WX} {e : Expr} {es : List Expr} {pos : Pos}
theorem Nu{x:Str}{p:Pos}{k n:Nat}{F:XCt}(C:CalleeX X.prog X.w X.K X.mg X.base x k n F)(hr:Room k X.A)(h:EvA X.nox Γ S (e::es) λ ds S1=>ds.length=n/\F ds S1 W WE)(hg:Gl X x)(hdb:(x==("__debug__":Str))=false)
 (he:starEach (e::es) X.env=(false,eval e X.env)::starEach es X.env)(hpl:(backTo pos (starEach es X.env)).any (·.1)=false):EvX X Γ S (.Call (.Name x p) (e::es) [] pos) W WE:=by
 sleep 0
 obtain⟨f,fd,ps,hF,hm,hk,hb⟩:=C.ex
 refine wpAny_Call_Name_kw (jZ I hg hm ?_ hdb)
 refine PySem.W.callWith_K (h₀:=X.base) I.ok.mod.kin hk (wpAny_mono (h pos pins s σ H O (I.wish _) env st) (λ us s1 hq=>?_) λ _ _ z=>z.elim) he hpl
 obtain⟨vs,H1,I1,r1,O1,ds,S1,⟨hl,w⟩,st1,ok1,rep⟩:=hq
 have I1:=I1.unwish
 refine⟨I1.kIn,?_⟩
 have h:spX X.mg X.K n F vs H1 (QG X.K O H W) (λ c _ H'=>∃d,c=.ref d/\QX X.mg X.K O H WE (.ref d) H'):=⟨O1,ds,S1,W,WE,hl,rep,ok1,w,λ v H' q=>q.pre st1,λ c H' q=>⟨c,rfl,q.pre st1⟩⟩
 have hl2:us.length=ps.length:=by rw[←r1.length];exact hF.len _ _ _ _ h
 refine wpAny_call (codeAny_mono (hF.run X.A X.stack s1 H1 ⟨us,[]⟩ us vs _ _ hr I1.env0 ?_ r1 h) λ r s' hq=>?_)
 . have:=hb s1 us I1.kIn (by rw[List.append_nil];exact hl2)
   rw[List.append_nil]at this
   exact this
 . cases r with
   | error e=>
     refine⟨H1,s1,λ c _ H'=>∃d,c=.ref d/\QX X.mg X.K O H WE (.ref d) H',I1,hq,λ c H' z=>?_⟩
     obtain⟨d,e,z⟩:=z
     cases e
     exact z
   | ok fl=>
     cases fl with
     | ret u=>exact I1.after hq
     | next=>exact False.elim hq
     | brk=>exact False.elim hq
     | cont=>exact False.elim hq
end
structure XEx(Ω:Wd) where
 lev:Nat
 chk:Bool->%[|1]->Nm->Expr->Bool
 wp:Gam->Store->WD->WX->Prop
 sound:∀{X:Cx}{r:Nat}{top:Bool}{N:%[|1]}{nm:Nm}{e:Expr}{Γ:Gam}{S:Store}{W:WD}{WE:WX},At Ω X.nox r top N nm->lev≤r->chk top N nm e=true->wp Γ S W WE->EvX X Γ S e W WE
def XEx.call{x:Str}{k n:Nat}{F:XCt}(C:cC Ω x k n F)(as:Ar Ω):XEx Ω where
 lev:=max k as.lev
 chk top N nm e:=match e with | .Call (.Name y _) (a::es) [] _=>(y==x)&&(glb nm x&&(okN x&&as.chk top N nm (a::es))) | _=>false
 wp Γ S W WE:=as.wp Γ S λ ds S1=>ds.length=n/\F ds S1 W WE
 sound:=by
  intro X r top N nm e Γ S W WE A hl hc hw
  obtain⟨l1,l2⟩:=lv2 hl
  split at hc
  . rename_i y _ a es _
    obtain⟨h1,h2,h3,h4⟩:=cA hc
    have e:y=x:=ZI h1
    subst e
    have pl:=as.plain h4
    rw[List.all_cons]at pl
    obtain⟨p1,p2⟩:=az pl
    have C':CalleeX X.prog X.w X.K X.mg X.base y k n F:=by
     have:=C
     rw[show X.prog=Ω.P from A.p,show X.w=Ω.w from A.w,show X.K=Ω.K from A.k,show X.mg=Ω.mg from A.g,show X.base=Ω.base from A.b];exact C
    exact Nu C' (A.room.mono l1) (as.sound A l2 h4 hw) (A.glb h2) (bZ h3).1 (aF p1 _ _) (oH p2 _ _)
  . exact fE hc
end XE
namespace XE
open PySem PySem.Spec L2 DL RF
open PyProof.Rows
abbrev sup(X:Cx)(e:Value):Cx:={X with A:=X.A.mark (some e),calm:=false,xe:=λ _ _=>False}
section
variable {X : Cx} {pins : Pins} {σ : L2.St} {H : Hp} {s : Shared} {e : Value}
theorem Inv.sup(I:%[|6]):Inv (sup X e) pins σ H s:=
 ⟨⟨I.ok.mod,I.ok.kind,I.ok.glob,I.ok.blt,I.ok.above,I.ok.inj,I.ok.has,I.ok.cab,(λ h=>nomatch h),I.ok.frames,I.ok.stk,I.ok.exf,I.ok.bs,I.ok.bsz,I.ok.noex,I.ok.exfs,I.ok.funs,I.ok.frf⟩,I.os,I.bare,I.base,I.loc,I.cell,I.free,I.freeC,I.pin,I.hok,I.len⟩
theorem Inv.unsup(ok:X.Ok)(I:Inv (XE.sup X e) pins σ H s):%[|6]:=⟨ok,I.os,I.bare,I.base,I.loc,I.cell,I.free,I.freeC,I.pin,I.hok,I.len⟩
theorem J3{M:Model}{A:Around}{E:%[|11]}{i:Nat}{x:Str}{pos:Pos}{Q:Unit->Shared->Prop}(I:%[|6])(hN:X.N.Nodup)(hi:X.N[i]? =some x)(hk:X.env.scope.names.lookup x=some .local)
 (h:∀s',Inv X pins (σ.set i none) H s'->Q () s'):wpAny M A (do bindName X.env x .none;unbindBehindTheSuite X.env x pos) Q E s:=by
 obtain⟨m,hn,hl⟩:=id I.loc
 have hcls:(X.env.scope.kind==.class||(X.env.scope.kind==.module&&X.env.locals !=X.env.globals))=false:=by rw[I.ok.kind];rfl
 have cne:=I.cne
 have ne:∀b o,X.s₀.heap.get? b=some o->b≠X.env.locals:=λ b o e=>ZN (ZM (ZE e) I.ok.above)
 have hiσ:i<σ.length:=by rw[I.len];exact(y3.mp hi).1
 refine wpAny_nameGoes_keeps hk hn hcls λ h' v hn' hs=>h _ ⟨I.ok,I.os,I.bare,⟨λ b o e n hb hx=>?_,λ b o e n hb hx=>?_,I.base.free,λ b o e hx=>?_,I.base.tups,I.base.frzs,I.base.tbls⟩,⟨_,hn',λ j y w e1 e2 e3=>?_⟩,λ y c e=>?_,I.free,I.freeC,λ p hp=>?_,λ b ob e=>?_,by simpa using I.len⟩
 . exact(hs.2 b (ne b o e)).trans (I.base.keep b o e n hb hx)
 . obtain⟨sl,e1⟩:=I.base.slot b o e n hb hx;exact⟨sl,(hs.2 b (ne b o e)).trans e1⟩
 . obtain⟨o',e1⟩:=I.base.there b o e hx;exact⟨o',(hs.2 b (ne b o e)).trans e1⟩
 . by_cases hj:j=i
   . subst hj
     rw[List.getElem?_set_self hiσ]at e2
     cases e2
   . rw[List.getElem?_set_ne (Ne.symm hj)]at e2
     obtain⟨u',r',q⟩:=hl j y w e1 e2 e3
     refine⟨u',r',?_⟩
     rcases q with⟨k,e⟩ | ⟨k,c,e,z⟩
     . refine .inl ⟨k,?_⟩
       have nx:y≠x:=λ e=>hj (rC hN e1 (e▸hi))
       simp[nx,e]
     . exact .inr ⟨k,c,e,z.sameBut hs (cne y c e)⟩
 . obtain⟨w',z⟩:=I.cell y c e;exact⟨w',z.sameBut hs (cne y c e)⟩
 . obtain⟨e,n,ne,nf,d⟩:=I.pin p hp;exact⟨(hs.2 p.1 ne).trans e,n,ne,nf,d⟩
 . refine(I.hok b ob e).stay (λ c w' hc q=>(hs.2 c ?_).trans q) (λ _ q=>q) λ _ _ q=>q
   intro z
   have hf:=I.free
   rw[←z]at hf
   rcases hc with z2 | hc
   . rw[z2,e]at hf;cases hf
   . rw[hf]at hc;cases hc
theorem Vt{P:Program}{w:World}{H:Hp}{h:Heap}{a C:Addr}(e:bN a C h):bu P w H h a (.ext (bN a C)):=by
 obtain⟨o,vs,h1,h2,h3⟩:=e
 exact⟨⟨o,vs,h1,h2,h3⟩,⟨o,h1⟩,λ g1 g2 ⟨o',vs',z1,z2,z3⟩ k=>⟨o',vs',k o' z1,z2,z3⟩⟩
theorem Inv.exc{a C:Addr}{H1:Hp}{s1:Shared}(I:%[|6])(I1:Inv X pins σ H1 s1)(hex:X.ex=[])(new:∀b o,s1.heap.get? b=some o->b≠a)(hH:H a=none)(e:bN a C s.heap):Inv X pins σ (upd H a (.ext (bN a C))) s:=by
 have nx:∀b,b∉X.ex:=λ b z=>by rw[hex]at z;cases z
 have n0:∀b o,X.s₀.heap.get? b=some o->b≠a:=λ b o q=>by
  obtain⟨o',q'⟩:=I1.base.there b o q (nx b)
  exact new b o' q'
 have nL:X.env.locals≠a:=by
  obtain⟨m,⟨o,_,_,ho,_⟩,_⟩:=I1.loc
  exact new _ o ho
 have nt:∀b u,H b=some u->b≠a:=λ b u q z=>by rw[z,hH]at q;cases q
 refine⟨I.ok,I.os,I.bare,⟨I.base.keep,I.base.slot,λ b o q n hx=>?_,I.base.there,λ b xs q=>?_,λ b o u q=>?_,λ b ps q=>?_⟩,I.loc,I.cell,?_,λ x c q=>?_,λ p hp=>?_,λ b u q=>?_,I.len⟩
 . rw[ao (n0 b o q)];exact I.base.free b o q n hx
 . have:=I.base.tups b xs q;rw[ao (nt b _ this)];exact this
 . have:=I.base.frzs b o u q;rw[ao (nt b _ this)];exact this
 . obtain⟨m,this⟩:=I.base.tbls b ps q;exact⟨m,by rw[ao (nt b _ this)];exact this⟩
 . rw[ao nL];exact I.free
 . obtain⟨v,o,ho,_⟩:=I1.cell x c q
   rw[ao (new c o ho)];exact I.freeC x c q
 . obtain⟨z1,z2,z3⟩:=I.pin p hp
   obtain⟨w1,_⟩:=I1.pin p hp
   exact⟨z1,by rw[ao (new _ _ w1)];exact z2,z3⟩
 . by_cases hb:b=a
   . subst hb
     rw[aL]at q
     cases q
     exact Vt e
   . rw[ao hb]at q
     exact(I.hok b u q).stay (λ _ _ _ r=>r) (λ c r=>by rw[ao (nt c _ r)];exact r) λ c xs r=>by rw[ao (nt c _ r)];exact r
theorem caught{a C T t:Addr}{B:Heap}{i:Nat}{n y:Str}{np hp:Pos}{b₀:Stmt}{suite:List Stmt}{rest:List ExceptHandler}{Q:Flow->Shared->Prop}{E:%[|11]}
 {H1:Hp}{s1:Shared}(ok:X.Ok)(I1:Inv X pins σ H1 s1)(hex:X.ex=[])(new:∀b o,s1.heap.get? b=some o->b≠a)(hst:X.stack=X.env::X.outer)(hfr:X.env.frame=some X.env.locals)(fw:Heap.FlyingW B X.stack a (.ref C) (.ref t) s.heap)
 (inv:∀h',Heap.FlyingW B X.stack a (.ref C) (.ref t) h'->s.heap.UpToSlots h'->Inv X pins σ H {s with heap:=h'})(hok:HOk X.prog X.w H B)
 (hg:Gl X y)(hy:X.mg y=some (.ref T))(hyd:(y==("__debug__":Str))=false)(hx:PySem.W.exmOne X.K (.ref C) (.ref T)=some true)
 (hN:X.N.Nodup)(hi:X.N[i]? =some n)(hn:X.env.scope.names.lookup n=some .local)
 (body:∀s6,Inv (XE.sup X (.ref a)) pins (σ.set i (some (.ref a))) (upd H a (.ext (bN a C))) s6->wpAny %[|8] (X.A.mark (some (.ref a))) (execs (b₀::suite) X.env)
  (λ f s7=>wpAny %[|8] X.A (do bindName X.env n .none;unbindBehindTheSuite X.env n hp) (λ _ s8=>Q f s8) E s7) (λ _ _=>False) s6):
 wpAny %[|8] X.A (noteFrame (.ref a) X.env) (λ _ s2=>wpAny %[|8] X.A (setFlight (.ref a) none) (λ _ s3=>
  wpAny %[|8] X.A (handleBy (.ref a) X.env (.ExceptHandler (some (.Name y np)) (some n) (b₀::suite) hp::rest)) Q E s3) E s2) E s:=by
 have hH:H a=none:=HOk.none hok fw.2.1
 refine wpAny_looks_onW (base:=B) (outer:=X.outer) (by rw[ok.frames,hst]) hfr (by rw[←hst];exact fw) λ h4 f4 u4=>?_
 refine wpAny_landsW f4 λ h5 f5 u5=>?_
 rw[←hst]at f5
 have u45:=u4.trans u5
 have I5:=inv h5 f5 u45
 obtain⟨ob,vs,ho,hc,hd,_⟩:=f5.first
 refine wpAny_handleBy_cons (codeAny_handlers_test (jZ (X:=XE.sup X (.ref a)) (Inv.sup I5) hg hy ?_ hyd)) (by intro q;cases q)
 refine(PySem.W.exm_one (M:=%[|8]) (K:=X.K) (h:=h5) (e:=a) I5.kIn (show bN a C h5 from⟨ob,vs,ho,hc,hd⟩).ty hx).here (codeAny_handlers_suite_as ?_)
 refine lands_againW (show Heap.FlyingW B X.stack a (.ref C) (.ref t) _ from f5) λ h6 f6 u6=>?_
 have I6:=inv h6 f6 (u45.trans u6)
 obtain⟨ob,vs,ho,hc,hd,_⟩:=f6.first
 have J:Inv X pins σ (upd H a (.ext (bN a C))) {s with heap:=h6}:=Inv.exc I6 I1 hex new hH ⟨ob,vs,ho,hc,hd⟩
 refine iC (X:=XE.sup X (.ref a)) (Inv.sup J) hN hi (.inl hn) (v:=.ref a) rfl (λ s7 I7=>?_) (.inr hn)
 exact wpAny_mono (body s7 I7) (λ f s8 q=>q) λ _ _ z=>z.elim
end
end XE
set_option maxHeartbeats 400000
namespace XE
open PySem PySem.Spec L2 DL RF
open PyProof.Rows
variable {e : Expr} {es : List Expr} {y : Str}
inductive HT where
 | one(y:Str) | any(ys:%[|1]) | no(t:HT) | or(s t:HT) | and(s t:HT) | eq(y z:Str)
def tO:Expr->Option (Str×List Expr)
 | .Call (.Name f _) es [] _=>some (f,es)
 | _=>none
def M9:Expr->Option (List Expr)
 | .Tuple es _ _=>some es
 | _=>none
def Bb:Expr->Option Expr
 | .UnaryOp .Not e _=>some e
 | _=>none
def orV:Expr->Option (List Expr)
 | .BoolOp .Or es _=>some es
 | _=>none
def uG:Expr->Option (List Expr)
 | .BoolOp .And es _=>some es
 | _=>none
def eqV:Expr->Option (Expr×List Expr)
 | .Compare a [.Eq] es _=>some (a,es)
 | _=>none
theorem rJ{f:Str}(h:tO e=some (f,es)):∃p pos,e=.Call (.Name f p) es [] pos:=by
 unfold tO at h
 split at h
 . cases h;exact⟨_,_,rfl⟩
 . cases h
def pq:List Expr->Option %[|1]
 | []=>some []
 | e::r=>(nameV e).bind λ y=>(pq r).map (y::·)
theorem Qq(h:M9 e=some es):∃k p,e=.Tuple es k p:=by
 unfold M9 at h
 split at h
 . cases h;exact⟨_,_,rfl⟩
 . cases h
theorem FW{x:Expr}(h:Bb e=some x):∃p,e=.UnaryOp .Not x p:=by
 unfold Bb at h
 split at h
 . cases h;exact⟨_,rfl⟩
 . cases h
theorem JZ(h:orV e=some es):∃p,e=.BoolOp .Or es p:=by
 unfold orV at h
 split at h
 . cases h;exact⟨_,rfl⟩
 . cases h
theorem uZ(h:uG e=some es):∃p,e=.BoolOp .And es p:=by
 unfold uG at h
 split at h
 . cases h;exact⟨_,rfl⟩
 . cases h
theorem VN{a:Expr}(h:eqV e=some (a,es)):∃p,e=.Compare a [.Eq] es p:=by
 unfold eqV at h
 split at h
 . cases h;exact⟨_,rfl⟩
 . cases h
def isV(n y:Str)(e:Expr):Bool:=match tO e with
 | some (f,[a,b])=>(f==("isinstance":Str))&&((nameV a==some n)&&(nameV b==some y))
 | _=>false
theorem jP{n:Str}(h:isV n y e=true):∃p1 p2 p3 pos,e=.Call (.Name "isinstance" p1) [.Name n p2,.Name y p3] [] pos:=by
 unfold isV at h
 split at h
 . rename_i f a b hc
   obtain⟨h1,h2,h3⟩:=bV h
   obtain⟨p,pos,rfl⟩:=rJ hc
   obtain⟨p2,rfl⟩:=cG (ZI h2)
   obtain⟨p3,rfl⟩:=cG (ZI h3)
   obtain rfl:=ZI h1
   exact⟨_,_,_,_,rfl⟩
 . cases h
def Bv(n:Str)(ys:%[|1])(e:Expr):Bool:=match tO e with
 | some (f,[a,b])=>(f==("isinstance":Str))&&((nameV a==some n)&&(match M9 b with | some es=>pq es==some ys | none=>false))
 | _=>false
theorem Gv{n:Str}{ys:%[|1]}(h:Bv n ys e=true):∃p1 p2 p3 k es pos,pq es=some ys/\e=.Call (.Name "isinstance" p1) [.Name n p2,.Tuple es k p3] [] pos:=by
 unfold Bv at h
 split at h
 . rename_i f a b hc
   obtain⟨h1,h2,h3⟩:=bV h
   obtain⟨p,pos,rfl⟩:=rJ hc
   obtain⟨p2,rfl⟩:=cG (ZI h2)
   obtain rfl:=ZI h1
   split at h3
   . rename_i es ht
     obtain⟨k,p3,rfl⟩:=Qq ht
     exact⟨_,_,_,_,_,_,ZI h3,rfl⟩
   . cases h3
 . cases h
def HT.chk(n:Str):HT->Expr->Bool
 | .one y,e=>isV n y e
 | .any ys,e=>Bv n ys e
 | .no t,e=>match Bb e with | some x=>t.chk n x | none=>false
 | .or s t,e=>match orV e with | some [a,b]=>s.chk n a&&t.chk n b | _=>false
 | .and s t,e=>match uG e with | some [a,b]=>s.chk n a&&t.chk n b | _=>false
 | .eq y z,e=>match eqV e with | some (a,[b])=>isV n y a&&isV n z b | _=>false
def HT.val(q:Str->Bool):HT->Bool
 | .one y=>q y
 | .any ys=>ys.any q
 | .no t=>!t.val q
 | .or s t=>s.val q||t.val q
 | .and s t=>s.val q&&t.val q
 | .eq y z=>q y==q z
def HT.nms:HT->%[|1]
 | .one y=>[y] | .any ys=>ys | .no t=>t.nms | .or s t=>s.nms++t.nms | .and s t=>s.nms++t.nms | .eq y z=>[y,z]
def Ans(Y:Cx)(C:Addr)(y:Str)(b:Bool):Prop:=Gl Y y/\(y==("__debug__":Str))=false/\∃(v:V) (u:Value),((∃T,v=.ref T/\u=.ref T)∨∃t,v=.ty t/\u=.type t)/\(Y.mg y=some u∨(Y.mg y=none/\bootBuiltins y=some u/\y≠"__name__"))/\PySem.W.kitOne Y.K (.ref C) u=some b
structure Sx(Y:Cx)(n:Str)(i:Nat)(C:Addr)(q:Str->Bool):Prop where
 ni:Y.N[i]? =some n
 vis:Vis Y.env.scope n
 d1:(n==("__debug__":Str))=false
 d2:(n==("__classdict__":Str))=false
 atr:Atr Y.K C
 mi:Y.mg "isinstance"=none
 gi:Gl Y "isinstance"
section
variable {Y : Cx} {n : Str} {i : Nat} {a C : Addr} {q : Str -> Bool} {pins : Pins} {s : Shared} {σ : L2.St} {H : Hp}
theorem bH{H H1 H2:Hp}(a:bB H H1)(b:bB H1 H2):bB H H2:=λ x o h=>b x o (a x o h)
theorem same_refl{H:Hp}:bB H H:=λ _ _ h=>h
theorem Lh{b:Bool}{pos:Pos}(h:Ans Y C y b):∃v u,PE Y (.Name y pos) (tC v)/\(RelV v u/\∀u',RelV v u'->u'=u)/\PySem.W.kitOne Y.K (.ref C) u=some b:=by
 obtain⟨g,d,v,u,rr,hm,k⟩:=h
 have r':RelV v u/\∀u',RelV v u'->u'=u:=by
  rcases rr with⟨T,rfl,rfl⟩ | ⟨t,rfl,rfl⟩
  . exact⟨rfl,λ u' z=>z⟩
  . exact⟨rfl,λ u' z=>z⟩
 have r:=r'.1
 rcases hm with hm | ⟨hm,hb,hn⟩
 . exact⟨v,u,Gr g hm r d,r',k⟩
 . exact⟨v,u,vM g hm hb r hn d,r',k⟩
theorem Um:∀{ys:%[|1]},pq es=some ys->(∀y∈ys,Ans Y C y (q y))->∃vs us,PA Y es (λ _ H Q=>Q vs H)/\(Vals vs us/\∀us',Vals vs us'->us'=us)/\PySem.W.kitAny Y.K (.ref C) us=some (ys.any q)/\vs.length=ys.length:=by
 induction es with
 | nil=>intro ys h _;cases h;exact⟨[],[],fH,⟨.nil,λ us' z=>by cases z;rfl⟩,rfl,rfl⟩
 | cons x es ih=>
   intro ys h hq
   obtain⟨y,hy,h⟩:=Option.bind_eq_some_iff.mp (show(nameV x).bind (λ y=>(pq es).map (y::·))=some ys from h)
   obtain⟨zs,e,h⟩:=Option.map_eq_some_iff.mp h
   subst h
   obtain⟨p,rfl⟩:=cG hy
   obtain⟨v,u,h1,h2,h3⟩:=Lh (pos:=p) (hq y (.head _))
   obtain⟨vs,us,g1,g2,g3,g4⟩:=ih e λ z hz=>hq z (.tail _ hz)
   refine⟨v::vs,u::us,?_,⟨.cons h2.1 g2.1,λ us' z=>?_⟩,?_,by simp[g4]⟩
   . exact bL h1 g1
   . cases z with
     | cons z1 z2=>rw[h2.2 _ z1,g2.2 _ z2]
   . unfold PySem.W.kitAny
     rw[h3,List.any_cons]
     cases q y with
     | true=>rfl
     | false=>exact g3
theorem jT{p1 p2 p3 pos:Pos}(sx:Sx Y n i C q)(hq:Ans Y C y (q y))(hs:σ[i]? =some (some (.ref a)))(ha:H a=some (.ext (bN a C)))(I:Inv Y pins σ H s):
 wpAny (model Y.prog Y.w) Y.A (eval (.Call (.Name "isinstance" p1) [.Name n p2,.Name y p3] [] pos) Y.env) (EP Y pins σ (λ v H'=>v=.bl (q y)/\bB H H')) Y.xe s:=by
 obtain⟨v,u,pe,ru,k1⟩:=Lh (pos:=p3) hq
 have hcr:cQ Y (.builtin "isinstance") (λ xs H' Q=>xs=[.ref a,v]/\H' a=some (.ext (bN a C))/\Q (.bl (q y)) H'):=by
  rintro pins s σ H xs us Q I r ⟨rfl,ha,hq⟩
  obtain⟨u1,u2,rfl,r1,r2⟩:=vals2 r
  cases r1
  rw[ru.2 _ r2]
  exact PySem.W.kia_one (zj sx.atr) I.kIn (I.hok a _ ha).1 k1 (λ z=>nomatch z) λ tk=>⟨.bl _,H,I.tok tk,rfl,hq⟩
 exact kZ (e:=.Name n p2) (es:=[.Name y p3]) hcr sx.gi sx.mi PyProof.Rows.boot_isinstance (bL (ud sx.ni sx.vis sx.d1 sx.d2) (bL pe fH)) %[|2] %[|2] rfl rfl pins s σ H _ I ⟨.ref a,hs,rfl,ha,rfl,same_refl⟩
theorem KJ{ys:%[|1]}{k:Nat}{p1 p2 p3 pos:Pos}(sx:Sx Y n i C q)(hn:pq es=some ys)(hl:ys.length≤1000)(hq:∀y∈ys,Ans Y C y (q y))(hs:σ[i]? =some (some (.ref a)))(ha:H a=some (.ext (bN a C)))(I:Inv Y pins σ H s):
 wpAny (model Y.prog Y.w) Y.A (eval (.Call (.Name "isinstance" p1) [.Name n p2,.Tuple es k p3] [] pos) Y.env) (EP Y pins σ (λ v H'=>v=.bl (ys.any q)/\bB H H')) Y.xe s:=by
 obtain⟨vs,us,pa,ru,k1,l1⟩:=Um hn hq
 have hcr:cQ Y (.builtin "isinstance") (λ xs H' Q=>∃p,xs=[.ref a,.ref p]/\H' p=some (.tup vs)/\H' a=some (.ext (bN a C))/\Q (.bl (ys.any q)) H'):=by
  rintro pins s σ H xs us' Q I r ⟨p,rfl,hp,ha,hq⟩
  obtain⟨u1,u2,rfl,r1,r2⟩:=vals2 r
  cases r1
  cases r2
  obtain⟨its,rv,⟨⟨cls,dd,data,sl⟩,e1,e2,m,e3⟩,_⟩:=I.tuple (SqT.of (K:=Y.K) hp)
  simp only at e2 e3
  subst e2 e3
  rw[ru.2 _ rv]at e1
  exact PySem.W.kia_tup (zj sx.atr) I.kIn (I.hok a _ ha).1 e1 k1 (λ z=>nomatch z) λ tk=>⟨.bl _,H,I.tok tk,rfl,hq⟩
 refine kZ (e:=.Name n p2) (es:=[.Tuple es k p3]) hcr sx.gi sx.mi PyProof.Rows.boot_isinstance (bL (ud sx.ni sx.vis sx.d1 sx.d2) (bL (SX pa) fH)) %[|2] %[|2] rfl rfl pins s σ H _ I ⟨.ref a,hs,by rw[l1];exact small %[|0],λ p hp=>?_⟩
 exact⟨p,rfl,aL,by rw[ao (aC ha hp)];exact ha,rfl,bB.fresh hp _⟩
def HT.small:HT->Bool
 | .any ys=>Nat.ble ys.length 1000
 | .no t=>t.small | .or s t=>s.small&&t.small | .and s t=>s.small&&t.small
 | _=>true
theorem HT.test(sx:Sx Y n i C q)(hs:σ[i]? =some (some (.ref a))):∀(t:HT)(e:Expr),t.chk n e=true->t.small=true->(∀y∈t.nms,Ans Y C y (q y))->∀(s:Shared)(H:Hp),H a=some (.ext (bN a C))->Inv Y pins σ H s->
 wpAny (model Y.prog Y.w) Y.A (isTrue e Y.env (eval e Y.env)) (TP Y pins σ (λ b H'=>b=t.val q/\bB H H')) Y.xe s
 | .one y,e,hc,_,hq,s,H,ha,I=>by
   obtain⟨p1,p2,p3,pos,rfl⟩:=jP (show isV n y e=true from hc)
   refine isTrue_plain (thn (jT sx (hq y (.head _)) hs ha I) λ u s1 hq_=>?_) rfl
   obtain⟨v,H1,I1,r,e,sm⟩:=hq_
   subst e
   cases r
   exact wpAny_truthy_bool ⟨H1,I1,rfl,sm⟩
 | .any ys,e,hc,hl,hq,s,H,ha,I=>by
   obtain⟨p1,p2,p3,k,es,pos,hn,rfl⟩:=Gv (show Bv n ys e=true from hc)
   refine isTrue_plain (thn (KJ sx hn (Nat.le_of_ble_eq_true hl) hq hs ha I) λ u s1 hq_=>?_) rfl
   obtain⟨v,H1,I1,r,e,sm⟩:=hq_
   subst e
   cases r
   exact wpAny_truthy_bool ⟨H1,I1,rfl,sm⟩
 | .no t,e,hc,hl,hq,s,H,ha,I=>by
   have hc:(match Bb e with | some x=>t.chk n x | none=>false)=true:=hc
   split at hc
   . rename_i x hv
     obtain⟨p,rfl⟩:=FW hv
     exact isTrue_not (thn (HT.test sx hs t x hc hl hq s H ha I) λ c s1 ⟨H1,I1,e,sm⟩=>⟨H1,I1,by rw[e];rfl,sm⟩)
   . cases hc
 | .or u t,e,hc,hl,hq,s,H,ha,I=>by
   have hc:(match orV e with | some [a,b]=>u.chk n a&&t.chk n b | _=>false)=true:=hc
   split at hc
   . rename_i x y hv
     obtain⟨p,rfl⟩:=JZ hv
     obtain⟨h1,h2⟩:=az hc
     obtain⟨l1,l2⟩:=az hl
     refine isTrue_or (thn (HT.test sx hs u x h1 l1 (λ z hz=>hq z (List.mem_append_left _ hz)) s H ha I) λ c s1 hq_=>?_)
     obtain⟨H1,I1,e,sm⟩:=hq_
     cases c with
     | true=>exact⟨H1,I1,by show true=(u.val q||t.val q);rw[←e];rfl,sm⟩
     | false=>
       refine isTrue_or (thn (HT.test sx hs t y h2 l2 (λ z hz=>hq z (List.mem_append_right _ hz)) s1 H1 (sm a _ ha) I1) λ c s2 hq_=>?_)
       obtain⟨H2,I2,e2,sm2⟩:=hq_
       have ev:(HT.or u t).val q=c:=by show(u.val q||t.val q)=c;rw[←e,e2];rfl
       cases c with
       | true=>exact⟨H2,I2,ev.symm,bH sm sm2⟩
       | false=>exact isTrue_or_nil ⟨H2,I2,ev.symm,bH sm sm2⟩
   . cases hc
 | .and u t,e,hc,hl,hq,s,H,ha,I=>by
   have hc:(match uG e with | some [a,b]=>u.chk n a&&t.chk n b | _=>false)=true:=hc
   split at hc
   . rename_i x y hv
     obtain⟨p,rfl⟩:=uZ hv
     obtain⟨h1,h2⟩:=az hc
     obtain⟨l1,l2⟩:=az hl
     refine isTrue_and (thn (HT.test sx hs u x h1 l1 (λ z hz=>hq z (List.mem_append_left _ hz)) s H ha I) λ c s1 hq_=>?_)
     obtain⟨H1,I1,e,sm⟩:=hq_
     cases c with
     | false=>exact⟨H1,I1,by show false=(u.val q&&t.val q);rw[←e];rfl,sm⟩
     | true=>
       refine isTrue_and (thn (HT.test sx hs t y h2 l2 (λ z hz=>hq z (List.mem_append_right _ hz)) s1 H1 (sm a _ ha) I1) λ c s2 hq_=>?_)
       obtain⟨H2,I2,e2,sm2⟩:=hq_
       have ev:(HT.and u t).val q=c:=by show(u.val q&&t.val q)=c;rw[←e,e2];rfl
       cases c with
       | false=>exact⟨H2,I2,ev.symm,bH sm sm2⟩
       | true=>exact isTrue_and_nil ⟨H2,I2,ev.symm,bH sm sm2⟩
   . cases hc
 | .eq y z,e,hc,hl,hq,s,H,ha,I=>by
   have hc:(match eqV e with | some (a,[b])=>isV n y a&&isV n z b | _=>false)=true:=hc
   split at hc
   . rename_i a' b' hv
     obtain⟨p,rfl⟩:=VN hv
     obtain⟨h1,h2⟩:=az hc
     obtain⟨p1,p2,p3,p4,rfl⟩:=jP h1
     obtain⟨p5,p6,p7,p8,rfl⟩:=jP h2
     refine wpAny_isTrue_Compare1 (thn (jT sx (hq y (.head _)) hs ha I) λ u s1 hq_=>?_) (iy rfl)
     obtain⟨v,H1,I1,r,e,sm⟩:=hq_
     subst e
     cases r
     refine thn (jT sx (hq z (.tail _ (.head _))) hs (sm a _ ha) I1) λ u s2 hq_=>?_
     obtain⟨v,H2,I2,r,e,sm2⟩:=hq_
     subst e
     cases r
     refine thn (Gz pins s2 σ H2 (.bl (q y)) (.bl (q z)) _ _ (λ v H'=>v=.bl (q y==q z)/\H'=H2) I2 rfl rfl ⟨rfl,by rw[nH];exact⟨rfl,rfl⟩⟩) λ w s3 hq_=>?_
     obtain⟨v,H3,I3,r,e,e2⟩:=hq_
     subst e e2
     cases r
     exact wpAny_truthy_bool ⟨H3,I3,rfl,bH sm sm2⟩
   . cases hc
def HT.vals:HT->Bool
 | .eq _ _=>false
 | .any ys=>Nat.ble ys.length 1000
 | .no t=>t.vals | .or s t=>s.vals&&t.vals | .and s t=>s.vals&&t.vals
 | _=>true
theorem HT.ev(sx:Sx Y n i C q)(hs:σ[i]? =some (some (.ref a))):∀(t:HT)(e:Expr),t.chk n e=true->t.vals=true->(∀y∈t.nms,Ans Y C y (q y))->∀(s:Shared)(H:Hp),H a=some (.ext (bN a C))->Inv Y pins σ H s->
 wpAny (model Y.prog Y.w) Y.A (eval e Y.env) (EP Y pins σ (λ v H'=>v=.bl (t.val q)/\bB H H')) Y.xe s
 | .one y,e,hc,_,hq,s,H,ha,I=>by
   obtain⟨p1,p2,p3,pos,rfl⟩:=jP (show isV n y e=true from hc)
   exact jT sx (hq y (.head _)) hs ha I
 | .any ys,e,hc,hl,hq,s,H,ha,I=>by
   obtain⟨p1,p2,p3,k,es,pos,hn,rfl⟩:=Gv (show Bv n ys e=true from hc)
   exact KJ sx hn (Nat.le_of_ble_eq_true hl) hq hs ha I
 | .eq y z,e,hc,hl,hq,s,H,ha,I=>by cases hl
 | .no t,e,hc,hl,hq,s,H,ha,I=>by
   have hc:(match Bb e with | some x=>t.chk n x | none=>false)=true:=hc
   split at hc
   . rename_i x hv
     obtain⟨p,rfl⟩:=FW hv
     refine UnaryOp_ (thn (HT.ev sx hs t x hc hl hq s H ha I) λ u s1 hq_=>?_)
     obtain⟨v,H1,I1,r,e,sm⟩:=hq_
     subst e
     cases r
     exact not_of (wpAny_truthy_bool ⟨.bl (!t.val q),H1,I1,rfl,rfl,sm⟩)
   . cases hc
 | .or u t,e,hc,hl,hq,s,H,ha,I=>by
   have hc:(match orV e with | some [a,b]=>u.chk n a&&t.chk n b | _=>false)=true:=hc
   split at hc
   . rename_i x y hv
     obtain⟨p,rfl⟩:=JZ hv
     obtain⟨h1,h2⟩:=az hc
     obtain⟨l1,l2⟩:=az hl
     refine BoolOp_or (thn (HT.ev sx hs u x h1 l1 (λ z hz=>hq z (List.mem_append_left _ hz)) s H ha I) λ w s1 hq_=>?_)
     obtain⟨v,H1,I1,r,e,sm⟩:=hq_
     subst e
     cases r
     refine wpAny_truthy_bool ?_
     cases ev:u.val q with
     | true=>exact⟨.bl true,H1,I1,rfl,by show V.bl true=.bl (u.val q||t.val q);rw[ev];rfl,sm⟩
     | false=>
       refine BoolOp_one (thn (HT.ev sx hs t y h2 l2 (λ z hz=>hq z (List.mem_append_right _ hz)) s1 H1 (sm a _ ha) I1) λ w s2 hq_=>?_)
       obtain⟨v,H2,I2,r,e2,sm2⟩:=hq_
       subst e2
       exact⟨_,H2,I2,r,by show V.bl (t.val q)=.bl (u.val q||t.val q);rw[ev];rfl,bH sm sm2⟩
   . cases hc
 | .and u t,e,hc,hl,hq,s,H,ha,I=>by
   have hc:(match uG e with | some [a,b]=>u.chk n a&&t.chk n b | _=>false)=true:=hc
   split at hc
   . rename_i x y hv
     obtain⟨p,rfl⟩:=uZ hv
     obtain⟨h1,h2⟩:=az hc
     obtain⟨l1,l2⟩:=az hl
     refine BoolOp_and (thn (HT.ev sx hs u x h1 l1 (λ z hz=>hq z (List.mem_append_left _ hz)) s H ha I) λ w s1 hq_=>?_)
     obtain⟨v,H1,I1,r,e,sm⟩:=hq_
     subst e
     cases r
     refine wpAny_truthy_bool ?_
     cases ev:u.val q with
     | false=>exact⟨.bl false,H1,I1,rfl,by show V.bl false=.bl (u.val q&&t.val q);rw[ev];rfl,sm⟩
     | true=>
       refine BoolOp_one (thn (HT.ev sx hs t y h2 l2 (λ z hz=>hq z (List.mem_append_right _ hz)) s1 H1 (sm a _ ha) I1) λ w s2 hq_=>?_)
       obtain⟨v,H2,I2,r,e2,sm2⟩:=hq_
       subst e2
       exact⟨_,H2,I2,r,by show V.bl (t.val q)=.bl (u.val q&&t.val q);rw[ev];rfl,bH sm sm2⟩
   . cases hc
theorem V4{t:HT}(sx:Sx Y n i C q)(hc:t.chk n e=true)(hl:t.vals=true)(hq:∀y∈t.nms,Ans Y C y (q y)):PE Y e (λ σ H Q=>σ[i]? =some (some (.ref a))/\H a=some (.ext (bN a C))/\∀H',bB H H'->Q (.bl (t.val q)) H'):=
 λ pins s σ H Q I ⟨hs,ha,k⟩=>thn (HT.ev sx hs t e hc hl hq s H ha I) λ u s1 ⟨v,H1,I1,r,e,sm⟩=>⟨v,H1,I1,r,by rw[e];exact k H1 sm⟩
inductive Oc where
 | str(x:Str) | bl(b:Bool) | non
 deriving DecidableEq
def Oc.v:Oc->V
 | .str x=>.str x | .bl b=>.bl b | .non=>.non
def Oc.d:Oc->D
 | .str x=>.str x | .bl b=>.bl b | .non=>.non
def VP:Expr->Option Oc
 | .Constant (.str y) _ _=>some (.str y)
 | .Constant (.bool c) _ _=>some (.bl c)
 | .Constant .none _ _=>some .non
 | _=>none
def Oc.chk(o:Oc)(e:Expr):Bool:=match VP e with
 | some o'=>decide (o'=o)
 | none=>false
theorem Oc.pe(o:Oc)(e:Expr)(h:o.chk e=true):PE Y e (tC o.v):=by
 unfold Oc.chk VP at h
 split at h
 . rename_i o' hv
   obtain rfl:=ZF h
   split at hv
   . cases hv;exact Jc
   . cases hv;exact Qc
   . cases hv;exact Kq
   . cases hv
 . cases h
inductive HB where
 | ifr(t:HT)(o:Oc) | pick(t:HT)(o0 o1:Oc) | both(y z:Str) | val(t:HT)
def vC:Stmt->Option Expr
 | .Return (some e) _=>some e
 | _=>none
theorem pF{st:Stmt}(h:vC st=some e):∃p,st=.Return (some e) p:=by
 unfold vC at h
 split at h
 . cases h;exact⟨_,rfl⟩
 . cases h
def ifV:Stmt->Option (Expr×List Stmt)
 | .If e b [] _=>some (e,b)
 | _=>none
theorem TV{st:Stmt}{b:List Stmt}(h:ifV st=some (e,b)):∃p,st=.If e b [] p:=by
 unfold ifV at h
 split at h
 . cases h;exact⟨_,rfl⟩
 . cases h
def subV:Expr->Option (Expr×Expr)
 | .Subscript (.List es p) b q=>some (.List es p,b)
 | _=>none
def Nh:Expr->Option (List Expr)
 | .List es _=>some es
 | _=>none
theorem Rp{a b:Expr}(h:subV e=some (a,b)):∃p,e=.Subscript a b p:=by
 unfold subV at h
 split at h
 . cases h;exact⟨_,rfl⟩
 . cases h
theorem QD(h:Nh e=some es):∃p,e=.List es p:=by
 unfold Nh at h
 split at h
 . cases h;exact⟨_,rfl⟩
 . cases h
def Ot(n:Str)(t:HT)(e:Expr):Bool:=match tO e with
 | some (g,[x])=>(g==("int":Str))&&(t.chk n x&&(t.vals&&okE x))
 | _=>false
theorem Qx{n:Str}{t:HT}(h:Ot n t e=true):∃x gp p5,t.chk n x=true/\t.vals=true/\okE x=true/\e=.Call (.Name "int" gp) [x] [] p5:=by
 unfold Ot at h
 split at h
 . rename_i g x hc
   obtain⟨h1,h2,h3,h4⟩:=cA h
   obtain⟨p,pos,rfl⟩:=rJ hc
   obtain rfl:=ZI h1
   exact⟨_,_,_,h2,h3,h4,rfl⟩
 . cases h
def uC(n:Str)(t:HT)(o0 o1:Oc)(st:Stmt):Bool:=match (vC st).bind subV with
 | some (a,b)=>(match Nh a with | some [c0,c1]=>o0.chk c0&&(o1.chk c1&&(okE c0&&okE c1)) | _=>false)&&Ot n t b
 | none=>false
def vJ(n y z:Str)(st:Stmt):Bool:=match (vC st).bind uG with
 | some [a,b]=>isV n y a&&isV n z b
 | _=>false
def zu(n:Str)(t:HT)(o:Oc)(st:Stmt):Bool:=match ifV st with
 | some (e,[r])=>(match vC r with | some c=>t.chk n e&&(t.small&&o.chk c) | none=>false)
 | _=>false
def Ca(n:Str)(t:HT)(st:Stmt):Bool:=match vC st with
 | some e=>t.chk n e&&t.vals
 | none=>false
def HB.chk(n:Str):HB->Stmt->Bool
 | .val t,st=>Ca n t st
 | .ifr t o,st=>zu n t o st
 | .pick t o0 o1,st=>uC n t o0 o1 st
 | .both y z,st=>vJ n y z st
def HB.nms:HB->%[|1]
 | .ifr t _=>t.nms | .pick t _ _=>t.nms | .both y z=>[y,z] | .val t=>t.nms
def HB.out(q:Str->Bool):List HB->Option Oc
 | []=>none
 | .ifr t o::r=>if t.val q then some o else HB.out q r
 | .pick t o0 o1::_=>some (if t.val q then o1 else o0)
 | .both y z::_=>some (.bl (q y&&q z))
 | .val t::_=>some (.bl (t.val q))
def HB.chks(n:Str):List HB->List Stmt->Bool
 | [],[]=>true
 | b::bs,st::sts=>b.chk n st&&HB.chks n bs sts
 | _,_=>false
def HE(Y:Cx)(pins:Pins)(σ:L2.St)(H:Hp)(o:Option Oc)(f:Flow)(s':Shared):Prop:=∃H',Inv Y pins σ H' s'/\bB H H'/\match o with | some c=>∃u,f=.ret u/\RelV c.v u | none=>f=.next
theorem HE.pre{H1:Hp}{o:Option Oc}{f:Flow}{s':Shared}(sm:bB H H1)(h:HE Y pins σ H1 o f s'):HE Y pins σ H o f s':=by
 obtain⟨H2,I,sm2,e⟩:=h
 exact⟨H2,I,bH sm sm2,e⟩
theorem LQ{t:HT}{o0 o1:Oc}{st:Stmt}(sx:Sx Y n i C q)(hs:σ[i]? =some (some (.ref a)))(mt:Y.mg "int"=none)(gt:Gl Y "int")(hc:uC n t o0 o1 st=true)(hz:∀y∈t.nms,Ans Y C y (q y))(ha:H a=some (.ext (bN a C)))(I:Inv Y pins σ H s):
 wpAny (model Y.prog Y.w) Y.A (exec st Y.env) (HE Y pins σ H (some (if t.val q then o1 else o0))) Y.xe s:=by
 unfold uC at hc
 split at hc
 . rename_i a' b' hv
   obtain⟨e0,hr,hv⟩:=Option.bind_eq_some_iff.mp hv
   obtain⟨p7,rfl⟩:=pF hr
   obtain⟨p6,rfl⟩:=Rp hv
   obtain⟨hc,hi⟩:=az hc
   obtain⟨x,gp,p5,x1,x2,x3,rfl⟩:=Qx hi
   split at hc
   case h_2=>cases hc
   rename_i c0 c1 hl
   obtain⟨lp,rfl⟩:=QD hl
   obtain⟨g3,g4,g5,g6⟩:=cA hc
   have P1:PE Y (.List [c0,c1] lp) _:=SQ (bL (Oc.pe o0 c0 g3) (bL (Oc.pe o1 c1 g4) fH (aF g6 [] _)) (aF g5 [c1] _))
   have P2:PE Y (.Call (.Name "int" gp) [x] [] p5) _:=JN (he:=aF x3 [] _) oY gt mt PyProof.Rows.boot_int (bL (V4 (a:=a) sx x1 x2 hz) fH (aF x3 [] _))
   have P3:=WQ (pos:=p6) (vD (X:=Y)) P1 P2 (Ay rfl)
   refine wpAny_Return_some (thn (P3 pins s σ H (λ v H'=>v=(if t.val q then o1 else o0).v/\bB H H') I ?_) λ u s2 ⟨v,H2,I2,r,e1,e2⟩=>⟨H2,I2,e2,u,rfl,by rw[←e1];exact r⟩)
   refine⟨by show 2≤sizeLine;decide,λ p hp=>⟨hs,by rw[ao (aC ha hp)];exact ha,λ H' sm=>.inr ⟨t.val q,rfl,?_⟩⟩⟩
   refine⟨p,[o0.v,o1.v],(if t.val q then 1 else 0),(if t.val q then o1 else o0).v,rfl,rfl,SqL.of (sm p _ aL),?_,rfl,bH (bB.fresh hp _) sm⟩
   cases t.val q<;>rfl
 . exact fE hc
theorem N6{z:Str}{st:Stmt}(sx:Sx Y n i C q)(hs:σ[i]? =some (some (.ref a)))(hc:vJ n y z st=true)(hy:Ans Y C y (q y))(hz:Ans Y C z (q z))(ha:H a=some (.ext (bN a C)))(I:Inv Y pins σ H s):
 wpAny (model Y.prog Y.w) Y.A (exec st Y.env) (HE Y pins σ H (some (.bl (q y&&q z)))) Y.xe s:=by
 unfold vJ at hc
 split at hc
 . rename_i a' b' hv
   obtain⟨e0,hr,hv⟩:=Option.bind_eq_some_iff.mp hv
   obtain⟨p7,rfl⟩:=pF hr
   obtain⟨p6,rfl⟩:=uZ hv
   obtain⟨g1,g2⟩:=az hc
   obtain⟨p1,p2,p3,p4,rfl⟩:=jP g1
   obtain⟨p1',p2',p3',p4',rfl⟩:=jP g2
   refine wpAny_Return_some (BoolOp_and (thn (jT sx hy hs ha I) λ u s1 hq_=>?_))
   obtain⟨v,H1,I1,r,e,sm⟩:=hq_
   subst e
   cases r
   refine wpAny_truthy_bool ?_
   cases ey:q y with
   | false=>exact⟨H1,I1,sm,_,rfl,rfl⟩
   | true=>
     refine BoolOp_one (thn (jT sx hz hs (sm a _ ha) I1) λ u s2 hq_=>?_)
     obtain⟨v,H2,I2,r,e,sm2⟩:=hq_
     subst e
     cases r
     exact⟨H2,I2,bH sm sm2,_,rfl,rfl⟩
 . exact fE hc
theorem Rq{t:HT}{st:Stmt}(sx:Sx Y n i C q)(hs:σ[i]? =some (some (.ref a)))(hc:Ca n t st=true)(hz:∀y∈t.nms,Ans Y C y (q y))(ha:H a=some (.ext (bN a C)))(I:Inv Y pins σ H s):
 wpAny (model Y.prog Y.w) Y.A (exec st Y.env) (HE Y pins σ H (some (.bl (t.val q)))) Y.xe s:=by
 unfold Ca at hc
 split at hc
 . rename_i e hv
   obtain⟨p7,rfl⟩:=pF hv
   obtain⟨g1,g2⟩:=az hc
   exact wpAny_Return_some (thn (HT.ev sx hs t e g1 g2 hz s H ha I) λ u s2 ⟨v,H2,I2,r,e1,sm⟩=>⟨H2,I2,sm,u,rfl,by rw[e1]at r;exact r⟩)
 . cases hc
theorem QV{t:HT}{o:Oc}{st:Stmt}(sx:Sx Y n i C q)(hs:σ[i]? =some (some (.ref a)))(hc:zu n t o st=true)(hq:∀y∈t.nms,Ans Y C y (q y))(ha:H a=some (.ext (bN a C)))(I:Inv Y pins σ H s):
 wpAny (model Y.prog Y.w) Y.A (exec st Y.env) (HE Y pins σ H (if t.val q then some o else none)) Y.xe s:=by
 unfold zu at hc
 split at hc
 . rename_i e r' hv
   obtain⟨pos,rfl⟩:=TV hv
   split at hc
   case h_2=>cases hc
   rename_i c hr
   obtain⟨rp,rfl⟩:=pF hr
   obtain⟨h1,h2,h3⟩:=bV hc
   refine wpAny_If (thn (HT.test sx hs t e h1 h2 hq s H ha I) λ k s1 hq_=>?_)
   obtain⟨H1,I1,ev,sm⟩:=hq_
   cases k with
   | true=>
     refine wpAny_execs_cons (wpAny_Return_some (thn (Oc.pe o c h3 pins s1 σ H1 (λ v H'=>v=o.v/\H'=H1) I1 ⟨rfl,rfl⟩) λ u s2 hq_=>?_))
     obtain⟨v,H2,I2,r,e1,e2⟩:=hq_
     subst e1 e2
     rw[←ev]
     exact⟨H2,I2,sm,u,rfl,r⟩
   | false=>
     rw[←ev]
     exact wpAny_execs_nil ⟨H1,I1,sm,rfl⟩
 . exact fE hc
theorem HE.flow{o:Option Oc}{f:Flow}{s':Shared}(h:HE Y pins σ H o f s'):(∃c,o=some c/\∃u,f=.ret u)∨(o=none/\f=.next):=by
 obtain⟨H',_,_,e⟩:=h
 cases o with
 | none=>exact .inr ⟨rfl,e⟩
 | some c=>obtain⟨u,e,_⟩:=e;exact .inl ⟨c,rfl,u,e⟩
def HB.isPick:HB->Bool
 | .pick .. =>true
 | _=>false
theorem HB.run(sx:Sx Y n i C q)(hs:σ[i]? =some (some (.ref a)))(mt:Y.mg "int"=none):∀(bs:List HB)(sts:List Stmt),(bs.any HB.isPick=true->Gl Y "int")->HB.chks n bs sts=true->(∀b∈bs,∀y∈b.nms,Ans Y C y (q y))->∀(s:Shared)(H:Hp),H a=some (.ext (bN a C))->Inv Y pins σ H s->
 wpAny (model Y.prog Y.w) Y.A (execs sts Y.env) (HE Y pins σ H (HB.out q bs)) Y.xe s
 | [],[],_,_,hq,s,H,ha,I=>wpAny_execs_nil ⟨H,I,same_refl,rfl⟩
 | [],_::_,_,hc,_,_,_,_,_=>(y7 hc).elim
 | _::_,[],_,hc,_,_,_,_,_=>(y7 hc).elim
 | b ::bs,st::sts,gt,hc,hq,s,H,ha,I=>by
   obtain⟨h1,h2⟩:=az (show(b.chk n st&&HB.chks n bs sts)=true from hc)
   have ih:=HB.run sx hs mt bs sts (λ h=>gt (by rw[List.any_cons,h,Bool.or_true])) h2 λ c hc=>hq c (.tail _ hc)
   have hq:=hq b (.head _)
   refine wpAny_execs_cons ?_
   cases b with
   | pick t o0 o1=>
     refine thn (LQ sx hs mt (gt rfl) h1 hq ha I) λ f s1 z=>?_
     rcases HE.flow z with⟨c,_,u,rfl⟩ | ⟨e,_⟩
     . exact z
     . cases e
   | val t=>
     refine thn (Rq sx hs h1 hq ha I) λ f s1 z=>?_
     rcases HE.flow z with⟨c,_,u,rfl⟩ | ⟨e,_⟩
     . exact z
     . cases e
   | both y y'=>
     refine thn (N6 sx hs h1 (hq y (.head _)) (hq y' (.tail _ (.head _))) ha I) λ f s1 z=>?_
     rcases HE.flow z with⟨c,_,u,rfl⟩ | ⟨e,_⟩
     . exact z
     . cases e
   | ifr t o=>
     refine thn (QV sx hs h1 hq ha I) λ f s1 z=>?_
     have eo:HB.out q (.ifr t o::bs)=if t.val q then some o else HB.out q bs:=rfl
     rcases HE.flow z with⟨c,e,u,rfl⟩ | ⟨e,rfl⟩
     . rw[eo]
       cases ev:t.val q with
       | true=>rw[ev]at z;exact z
       | false=>rw[ev]at e;cases e
     . obtain⟨H1,I1,sm,_⟩:=z
       rw[eo]
       cases ev:t.val q with
       | true=>rw[ev]at e;cases e
       | false=>exact thn (ih s1 H1 (sm a _ ha) I1) λ f s2 z=>z.pre sm
end
end XE
set_option maxHeartbeats 1000000
namespace XE
open PySem PySem.Spec L2 DL RF
open PyProof.Rows
def qOf(x y:Str):Bool:=y==("TurnError":Str)||(y==("ValueError":Str)||y==x)
structure ExF(mg:%[|15])(K:PySem.W.Frag)(L T:%[|1]):Prop where
 cls:∀x∈L,∃C,mg x=some (.ref C)/\PySem.W.excIn K C yG t7=true/\Atr K C/\(∃t,mg "TurnError"=some (.ref t)/\PySem.W.exmOne K (.ref C) (.ref t)=some true)/\
  ∀y∈T,∃(v:V) (u:Value),((∃t,v=.ref t/\u=.ref t)∨∃t,v=.ty t/\u=.type t)/\(mg y=some u∨(mg y=none/\bootBuiltins y=some u/\y≠"__name__"))/\PySem.W.kitOne K (.ref C) u=some (qOf x y)
theorem ExF.exc{Ω:Wd}{L T:%[|1]}(E:ExF Ω.mg Ω.K L T){x:Str}(h:x∈L):Exc Ω x:=by
 obtain⟨C,h1,h2,h3,_⟩:=E.cls x h
 exact⟨C,h1,h2,h3⟩
def Th(K:PySem.W.Frag)(C:Addr):Bool:=
 (PySem.W.findIn K (.ref C) "__getattribute__"==some (some (.builtin "BaseException.__getattribute__")))&&((PySem.W.findIn K (.ref C) "__getattr__"==some none)&&((PySem.W.findIn K (.ref C) "__class__"==some (some (.builtin "object.__class__")))&&
 ((PySem.W.specialIn K (.builtin "object.__class__") "__get__"==some (some (.builtin "getset_descriptor.__get__")))&&((PySem.W.takesIn K (.builtin "object.__class__")==some true)&&((PySem.W.mroIn K C (.type "object")==some true)&&(PySem.W.mroIn K C (.type "BaseException")==some true))))))
def Tt(K:PySem.W.Frag)(C:Addr)(x y:Str):Bool:=match PySem.W.nsIn K mainGlobals y with
 | some (some (.ref t))=>PySem.W.kitOne K (.ref C) (.ref t)==some (qOf x y)
 | some none=>(y==("ValueError":Str))&&(PySem.W.kitOne K (.ref C) (.type "ValueError")==some (qOf x y))
 | _=>false
def Pb(K:PySem.W.Frag)(T:%[|1])(x:Str):Bool:=match PySem.W.nsIn K mainGlobals x with
 | some (some (.ref C))=>PySem.W.excIn K C yG t7&&(Th K C&&((match PySem.W.nsIn K mainGlobals "TurnError" with | some (some (.ref t))=>PySem.W.exmOne K (.ref C) (.ref t)==some true | _=>false)&&T.all (Tt K C x)))
 | _=>false
theorem TX{K:PySem.W.Frag}{h:Heap}{mg:%[|15]}{L T:%[|1]}(X:K.In h)(G:h.Ns mainGlobals mg)(e:L.all (Pb K T)=true):ExF mg K L T:=by
 constructor
 intro x hx
 have e:=List.all_eq_true.mp e x hx
 unfold Pb at e
 split at e
 . rename_i C hn
   obtain⟨e1,e2,e3,e4⟩:=cA e
   refine⟨C,PySem.W.mg_of X G hn,e1,?_,?_,λ y hy=>?_⟩
   . unfold Th at e2
     obtain⟨a1,a2,a3,a4,a5,a6,a7⟩:=oZ e2
     exact⟨ZI a1,ZI a2,ZI a3,ZI a4,ZI a5,ZI a6,ZI a7⟩
   . split at e3
     . rename_i t ht
       exact⟨t,PySem.W.mg_of X G ht,ZI e3⟩
     . cases e3
   . have e:=List.all_eq_true.mp e4 y hy
     unfold Tt at e
     split at e
     . rename_i t ht
       exact⟨.ref t,.ref t,.inl ⟨t,rfl,rfl⟩,.inl (PySem.W.mg_of X G ht),ZI e⟩
     . rename_i ht
       obtain⟨a1,a2⟩:=az e
       obtain rfl:=ZI a1
       exact⟨.ty "ValueError",.type "ValueError",.inr ⟨_,rfl,rfl⟩,.inr ⟨PySem.W.mg_none_of X G ht,%[|14],%[|2]⟩,ZI a2⟩
     . cases e
 . cases e
variable {Ω : Wd}
structure BT(Ω:Wd) where
 lev:Nat
 chk:%[|1]->Nm->List Stmt->Bool
 wp:Gam->Store->DL.Fin->Prop
 sound:∀{X:Cx}{r:Nat}{N:%[|1]}{nm:Nm}{sts:List Stmt}{Γ:Gam}{S:Store}{W:DL.Fin},At Ω X r true N nm->X.stack=X.env::X.outer->X.env.frame=some X.env.locals->X.ex=[]->lev≤r->chk N nm sts=true->wp Γ S W->Rns X Γ S sts W
def BT.cons(s:Sm Ω)(b:BT Ω):BT Ω where
 lev:=max s.lev b.lev
 chk N nm sts:=match sts with | st::sts=>s.chk true N nm st&&b.chk N nm sts | _=>false
 wp Γ S W:=s.wp Γ S {W with nx:=λ Γ1 S1=>b.wp Γ1 S1 W}
 sound:=by
  intro X r N nm sts Γ S W A h1 h2 h3 hl hc hw
  obtain⟨l1,l2⟩:=lv2 hl
  cases sts with
  | nil=>exact fE hc
  | cons st sts=>
    obtain⟨g1,g2⟩:=az hc
    exact Gi (Rn.mono (s.sound A l1 g1 hw) (λ G S1 q=>b.sound A h1 h2 h3 l2 g2 q) (λ _ _ q=>q) (λ _ _ q=>q) λ _ _ q=>q)
section
variable {X : Cx} {Γ : Gam} {S : Store} {W : DL.Fin} {WE : WX} {e : Expr}
theorem JV{P:Program}{w:World}{outer:List Env}{H1 H':Hp}{h1 B h2:Heap}{a C t:Addr}(fl:Fl P w outer H1 h1 H' B h2)(fw:Heap.FlyingW B outer a (.ref C) (.ref t) h2):∀b o,h1.get? b=some o->b≠a:=by
 intro b o q z
 by_cases hb:b∈frs outer
 . obtain⟨_,o',e',d⟩:=fw.2.2.1.mem hb
   obtain⟨oe,vs,e2,_,e3,_⟩:=fw.first
   rw[z,e2]at e'
   cases e'
   exact d vs e3
 . obtain⟨o',e'⟩:=fl.there b o q hb
   rw[z,fw.2.1]at e'
   cases e'
end
def Vh(N ps:%[|1])(sm:Stmt)(k:Nat)(body:BT Ω):Bool:=
 ((aq sm).kind==.function)&&(!(aq sm).isCoroutine&&(!(aq sm).isGenerator&&(decide N.Nodup&&(decide (N.take ps.length=ps)&&((ps.all λ x=>(aq sm).names.lookup x==some .local||(aq sm).names.lookup x==some .cell)&&
   (((aq sm).names.all λ y=>!(y.2==.free))&&(Nat.ble body.lev k&&body.chk N (aq sm).names (bM sm))))))))
theorem Wl(N0:Ω.cd=none){x qual:Str}{sm:Stmt}{f:Addr}{fd:FuncData}{N ps:%[|1]}{k:Nat}{F:Ct}(FF:Fun Ω.K x qual sm f fd)(body:BT Ω)(hc:Vh N ps sm k body=true)
 (vc:∀(ds:List D)(S:Store)(W:WD),F ds S W->ds.length=ps.length->body.wp (ds.map some++List.replicate (N.length-ds.length) none) S %[|25]):Ok Ω (k+1) f fd ps F:=by
 obtain⟨h1,h2,h3,h4,h5,h6,hc⟩:=oZ hc
 obtain⟨h7,h8,h9⟩:=bV hc
 have nd:N.Nodup:=ZF h4
 have sc:FnScope N ps (aq sm):=⟨ZI h1,nt h2,nt h3,nd,ZF h5,λ x hx=>by
  have:=List.all_eq_true.mp h6 x hx
  simpa using this,λ y hy e=>by
  have:=List.all_eq_true.mp h7 y hy
  simp[e]at this⟩
 refine Qh FF sc λ cdv A outer s H E ds S W _ hr hl h=>?_
 refine body.sound (r:=k) (N:=N) (nm:=(aq sm).names) ⟨rfl,rfl,rfl,rfl,rfl,hr,rfl,rfl,rfl,nd,sc.kind,λ x kk h=>.inl h,λ _ _=>rfl,λ _ p q=>nomatch (N0.symm.trans q)⟩ rfl rfl rfl (Nat.le_of_ble_eq_true h8) h9 (vc ds S W h hl)
end XE
namespace RF
open PySem PySem.Spec L2 DL
open PyProof.Rows
def isStr:D->Bool
 | .str _=>true
 | _=>false
theorem Rx(K:PySem.W.Frag)(d:D):PySem.W.kitOne K (.type (tyD d)) (.type "str")=some (isStr d):=by cases d<;>kernel_rfl
theorem QR{X:Cx}{Γ:Gam}{S:Store}{W:WD}{a:Expr}{p q pos:Pos}(h:Ev X Γ S a λ x S1=>W (.bl (isStr x)) S1)(hm1:X.mg "isinstance"=none)(hm:X.mg "str"=none)(hg1:Gl X "isinstance")(hg:Gl X "str")
 (hs1:starEach [a,.Name "str" q] X.env=(false,eval a X.env)::starEach [.Name "str" q] X.env):Ev X Γ S (.Call (.Name "isinstance" p) [a,.Name "str" q] [] pos) W:=by
 sleep 0
 have hc:cQ X (.builtin "isinstance") (λ xs H' Q=>∃v,xs=[v,.ty "str"]/\∃O' d S',StOk X.K O' H' S'/\Rep X.K O' H' v d/\Q (.bl (isStr d)) H'):=by
  intro pins s σ H xs us Q I r h
  obtain⟨v,rfl,O',d,S',st',rep,q⟩:=h
  obtain⟨u,u2,rfl,r1,r2⟩:=vals2 r
  cases r2
  refine Fo I st' rep r1 λ Z e p ne=>?_
  subst e
  exact PySem.W.kia_one Z I.kIn p (Rx X.K d) ne λ tk=>⟨.bl _,H,I.tok tk,rfl,q⟩
 refine kZ hc hg1 hm1 PyProof.Rows.boot_isinstance (bL h.pe (bL (vM hg hm (show bootBuiltins "str"=some (.type "str")from %[|14]) (v:=.ty "str") rfl %[|2] %[|2]) fH rfl) hs1) %[|2] %[|2] hs1 rfl pins s σ H _ I ⟨O,env,st,λ v H' q=>?_⟩
 obtain⟨O',d,S',w,st1,ok1,rep⟩:=q
 exact⟨v,rfl,O',d,S',ok1,rep,O',_,S',w,st1,ok1,.bl _⟩
section
variable {Ω : Wd}
def Ex.isiS(hm1:Ω.mg "isinstance"=none)(a:Ex Ω)(hm:Ω.mg "str"=none):Ex Ω where
 lev:=a.lev
 chk top N nm e:=gH e λ f es=>two2 es λ b n=>anB (nameV n) λ t=>(f==("isinstance":Str))&&((t==("str":Str))&&(glb nm "isinstance"&&(glb nm "str"&&(okE b&&a.chk top N nm b))))
 wp Γ S W:=a.wp Γ S λ x S1=>W (.bl (isStr x)) S1
 sound:=by
  sleep 1
  obtain⟨f,p,es,pos,rfl,g⟩:=cY hc
  obtain⟨b,n,rfl,g'⟩:=two2_of g
  have g':anB (nameV n) (λ t=>(f==("isinstance":Str))&&((t==("str":Str))&&(glb nm "isinstance"&&(glb nm "str"&&(okE b&&a.chk top N nm b)))))=true:=g'
  obtain⟨t,hn,hc⟩:=gn g'
  obtain⟨q,rfl⟩:=cG hn
  obtain⟨h1,h2,h3,h4,h5,h6⟩:=iM hc
  obtain rfl:=ZI h1
  obtain rfl:=ZI h2
  exact QR (a.sound A hl h6 hw) (by rw[A.g];exact hm1) (by rw[A.g];exact hm) (A.glb h3) (A.glb h4) (aF h5 _ _)
def unl(ns:%[|3]):Nat:=(firstMet (λ i=>ns.getD i 0) ns.length).length
theorem Aj{X:Cx}{ns:%[|3]}{S:Store}{W:WD}{d:D}(hc:X.calm=true)(hb:ns.length+1<scanBound)(hd:jB S d=some (ns.map .int))(w:W (.int (unl ns)) S)
 {pins:Pins}{s:Shared}{σ:DL.St}{H:Hp}{O:Own}{v:V}{u:Value}(I:%[|6])(st:StOk X.K O H S)(r':Rep X.K O H v d)(ru':RelV v u):
 wpAny %[|8] X.A (call (.type "set") [u]) (λ u1 s1=>wpAny %[|8] X.A (call (.builtin "len") [u1]) (EP X pins σ (QG X.K O H W)) X.xe s1) X.xe s:=by
 obtain⟨a,xs,rfl,hs,hq⟩:=yr (pins:=pins) (s:=s) (σ:=σ) (X:=X) st r' hd
 cases ru'
 obtain⟨its,rv,pl,hz⟩:=I.list hs
 have ex:xs=ns.map V.int:=hq.ints
 have hi:IntsAre its ns:=by
  rw[ex]at rv
  clear pl hz hs hq ex w hb hd
  induction ns generalizing its with
  | nil=>cases rv;exact .nil
  | cons n ns ih=>
    cases rv with
    | cons r1 r2=>obtain⟨t,rfl⟩:=r1;constructor;exact ih _ r2
 have hl:its.length=ns.length:=IntsAre.length hi
 refine call_set_list (items:=its.toArray) (ns:=ns) (I.ok.hd hc) pl.isList (by simpa using hi) (by rw[x9,hl];exact hb) λ h' tk hS hk=>?_
 have ez:its.toArray.size=ns.length:=by rw[x9,hl]
 rw[ez]at hS
 obtain⟨o,es,ep,t,ho,hex,hd',_,_,hsz,hf,hn⟩:=hS
 have I1:Inv X pins σ H {s with heap:=h',toks:=tk}:=I.kept (t':=tk) λ b o e=>hk b o (ZE e) e
 refine call_len_set (s:={s with heap:=h',toks:=tk}) ho hex hd' hf (by unfold scanBound at hsz;omega) ?_
 rw[hn]
 exact⟨.int _,H,I1.tok _,⟨_,rfl⟩,QG.here w st (.int _)⟩
def Ex.lset(hm:Ω.mg "len"=none)(hm2:Ω.mg "set"=none)(a:Ex Ω):Ex Ω where
 lev:=a.lev
 chk top N nm e:=gH e λ y es=>lz es λ c=>gH c λ z bs=>lz bs λ b=>(y=="len")&&((z=="set")&&(glb nm "len"&&(glb nm "set"&&(okE b&&a.chk top N nm b))))
 wp Γ S W:=a.wp Γ S λ d S1=>∃ns:%[|3],jB S1 d=some (ns.map .int)/\ns.length+1<scanBound/\W (.int (unl ns)) S1
 sound:=by
  sleep 1
  obtain⟨y,p,es,pos,rfl,hc_1⟩:=cY hc
  obtain⟨c,rfl,hc_2⟩:=eF hc_1
  obtain⟨z,p',bs,pos',rfl,hc_3⟩:=cY hc_2
  obtain⟨b,rfl,hc_4⟩:=eF hc_3
  have hc:=hc_4
  . skip
    obtain⟨h1,h2,h3,h4,h5,h6⟩:=iM hc
    have e1:=ZI h1
    have e2:=ZI h2
    subst e1 e2
    sleep 0
    refine wpAny_Call_Name_kw (cB I (A.glb h3) (by rw[A.g];exact hm) (show bootBuiltins "len"=some (.builtin "len")from %[|14]) ?_ %[|2] %[|2])
    refine PyProof.Rows.callWith_builtin1 ?_ rfl rfl
    show wpAny _ _ (spliced ((false,eval _ X.env)::backTo pos (starEach [] X.env))) _ _ s
    refine Calls.spliced_cons ?_
    refine wpAny_Call_Name_kw (cB I (A.glb h4) (by rw[A.g];exact hm2) (show bootBuiltins "set"=some (.type "set")from %[|14]) ?_ %[|2] %[|2])
    refine PyProof.Rows.callWith_type1 ?_ (aF h5 _ _) rfl
    rw[aF h5 [] X.env]
    show wpAny _ _ (spliced ((false,eval b X.env)::backTo pos' (starEach [] X.env))) _ _ s
    refine Calls.spliced_cons (thn (a.sound A hl h6 hw pins s σ H O I env st) λ u s1 hq_=>?_)
    obtain⟨v,H1,I1,r1,O1,x,S1,hb,st1,ok1,rep1⟩:=hq_
    obtain⟨ns,c1,c2,c3⟩:=hb
    refine Calls.spliced_nil ?_
    refine thn (Aj A.calm c2 c1 c3 I1 ok1 rep1 r1) λ u2 s2 q=>?_
    refine Calls.spliced_nil ?_
    exact thn q λ _ _ q=>du st1 q
theorem Px{c:Int}:∀(m:Nat),unl (List.replicate (m+1) c)=1:=by
 intro m
 unfold unl
 rw[List.length_replicate]
 have:∀k,k≤m->firstMet (λ i=>(List.replicate (m+1) c).getD i 0) (k+1)=[c]:=by
  intro k
  induction k with
  | zero=>intro _;rw[firstMet_succ,firstMet_zero];simp[step_dedup,List.replicate_succ]
  | succ k ih=>
    intro hk
    rw[firstMet_succ,ih %[|0]]
    have:(List.replicate (m+1) c).getD (k+1) 0=c:=by simp[List.getD,List.getElem?_replicate,show k+1<m+1 from %[|0]]
    rw[this]
    simp[step_dedup]
 rw[this m (x6 _)];rfl
end
end RF
namespace XE
open PySem PySem.Spec L2 DL RF
open PyProof.Rows
variable {Ω : Wd}
section
variable {X : Cx} {Γ : Gam} {S : Store} {sts : List Stmt} {W : DL.Fin} {WE : WX} {e : Expr} {pos : Pos}
theorem XQ.xr{pins:Pins}{σ:L2.St}{O:Own}{H:Hp}{ev:Value}{s2:Shared}(z:XQ X pins σ O H WE ev s2):XR X O H WE ev s2:=by
 obtain⟨H1,s1,E',h1,h2,h3⟩:=z
 exact .inr ⟨pins,σ,H1,s1,E',h1,h2,h3⟩
theorem VM(h:EvX X Γ S e (λ _ S1=>gW X Γ S1 sts W WE) WE)(hs:swapsWith e none pos.line X.env=pure false):gW X Γ S (.Expr e pos::sts) W WE:=by
 intro pins s σ H O I env ok
 refine wpAny_execs_cons (wpAny_Expr_any (wpAny_mono (h pins s σ H O I env ok) (λ v s1 hq=>?_) λ _ _ z=>z.xr) I.quiet hs)
 obtain⟨x,H1,I1,r1,O1,d,S1,w,st1,ok1,rep1⟩:=hq
 exact wpAny_mono (w pins s1 σ H1 O1 I1 (env.mono st1) ok1) (λ _ _ q=>lF st1 q) λ _ _ z=>z.pre st1
theorem VF(i:Nat){x:Str}{pos':Pos}(h:EvX X Γ S e (λ d S1=>gW X (Γ.set i (some d)) S1 sts W WE) WE)(hN:X.N.Nodup)(hi:X.N[i]? =some x)(hx:Loc X.env.scope x)
 (hs:swapsWith e (some (.Name x pos')) pos.line X.env=pure false)(hf:X.fn x=true∨X.env.scope.names.lookup x=some .local):gW X Γ S (.Assign [.Name x pos'] e pos::sts) W WE:=by
 intro pins s σ H O I env ok
 refine wpAny_execs_cons (wpAny_Assign_Name (wpAny_mono (h pins s σ H O I env ok) (λ v s1 hq=>?_) λ _ _ z=>z.xr) hs)
 obtain⟨y,H1,I1,r1,O1,d,S1,w,st1,ok1,rep1⟩:=hq
 refine iC I1 hN hi hx r1 (λ s2 I2=>?_) hf
 exact wpAny_mono (w pins s2 _ H1 O1 I2 ((env.mono st1).set rep1 i) ok1) (λ _ _ q=>lF st1 q) λ _ _ z=>z.pre st1
end
def sV:Expr->Bool
 | .Call (.Name _ _) _ [] _=>true
 | _=>false
theorem kj{e:Expr}{t:Option Expr}{l:Nat}{env:Env}(h:sV e=true):swapsWith e t l env=pure false:=by
 unfold sV at h
 split at h
 . rfl
 . cases h
def BX.exs(x:XEx Ω)(rest:BX Ω):BX Ω where
 lev:=max x.lev rest.lev
 chk top N nm sts:=match sts with | .Expr e _::sts=>sV e&&(x.chk top N nm e&&rest.chk top N nm sts) | _=>false
 wp Γ S W WE:=x.wp Γ S (λ _ S1=>rest.wp Γ S1 W WE) WE
 sound:=by
  intro X r top N nm sts Γ S W WE A hl hc hw
  obtain⟨l1,l2⟩:=lv2 hl
  split at hc
  . obtain⟨h0,h1,h2⟩:=bV hc
    refine VM (λ pins s σ H O I env ok=>wpAny_mono (x.sound A l1 h1 hw pins s σ H O I env ok) (λ v s1 hq=>?_) λ _ _ z=>z) (kj h0)
    obtain⟨y,H1,I1,r1,O1,d,S1,w,q⟩:=hq
    exact⟨y,H1,I1,r1,O1,d,S1,rest.sound A l2 h2 w,q⟩
  . exact fE hc
def BX.setx(i:Nat)(x:XEx Ω)(rest:BX Ω):BX Ω where
 lev:=max x.lev rest.lev
 chk top N nm sts:=match sts with | []=>false | st::sts=>setB st λ m e=>(N[i]? ==some m)&&(lcl top nm m&&(sV e&&(x.chk top N nm e&&rest.chk top N nm sts)))
 wp Γ S W WE:=x.wp Γ S (λ d S1=>rest.wp (Γ.set i (some d)) S1 W WE) WE
 sound:=by
  intro X r top N nm sts Γ S W WE A hl hc hw
  obtain⟨q1,q2⟩:=lv2 hl
  cases sts with
  | nil=>exact fE hc
  | cons st sts=>
    obtain⟨m,mp,e,sp,rfl,hc_1⟩:=vg hc
    have hc:=hc_1
    obtain⟨h1,h2,h3,h4,h5⟩:=Hm hc
    obtain⟨l1,l2⟩:=A.lcl h2
    refine VF i (λ pins s σ H O I env ok=>wpAny_mono (x.sound A q1 h4 hw pins s σ H O I env ok) (λ v s1 hq=>?_) λ _ _ z=>z) (by rw[show X.N=N from A.n];exact A.nd) (by rw[show X.N=N from A.n];exact ZI h1) l1 (kj h3) l2
    obtain⟨y,H1,I1,r1,O1,d,S1,w,q⟩:=hq
    exact⟨y,H1,I1,r1,O1,d,S1,rest.sound A q2 h5 w,q⟩
def TrS(X:Cx)(Γ:Gam)(S:Store)(sts:List Stmt)(W:DL.Fin)(WE:WX):Prop:=
 ∀ (pins:Pins)(s:Shared)(σ:L2.St)(H:Hp)(O:Own),%[|6]->EnvOk X.K O H σ Γ->StOk X.K O H S->
   wpAny %[|8] X.A (execs sts X.env) (SP X pins (ends X.K O H W)) (XQ X pins σ O H WE) s
structure TB(Ω:Wd) where
 lev:Nat
 chk:Bool->%[|1]->Nm->List Stmt->Bool
 wp:Gam->Store->DL.Fin->WX->Prop
 sound:∀{X:Cx}{r:Nat}{top:Bool}{N:%[|1]}{nm:Nm}{sts:List Stmt}{Γ:Gam}{S:Store}{W:DL.Fin}{WE:WX},At Ω X.nox r top N nm->lev≤r->chk top N nm sts=true->wp Γ S W WE->TrS X Γ S sts W WE
def TB.exs(x:XEx Ω):TB Ω where
 lev:=x.lev
 chk top N nm sts:=match sts with | [.Expr e _]=>sV e&&x.chk top N nm e | _=>false
 wp Γ S W WE:=x.wp Γ S (λ _ S1=>W.nx Γ S1) WE
 sound:=by
  intro X r top N nm sts Γ S W WE A hl hc hw
  split at hc
  . obtain⟨h0,h1⟩:=az hc
    intro pins s σ H O I env ok
    refine wpAny_execs_cons (wpAny_Expr_any (wpAny_mono (x.sound A hl h1 hw pins s σ H O I env ok) (λ v s1 hq=>?_) λ _ _ z=>z) I.quiet (kj h0))
    obtain⟨y,H1,I1,r1,O1,d,S1,w,st1,ok1,rep1⟩:=hq
    exact wpAny_execs_nil ⟨σ,H1,I1,O1,Γ,S1,w,st1,ok1,env.mono st1⟩
  . exact fE hc
def GF:Stmt->Option (List Stmt×ExceptHandler)
 | .Try b [h] [] [] _=>some (b,h)
 | _=>none
def Hi:ExceptHandler->Option (Expr×Str×List Stmt)
 | .ExceptHandler (some y) (some m) (b::bs) _=>some (y,m,b::bs)
 | _=>none
theorem Qs{st:Stmt}{b:List Stmt}{h:ExceptHandler}(e:GF st=some (b,h)):∃p,st=.Try b [h] [] [] p:=by
 unfold GF at e
 split at e
 . cases e;exact⟨_,rfl⟩
 . cases e
theorem RC{h:ExceptHandler}{y:Expr}{m:Str}{bs:List Stmt}(e:Hi h=some (y,m,bs)):∃c cs p,bs=c::cs/\h=.ExceptHandler (some y) (some m) (c::cs) p:=by
 unfold Hi at e
 split at e
 . cases e;exact⟨_,_,_,rfl,rfl⟩
 . cases e
end XE
namespace RF
open PySem PySem.Spec L2 DL
open PyProof.Rows
variable {Ω : Wd}
end RF
namespace RF
open PySem PySem.Spec L2 DL
open PyProof.Rows
variable {Ω : Wd}
theorem Qz{X:Cx}{S:Store}{W:WD}{ds:List D}(w:W (.loc S.length) (S++[ds])):cW X (.type "list") [.tup ds] S W:=bJ fC λ O H vs st r=>by
 obtain⟨v,rfl,r'⟩:=cF r
 cases r' with
 | @tup p xs _ h1 q1=>exact⟨p,xs,rfl,.inr h1.sq,λ l hl=>ou w st hl q1⟩
theorem Ss{X:Cx}{S:Store}{W:WD}{ds:List D}(w:W (.loc S.length) (S++[ds])):cW X (.type "list") [.lst ds] S W:=bJ fC λ O H vs st r=>by
 obtain⟨v,rfl,r'⟩:=cF r
 cases r' with
 | @lst p xs _ h1 q1=>exact⟨p,xs,rfl,.inl h1.sq,λ l hl=>ou w st hl q1⟩
def U9:Bc where
 x:="list"
 id:="list"
 boot:=%[|14]
 wp ds S W:=match ds with
  | [.tup ds]=>W (.loc S.length) (S++[ds])
  | [.lst ds]=>W (.loc S.length) (S++[ds])
  | _=>False
 sound:=by
  intro X ds S W hc hr h
  split at h
  . exact Qz h
  . exact Ss h
  . exact h.elim
end RF
namespace RF
open PySem PySem.Spec L2 DL
open PyProof.Rows
variable {Ω : Wd}
end RF
namespace RF
open PySem PySem.Spec L2 DL
open PyProof.Rows
variable {Ω : Wd}
end RF
namespace RF
open PySem PySem.Spec L2 DL
open PyProof.Rows
section
variable {Ω : Wd}
theorem vU{K:PySem.W.Frag}{O:Own}{H:Hp}:∀{vs:List V}{ds:List D},Reps K O H vs ds->Reps K O H vs.dropLast ds.dropLast
 | _,_,.nil=>.nil
 | _,_,.cons r .nil=>.nil
 | _,_,.cons r (.cons r' t)=>.cons r (vU (.cons r' t))
def Ex.m_pop0(o:Ex Ω):Ex Ω where
 lev:=o.lev
 chk top N nm e:=match e with | .Call (.Attribute x m p) [] [] q=>(m==("pop":Str))&&(nameE x&&((p.endLine==q.line)&&o.chk top N nm x)) | _=>false
 wp Γ S W:=o.wp Γ S λ x S1=>match x with | .loc k=>∃ds y,S1[k]? =some ds/\ds[ds.length-1]? =some y/\W y (S1.set k ds.dropLast) | _=>False
 sound:=by
  sleep 1
  split at hc
  . rename_i x m p q
    obtain⟨h1,h2,h3,h5⟩:=cA hc
    have e:=ZI h1
    subst e
    sleep 0
    have h:Ev X Γ S x λ x S1=>∃k,x=.loc k/\∃ds y,S1[k]? =some ds/\ds[ds.length-1]? =some y/\W y (S1.set k ds.dropLast):=(o.sound A hl h5 hw).mono λ x S1 q=>by
     cases x<;>first | exact q.elim | exact⟨_,rfl,q⟩
    refine Tf (T:="list") PySem.F.plainAttrs_list PySem.F.slot_list_pop PySem.F.type_list_pop VB (h.pe) (by cases x<;>first | rfl | exact ff h2) h3 pins s σ H _ I ⟨O,env,st,λ v H' q=>?_⟩
    obtain⟨O1,x,S1,⟨k,rfl,ds,y,hk,hy,w⟩,st1,ok1,rep1⟩:=q
    cases rep1 with
    | @loc a _ ha=>
      obtain⟨xs,hx,q1⟩:=ok1.obj k a ds ha hk
      obtain⟨v,hv,rv⟩:=q1.get hy
      rw[←q1.length]at hv
      exact⟨.inl ⟨rfl,xs,SqL.of hx⟩,a,xs,v,rfl,rfl,hx,hv,O1,y,_,w,st1.trans (Step.put (dO ha) _),ok1.put ha (vU q1),rv.mono (Step.put (dO ha) _)⟩
  . exact ff hc
end
def upI(n:Nat):%[|3]:=(List.range n).map λ(i:Nat)=>(0:Int)+(i:Int)
theorem Wk(n:Nat):DL.upTo 0 n=(upI n).map D.int:=by
 unfold DL.upTo upI
 rw[List.map_map];rfl
end RF
namespace XE
open PySem PySem.Spec L2 DL RF
open PyProof.Rows
variable {Ω : Wd}
section
variable {X : Cx} {Γ : Gam} {S : Store} {W : DL.Fin}
theorem Q6{L T:%[|1]}{hb:List HB}{i j:Nat}{n c:Str}{np hp pos cp np2 ap:Pos}{body rest:List Stmt}(E:ExF X.mg X.K L T)
 (h:TrS X Γ S body {W with nx:=λ _ _=>False} λ x S1=>x∈L/\∃o,HB.out (qOf x) hb=some o/\W.rt o.d S1)
 (hst:X.stack=X.env::X.outer)(hfr:X.env.frame=some X.env.locals)(hex:X.ex=[])(hN:X.N.Nodup)(hi:X.N[i]? =some n)(hn:X.env.scope.names.lookup n=some .local)(hok:okN n=true)
 (hj:X.N[j]? =some c)(hcl:X.env.scope.names.lookup c=some .local)(hokc:okN c=true)(hij:i≠j)(mi:X.mg "isinstance"=none)(mt:X.mg "int"=none)
 (gi:Gl X "isinstance")(gt:hb.any HB.isPick=true->Gl X "int")(gT:Gl X "TurnError")(hc:HB.chks c hb rest=true)(hT:∀b∈hb,∀y∈b.nms,y∈T/\Gl X y/\(y==("__debug__":Str))=false):
 Rns X Γ S (.Try body [.ExceptHandler (some (.Name "TurnError" np)) (some n) [.Assign [.Name c cp] (.Name n np2) ap] hp] [] [] pos::rest) W:=by
 sleep 0
 refine wpAny_execs_cons (wpAny_Try_except (wpAny_mono %[|16] (λ f s1 hq=>?_) λ ev s2 z=>?_))
 . cases f with
   | next=>
     obtain⟨σ',H',I',O1,Γ1,S1,w,_⟩:=hq
     exact(show False from w).elim
   | ret v=>exact hq
   | brk=>exact hq
   | cont=>exact hq
 . obtain⟨H1,s1,E',I1,cx,hE⟩:=z
   obtain⟨a,C,t,H',B,rfl,ho,hg,fl,fw,hq⟩:=cx
   obtain⟨x,O',S',hm,⟨hL,o,eo,hw⟩,st',ok'⟩:=hE C H' hq
   obtain⟨C',k1,k2,atr,⟨tt,k3,k4⟩,k5⟩:=E.cls x hL
   rw[k1]at hm
   cases hm
   have inv:∀h',Heap.FlyingW B X.stack a (.ref C) (.ref t) h'->s2.heap.UpToSlots h'->Inv X pins σ H' {s2 with heap:=h'}:=λ h' f u=>by
    have fl':=fl.on u fw.2.2.1
    exact Inv.call' (s':={s2 with heap:=h'}) (ch:=[]) I1 ho (fl'.un f.1) (fl'.hok.kept f.1) hg (λ b z=>nomatch z)
   have hH:H' a=none:=HOk.none fl.hok fw.2.1
   have hiσ:i<σ.length:=by rw[I.len];exact(y3.mp hi).1
   have hjσ:j<σ.length:=by rw[I.len];exact(y3.mp hj).1
   refine caught I1.ok I1 hex (JV fl fw) hst hfr fw inv fl.hok gT k3 %[|2] k4 hN hi hn λ s6 J=>?_
   refine wpAny_execs_cons (wpAny_Assign_Name (thn (ud (X:=XE.sup X (.ref a)) hi (.inl hn) (bZ hok).1 (bZ hok).2.1 pins s6 _ _ (λ v H7=>v=.ref a/\H7=upd H' a (.ext (bN a C))) J ⟨.ref a,List.getElem?_set_self hiσ,rfl,rfl⟩) λ v s7 hq_=>?_) (lq rfl _ _ _))
   obtain⟨y,H7,I7,r7,rfl,rfl⟩:=hq_
   refine iC (X:=XE.sup X (.ref a)) I7 hN hj (.inl hcl) r7 (λ s8 I8=>?_) (.inr hcl)
   refine wpAny_execs_nil ?_
   refine J3 (Inv.unsup I1.ok I8) hN hi hn λ s9 I9=>?_
   have sx:Sx X c j C (qOf x):=⟨hj,.inl hcl,(bZ hokc).1,(bZ hokc).2.1,atr,mi,gi⟩
   have hs:(((σ.set i (some (V.ref a))).set j (some (V.ref a))).set i none)[j]? =some (some (V.ref a)):=by
    rw[List.getElem?_set_ne hij,List.getElem?_set_self (by rw[List.length_set];exact hjσ)]
   have run:=HB.run (Y:=X) (a:=a) sx hs mt hb rest gt hc (λ b hb' y hy=>?_) s9 _ aL I9
   . refine wpAny_mono run (λ f s10 z=>?_) λ _ _ z=>z
     rw[eo]at z
     obtain⟨H10,I10,sm,u,rfl,r⟩:=z
     exact⟨o.v,_,H10,I10,r,O',o.d,S',hw,(st'.trans (Step.fresh hH _)).trans (Step.same sm),(ok'.fresh hH _).same sm,by cases o<;>constructor⟩
   . obtain⟨g1,g2,g3⟩:=hT b hb' y hy
     obtain⟨v,u,g4,g5,g6⟩:=k5 y g1
     exact⟨g2,g3,v,u,g4,g5,g6⟩
end
def Ve(sts:List Stmt)(c n:Str):Bool:=lz sts λ st=>setB st λ x e=>(x==c)&&(nameV e==some n)
theorem RB{sts:List Stmt}{c n:Str}(h:Ve sts c n=true):∃p q r,sts=[.Assign [.Name c p] (.Name n q) r]:=by
 obtain⟨st,rfl,h1⟩:=eF h
 obtain⟨x,p,e,r,rfl,h2⟩:=vg h1
 obtain⟨h3,h4⟩:=az h2
 obtain rfl:=ZI h3
 obtain⟨q,rfl⟩:=cG (ZI h4)
 exact⟨p,q,r,rfl⟩
def BT.tryc{L T:%[|1]}(E:ExF Ω.mg Ω.K L T)(mi:Ω.mg "isinstance"=none)(mt:Ω.mg "int"=none)(x:TB Ω)(i:Nat)(n:Str)(j:Nat)(c:Str)(hb:List HB):BT Ω where
 lev:=x.lev
 chk N nm sts:=match sts with
  | st::rest=>(match GF st with
    | some (b,h)=>(match Hi h with
      | some (y,m,suite)=>Ve suite c n&&((nameV y==some ("TurnError":Str))&&((m==n)&&(x.chk true N nm b&&(HB.chks c hb rest&&((nm.lookup n==some .local)&&((N[i]? ==some n)&&(okN n&&((nm.lookup c==some .local)&&((N[j]? ==some c)&&(okN c&&((i !=j)&&(glb nm "isinstance"&&((glb nm "int"|| !hb.any HB.isPick)&&(glb nm "TurnError"&&(hb.all λ b=>b.nms.all λ y=>T.contains y&&(glb nm y&&okN y))))))))))))))))
      | none=>false)
    | none=>false)
  | _=>false
 wp Γ S W:=x.wp Γ S {W with nx:=λ _ _=>False} λ y S1=>y∈L/\∃o,HB.out (qOf y) hb=some o/\W.rt o.d S1
 sound:=by
  intro X r N nm sts Γ S W A h1 h2 h3 hl hc hw
  cases sts with
  | nil=>exact fE hc
  | cons st rest=>
    cases e1:GF st with
    | none=>simp only[e1]at hc;exact fE hc
    | some w=>
      obtain⟨body,han⟩:=w
      simp only[e1]at hc
      cases e2:Hi han with
      | none=>simp only[e2]at hc;exact fE hc
      | some w=>
        obtain⟨y,m,suite⟩:=w
        simp only[e2]at hc
        obtain⟨c0,c1,c2,c3,c4,c5,hc⟩:=oZ hc
        obtain⟨c6,c7,d5,d6,d7,d8,hc⟩:=oZ hc
        obtain⟨c8,c9,c10,c11⟩:=cA hc
        obtain⟨p,rfl⟩:=Qs e1
        obtain⟨b,bs,hp,e3,rfl⟩:=RC e2
        obtain⟨p1,p2,p3,e4⟩:=RB c0
        rw[e4]at e3
        cases e3
        obtain⟨np,rfl⟩:=cG (ZI c1)
        obtain rfl:=ZI c2
        have A':At Ω X.nox r true N nm:=⟨A.p,A.w,A.k,A.g,A.b,A.room,rfl,A.calm,A.n,A.nd,A.kind,A.look,A.fn,A.cd⟩
        have loc:∀{z:Str},nm.lookup z=some .local->X.env.scope.names.lookup z=some .local:=λ{z} h=>by
         rcases A.look z _ h with q | ⟨q,_⟩
         . exact q
         . exact nomatch q
        refine Q6 (L:=L) (T:=T) (hb:=hb) (i:=i) (j:=j) (by rw[A.g,A.k];exact E) (x.sound (X:=X) A' hl c3 hw) h1 h2 h3 (by rw[A.n];exact A.nd) (by rw[A.n];exact ZI c6) (loc (ZI c5)) c7 (by rw[A.n];exact ZI d6) (loc (ZI d5)) d7 (by simpa using d8) (by rw[A.g];exact mi) (by rw[A.g];exact mt) (A.glb c8) (λ h=>A.glb (by rw[h]at c9;simpa using c9)) (A.glb c10) c4 λ b' hb' y hy=>?_
        have:=List.all_eq_true.mp (List.all_eq_true.mp c11 b' hb') y hy
        obtain⟨g1,g2,g3⟩:=bV this
        exact⟨by simpa using g1,A.glb g2,(bZ g3).1⟩
def _root_.RF.Ex.ofX(x:XEx Ω):Ex Ω where
 lev:=x.lev
 chk:=x.chk
 wp Γ S W:=x.wp Γ S W λ _ _=>False
 sound:=by
  sleep 1
  have A':At Ω X.nox r top N nm:=⟨A.p,A.w,A.k,A.g,A.b,A.room,rfl,A.calm,A.n,A.nd,A.kind,A.look,A.fn,A.cd⟩
  have h:=x.sound (X:=X) A' hl hc hw
  sleep 0
  refine wpAny_mono %[|16] (λ v s1 q=>q) λ ev s2 z=>?_
  obtain⟨H1,s1,E',I1,cx,hE⟩:=z
  obtain⟨a,C,t,H',B,rfl,ho,hg,fl,fw,hq⟩:=cx
  obtain⟨x,O',S',hm,w,st',ok'⟩:=hE C H' hq
  exact(show False from w).elim
end XE
set_option maxHeartbeats 4000000
namespace K44
open PySem L2 DL RF XE
variable {Ω : Wd} {f : Addr} {fd : FuncData}
def top(i:Nat):Stmt:=PySem.Challenge.pw_nestturn_k44_lines_that_are_free.main.body.getD i (.Pass ⟨0,0,0,0⟩)
structure Bi(mg:%[|15]):Prop where
 GREATEST_SIZE_:∃t,mg "GREATEST_SIZE"=some (.int 99 t)
 MOST_LINES_:∃t,mg "MOST_LINES"=some (.int 9 t)
 MOST_STEPS_:∃t,mg "MOST_STEPS"=some (.int 60 t)
 abs_:mg "abs"=none
 all_:mg "all"=none
 bool_:mg "bool"=none
 enumerate_:mg "enumerate"=none
 int_:mg "int"=none
 isinstance_:mg "isinstance"=none
 len_:mg "len"=none
 list_:mg "list"=none
 max_:mg "max"=none
 min_:mg "min"=none
 range_:mg "range"=none
 set_:mg "set"=none
 sorted_:mg "sorted"=none
 str_:mg "str"=none
 sum_:mg "sum"=none
 tuple_:mg "tuple"=none
 zip_:mg "zip"=none
abbrev XL:%[|1]:=["NoPlan","NoTurn"]
abbrev XT:%[|1]:=["NoOrder","NoPlan","NoProgram","NoRow","NoText","NoTurn","Tied","TooMany","ValueError"]
section
variable {Ω : Wd}
abbrev iG:Stmt:=top 11
abbrev Bh:%[|1]:=["thing"]
abbrev BV:%[|1]:=["thing"]
def zO(B:Bi Ω.mg):Bl Ω:=
 Bl.cons (Sm.ret (Ex.and (Bo.cons (Ex.isi B.isinstance_ %[|4] .int B.int_) (Bo.one (Ex.not (Ex.isi B.isinstance_ %[|4] .bool B.bool_)))))) Bl.nil
abbrev eV:Stmt:=top 12
abbrev sY:%[|1]:=["thing","least","most"]
abbrev tQ:%[|1]:=["thing","least","most"]
def tB(B:Bi Ω.mg):Bl Ω:=
 Bl.cons (Sm.ret (Ex.and (Bo.cons (Ex.isi B.isinstance_ %[|4] .tuple B.tuple_) (Bo.one (Ex.ch2 (Ex.var 1) .LtE (Ex.blt bc B.len_ %[|22]) .LtE (Ex.var 2)))))) Bl.nil
abbrev jJ:Stmt:=top 13
abbrev Cw:%[|1]:=["thing","d"]
abbrev Ed:%[|1]:=["thing","d"]
def DY(B:Bi Ω.mg){Fq44:Ct}(Cq44:Cal Ω "is_whole" 1 1 Fq44){Fq43:Ct}(Cq43:%[|24]):Bl Ω:=
 Bl.cons (Sm.ret (Ex.and (Bo.cons (Ex.call Cq43 (Ar.cons %[|4] (Ar.cons (Ex.bin .Add (Ex.var 1) (Ex.int 1)) (Ar.cons (Ex.bin .Add (Ex.var 1) (Ex.int 1)) Ar.nil)))) (Bo.one (Ex.blt eU B.all_ (Ar.cons (Ex.comp ["number"] [none] (Ex.call Cq44 %[|22]) (Tg.nm 0) (Itb.seq %[|4]) Cd.no) Ar.nil)))))) Bl.nil
abbrev il:Stmt:=top 14
abbrev zM:%[|1]:=["form","counts"]
abbrev zf:%[|1]:=["form","counts"]
def zV(B:Bi Ω.mg):Bl Ω:=
 Bl.cons (Sm.ret (Ex.bin .Add (Ex.ix %[|4] (Ex.int 0)) (Ex.blt Hx B.sum_ (Ar.cons (Ex.comp ["number","count"] [none,none] (Ex.bin .Mult %[|4] (Ex.var 1)) (Tg.tup [0,1]) (Itb.zip B.zip_ (Ex.sl %[|4] (Po.so (Ex.int 1)) Po.no) (Ex.var 1)) Cd.no) Ar.nil)))) Bl.nil
abbrev iK:Stmt:=top 15
abbrev Aq:%[|1]:=["thing","d"]
abbrev zL:%[|1]:=["thing","d"]
def uM(B:Bi Ω.mg){Fq28:Ct}(Cq28:Cal Ω "is_form" 2 2 Fq28):Bl Ω:=
 Bl.cons (Sm.ret (Ex.and (Bo.cons (Ex.ch2 (Ex.neg (Ex.int 9)) .LtE (Ex.ix %[|4] (Ex.int 0)) .LtE (Ex.int 9)) (Bo.one (Ex.blt eU B.all_ (Ar.cons (Ex.comp ["number"] [none] (Ex.ch2 (Ex.neg (Ex.int 2)) .LtE %[|4] .LtE (Ex.int 2)) (Tg.nm 0) (Itb.seq (Ex.sl %[|4] (Po.so (Ex.int 1)) Po.no)) Cd.no) Ar.nil)))))) Bl.nil
def z9(B:Bi Ω.mg){Fq28:Ct}(Cq28:Cal Ω "is_form" 2 2 Fq28):Bl Ω:=
 Bl.cons (Sm.ite (Te.not (Te.val (Ex.call Cq28 (Ar.cons %[|4] %[|17])))) (Bl.cons (Sm.ret (Ex.bl false)) Bl.nil) Bl.nil) (uM B Cq28)
abbrev ju:Stmt:=top 16
abbrev DQ:%[|1]:=["thing","d"]
abbrev CZ:%[|1]:=["thing","d"]
def Eb{Fq43:Ct}(Cq43:%[|24]){Fq26:Ct}(Cq26:Cal Ω "is_bound" 3 2 Fq26):Bl Ω:=
 Bl.cons (Sm.ret (Ex.and (Bo.cons (Ex.call Cq43 (Ar.cons %[|4] (Ar.cons (Ex.int 2) (Ar.cons (Ex.int 2) Ar.nil)))) (Bo.cons (Ex.call Cq26 (Ar.cons (Ex.ix %[|4] (Ex.int 0)) %[|17])) (Bo.one (Ex.call Cq26 (Ar.cons (Ex.ix %[|4] (Ex.int 1)) %[|17]))))))) Bl.nil
abbrev iJ:Stmt:=top 17
abbrev zp:%[|1]:=["thing"]
abbrev BJ:%[|1]:=["thing"]
def zb(B:Bi Ω.mg){Fq43:Ct}(Cq43:%[|24]){Fq31:Ct}(Cq31:Cal Ω "is_loop" 4 2 Fq31):Bl Ω:=
 Bl.cons (Sm.ret (Ex.and (Bo.cons (Ex.call Cq43 (Ar.cons %[|4] (Ar.cons (Ex.int 1) (Ar.cons (Ex.int 3) Ar.nil)))) (Bo.one (Ex.blt eU B.all_ (Ar.cons (Ex.comp ["k","loop"] [none,none] (Ex.call Cq31 (Ar.cons (Ex.var 1) %[|22])) (Tg.tup [0,1]) (Itb.enm B.enumerate_ %[|4]) Cd.no) Ar.nil)))))) Bl.nil
abbrev cN:Stmt:=top 18
abbrev mF:%[|1]:=["ahead","low","high","longer","counts","count"]
abbrev mG:%[|1]:=["ahead","low","high"]
section
variable (B : Bi Ω.mg) {Fq22 : Ct} (Cq22 : Cal Ω "comes_to" 1 2 Fq22)
def jU(B:Bi Ω.mg){Fq22:Ct}(Cq22:Cal Ω "comes_to" 1 2 Fq22):Bl Ω:=
 Bl.cons (Sm.ret (Ex.var 3)) Bl.nil
def jR:Bl Ω:=
 Bl.cons (Sm.forL (Tg.nm 4) %[|4] (Bl.cons (Sm.for (Tg.nm 5) (Itb.rng2 B.range_ (Ex.call Cq22 (Ar.cons (Ex.var 1) (Ar.cons (Ex.var 4) Ar.nil))) (Ex.call Cq22 (Ar.cons (Ex.var 2) (Ar.cons (Ex.var 4) Ar.nil)))) (Bl.cons (Sm.expr (Ex.m_append (Ex.var 3) (Ex.bin .Add (Ex.var 4) (Ex.tup (Ar.cons (Ex.var 5) Ar.nil))))) Bl.nil)) Bl.nil)) (jU B Cq22)
def mH:Bl Ω:=
 Bl.cons (Sm.set 3 (Ex.own Ar.nil)) (jR B Cq22)
end
abbrev gA:Stmt:=top 19
abbrev xN:%[|1]:=["loops","told","low","high"]
abbrev xW:%[|1]:=["loops"]
section
variable {Fq59 : Ct} (Cq59 : Cal Ω "with_next_count" 2 3 Fq59)
def sU{Fq59:Ct}(Cq59:Cal Ω "with_next_count" 2 3 Fq59):Bl Ω:=
 Bl.cons (Sm.ret (Ex.var 1)) Bl.nil
def tY:Bl Ω:=
 Bl.cons (Sm.forL (Tg.tup [2,3]) %[|4] (Bl.cons (Sm.set 1 (Ex.call Cq59 (Ar.cons (Ex.var 1) (Ar.cons (Ex.var 2) (Ar.cons (Ex.var 3) Ar.nil))))) Bl.nil)) (sU Cq59)
def xG:Bl Ω:=
 Bl.cons (Sm.set 1 (Ex.lst (Ar.cons (Ex.tup Ar.nil) Ar.nil))) (tY Cq59)
end
abbrev cP:Stmt:=top 22
abbrev mV:%[|1]:=["number"]
abbrev mQ:%[|1]:=["number"]
def mR(B:Bi Ω.mg):Bl Ω:=
 Bl.cons (Sm.ret (Ex.cmp .Lt (Ex.blt Xv B.abs_ %[|22]) (Ex.bin .Pow (Ex.int 10) (Ex.int 30)))) Bl.nil
abbrev gB:Stmt:=top 23
abbrev wR:%[|1]:=["thing"]
abbrev xF:%[|1]:=["thing"]
def xX(B:Bi Ω.mg){Fq44:Ct}(Cq44:Cal Ω "is_whole" 1 1 Fq44){Fq43:Ct}(Cq43:%[|24]):Bl Ω:=
 Bl.cons (Sm.ret (Ex.and (Bo.cons (Ex.call Cq43 (Ar.cons %[|4] (Ar.cons (Ex.int 1) (Ar.cons (Ex.int 3) Ar.nil)))) (Bo.one (Ex.blt eU B.all_ (Ar.cons (Ex.comp ["width"] [none] (Ex.and (Bo.cons (Ex.call Cq44 %[|22]) (Bo.one (Ex.ch2 (Ex.int 1) .LtE %[|4] .LtE (Ex.int 2))))) (Tg.nm 0) (Itb.seq %[|4]) Cd.no) Ar.nil)))))) Bl.nil
abbrev dG:Stmt:=top 24
abbrev qj:%[|1]:=["thing","d"]
abbrev qi:%[|1]:=["thing","d"]
def qm(B:Bi Ω.mg){Fq28:Ct}(Cq28:Cal Ω "is_form" 2 2 Fq28):Bl Ω:=
 Bl.cons (Sm.ret (Ex.and (Bo.cons (Ex.call Cq28 (Ar.cons %[|4] %[|17])) (Bo.one (Ex.blt eU B.all_ (Ar.cons (Ex.comp ["number"] [none] (Ex.ch2 (Ex.neg (Ex.int 99)) .LtE %[|4] .LtE (Ex.int 99)) (Tg.nm 0) (Itb.seq %[|4]) Cd.no) Ar.nil)))))) Bl.nil
abbrev gZ:Stmt:=top 25
abbrev yO:%[|1]:=["thing","d"]
abbrev yC:%[|1]:=["thing","d"]
def BP(B:Bi Ω.mg){Fq28:Ct}(Cq28:Cal Ω "is_form" 2 2 Fq28){Fq25:Ct}(Cq25:Cal Ω "has_few_figures" 1 1 Fq25):Bl Ω:=
 Bl.cons (Sm.ret (Ex.and (Bo.cons (Ex.call Cq28 (Ar.cons %[|4] %[|17])) (Bo.one (Ex.blt eU B.all_ (Ar.cons (Ex.comp ["number"] [none] (Ex.call Cq25 %[|22]) (Tg.nm 0) (Itb.seq %[|4]) Cd.no) Ar.nil)))))) Bl.nil
abbrev bW:Stmt:=top 26
abbrev jd:%[|1]:=["table","place","widths","d"]
abbrev je:%[|1]:=["table","place","widths","d"]
def gM(B:Bi Ω.mg){Fq44:Ct}(Cq44:Cal Ω "is_whole" 1 1 Fq44){Fq43:Ct}(Cq43:%[|24]){Fq36:Ct}(Cq36:Cal Ω "is_place_form" 3 2 Fq36):Bl Ω:=
 Bl.cons (Sm.ret (Ex.and (Bo.cons (Ex.call Cq43 (Ar.cons (Ex.var 1) (Ar.cons (Ex.ix (Ex.var 2) %[|4]) (Ar.cons (Ex.ix (Ex.var 2) %[|4]) Ar.nil)))) (Bo.one (Ex.blt eU B.all_ (Ar.cons (Ex.comp ["form","d"] [none,some 3] (Ex.call Cq36 (Ar.cons %[|4] %[|17])) (Tg.nm 0) (Itb.seq (Ex.var 1)) Cd.no) Ar.nil)))))) Bl.nil
def jb(B:Bi Ω.mg){Fq44:Ct}(Cq44:Cal Ω "is_whole" 1 1 Fq44){Fq43:Ct}(Cq43:%[|24]){Fq36:Ct}(Cq36:Cal Ω "is_place_form" 3 2 Fq36):Bl Ω:=
 Bl.cons (Sm.ite (Te.or (Bt.cons (Te.not (Te.val (Ex.call Cq44 %[|22]))) (Bt.one (Te.not (Te.ch2 (Ex.int 0) .LtE %[|4] .Lt (Ex.blt bc B.len_ (Ar.cons (Ex.var 2) Ar.nil))))))) (Bl.cons (Sm.ret (Ex.bl false)) Bl.nil) Bl.nil) (gM B Cq44 Cq43 Cq36)
abbrev jr:Stmt:=top 27
abbrev CJ:%[|1]:=["thing","widths","d"]
abbrev DK:%[|1]:=["thing","widths","d"]
section
variable {Fq44 : Ct} (Cq44 : Cal Ω "is_whole" 1 1 Fq44) {Fq43 : Ct} (Cq43 : %[|24]) {Fq25 : Ct} (Cq25 : Cal Ω "has_few_figures" 1 1 Fq25) {Fq42 : Ct} (Cq42 : Cal Ω "is_table_with_place" 4 4 Fq42)
def yf{Fq44:Ct}(Cq44:Cal Ω "is_whole" 1 1 Fq44){Fq43:Ct}(Cq43:%[|24]){Fq25:Ct}(Cq25:Cal Ω "has_few_figures" 1 1 Fq25){Fq42:Ct}(Cq42:Cal Ω "is_table_with_place" 4 4 Fq42):Bl Ω:=
 Bl.cons (Sm.ret (Ex.call Cq42 (Ar.cons (Ex.ix %[|4] (Ex.int 1)) (Ar.cons (Ex.ix %[|4] (Ex.int 2)) (Ar.cons (Ex.var 1) (Ar.cons (Ex.var 2) Ar.nil)))))) Bl.nil
def xJ:Bl Ω:=
 Bl.cons (Sm.ite (Te.or (Bt.cons (Te.not (Te.val (Ex.call Cq44 (Ar.cons (Ex.ix %[|4] (Ex.int 0)) Ar.nil)))) (Bt.one (Te.not (Te.val (Ex.call Cq25 (Ar.cons (Ex.ix %[|4] (Ex.int 0)) Ar.nil))))))) (Bl.cons (Sm.ret (Ex.bl false)) Bl.nil) Bl.nil) (yf Cq44 Cq43 Cq25 Cq42)
def DW:Bl Ω:=
 Bl.cons (Sm.ite (Te.not (Te.val (Ex.call Cq43 (Ar.cons %[|4] (Ar.cons (Ex.int 3) (Ar.cons (Ex.int 3) Ar.nil)))))) (Bl.cons (Sm.ret (Ex.bl false)) Bl.nil) Bl.nil) (xJ Cq44 Cq43 Cq25 Cq42)
end
abbrev iY:Stmt:=top 28
abbrev Ae:%[|1]:=["thing","widths","d"]
abbrev yN:%[|1]:=["thing","widths","d"]
def Ao(B:Bi Ω.mg){Fq43:Ct}(Cq43:%[|24]){Fq38:Ct}(Cq38:Cal Ω "is_read" 5 3 Fq38):Bl Ω:=
 Bl.cons (Sm.ret (Ex.and (Bo.cons (Ex.call Cq43 (Ar.cons %[|4] (Ar.cons (Ex.int 0) (Ar.cons (Ex.int 3) Ar.nil)))) (Bo.one (Ex.blt eU B.all_ (Ar.cons (Ex.comp ["read","widths","d"] [none,some 1,some 2] (Ex.call Cq38 (Ar.cons %[|4] (Ar.cons (Ex.var 1) (Ar.cons (Ex.var 2) Ar.nil)))) (Tg.nm 0) (Itb.seq %[|4]) Cd.no) Ar.nil)))))) Bl.nil
abbrev jw:Stmt:=top 29
abbrev Dn:%[|1]:=["thing","widths","d"]
abbrev Di:%[|1]:=["thing","widths","d"]
section
variable {Fq43 : Ct} (Cq43 : %[|24]) {Fq41 : Ct} (Cq41 : Cal Ω "is_start" 3 2 Fq41) {Fq42 : Ct} (Cq42 : Cal Ω "is_table_with_place" 4 4 Fq42) {Fq39 : Ct} (Cq39 : Cal Ω "is_reads" 6 3 Fq39)
def wJ{Fq43:Ct}(Cq43:%[|24]){Fq41:Ct}(Cq41:Cal Ω "is_start" 3 2 Fq41){Fq42:Ct}(Cq42:Cal Ω "is_table_with_place" 4 4 Fq42){Fq39:Ct}(Cq39:Cal Ω "is_reads" 6 3 Fq39):Bl Ω:=
 Bl.cons (Sm.ret (Ex.and (Bo.cons (Ex.call Cq41 (Ar.cons (Ex.ix %[|4] (Ex.int 2)) (Ar.cons (Ex.var 2) Ar.nil))) (Bo.one (Ex.call Cq39 (Ar.cons (Ex.ix %[|4] (Ex.int 3)) (Ar.cons (Ex.var 1) (Ar.cons (Ex.var 2) Ar.nil)))))))) Bl.nil
def xj:Bl Ω:=
 Bl.cons (Sm.ite (Te.not (Te.val (Ex.call Cq42 (Ar.cons (Ex.ix %[|4] (Ex.int 0)) (Ar.cons (Ex.ix %[|4] (Ex.int 1)) (Ar.cons (Ex.var 1) (Ar.cons (Ex.var 2) Ar.nil))))))) (Bl.cons (Sm.ret (Ex.bl false)) Bl.nil) Bl.nil) (wJ Cq43 Cq41 Cq42 Cq39)
def DR:Bl Ω:=
 Bl.cons (Sm.ite (Te.not (Te.val (Ex.call Cq43 (Ar.cons %[|4] (Ar.cons (Ex.int 4) (Ar.cons (Ex.int 4) Ar.nil)))))) (Bl.cons (Sm.ret (Ex.bl false)) Bl.nil) Bl.nil) (xj Cq43 Cq41 Cq42 Cq39)
end
abbrev jx:Stmt:=top 30
abbrev CK:%[|1]:=["thing","widths","d"]
abbrev Ef:%[|1]:=["thing","widths"]
section
variable (B : Bi Ω.mg) {Fq43 : Ct} (Cq43 : %[|24]) {Fq32 : Ct} (Cq32 : Cal Ω "is_loops" 5 1 Fq32) {Fq27 : Ct} (Cq27 : Cal Ω "is_deed" 7 3 Fq27)
def ye(B:Bi Ω.mg){Fq43:Ct}(Cq43:%[|24]){Fq32:Ct}(Cq32:Cal Ω "is_loops" 5 1 Fq32){Fq27:Ct}(Cq27:Cal Ω "is_deed" 7 3 Fq27):Bl Ω:=
 Bl.cons (Sm.ret (Ex.and (Bo.cons (Ex.call Cq43 (Ar.cons (Ex.ix %[|4] (Ex.int 1)) (Ar.cons (Ex.int 1) (Ar.cons (Ex.int 4) Ar.nil)))) (Bo.one (Ex.blt eU B.all_ (Ar.cons (Ex.comp ["deed","widths","d"] [none,some 1,some 2] (Ex.call Cq27 (Ar.cons %[|4] (Ar.cons (Ex.var 1) (Ar.cons (Ex.var 2) Ar.nil)))) (Tg.nm 0) (Itb.seq (Ex.ix %[|4] (Ex.int 1))) Cd.no) Ar.nil)))))) Bl.nil
def wX:Bl Ω:=
 Bl.cons (Sm.set 2 (Ex.blt bc B.len_ (Ar.cons (Ex.ix %[|4] (Ex.int 0)) Ar.nil))) (ye B Cq43 Cq32 Cq27)
def Dy:Bl Ω:=
 Bl.cons (Sm.ite (Te.or (Bt.cons (Te.not (Te.val (Ex.call Cq43 (Ar.cons %[|4] (Ar.cons (Ex.int 2) (Ar.cons (Ex.int 2) Ar.nil)))))) (Bt.one (Te.not (Te.val (Ex.call Cq32 (Ar.cons (Ex.ix %[|4] (Ex.int 0)) Ar.nil))))))) (Bl.cons (Sm.ret (Ex.bl false)) Bl.nil) Bl.nil) (wX B Cq43 Cq32 Cq27)
end
abbrev iQ:Stmt:=top 31
abbrev yX:%[|1]:=["thing","widths"]
abbrev Bx:%[|1]:=["thing","widths"]
def zr(B:Bi Ω.mg){Fq43:Ct}(Cq43:%[|24]){Fq33:Ct}(Cq33:Cal Ω "is_nest" 8 2 Fq33):Bl Ω:=
 Bl.cons (Sm.ret (Ex.and (Bo.cons (Ex.call Cq43 (Ar.cons %[|4] (Ar.cons (Ex.int 1) (Ar.cons (Ex.int 3) Ar.nil)))) (Bo.one (Ex.blt eU B.all_ (Ar.cons (Ex.comp ["nest","widths"] [none,some 1] (Ex.call Cq33 (Ar.cons %[|4] %[|17])) (Tg.nm 0) (Itb.seq %[|4]) Cd.no) Ar.nil)))))) Bl.nil
abbrev cO:Stmt:=top 32
abbrev mO:%[|1]:=["nests"]
abbrev mJ:%[|1]:=["nests"]
def mW(B:Bi Ω.mg){Fq23:Ct}(Cq23:Cal Ω "counts_of" 3 1 Fq23):Bl Ω:=
 Bl.cons (Sm.ret (Ex.blt Hx B.sum_ (Ar.cons (Ex.comp ["loops","deeds"] [none,none] (Ex.bin .Mult (Ex.blt bc B.len_ (Ar.cons (Ex.call Cq23 %[|22]) Ar.nil)) (Ex.blt bc B.len_ %[|17])) (Tg.tup [0,1]) (Itb.seq %[|4]) Cd.no) Ar.nil))) Bl.nil
abbrev fV:Stmt:=top 33
abbrev vO:%[|1]:=["widths","nests"]
abbrev uH:%[|1]:=["widths","nests"]
section
variable (B : Bi Ω.mg) {Fq45 : Ct} (Cq45 : Cal Ω "is_widths" 2 1 Fq45) {Fq35 : Ct} (Cq35 : Cal Ω "is_nests" 9 2 Fq35) {Fq51 : Ct} (Cq51 : Cal Ω "number_of_steps" 4 1 Fq51)
def rT(B:Bi Ω.mg){Fq45:Ct}(Cq45:Cal Ω "is_widths" 2 1 Fq45){Fq35:Ct}(Cq35:Cal Ω "is_nests" 9 2 Fq35){Fq51:Ct}(Cq51:Cal Ω "number_of_steps" 4 1 Fq51):Bl Ω:=
 Bl.cons (Sm.ret (Ex.tup (Ar.cons %[|4] %[|17]))) Bl.nil
def qO:Bl Ω:=
 Bl.cons (Sm.ite (Te.cmp .Gt (Ex.call Cq51 %[|17]) (Ex.gint B.MOST_STEPS_)) (Bl.cons Sm.never Bl.nil) Bl.nil) (rT B Cq45 Cq35 Cq51)
def qP:Bl Ω:=
 Bl.cons (Sm.ite (Te.not (Te.val (Ex.call Cq35 (Ar.cons (Ex.var 1) %[|22])))) (Bl.cons Sm.never Bl.nil) Bl.nil) (qO B Cq45 Cq35 Cq51)
def ut:Bl Ω:=
 Bl.cons (Sm.ite (Te.not (Te.val (Ex.call Cq45 %[|22]))) (Bl.cons Sm.never Bl.nil) Bl.nil) (qP B Cq45 Cq35 Cq51)
end
abbrev ir:Stmt:=top 34
abbrev zz:%[|1]:=["program","steps","nest","loops_and_deeds","counts","deed"]
abbrev zH:%[|1]:=["program"]
section
variable (B : Bi Ω.mg) {Fq23 : Ct} (Cq23 : Cal Ω "counts_of" 3 1 Fq23)
def vQ(B:Bi Ω.mg){Fq23:Ct}(Cq23:Cal Ω "counts_of" 3 1 Fq23):Bl Ω:=
 Bl.cons (Sm.ret (Ex.var 1)) Bl.nil
def uB:Bl Ω:=
 Bl.cons (Sm.for (Tg.tup [2,3]) (Itb.enm B.enumerate_ (Ex.ix %[|4] (Ex.int 1))) (Bl.cons (Sm.forL (Tg.nm 4) (Ex.call Cq23 (Ar.cons (Ex.ix (Ex.var 3) (Ex.int 0)) Ar.nil)) (Bl.cons (Sm.for (Tg.nm 5) (Itb.rng1 B.range_ (Ex.blt bc B.len_ (Ar.cons (Ex.ix (Ex.var 3) (Ex.int 1)) Ar.nil))) (Bl.cons (Sm.expr (Ex.m_append (Ex.var 1) (Ex.tup (Ar.cons (Ex.var 2) (Ar.cons (Ex.var 4) (Ar.cons (Ex.var 5) Ar.nil)))))) Bl.nil)) Bl.nil)) Bl.nil)) (vQ B Cq23)
def yZ:Bl Ω:=
 Bl.cons (Sm.set 1 (Ex.own Ar.nil)) (uB B Cq23)
end
abbrev jM:Stmt:=top 35
abbrev Dr:%[|1]:=["program","step"]
abbrev El:%[|1]:=["program","step"]
def Ea:Bl Ω:=
 Bl.cons (Sm.ret (Ex.ix (Ex.ix (Ex.ix (Ex.ix %[|4] (Ex.int 1)) (Ex.ix (Ex.var 1) (Ex.int 0))) (Ex.int 1)) (Ex.ix (Ex.var 1) (Ex.int 2)))) Bl.nil
abbrev jl:Stmt:=top 36
abbrev Dw:%[|1]:=["table","place","counts"]
abbrev Dq:%[|1]:=["table","place","counts"]
def DP(B:Bi Ω.mg){Fq22:Ct}(Cq22:Cal Ω "comes_to" 1 2 Fq22):Bl Ω:=
 Bl.cons (Sm.ret (Ex.tup (Ar.cons %[|4] (Ar.cons (Ex.typ bA B.tuple_ (Ar.cons (Ex.comp ["form","counts"] [none,some 2] (Ex.call Cq22 (Ar.cons %[|4] %[|17])) (Tg.nm 0) (Itb.seq (Ex.var 1)) Cd.no) Ar.nil)) Ar.nil)))) Bl.nil
abbrev dD:Stmt:=top 37
abbrev pW:%[|1]:=["program","step","counts","deed","reads"]
abbrev pZ:%[|1]:=["program","step"]
section
variable {Fq24 : Ct} (Cq24 : Cal Ω "deed_of" 1 2 Fq24) {Fq19 : Ct} (Cq19 : Cal Ω "cell_at" 2 3 Fq19)
def mX{Fq24:Ct}(Cq24:Cal Ω "deed_of" 1 2 Fq24){Fq19:Ct}(Cq19:Cal Ω "cell_at" 2 3 Fq19):Bl Ω:=
 Bl.cons (Sm.ret (Ex.tup (Ar.cons (Ex.call Cq19 (Ar.cons (Ex.ix (Ex.var 3) (Ex.int 0)) (Ar.cons (Ex.ix (Ex.var 3) (Ex.int 1)) (Ar.cons (Ex.var 2) Ar.nil)))) (Ar.cons (Ex.var 4) Ar.nil)))) Bl.nil
def mK:Bl Ω:=
 Bl.cons (Sm.setC 4 ["factor","table","place","counts"] [none,none,none,some 2] (Ex.call Cq19 (Ar.cons (Ex.var 1) (Ar.cons (Ex.var 2) (Ar.cons (Ex.var 3) Ar.nil)))) (Tg.tup [0,1,2]) (Itb.seq (Ex.ix (Ex.var 3) (Ex.int 3))) Cd.no) (mX Cq24 Cq19)
def mY:Bl Ω:=
 Bl.cons (Sm.set 3 (Ex.call Cq24 (Ar.cons %[|4] %[|17]))) (mK Cq24 Cq19)
def pX:Bl Ω:=
 Bl.cons (Sm.set 2 (Ex.ix (Ex.var 1) (Ex.int 1))) (mY Cq24 Cq19)
end
abbrev iD:Stmt:=top 38
abbrev Bp:%[|1]:=["program"]
abbrev zg:%[|1]:=["program"]
def yz{Fq57:Ct}(Cq57:Cal Ω "steps_of" 4 1 Fq57){Fq21:Ct}(Cq21:Cal Ω "cells_of_step" 3 2 Fq21):Bl Ω:=
 Bl.cons (Sm.ret (Ex.comp ["step","program"] [none,some 0] (Ex.call Cq21 (Ar.cons (Ex.var 1) %[|22])) (Tg.nm 0) (Itb.seq (Ex.call Cq57 %[|22])) Cd.no)) Bl.nil
abbrev dz:Stmt:=top 40
abbrev qg:%[|1]:=["one","other","told"]
abbrev qp:%[|1]:=["one","other"]
section
variable (B : Bi Ω.mg)
def fJ(B:Bi Ω.mg):Bl Ω:=
 Bl.cons (Sm.ret (Ex.ssetO B.sorted_ B.set_ (Ex.var 2))) Bl.nil
def fK:Bl Ω:=
 Bl.cons (Sm.ite (Te.cmp .In (Ex.ix (Ex.var 1) (Ex.int 0)) (Ex.ix %[|4] (Ex.int 1))) (Bl.cons (Sm.expr (Ex.m_append (Ex.var 2) (Ex.ix (Ex.var 1) (Ex.int 0)))) Bl.nil) Bl.nil) (fJ B)
def mD:Bl Ω:=
 Bl.cons (Sm.ite (Te.or (Bt.cons (Te.cmp .Eq (Ex.ix %[|4] (Ex.int 0)) (Ex.ix (Ex.var 1) (Ex.int 0))) (Bt.one (Te.cmp .In (Ex.ix %[|4] (Ex.int 0)) (Ex.ix (Ex.var 1) (Ex.int 1)))))) (Bl.cons (Sm.expr (Ex.m_append (Ex.var 2) (Ex.ix %[|4] (Ex.int 0)))) Bl.nil) Bl.nil) (fK B)
def pU:Bl Ω:=
 Bl.cons (Sm.set 2 (Ex.own Ar.nil)) (mD B)
end
abbrev nO:Stmt:=top 41
abbrev JD:%[|1]:=["program","cells","told","i","j","touched"]
abbrev J7:%[|1]:=["program"]
section
variable (B : Bi Ω.mg) {Fq20 : Ct} (Cq20 : Cal Ω "cells_of" 5 1 Fq20) {Fq58 : Ct} (Cq58 : Cal Ω "touched_cells" 1 2 Fq58)
def vq(B:Bi Ω.mg){Fq20:Ct}(Cq20:Cal Ω "cells_of" 5 1 Fq20){Fq58:Ct}(Cq58:Cal Ω "touched_cells" 1 2 Fq58):Bl Ω:=
 Bl.cons (Sm.ite (Te.lval (Ex.var 5)) (Bl.cons (Sm.expr (Ex.m_append (Ex.var 2) (Ex.tup (Ar.cons (Ex.var 3) (Ar.cons (Ex.var 4) (Ar.cons (Ex.var 5) Ar.nil)))))) Bl.nil) Bl.nil) Bl.nil
def Az:Bl Ω:=
 Bl.cons (Sm.set 5 (Ex.call Cq58 (Ar.cons (Ex.ix (Ex.var 1) (Ex.var 3)) (Ar.cons (Ex.ix (Ex.var 1) (Ex.var 4)) Ar.nil)))) (vq B Cq20 Cq58)
def Ej(B:Bi Ω.mg){Fq20:Ct}(Cq20:Cal Ω "cells_of" 5 1 Fq20){Fq58:Ct}(Cq58:Cal Ω "touched_cells" 1 2 Fq58):Bl Ω:=
 Bl.cons (Sm.ret (Ex.var 2)) Bl.nil
def Ds:Bl Ω:=
 Bl.cons (Sm.for (Tg.nm 3) (Itb.rng1 B.range_ (Ex.blt bc B.len_ %[|17])) (Bl.cons (Sm.for (Tg.nm 4) (Itb.rng2 B.range_ (Ex.bin .Add (Ex.var 3) (Ex.int 1)) (Ex.blt bc B.len_ %[|17])) (Az B Cq20 Cq58)) Bl.nil)) (Ej B Cq20 Cq58)
def Du:Bl Ω:=
 Bl.cons (Sm.set 2 (Ex.own Ar.nil)) (Ds B Cq20 Cq58)
def Iu:Bl Ω:=
 Bl.cons (Sm.set 1 (Ex.call Cq20 %[|22])) (Du B Cq20 Cq58)
end
abbrev jN:Stmt:=top 45
abbrev DX:%[|1]:=["thing","word"]
abbrev Do:%[|1]:=["thing","word"]
def Dv(B:Bi Ω.mg):Bl Ω:=
 Bl.cons (Sm.ret (Ex.and (Bo.cons (Ex.isiS B.isinstance_ %[|4] B.str_) (Bo.one (Ex.cmp .Eq %[|4] (Ex.var 1)))))) Bl.nil
abbrev jo:Stmt:=top 46
abbrev Cr:%[|1]:=["thing"]
abbrev Eg:%[|1]:=["thing"]
def Dp(B:Bi Ω.mg){Fq44:Ct}(Cq44:Cal Ω "is_whole" 1 1 Fq44):Bl Ω:=
 Bl.cons (Sm.ret (Ex.and (Bo.cons (Ex.call Cq44 %[|22]) (Bo.one (Ex.ch2 (Ex.int 1) .LtE %[|4] .LtE (Ex.gint B.GREATEST_SIZE_)))))) Bl.nil
abbrev jH:Stmt:=top 47
abbrev Cz:%[|1]:=["thing","d"]
abbrev Dh:%[|1]:=["thing","d"]
section
variable {Fq43 : Ct} (Cq43 : %[|24]) {Fq28 : Ct} (Cq28 : Cal Ω "is_form" 2 2 Fq28) {Fq46 : Ct} (Cq46 : Cal Ω "is_word" 1 2 Fq46) {Fq40 : Ct} (Cq40 : Cal Ω "is_size" 2 1 Fq40)
def yo{Fq43:Ct}(Cq43:%[|24]){Fq28:Ct}(Cq28:Cal Ω "is_form" 2 2 Fq28){Fq46:Ct}(Cq46:Cal Ω "is_word" 1 2 Fq46){Fq40:Ct}(Cq40:Cal Ω "is_size" 2 1 Fq40):Bl Ω:=
 Bl.cons (Sm.ret (Ex.bl false)) Bl.nil
def ym:Bl Ω:=
 Bl.cons (Sm.ite (Te.val (Ex.call Cq43 (Ar.cons %[|4] (Ar.cons (Ex.int 3) (Ar.cons (Ex.int 3) Ar.nil))))) (Bl.cons (Sm.ret (Ex.and (Bo.cons (Ex.call Cq46 (Ar.cons (Ex.ix %[|4] (Ex.int 0)) (Ar.cons (Ex.str "block") Ar.nil))) (Bo.cons (Ex.call Cq28 (Ar.cons (Ex.ix %[|4] (Ex.int 1)) %[|17])) (Bo.one (Ex.call Cq40 (Ar.cons (Ex.ix %[|4] (Ex.int 2)) Ar.nil))))))) Bl.nil) Bl.nil) (yo Cq43 Cq28 Cq46 Cq40)
def Dt:Bl Ω:=
 Bl.cons (Sm.ite (Te.val (Ex.call Cq43 (Ar.cons %[|4] (Ar.cons (Ex.int 2) (Ar.cons (Ex.int 2) Ar.nil))))) (Bl.cons (Sm.ret (Ex.and (Bo.cons (Ex.call Cq46 (Ar.cons (Ex.ix %[|4] (Ex.int 0)) (Ar.cons (Ex.str "form") Ar.nil))) (Bo.one (Ex.call Cq28 (Ar.cons (Ex.ix %[|4] (Ex.int 1)) %[|17])))))) Bl.nil) Bl.nil) (ym Cq43 Cq28 Cq46 Cq40)
end
abbrev iW:Stmt:=top 48
abbrev Bq:%[|1]:=["thing","d"]
abbrev BL:%[|1]:=["thing","d"]
def Am(B:Bi Ω.mg){Fq43:Ct}(Cq43:%[|24]){Fq29:Ct}(Cq29:Cal Ω "is_line" 3 2 Fq29):Bl Ω:=
 Bl.cons (Sm.ret (Ex.and (Bo.cons (Ex.call Cq43 (Ar.cons %[|4] (Ar.cons (Ex.int 1) (Ar.cons (Ex.gint B.MOST_LINES_) Ar.nil)))) (Bo.one (Ex.blt eU B.all_ (Ar.cons (Ex.comp ["line","d"] [none,some 1] (Ex.call Cq29 (Ar.cons %[|4] %[|17])) (Tg.nm 0) (Itb.seq %[|4]) Cd.no) Ar.nil)))))) Bl.nil
abbrev eE:Stmt:=top 49
abbrev rD:%[|1]:=["thing","nest","d","number"]
abbrev rA:%[|1]:=["thing","nest"]
section
variable (B : Bi Ω.mg) {Fq43 : Ct} (Cq43 : %[|24]) {Fq30 : Ct} (Cq30 : Cal Ω "is_lines" 4 2 Fq30)
def nC(B:Bi Ω.mg){Fq43:Ct}(Cq43:%[|24]){Fq30:Ct}(Cq30:Cal Ω "is_lines" 4 2 Fq30):Bl Ω:=
 Bl.cons (Sm.ret (Ex.and (Bo.cons (Ex.call Cq43 (Ar.cons %[|4] (Ar.cons (Ex.var 3) (Ar.cons (Ex.var 3) Ar.nil)))) (Bo.one (Ex.blt eU B.all_ (Ar.cons (Ex.comp ["lines","d"] [none,some 2] (Ex.call Cq30 (Ar.cons %[|4] %[|17])) (Tg.nm 0) (Itb.seq %[|4]) Cd.no) Ar.nil)))))) Bl.nil
def nW:Bl Ω:=
 Bl.cons (Sm.set 3 (Ex.blt bc B.len_ (Ar.cons (Ex.ix (Ex.var 1) (Ex.int 1)) Ar.nil))) (nC B Cq43 Cq30)
def rn:Bl Ω:=
 Bl.cons (Sm.set 2 (Ex.blt bc B.len_ (Ar.cons (Ex.ix (Ex.var 1) (Ex.int 0)) Ar.nil))) (nW B Cq43 Cq30)
end
abbrev cI:Stmt:=top 50
abbrev lA:%[|1]:=["nest_plans","told","deeds"]
abbrev lu:%[|1]:=["nest_plans"]
section
variable (B : Bi Ω.mg)
def jm(B:Bi Ω.mg):Bl Ω:=
 Bl.cons (Sm.ret (Ex.var 1)) Bl.nil
def jA:Bl Ω:=
 Bl.cons (Sm.forL (Tg.nm 2) %[|4] (Bl.cons (Sm.expr (Ex.m_extend (Ex.var 1) (Ex.comp ["lines"] [none] (Ex.blt bc B.len_ %[|22]) (Tg.nm 0) (Itb.seq (Ex.var 2)) Cd.no))) Bl.nil)) (jm B)
def km:Bl Ω:=
 Bl.cons (Sm.set 1 (Ex.own Ar.nil)) (jA B)
end
abbrev jC:Stmt:=top 51
abbrev Dz:%[|1]:=["program","thing","nests"]
abbrev Ec:%[|1]:=["program","thing"]
section
variable (B : Bi Ω.mg) {Fq43 : Ct} (Cq43 : %[|24]) {Fq34 : Ct} (Cq34 : Cal Ω "is_nest_plan" 5 2 Fq34) {Fq52 : Ct} (Cq52 : Cal Ω "numbers_of_lines" 1 1 Fq52)
def xU(B:Bi Ω.mg){Fq43:Ct}(Cq43:%[|24]){Fq34:Ct}(Cq34:Cal Ω "is_nest_plan" 5 2 Fq34){Fq52:Ct}(Cq52:Cal Ω "numbers_of_lines" 1 1 Fq52):Bl Ω:=
 Bl.cons (Sm.ret (Ex.cmp .Eq (Ex.lset B.len_ B.set_ (Ex.call Cq52 %[|17])) (Ex.int 1))) Bl.nil
def wL:Bl Ω:=
 Bl.cons (Sm.ite (Te.not (Te.val (Ex.blt eU B.all_ (Ar.cons (Ex.comp ["part","nest"] [none,none] (Ex.call Cq34 (Ar.cons %[|4] %[|17])) (Tg.tup [0,1]) (Itb.zip B.zip_ (Ex.var 1) (Ex.var 2)) Cd.no) Ar.nil)))) (Bl.cons (Sm.ret (Ex.bl false)) Bl.nil) Bl.nil) (xU B Cq43 Cq34 Cq52)
def xH:Bl Ω:=
 Bl.cons (Sm.ite (Te.not (Te.val (Ex.call Cq43 (Ar.cons (Ex.var 1) (Ar.cons (Ex.blt bc B.len_ (Ar.cons (Ex.var 2) Ar.nil)) (Ar.cons (Ex.blt bc B.len_ (Ar.cons (Ex.var 2) Ar.nil)) Ar.nil)))))) (Bl.cons (Sm.ret (Ex.bl false)) Bl.nil) Bl.nil) (wL B Cq43 Cq34 Cq52)
def CV:Bl Ω:=
 Bl.cons (Sm.set 2 (Ex.ix %[|4] (Ex.int 1))) (xH B Cq43 Cq34 Cq52)
end
abbrev cT:Stmt:=top 52
abbrev nJ:%[|1]:=["program","plan"]
abbrev m7:%[|1]:=["program","plan"]
def oJ(E:ExF Ω.mg Ω.K XL XT){Fq37:Ct}(Cq37:Cal Ω "is_plan" 6 2 Fq37):BX Ω:=
 (BX.ifr (E.exc (x:="NoPlan") %[|2]) (Te.not (Te.val (Ex.call Cq37 (Ar.cons %[|4] %[|17])))) (BX.of Bl.nil))
abbrev dH:Stmt:=top 53
abbrev pQ:%[|1]:=["line","counts","worth"]
abbrev qb:%[|1]:=["line","counts"]
def mL{Fq22:Ct}(Cq22:Cal Ω "comes_to" 1 2 Fq22):Bl Ω:=
 Bl.cons (Sm.ret (Ex.ifE (Te.cmp .Eq (Ex.ix %[|4] (Ex.int 0)) (Ex.str "block")) (Ex.fdiv (Ex.var 2) (Ex.ix %[|4] (Ex.int 2))) (Ex.var 2))) Bl.nil
def qd{Fq22:Ct}(Cq22:Cal Ω "comes_to" 1 2 Fq22):Bl Ω:=
 Bl.cons (Sm.set 2 (Ex.call Cq22 (Ar.cons (Ex.ix %[|4] (Ex.int 1)) %[|17]))) (mL Cq22)
abbrev lU:Stmt:=top 54
abbrev Ig:%[|1]:=["plan","step"]
abbrev GP:%[|1]:=["plan","step"]
def GQ(B:Bi Ω.mg){Fq49:Ct}(Cq49:Cal Ω "line_comes_to" 2 2 Fq49):Bl Ω:=
 Bl.cons (Sm.ret (Ex.typ bA B.tuple_ (Ar.cons (Ex.comp ["line","step"] [none,some 1] (Ex.call Cq49 (Ar.cons %[|4] (Ar.cons (Ex.ix (Ex.var 1) (Ex.int 1)) Ar.nil))) (Tg.nm 0) (Itb.seq (Ex.ix (Ex.ix %[|4] (Ex.ix (Ex.var 1) (Ex.int 0))) (Ex.ix (Ex.var 1) (Ex.int 2)))) Cd.no) Ar.nil))) Bl.nil
abbrev rG:Stmt:=top 55
abbrev Mf:%[|1]:=["program","plan"]
abbrev Ou:%[|1]:=["program","plan"]
def GX(E:ExF Ω.mg Ω.K XL XT){Fq57:Ct}(Cq57:Cal Ω "steps_of" 4 1 Fq57){Fq56:XCt}(Cq56:cC Ω "refuse_no_plan" 7 2 Fq56){Fq47:Ct}(Cq47:Cal Ω "key_of" 3 2 Fq47):BX Ω:=
 (BX.cons (Sm.ret (Ex.comp ["step","plan"] [none,some 1] (Ex.call Cq47 (Ar.cons (Ex.var 1) %[|22])) (Tg.nm 0) (Itb.seq (Ex.call Cq57 %[|22])) Cd.no)) (BX.of Bl.nil))
def PN(E:ExF Ω.mg Ω.K XL XT){Fq57:Ct}(Cq57:Cal Ω "steps_of" 4 1 Fq57){Fq56:XCt}(Cq56:cC Ω "refuse_no_plan" 7 2 Fq56){Fq47:Ct}(Cq47:Cal Ω "key_of" 3 2 Fq47):BX Ω:=
 (BX.exs (XEx.call Cq56 (Ar.cons %[|4] %[|17])) (GX E Cq57 Cq56 Cq47))
abbrev cM:Stmt:=top 57
abbrev mC:%[|1]:=["plan"]
abbrev mU:%[|1]:=["plan"]
def mz(B:Bi Ω.mg):Bl Ω:=
 Bl.cons (Sm.ret (Ex.blt bc B.len_ (Ar.cons (Ex.ix (Ex.ix %[|4] (Ex.int 0)) (Ex.int 0)) Ar.nil))) Bl.nil
abbrev cU:Stmt:=top 58
abbrev oA:%[|1]:=["plan","at"]
abbrev oX:%[|1]:=["plan","at"]
def m8(E:ExF Ω.mg Ω.K XL XT){Fq50:Ct}(Cq50:Cal Ω "number_of_lines" 1 1 Fq50):BX Ω:=
 (BX.ifr (E.exc (x:="NoTurn") %[|2]) (Te.not (Te.ch2 (Ex.int 0) .LtE (Ex.var 1) .Lt (Ex.call Cq50 %[|22]))) (BX.of Bl.nil))
abbrev jy:Stmt:=top 60
abbrev Cu:%[|1]:=["program","plan","a","told_keys","i","j","cells","one","other"]
abbrev Eh:%[|1]:=["program","plan","a"]
section
variable (E : ExF Ω.mg Ω.K XL XT) {Fq53 : Ct} (Cq53 : Cal Ω "pairs" 6 1 Fq53) {Fq48 : XCt} (Cq48 : cC Ω "keys" 8 2 Fq48) {Fq55 : XCt} (Cq55 : cC Ω "refuse_no_line" 2 2 Fq55)
def rE(E:ExF Ω.mg Ω.K XL XT){Fq53:Ct}(Cq53:Cal Ω "pairs" 6 1 Fq53){Fq48:XCt}(Cq48:cC Ω "keys" 8 2 Fq48){Fq55:XCt}(Cq55:cC Ω "refuse_no_line" 2 2 Fq55):Bl Ω:=
 Bl.cons (Sm.ite (Te.and (Bt.cons (Te.cmp .Eq (Ex.sl (Ex.var 7) Po.no (Po.so (Ex.var 2))) (Ex.sl (Ex.var 8) Po.no (Po.so (Ex.var 2)))) (Bt.one (Te.cmp .NotEq (Ex.ix (Ex.var 7) (Ex.var 2)) (Ex.ix (Ex.var 8) (Ex.var 2)))))) (Bl.cons (Sm.ret (Ex.tup (Ar.cons (Ex.var 4) (Ar.cons (Ex.var 5) Ar.nil)))) Bl.nil) Bl.nil) Bl.nil
def rP:Bl Ω:=
 Bl.cons (Sm.set 8 (Ex.ix (Ex.var 3) (Ex.var 5))) (rE E Cq53 Cq48 Cq55)
def vL:Bl Ω:=
 Bl.cons (Sm.set 7 (Ex.ix (Ex.var 3) (Ex.var 4))) (rP E Cq53 Cq48 Cq55)
def tD(E:ExF Ω.mg Ω.K XL XT){Fq53:Ct}(Cq53:Cal Ω "pairs" 6 1 Fq53){Fq48:XCt}(Cq48:cC Ω "keys" 8 2 Fq48){Fq55:XCt}(Cq55:cC Ω "refuse_no_line" 2 2 Fq55):Bl Ω:=
 Bl.cons (Sm.ret Ex.non) Bl.nil
def xO:Bl Ω:=
 Bl.cons (Sm.forL (Tg.tup [4,5,6]) (Ex.call Cq53 %[|22]) (vL E Cq53 Cq48 Cq55)) (tD E Cq53 Cq48 Cq55)
def yc(E:ExF Ω.mg Ω.K XL XT){Fq53:Ct}(Cq53:Cal Ω "pairs" 6 1 Fq53){Fq48:XCt}(Cq48:cC Ω "keys" 8 2 Fq48){Fq55:XCt}(Cq55:cC Ω "refuse_no_line" 2 2 Fq55):BX Ω:=
 (BX.of (Bl.drp (xO E Cq53 Cq48 Cq55)))
def xT:BX Ω:=
 (BX.exs (XEx.call Cq55 (Ar.cons (Ex.var 1) (Ar.cons (Ex.var 2) Ar.nil))) (yc E Cq53 Cq48 Cq55))
def Dm:BX Ω:=
 (BX.setx 3 (XEx.call Cq48 (Ar.cons %[|4] %[|17])) (xT E Cq53 Cq48 Cq55))
end
abbrev rK:Stmt:=top 62
abbrev Mz:%[|1]:=["_law_script","_law_k","_law_number"]
abbrev Oh:%[|1]:=["_law_script","_law_k"]
section
variable (B : Bi Ω.mg)
def tG(B:Bi Ω.mg):Bl Ω:=
 Bl.cons (Sm.ret (Ex.var 2)) Bl.nil
def GR:Bl Ω:=
 Bl.cons (Sm.ite (Te.cmp .Gt (Ex.blt bc B.len_ %[|22]) (Ex.int 0)) (Bl.cons (Sm.set 2 (Ex.bin .Add (Ex.bin .Mult (Ex.ix %[|4] (Ex.bin .Mod (Ex.bin .Mult (Ex.var 1) (Ex.int 19)) (Ex.blt bc B.len_ %[|22]))) (Ex.int 69621)) (Ex.bin .Mult (Ex.bin .Mult (Ex.var 1) (Ex.var 1)) (Ex.int 5003)))) Bl.nil) Bl.nil) (tG B)
def sX:Bl Ω:=
 Bl.cons (Sm.set 2 (Ex.bin .Add (Ex.bin .Mult (Ex.int 50021) (Ex.var 1)) (Ex.int 17))) (GR B)
def OD:Bl Ω:=
 Bl.cons (Sm.ite (Te.cmp .Lt (Ex.var 1) (Ex.blt bc B.len_ %[|22])) (Bl.cons (Sm.ret (Ex.ix %[|4] (Ex.var 1))) Bl.nil) Bl.nil) (sX B)
end
abbrev rN:Stmt:=top 63
abbrev M7:%[|1]:=["_law_pen_here","_law_many","_law_digit","_law_number"]
abbrev Mm:%[|1]:=["_law_pen_here","_law_many"]
section
variable {Fq1 : Ct} (Cq1 : Cal Ω "_law_cell" 1 2 Fq1)
def xZ{Fq1:Ct}(Cq1:Cal Ω "_law_cell" 1 2 Fq1):Bl Ω:=
 Bl.cons (Sm.ret (Ex.var 2)) Bl.nil
def xf:Bl Ω:=
 Bl.cons (Sm.setIx %[|4] (Ex.int 3) (Ex.fdiv (Ex.ix %[|4] (Ex.int 3)) (Ex.var 1))) (xZ Cq1)
def CQ:Bl Ω:=
 Bl.cons (Sm.set 2 (Ex.bin .Mod (Ex.ix %[|4] (Ex.int 3)) (Ex.var 1))) (xf Cq1)
def Hb{Fq1:Ct}(Cq1:Cal Ω "_law_cell" 1 2 Fq1):Bl Ω:=
 Bl.cons (Sm.ret (Ex.bin .Mod (Ex.fdiv (Ex.var 3) (Ex.int 16)) (Ex.var 1))) Bl.nil
def HH:Bl Ω:=
 Bl.cons (Sm.set 3 (Ex.bin .Mod (Ex.bin .Add (Ex.bin .Mult (Ex.var 3) (Ex.var 3)) (Ex.bin .Mult (Ex.ix %[|4] (Ex.int 1)) (Ex.int 7919))) (Ex.int 2147483477))) (Hb Cq1)
def HJ:Bl Ω:=
 Bl.cons (Sm.set 3 (Ex.bin .Mod (Ex.bin .Mult (Ex.bin .Add (Ex.bin .Mod (Ex.call Cq1 (Ar.cons (Ex.ix %[|4] (Ex.int 0)) (Ar.cons (Ex.ix %[|4] (Ex.int 1)) Ar.nil))) (Ex.int 2147483563)) (Ex.ix %[|4] (Ex.int 1))) (Ex.int 48271)) (Ex.int 2147483563))) (HH Cq1)
def Hz:Bl Ω:=
 Bl.cons (Sm.setIx %[|4] (Ex.int 1) (Ex.bin .Add (Ex.ix %[|4] (Ex.int 1)) (Ex.int 1))) (HJ Cq1)
def Oq:Bl Ω:=
 Bl.cons (Sm.ite (Te.cmp .Eq (Ex.bin .Mod (Ex.ix %[|4] (Ex.int 2)) (Ex.int 2)) (Ex.int 0)) (CQ Cq1) Bl.nil) (Hz Cq1)
end
abbrev uW:Stmt:=top 64
abbrev R5:%[|1]:=["_law_script"]
abbrev QC:%[|1]:=["_law_script"]
def QJ{Fq1:Ct}(Cq1:Cal Ω "_law_cell" 1 2 Fq1):Bl Ω:=
 Bl.cons (Sm.ret (Ex.own (Ar.cons %[|4] (Ar.cons (Ex.int 0) (Ar.cons (Ex.call Cq1 (Ar.cons %[|4] (Ar.cons (Ex.int 0) Ar.nil))) (Ar.cons (Ex.fdiv (Ex.call Cq1 (Ar.cons %[|4] (Ar.cons (Ex.int 0) Ar.nil))) (Ex.int 2)) Ar.nil)))))) Bl.nil
abbrev oM:Stmt:=top 65
abbrev KC:%[|1]:=["_law_pen_here","_law_loops_here","_law_k","_law_low","_law_high","_law_j"]
abbrev Jg:%[|1]:=["_law_pen_here"]
section
variable (B : Bi Ω.mg) {Fq8 : Ct} (Cq8 : %[|23])
def uE(B:Bi Ω.mg){Fq8:Ct}(Cq8:%[|23]):Bl Ω:=
 Bl.cons (Sm.expr (Ex.m_append (Ex.var 1) (Ex.tup (Ar.cons (Ex.typ bA B.tuple_ (Ar.cons (Ex.var 3) Ar.nil)) (Ar.cons (Ex.typ bA B.tuple_ (Ar.cons (Ex.var 4) Ar.nil)) Ar.nil))))) Bl.nil
def uv:Bl Ω:=
 Bl.cons (Sm.for (Tg.nm 5) (Itb.rng2 B.range_ (Ex.int 1) (Ex.bin .Add (Ex.var 2) (Ex.int 1))) (Bl.cons (Sm.setIx (Ex.var 4) (Ex.var 5) (Ex.blt Xr B.max_ (Ar.cons (Ex.neg (Ex.int 2)) (Ar.cons (Ex.blt XS B.min_ (Ar.cons (Ex.int 2) (Ar.cons (Ex.bin .Add (Ex.ix (Ex.var 4) (Ex.var 5)) (Ex.ix (Ex.lst (Ar.cons (Ex.int 0) (Ar.cons (Ex.int 0) (Ar.cons (Ex.int 1) (Ar.cons (Ex.neg (Ex.int 1)) (Ar.cons (Ex.int 0) (Ar.cons (Ex.int 0) Ar.nil))))))) (Ex.call Cq8 (Ar.cons %[|4] (Ar.cons (Ex.int 6) Ar.nil))))) Ar.nil))) Ar.nil)))) Bl.nil)) (uE B Cq8)
def vK:Bl Ω:=
 Bl.cons (Sm.setIx (Ex.var 4) (Ex.int 0) (Ex.bin .Add (Ex.ix (Ex.var 3) (Ex.int 0)) (Ex.ix (Ex.lst (Ar.cons (Ex.int 2) (Ar.cons (Ex.int 1) (Ar.cons (Ex.int 3) (Ar.cons (Ex.int 4) (Ar.cons (Ex.int 2) (Ar.cons (Ex.int 3) (Ar.cons (Ex.int 0) Ar.nil)))))))) (Ex.call Cq8 (Ar.cons %[|4] (Ar.cons (Ex.int 7) Ar.nil)))))) (uv B Cq8)
def vB:Bl Ω:=
 Bl.cons (Sm.set 4 (Ex.typ U9 B.list_ (Ar.cons (Ex.var 3) Ar.nil))) (vK B Cq8)
def oO:Bl Ω:=
 Bl.cons (Sm.set 3 (Ex.binL false .Add (Ex.lst (Ar.cons (Ex.bin .Sub (Ex.call Cq8 (Ar.cons %[|4] (Ar.cons (Ex.int 5) Ar.nil))) (Ex.int 2)) Ar.nil)) (Ex.comp ["_law_j","_law_pen_here"] [none,some 0] (Ex.ix (Ex.lst (Ar.cons (Ex.int 0) (Ar.cons (Ex.int 0) (Ar.cons (Ex.int 1) (Ar.cons (Ex.neg (Ex.int 1)) Ar.nil))))) (Ex.call Cq8 (Ar.cons (Ex.var 1) (Ar.cons (Ex.int 4) Ar.nil)))) (Tg.nm 0) (Itb.rng1 B.range_ (Ex.var 2)) Cd.no))) (vB B Cq8)
def Cm(B:Bi Ω.mg){Fq8:Ct}(Cq8:%[|23]):Bl Ω:=
 Bl.cons (Sm.ret (Ex.var 1)) Bl.nil
def Dg:Bl Ω:=
 Bl.cons (Sm.for (Tg.nm 2) (Itb.rng1 B.range_ (Ex.bin .Add (Ex.int 1) (Ex.call Cq8 (Ar.cons %[|4] (Ar.cons (Ex.int 3) Ar.nil))))) (oO B Cq8)) (Cm B Cq8)
def Jd:Bl Ω:=
 Bl.cons (Sm.set 1 (Ex.own Ar.nil)) (Dg B Cq8)
end
abbrev oh:Stmt:=top 66
abbrev IW:%[|1]:=["_law_form","_law_counts"]
abbrev Ip:%[|1]:=["_law_form","_law_counts"]
def JT(B:Bi Ω.mg):Bl Ω:=
 Bl.cons (Sm.ret (Ex.bin .Add (Ex.ix %[|4] (Ex.int 0)) (Ex.blt Hx B.sum_ (Ar.cons (Ex.comp ["_law_one","_law_other"] [none,none] (Ex.bin .Mult %[|4] (Ex.var 1)) (Tg.tup [0,1]) (Itb.zip B.zip_ (Ex.sl %[|4] (Po.so (Ex.int 1)) Po.no) (Ex.var 1)) Cd.no) Ar.nil)))) Bl.nil
abbrev nD:Stmt:=top 67
abbrev Kp:%[|1]:=["_law_loops_here","_law_found","_law_low","_law_high","_law_longer","_law_counts","_law_number"]
abbrev KH:%[|1]:=["_law_loops_here"]
section
variable (B : Bi Ω.mg) {Fq16 : Ct} (Cq16 : Cal Ω "_law_value" 1 2 Fq16)
def uN(B:Bi Ω.mg){Fq16:Ct}(Cq16:Cal Ω "_law_value" 1 2 Fq16):Bl Ω:=
 Bl.cons (Sm.set 1 (Ex.var 4)) Bl.nil
def vG:Bl Ω:=
 Bl.cons (Sm.forL (Tg.nm 5) (Ex.var 1) (Bl.cons (Sm.for (Tg.nm 6) (Itb.rng2 B.range_ (Ex.call Cq16 (Ar.cons (Ex.var 2) (Ar.cons (Ex.var 5) Ar.nil))) (Ex.call Cq16 (Ar.cons (Ex.var 3) (Ar.cons (Ex.var 5) Ar.nil)))) (Bl.cons (Sm.expr (Ex.m_append (Ex.var 4) (Ex.bin .Add (Ex.var 5) (Ex.tup (Ar.cons (Ex.var 6) Ar.nil))))) Bl.nil)) Bl.nil)) (uN B Cq16)
def m5:Bl Ω:=
 Bl.cons (Sm.set 4 (Ex.own Ar.nil)) (vG B Cq16)
def CW(B:Bi Ω.mg){Fq16:Ct}(Cq16:Cal Ω "_law_value" 1 2 Fq16):Bl Ω:=
 Bl.cons (Sm.ret (Ex.blt bc B.len_ %[|17])) Bl.nil
def DG:Bl Ω:=
 Bl.cons (Sm.forL (Tg.tup [2,3]) %[|4] (Bl.fzl (m5 B Cq16))) (CW B Cq16)
def K5:Bl Ω:=
 Bl.cons (Sm.set 1 (Ex.lst (Ar.cons (Ex.tup Ar.nil) Ar.nil))) (DG B Cq16)
end
abbrev oG:Stmt:=top 68
abbrev Ko:%[|1]:=["_law_pen_here","_law_wide","_law_depth","_law_place_here","_law_k","_law_more"]
abbrev Je:%[|1]:=["_law_pen_here","_law_wide","_law_depth"]
section
variable (B : Bi Ω.mg) {Fq8 : Ct} (Cq8 : %[|23])
def uV(B:Bi Ω.mg){Fq8:Ct}(Cq8:%[|23]):Bl Ω:=
 Bl.cons (Sm.expr (Ex.m_append (Ex.var 3) (Ex.typ bA B.tuple_ (Ar.cons (Ex.binL false .Add (Ex.lst (Ar.cons (Ex.bin .Sub (Ex.call Cq8 (Ar.cons %[|4] (Ar.cons (Ex.int 5) Ar.nil))) (Ex.int 2)) Ar.nil)) (Ex.var 5)) Ar.nil)))) Bl.nil
def Bg:Bl Ω:=
 Bl.cons (Sm.setC 5 ["_law_j","_law_pen_here"] [none,some 0] (Ex.ix (Ex.lst (Ar.cons (Ex.int 0) (Ar.cons (Ex.int 1) (Ar.cons (Ex.int 0) (Ar.cons (Ex.neg (Ex.int 1)) (Ar.cons (Ex.int 1) (Ar.cons (Ex.int 2) Ar.nil))))))) (Ex.call Cq8 (Ar.cons (Ex.var 1) (Ar.cons (Ex.int 6) Ar.nil)))) (Tg.nm 0) (Itb.rng1 B.range_ (Ex.var 2)) Cd.no) (uV B Cq8)
def Cv(B:Bi Ω.mg){Fq8:Ct}(Cq8:%[|23]):Bl Ω:=
 Bl.cons (Sm.ret (Ex.typ bA B.tuple_ (Ar.cons (Ex.var 3) Ar.nil))) Bl.nil
def De:Bl Ω:=
 Bl.cons (Sm.for (Tg.nm 4) (Itb.rng1 B.range_ (Ex.var 1)) (Bg B Cq8)) (Cv B Cq8)
def JS:Bl Ω:=
 Bl.cons (Sm.set 3 (Ex.own Ar.nil)) (De B Cq8)
end
abbrev rO:Stmt:=top 69
abbrev Pz:%[|1]:=["_law_pen_here","_law_widths","_law_depth","_law_table","_law_place_here","_law_start","_law_reads","_law_k","_law_other"]
abbrev Mv:%[|1]:=["_law_pen_here","_law_widths","_law_depth"]
section
variable (B : Bi Ω.mg) {Fq8 : Ct} (Cq8 : %[|23]) {Fq10 : Ct} (Cq10 : Cal Ω "_law_place" 3 3 Fq10)
def wQ(B:Bi Ω.mg){Fq8:Ct}(Cq8:%[|23]){Fq10:Ct}(Cq10:Cal Ω "_law_place" 3 3 Fq10):Bl Ω:=
 Bl.cons (Sm.expr (Ex.m_append (Ex.var 6) (Ex.tup (Ar.cons (Ex.bin .Sub (Ex.call Cq8 (Ar.cons %[|4] (Ar.cons (Ex.int 5) Ar.nil))) (Ex.int 2)) (Ar.cons (Ex.var 8) (Ar.cons (Ex.call Cq10 (Ar.cons %[|4] (Ar.cons (Ex.ix (Ex.var 1) (Ex.var 8)) (Ar.cons (Ex.var 2) Ar.nil)))) Ar.nil)))))) Bl.nil
def Ei:Bl Ω:=
 Bl.cons (Sm.set 8 (Ex.call Cq8 (Ar.cons %[|4] (Ar.cons (Ex.blt bc B.len_ %[|17]) Ar.nil)))) (wQ B Cq8 Cq10)
def HQ(B:Bi Ω.mg){Fq8:Ct}(Cq8:%[|23]){Fq10:Ct}(Cq10:Cal Ω "_law_place" 3 3 Fq10):Bl Ω:=
 Bl.cons (Sm.ret (Ex.tup (Ar.cons (Ex.var 3) (Ar.cons (Ex.var 4) (Ar.cons (Ex.var 5) (Ar.cons (Ex.typ bA B.tuple_ (Ar.cons (Ex.var 6) Ar.nil)) Ar.nil)))))) Bl.nil
def Ib:Bl Ω:=
 Bl.cons (Sm.for (Tg.nm 7) (Itb.rng1 B.range_ (Ex.call Cq8 (Ar.cons %[|4] (Ar.cons (Ex.int 4) Ar.nil)))) (Ei B Cq8 Cq10)) (HQ B Cq8 Cq10)
def Hq:Bl Ω:=
 Bl.cons (Sm.set 6 (Ex.own Ar.nil)) (Ib B Cq8 Cq10)
def Hg:Bl Ω:=
 Bl.cons (Sm.set 5 (Ex.typ bA B.tuple_ (Ar.cons (Ex.binL false .Add (Ex.lst (Ar.cons (Ex.bin .Sub (Ex.call Cq8 (Ar.cons %[|4] (Ar.cons (Ex.int 7) Ar.nil))) (Ex.int 3)) Ar.nil)) (Ex.comp ["_law_k","_law_pen_here"] [none,some 0] (Ex.bin .Sub (Ex.call Cq8 (Ar.cons (Ex.var 1) (Ar.cons (Ex.int 3) Ar.nil))) (Ex.int 1)) (Tg.nm 0) (Itb.rng1 B.range_ (Ex.var 2)) Cd.no)) Ar.nil))) (Hq B Cq8 Cq10)
def HW:Bl Ω:=
 Bl.cons (Sm.set 4 (Ex.call Cq10 (Ar.cons %[|4] (Ar.cons (Ex.ix (Ex.var 1) (Ex.var 3)) (Ar.cons (Ex.var 2) Ar.nil))))) (Hg B Cq8 Cq10)
def Pk:Bl Ω:=
 Bl.cons (Sm.set 3 (Ex.call Cq8 (Ar.cons %[|4] (Ar.cons (Ex.blt bc B.len_ %[|17]) Ar.nil)))) (HW B Cq8 Cq10)
end
abbrev jz:Stmt:=top 70
abbrev CG:%[|1]:=["_law_pen_here","_law_widths","_law_left","_law_nests","_law_k","_law_loops_here","_law_many","_law_deeds"]
abbrev Dc:%[|1]:=["_law_pen_here"]
section
variable (B : Bi Ω.mg) {Fq54 : Ct} (Cq54 : Cal Ω "program_of" 10 2 Fq54) {Fq8 : Ct} (Cq8 : %[|23]) {Fq7 : Ct} (Cq7 : Cal Ω "_law_loops" 3 1 Fq7) {Fq2 : Ct} (Cq2 : Cal Ω "_law_count" 2 1 Fq2) {Fq3 : Ct} (Cq3 : Cal Ω "_law_deed" 4 3 Fq3)
def qW(B:Bi Ω.mg){Fq54:Ct}(Cq54:Cal Ω "program_of" 10 2 Fq54){Fq8:Ct}(Cq8:%[|23]){Fq7:Ct}(Cq7:Cal Ω "_law_loops" 3 1 Fq7){Fq2:Ct}(Cq2:Cal Ω "_law_count" 2 1 Fq2){Fq3:Ct}(Cq3:Cal Ω "_law_deed" 4 3 Fq3):Bl Ω:=
 Bl.cons (Sm.expr (Ex.m_append (Ex.var 3) (Ex.tup (Ar.cons (Ex.typ bA B.tuple_ (Ar.cons (Ex.var 5) Ar.nil)) (Ar.cons (Ex.var 7) Ar.nil))))) Bl.nil
def qR:Bl Ω:=
 Bl.cons (Sm.set 7 (Ex.typ bA B.tuple_ (Ar.cons (Ex.comp ["_law_j","_law_pen_here","_law_widths","_law_loops_here"] [none,some 0,some 1,some 5] (Ex.call Cq3 (Ar.cons (Ex.var 1) (Ar.cons (Ex.var 2) (Ar.cons (Ex.blt bc B.len_ (Ar.cons (Ex.var 3) Ar.nil)) Ar.nil)))) (Tg.nm 0) (Itb.rng1 B.range_ (Ex.var 6)) Cd.no) Ar.nil))) (qW B Cq54 Cq8 Cq7 Cq2 Cq3)
def ik:Bl Ω:=
 Bl.cons (Sm.set 2 (Ex.bin .Sub (Ex.var 2) (Ex.bin .Mult (Ex.call Cq2 (Ar.cons (Ex.var 5) Ar.nil)) (Ex.var 6)))) (qR B Cq54 Cq8 Cq7 Cq2 Cq3)
def iI:Bl Ω:=
 Bl.cons (Sm.ite (Te.cmp .Gt (Ex.bin .Mult (Ex.call Cq2 (Ar.cons (Ex.var 5) Ar.nil)) (Ex.var 6)) (Ex.var 2)) (Bl.cons (Sm.set 5 (Ex.own (Ar.cons (Ex.tup (Ar.cons (Ex.tup (Ar.cons (Ex.int 0) Ar.nil)) (Ar.cons (Ex.tup (Ar.cons (Ex.int 0) Ar.nil)) Ar.nil))) Ar.nil))) Bl.nil) Bl.nil) (ik B Cq54 Cq8 Cq7 Cq2 Cq3)
def rH:Bl Ω:=
 Bl.cons (Sm.while (Te.and (Bt.cons (Te.cmp .Gt (Ex.blt bc B.len_ (Ar.cons (Ex.var 5) Ar.nil)) (Ex.int 1)) (Bt.one (Te.cmp .Gt (Ex.bin .Mult (Ex.call Cq2 (Ar.cons (Ex.var 5) Ar.nil)) (Ex.var 6)) (Ex.var 2))))) (Bl.cons (Sm.expr (Ex.m_pop0 (Ex.var 5))) Bl.nil)) (iI B Cq54 Cq8 Cq7 Cq2 Cq3)
def sE:Bl Ω:=
 Bl.cons (Sm.set 6 (Ex.bin .Add (Ex.int 1) (Ex.call Cq8 (Ar.cons %[|4] (Ar.cons (Ex.int 4) Ar.nil))))) (rH B Cq54 Cq8 Cq7 Cq2 Cq3)
def jY:Bl Ω:=
 Bl.cons (Sm.set 5 (Ex.call Cq7 %[|22])) (sE B Cq54 Cq8 Cq7 Cq2 Cq3)
def wK(B:Bi Ω.mg){Fq54:Ct}(Cq54:Cal Ω "program_of" 10 2 Fq54){Fq8:Ct}(Cq8:%[|23]){Fq7:Ct}(Cq7:Cal Ω "_law_loops" 3 1 Fq7){Fq2:Ct}(Cq2:Cal Ω "_law_count" 2 1 Fq2){Fq3:Ct}(Cq3:Cal Ω "_law_deed" 4 3 Fq3):Bl Ω:=
 Bl.cons (Sm.ret (Ex.call Cq54 (Ar.cons (Ex.var 1) (Ar.cons (Ex.typ bA B.tuple_ (Ar.cons (Ex.var 3) Ar.nil)) Ar.nil)))) Bl.nil
def xn:Bl Ω:=
 Bl.cons (Sm.for (Tg.nm 4) (Itb.rng1 B.range_ (Ex.bin .Add (Ex.int 1) (Ex.call Cq8 (Ar.cons %[|4] (Ar.cons (Ex.int 3) Ar.nil))))) (jY B Cq54 Cq8 Cq7 Cq2 Cq3)) (wK B Cq54 Cq8 Cq7 Cq2 Cq3)
def xg:Bl Ω:=
 Bl.cons (Sm.set 3 (Ex.own Ar.nil)) (xn B Cq54 Cq8 Cq7 Cq2 Cq3)
def wZ:Bl Ω:=
 Bl.cons (Sm.set 2 (Ex.int 24)) (xg B Cq54 Cq8 Cq7 Cq2 Cq3)
def Ck:Bl Ω:=
 Bl.cons (Sm.set 1 (Ex.typ bA B.tuple_ (Ar.cons (Ex.comp ["_law_k","_law_pen_here"] [none,some 0] (Ex.bin .Add (Ex.int 1) (Ex.call Cq8 (Ar.cons (Ex.var 1) (Ar.cons (Ex.int 2) Ar.nil)))) (Tg.nm 0) (Itb.rng1 B.range_ (Ex.bin .Add (Ex.int 1) (Ex.call Cq8 (Ar.cons %[|4] (Ar.cons (Ex.int 3) Ar.nil))))) Cd.no) Ar.nil))) (wZ B Cq54 Cq8 Cq7 Cq2 Cq3)
end
abbrev eZ:Stmt:=top 71
abbrev t6:%[|1]:=["_law_depth","_law_nest","_law_deed_here","_law_found","_law_k"]
abbrev sJ:%[|1]:=["_law_depth","_law_nest","_law_deed_here"]
section
variable (B : Bi Ω.mg)
def ql(B:Bi Ω.mg):Bl Ω:=
 Bl.cons (Sm.ret (Ex.binL false .Add (Ex.var 3) (Ex.lst (Ar.cons (Ex.bin .Add (Ex.tup (Ar.cons (Ex.var 2) Ar.nil)) (Ex.bin .Mult (Ex.tup (Ar.cons (Ex.int 0) Ar.nil)) %[|4])) Ar.nil)))) Bl.nil
def pR:Bl Ω:=
 Bl.cons (Sm.for (Tg.nm 4) (Itb.rng1 B.range_ (Ex.int 3)) (Bl.cons (Sm.expr (Ex.m_append (Ex.var 3) (Ex.typ bA B.tuple_ (Ar.cons (Ex.binL false .Add (Ex.lst (Ar.cons (Ex.int 0) Ar.nil)) (Ex.comp ["_law_j","_law_k"] [none,some 4] (Ex.typ Xz B.int_ (Ar.cons (Ex.cmp .Eq %[|4] (Ex.var 1)) Ar.nil)) (Tg.nm 0) (Itb.rng1 B.range_ %[|4]) Cd.no)) Ar.nil)))) Bl.nil)) (ql B)
def um:Bl Ω:=
 Bl.cons (Sm.set 3 (Ex.own (Ar.cons (Ex.bin .Add (Ex.tup %[|17]) (Ex.bin .Mult (Ex.tup (Ar.cons (Ex.int 0) Ar.nil)) %[|4])) Ar.nil))) (pR B)
end
abbrev fO:Stmt:=top 72
abbrev uU:%[|1]:=["_law_pen_here","_law_depth","_law_form"]
abbrev uF:%[|1]:=["_law_pen_here","_law_depth"]
section
variable (B : Bi Ω.mg) {Fq8 : Ct} (Cq8 : %[|23])
def rQ(B:Bi Ω.mg){Fq8:Ct}(Cq8:%[|23]):Bl Ω:=
 Bl.cons (Sm.ret (Ex.tup (Ar.cons (Ex.str "form") (Ar.cons (Ex.var 2) Ar.nil)))) Bl.nil
def rB:Bl Ω:=
 Bl.cons (Sm.ite (Te.cmp .Eq (Ex.call Cq8 (Ar.cons %[|4] (Ar.cons (Ex.int 3) Ar.nil))) (Ex.int 0)) (Bl.cons (Sm.ret (Ex.tup (Ar.cons (Ex.str "block") (Ar.cons (Ex.var 2) (Ar.cons (Ex.ix (Ex.lst (Ar.cons (Ex.int 1) (Ar.cons (Ex.int 2) (Ar.cons (Ex.int 3) (Ar.cons (Ex.int 99) Ar.nil))))) (Ex.call Cq8 (Ar.cons %[|4] (Ar.cons (Ex.int 4) Ar.nil)))) Ar.nil))))) Bl.nil) Bl.nil) (rQ B Cq8)
def vm:Bl Ω:=
 Bl.cons (Sm.set 2 (Ex.typ bA B.tuple_ (Ar.cons (Ex.binL false .Add (Ex.lst (Ar.cons (Ex.bin .Sub (Ex.call Cq8 (Ar.cons %[|4] (Ar.cons (Ex.int 5) Ar.nil))) (Ex.int 2)) Ar.nil)) (Ex.comp ["_law_k","_law_pen_here"] [none,some 0] (Ex.bin .Sub (Ex.call Cq8 (Ar.cons (Ex.var 1) (Ar.cons (Ex.int 5) Ar.nil))) (Ex.int 2)) (Tg.nm 0) (Itb.rng1 B.range_ (Ex.var 1)) Cd.no)) Ar.nil))) (rB B Cq8)
end
abbrev sr:Stmt:=top 73
abbrev LK:%[|1]:=["_law_pen_here","_law_program_here","_law_many","_law_which","_law_signs","_law_plan_here","_law_nest","_law_part","_law_deeds","_law_deed_here","_law_lines","_law_known","_law_k"]
abbrev MK:%[|1]:=["_law_pen_here","_law_program_here"]
section
variable (B : Bi Ω.mg) {Fq8 : Ct} (Cq8 : %[|23]) {Fq6 : Ct} (Cq6 : Cal Ω "_law_known_lines" 1 3 Fq6) {Fq4 : Ct} (Cq4 : Cal Ω "_law_drawn_line" 3 2 Fq4)
def yh(B:Bi Ω.mg){Fq8:Ct}(Cq8:%[|23]){Fq6:Ct}(Cq6:Cal Ω "_law_known_lines" 1 3 Fq6){Fq4:Ct}(Cq4:Cal Ω "_law_drawn_line" 3 2 Fq4):Bl Ω:=
 Bl.cons (Sm.expr (Ex.m_append (Ex.var 8) (Ex.typ bA B.tuple_ (Ar.cons (Ex.var 10) Ar.nil)))) Bl.nil
def xM:Bl Ω:=
 Bl.cons (Sm.for (Tg.nm 12) (Itb.rng1 B.range_ (Ex.var 2)) (Bl.cons (Sm.ite (Te.cmp .Lt (Ex.ix (Ex.var 3) (Ex.var 12)) (Ex.int 5)) (Bl.cons (Sm.expr (Ex.m_append (Ex.var 10) (Ex.tup (Ar.cons (Ex.str "form") (Ar.cons (Ex.typ bA B.tuple_ (Ar.cons (Ex.comp ["_law_number","_law_signs","_law_k"] [none,some 4,some 12] (Ex.bin .Mult (Ex.ix (Ex.var 1) (Ex.var 2)) %[|4]) (Tg.nm 0) (Itb.seq (Ex.ix (Ex.var 11) (Ex.ix (Ex.var 3) (Ex.var 12)))) Cd.no) Ar.nil)) Ar.nil))))) Bl.nil) (Bl.cons (Sm.ite (Te.cmp .Eq (Ex.ix (Ex.var 3) (Ex.var 12)) (Ex.int 5)) (Bl.cons (Sm.expr (Ex.m_append (Ex.var 10) (Ex.tup (Ar.cons (Ex.str "block") (Ar.cons (Ex.ix (Ex.var 11) (Ex.bin .Add (Ex.int 1) (Ex.bin .Mod (Ex.var 12) (Ex.int 3)))) (Ar.cons (Ex.ix (Ex.lst (Ar.cons (Ex.int 2) (Ar.cons (Ex.int 3) Ar.nil))) (Ex.bin .Mod (Ex.var 12) (Ex.int 2))) Ar.nil)))))) Bl.nil) (Bl.cons (Sm.expr (Ex.m_append (Ex.var 10) (Ex.call Cq4 (Ar.cons %[|4] (Ar.cons (Ex.blt bc B.len_ (Ar.cons (Ex.ix (Ex.var 7) (Ex.int 0)) Ar.nil)) Ar.nil))))) Bl.nil)) Bl.nil)) Bl.nil)) (yh B Cq8 Cq6 Cq4)
def wW:Bl Ω:=
 Bl.cons (Sm.set 11 (Ex.call Cq6 (Ar.cons (Ex.blt bc B.len_ (Ar.cons (Ex.ix (Ex.var 7) (Ex.int 0)) Ar.nil)) (Ar.cons (Ex.var 6) (Ar.cons (Ex.var 9) Ar.nil))))) (xM B Cq8 Cq6 Cq4)
def qt:Bl Ω:=
 Bl.cons (Sm.set 10 (Ex.own Ar.nil)) (wW B Cq8 Cq6 Cq4)
def xQ(B:Bi Ω.mg){Fq8:Ct}(Cq8:%[|23]){Fq6:Ct}(Cq6:Cal Ω "_law_known_lines" 1 3 Fq6){Fq4:Ct}(Cq4:Cal Ω "_law_drawn_line" 3 2 Fq4):Bl Ω:=
 Bl.cons (Sm.expr (Ex.m_append (Ex.var 5) (Ex.typ bA B.tuple_ (Ar.cons (Ex.var 8) Ar.nil)))) Bl.nil
def wY:Bl Ω:=
 Bl.cons (Sm.for (Tg.nm 9) (Itb.rng1 B.range_ (Ex.blt bc B.len_ (Ar.cons (Ex.ix (Ex.var 7) (Ex.int 1)) Ar.nil))) (qt B Cq8 Cq6 Cq4)) (xQ B Cq8 Cq6 Cq4)
def qy:Bl Ω:=
 Bl.cons (Sm.set 8 (Ex.own Ar.nil)) (wY B Cq8 Cq6 Cq4)
def G5(B:Bi Ω.mg){Fq8:Ct}(Cq8:%[|23]){Fq6:Ct}(Cq6:Cal Ω "_law_known_lines" 1 3 Fq6){Fq4:Ct}(Cq4:Cal Ω "_law_drawn_line" 3 2 Fq4):Bl Ω:=
 Bl.cons (Sm.ret (Ex.typ bA B.tuple_ (Ar.cons (Ex.var 5) Ar.nil))) Bl.nil
def Il:Bl Ω:=
 Bl.cons (Sm.for (Tg.tup [6,7]) (Itb.enm B.enumerate_ (Ex.ix (Ex.var 1) (Ex.int 1))) (qy B Cq8 Cq6 Cq4)) (G5 B Cq8 Cq6 Cq4)
def GC:Bl Ω:=
 Bl.cons (Sm.set 5 (Ex.own Ar.nil)) (Il B Cq8 Cq6 Cq4)
def Ie:Bl Ω:=
 Bl.cons (Sm.setC 4 ["_law_k","_law_pen_here"] [none,some 0] (Ex.ix (Ex.lst (Ar.cons (Ex.int 1) (Ar.cons (Ex.int 1) (Ar.cons (Ex.neg (Ex.int 1)) Ar.nil)))) (Ex.call Cq8 (Ar.cons (Ex.var 1) (Ar.cons (Ex.int 3) Ar.nil)))) (Tg.nm 0) (Itb.rng1 B.range_ (Ex.var 2)) Cd.no) (GC B Cq8 Cq6 Cq4)
def ug:Bl Ω:=
 Bl.cons (Sm.setC 3 ["_law_k","_law_pen_here"] [none,some 0] (Ex.call Cq8 (Ar.cons (Ex.var 1) (Ar.cons (Ex.int 7) Ar.nil))) (Tg.nm 0) (Itb.rng1 B.range_ (Ex.var 2)) Cd.no) (Ie B Cq8 Cq6 Cq4)
def NK:Bl Ω:=
 Bl.cons (Sm.set 2 (Ex.ix (Ex.lst (Ar.cons (Ex.int 5) (Ar.cons (Ex.int 5) (Ar.cons (Ex.int 5) (Ar.cons (Ex.int 1) (Ar.cons (Ex.int 2) (Ar.cons (Ex.int 4) (Ar.cons (Ex.int 7) (Ar.cons (Ex.int 9) Ar.nil))))))))) (Ex.call Cq8 (Ar.cons %[|4] (Ar.cons (Ex.int 8) Ar.nil))))) (ug B Cq8 Cq6 Cq4)
end
abbrev jt:Stmt:=top 74
abbrev qz:%[|1]:=["_law_pen_here","_law_plan_here","_law_way","_law_nest","_law_deed_here","_law_lines","_law_at","_law_kind","_law_form","_law_some","_law_deeds"]
abbrev Dk:%[|1]:=["_law_pen_here","_law_plan_here"]
section
variable (B : Bi Ω.mg) {Fq8 : Ct} (Cq8 : %[|23])
def j6(B:Bi Ω.mg){Fq8:Ct}(Cq8:%[|23]):Bl Ω:=
 Bl.cons (Sm.ret (Ex.bin .Add (Ex.bin .Add (Ex.sl (Ex.var 1) Po.no (Po.so (Ex.var 3))) (Ex.tup (Ar.cons (Ex.var 10) Ar.nil))) (Ex.sl (Ex.var 1) (Po.so (Ex.bin .Add (Ex.var 3) (Ex.int 1))) Po.no))) Bl.nil
def vh:Bl Ω:=
 Bl.cons (Sm.ite (Te.and (Bt.cons (Te.cmp .Lt (Ex.var 2) (Ex.int 2)) (Bt.cons (Te.cmp .Eq (Ex.blt bc B.len_ %[|17]) (Ex.int 1)) (Bt.one (Te.cmp .Eq (Ex.blt bc B.len_ (Ar.cons (Ex.ix (Ex.var 1) (Ex.int 0)) Ar.nil)) (Ex.int 1)))))) (Bl.cons (Sm.ret (Ex.bin .Add (Ex.var 1) (Ex.var 1))) Bl.nil) Bl.nil) (j6 B Cq8)
def dh:Bl Ω:=
 Bl.cons (Sm.set 10 (Ex.bin .Add (Ex.bin .Add (Ex.sl (Ex.ix (Ex.var 1) (Ex.var 3)) Po.no (Po.so (Ex.var 4))) (Ex.tup (Ar.cons (Ex.ix (Ex.var 9) (Ex.var 2)) Ar.nil))) (Ex.sl (Ex.ix (Ex.var 1) (Ex.var 3)) (Po.so (Ex.bin .Add (Ex.var 4) (Ex.int 1))) Po.no))) (vh B Cq8)
def fW:Bl Ω:=
 Bl.cons (Sm.set 9 (Ex.bin .Add (Ex.var 9) (Ex.lst (Ar.cons (Ex.bin .Add (Ex.bin .Add (Ex.sl (Ex.var 5) Po.no (Po.so (Ex.var 6))) (Ex.tup (Ar.cons (Ex.tup (Ar.cons (Ex.str "form") (Ar.cons (Ex.var 8) (Ar.cons (Ex.int 1) Ar.nil)))) Ar.nil))) (Ex.sl (Ex.var 5) (Po.so (Ex.bin .Add (Ex.var 6) (Ex.int 1))) Po.no)) Ar.nil)))) (dh B Cq8)
def gC:Bl Ω:=
 Bl.cons (Sm.set 9 (Ex.bin .Add (Ex.var 9) (Ex.lst (Ar.cons (Ex.bin .Add (Ex.bin .Add (Ex.sl (Ex.var 5) Po.no (Po.so (Ex.var 6))) (Ex.tup (Ar.cons (Ex.tup (Ar.cons (Ex.str "Form") (Ar.cons (Ex.var 8) Ar.nil))) Ar.nil))) (Ex.sl (Ex.var 5) (Po.so (Ex.bin .Add (Ex.var 6) (Ex.int 1))) Po.no)) (Ar.cons (Ex.tup Ar.nil) Ar.nil))))) (fW B Cq8)
def gw:Bl Ω:=
 Bl.cons (Sm.set 9 (Ex.bin .Add (Ex.var 9) (Ex.lst (Ar.cons (Ex.bin .Add (Ex.bin .Add (Ex.sl (Ex.var 5) Po.no (Po.so (Ex.var 6))) (Ex.tup (Ar.cons (Ex.tup (Ar.cons (Ex.str "block") (Ar.cons (Ex.var 8) (Ar.cons (Ex.int 100) Ar.nil)))) Ar.nil))) (Ex.sl (Ex.var 5) (Po.so (Ex.bin .Add (Ex.var 6) (Ex.int 1))) Po.no)) (Ar.cons (Ex.typ V8 B.list_ (Ar.cons (Ex.var 5) Ar.nil)) Ar.nil))))) (gC B Cq8)
def lZ:Bl Ω:=
 Bl.cons (Sm.set 9 (Ex.bin .Add (Ex.var 9) (Ex.lst (Ar.cons (Ex.bin .Add (Ex.bin .Add (Ex.sl (Ex.var 5) Po.no (Po.so (Ex.var 6))) (Ex.tup (Ar.cons (Ex.tup (Ar.cons (Ex.str "block") (Ar.cons (Ex.var 8) (Ar.cons (Ex.int 0) Ar.nil)))) Ar.nil))) (Ex.sl (Ex.var 5) (Po.so (Ex.bin .Add (Ex.var 6) (Ex.int 1))) Po.no)) Ar.nil)))) (gw B Cq8)
def xx:Bl Ω:=
 Bl.cons (Sm.set 9 (Ex.lst (Ar.cons (Ex.bin .Add (Ex.var 5) (Ex.tup (Ar.cons (Ex.ix (Ex.var 5) (Ex.int 0)) Ar.nil))) (Ar.cons (Ex.sl (Ex.var 5) (Po.so (Ex.int 1)) Po.no) (Ar.cons (Ex.bin .Add (Ex.bin .Add (Ex.sl (Ex.var 5) Po.no (Po.so (Ex.var 6))) (Ex.tup (Ar.cons (Ex.tup (Ar.cons (Ex.str "form") (Ar.cons (Ex.bin .Add (Ex.var 8) (Ex.tup (Ar.cons (Ex.int 0) Ar.nil))) Ar.nil))) Ar.nil))) (Ex.sl (Ex.var 5) (Po.so (Ex.bin .Add (Ex.var 6) (Ex.int 1))) Po.no)) Ar.nil))))) (lZ B Cq8)
def xq:Bl Ω:=
 Bl.cons (Sm.unpack [7,8] (Ex.sl (Ex.ix (Ex.var 5) (Ex.var 6)) Po.no (Po.so (Ex.int 2)))) (xx B Cq8)
def xV:Bl Ω:=
 Bl.cons (Sm.set 6 (Ex.call Cq8 (Ar.cons %[|4] (Ar.cons (Ex.blt bc B.len_ (Ar.cons (Ex.var 5) Ar.nil)) Ar.nil)))) (xq B Cq8)
def xm:Bl Ω:=
 Bl.cons (Sm.set 5 (Ex.ix (Ex.ix (Ex.var 1) (Ex.var 3)) (Ex.var 4))) (xV B Cq8)
def xu:Bl Ω:=
 Bl.cons (Sm.set 4 (Ex.call Cq8 (Ar.cons %[|4] (Ar.cons (Ex.blt bc B.len_ (Ar.cons (Ex.ix (Ex.var 1) (Ex.var 3)) Ar.nil)) Ar.nil)))) (xm B Cq8)
def yj:Bl Ω:=
 Bl.cons (Sm.set 3 (Ex.call Cq8 (Ar.cons %[|4] (Ar.cons (Ex.blt bc B.len_ %[|17]) Ar.nil)))) (xu B Cq8)
def Dj:Bl Ω:=
 Bl.cons (Sm.set 2 (Ex.call Cq8 (Ar.cons %[|4] (Ar.cons (Ex.int 9) Ar.nil)))) (yj B Cq8)
end
abbrev qT:Stmt:=top 75
abbrev NB:%[|1]:=["_law_line","_law_counts"]
abbrev NP:%[|1]:=["_law_line","_law_counts"]
def Hn{Fq16:Ct}(Cq16:Cal Ω "_law_value" 1 2 Fq16):Bl Ω:=
 Bl.cons (Sm.ret (Ex.fdiv (Ex.call Cq16 (Ar.cons (Ex.ix %[|4] (Ex.int 1)) %[|17])) (Ex.ix %[|4] (Ex.int 2)))) Bl.nil
def N8{Fq16:Ct}(Cq16:Cal Ω "_law_value" 1 2 Fq16):Bl Ω:=
 Bl.cons (Sm.ite (Te.cmp .Eq (Ex.ix %[|4] (Ex.int 0)) (Ex.str "form")) (Bl.cons (Sm.ret (Ex.call Cq16 (Ar.cons (Ex.ix %[|4] (Ex.int 1)) %[|17]))) Bl.nil) Bl.nil) (Hn Cq16)
abbrev oK:Stmt:=top 76
abbrev Jf:%[|1]:=["_law_one","_law_other"]
abbrev Kl:%[|1]:=["_law_one","_law_other"]
def JC:Bl Ω:=
 Bl.cons (Sm.ret (Ex.or (Bo.cons (Ex.cmp .Eq (Ex.ix %[|4] (Ex.int 0)) (Ex.ix (Ex.var 1) (Ex.int 0))) (Bo.cons (Ex.cmp .In (Ex.ix %[|4] (Ex.int 0)) (Ex.ix (Ex.var 1) (Ex.int 1))) (Bo.one (Ex.cmp .In (Ex.ix (Ex.var 1) (Ex.int 0)) (Ex.ix %[|4] (Ex.int 1)))))))) Bl.nil
abbrev uA:Stmt:=top 77
abbrev Ri:%[|1]:=["_law_cells","_law_keys_here","_law_a","_law_i","_law_j"]
abbrev QW:%[|1]:=["_law_cells","_law_keys_here","_law_a"]
def JG(B:Bi Ω.mg){Fq15:Ct}(Cq15:Cal Ω "_law_touch" 1 2 Fq15):Bl Ω:=
 Bl.cons (Sm.ret Ex.non) Bl.nil
def RV(B:Bi Ω.mg){Fq15:Ct}(Cq15:Cal Ω "_law_touch" 1 2 Fq15):Bl Ω:=
 Bl.cons (Sm.for (Tg.nm 3) (Itb.rng1 B.range_ (Ex.blt bc B.len_ %[|22])) (Bl.cons (Sm.for (Tg.nm 4) (Itb.rng2 B.range_ (Ex.bin .Add (Ex.var 3) (Ex.int 1)) (Ex.blt bc B.len_ %[|22])) (Bl.cons (Sm.ite (Te.and (Bt.cons (Te.cmp .Eq (Ex.sl (Ex.ix (Ex.var 1) (Ex.var 3)) Po.no (Po.so (Ex.var 2))) (Ex.sl (Ex.ix (Ex.var 1) (Ex.var 4)) Po.no (Po.so (Ex.var 2)))) (Bt.one (Te.cmp .NotEq (Ex.ix (Ex.ix (Ex.var 1) (Ex.var 3)) (Ex.var 2)) (Ex.ix (Ex.ix (Ex.var 1) (Ex.var 4)) (Ex.var 2)))))) (Bl.cons (Sm.ite (Te.val (Ex.call Cq15 (Ar.cons (Ex.ix %[|4] (Ex.var 3)) (Ar.cons (Ex.ix %[|4] (Ex.var 4)) Ar.nil)))) (Bl.cons (Sm.ret (Ex.tup (Ar.cons (Ex.var 3) (Ar.cons (Ex.var 4) Ar.nil)))) Bl.nil) Bl.nil) Bl.nil) Bl.nil) Bl.nil)) Bl.nil)) (JG B Cq15)
abbrev rF:Stmt:=top 78
abbrev Ly:%[|1]:=["_law_program_here","_law_plan_here","_law_a","_law_caught","e"]
abbrev Oz:%[|1]:=["_law_program_here","_law_plan_here","_law_a"]
def GJ(B:Bi Ω.mg)(E:ExF Ω.mg Ω.K XL XT){Fq18:XCt}(Cq18:cC Ω "barring" 9 3 Fq18):BT Ω:=
 (BT.tryc E B.isinstance_ B.int_ (TB.exs (XEx.call Cq18 (Ar.cons %[|4] (Ar.cons (Ex.var 1) (Ar.cons (Ex.var 2) Ar.nil))))) 4 "e" 3 "_law_caught" [HB.ifr (HT.no (HT.one "ValueError")) (Oc.str "told"),HB.ifr (HT.any ["NoOrder","NoProgram","NoRow","NoText","Tied","TooMany"]) (Oc.str "other"),HB.ifr (HT.and (HT.one "NoPlan") (HT.one "NoTurn")) (Oc.str "other"),HB.pick (HT.one "NoPlan") (Oc.str "turn") (Oc.str "plan")])
def Nr(B:Bi Ω.mg)(E:ExF Ω.mg Ω.K XL XT){Fq18:XCt}(Cq18:cC Ω "barring" 9 3 Fq18):BT Ω:=
 (BT.cons (Sm.set 3 Ex.non) (GJ B E Cq18))
abbrev rM:Stmt:=top 79
abbrev Mr:%[|1]:=["_law_program_here","_law_plan_here","_law_a","_law_due_here","_law_found"]
abbrev Py:%[|1]:=["_law_program_here","_law_plan_here","_law_a","_law_due_here"]
section
variable (B : Bi Ω.mg) {Fq18 : XCt} (Cq18 : cC Ω "barring" 9 3 Fq18)
def G7(B:Bi Ω.mg){Fq18:XCt}(Cq18:cC Ω "barring" 9 3 Fq18):Bl Ω:=
 Bl.cons (Sm.ret (Ex.cmp .Eq (Ex.var 4) (Ex.var 3))) Bl.nil
def Ha:Bl Ω:=
 Bl.cons (Sm.ite (Te.or (Bt.cons (Te.not (Te.val (Ex.isi B.isinstance_ (Ex.var 4) .tuple B.tuple_))) (Bt.cons (Te.val (Ex.isi B.isinstance_ (Ex.ix (Ex.var 4) (Ex.int 0)) .bool B.bool_)) (Bt.one (Te.val (Ex.isi B.isinstance_ (Ex.ix (Ex.var 4) (Ex.int 1)) .bool B.bool_)))))) (Bl.cons (Sm.ret (Ex.bl false)) Bl.nil) Bl.nil) (G7 B Cq18)
def Gy:Bl Ω:=
 Bl.cons (Sm.ite (Te.cmp .Is (Ex.var 3) Ex.non) (Bl.cons (Sm.ret (Ex.cmp .Is (Ex.var 4) Ex.non)) Bl.nil) Bl.nil) (Ha B Cq18)
def Nt:Bl Ω:=
 Bl.cons (Sm.set 4 (Ex.ofX (XEx.call Cq18 (Ar.cons %[|4] (Ar.cons (Ex.var 1) (Ar.cons (Ex.var 2) Ar.nil)))))) (Gy B Cq18)
end
abbrev kO:Stmt:=top 80
abbrev V6:%[|1]:=["_law_script","_law_pen_here","_law_program_here","_law_plan_here","_law_cells","_law_told","_law_nest","_law_counts","_law_deed_here","_law_many","_law_a","_law_spoiled_here"]
abbrev Qj:%[|1]:=["_law_script"]
section
variable (B : Bi Ω.mg) {Fq57 : Ct} (Cq57 : Cal Ω "steps_of" 4 1 Fq57) {Fq20 : Ct} (Cq20 : Cal Ω "cells_of" 5 1 Fq20) {Fq8 : Ct} (Cq8 : %[|23]) {Fq9 : Ct} (Cq9 : Cal Ω "_law_pen" 2 1 Fq9) {Fq12 : Ct} (Cq12 : Cal Ω "_law_program" 11 1 Fq12) {Fq11 : Ct} (Cq11 : Cal Ω "_law_plan" 4 2 Fq11) {Fq14 : Ct} (Cq14 : Cal Ω "_law_spoiled" 3 2 Fq14) {Fq0 : Ct} (Cq0 : Cal Ω "_law_came" 2 2 Fq0) {Fq5 : Ct} (Cq5 : Cal Ω "_law_due" 2 3 Fq5) {Fq17 : Ct} (Cq17 : Cal Ω "_law_word" 10 3 Fq17) {Fq13 : Ct} (Cq13 : Cal Ω "_law_says" 10 4 Fq13)
def Lz(B:Bi Ω.mg){Fq57:Ct}(Cq57:Cal Ω "steps_of" 4 1 Fq57){Fq20:Ct}(Cq20:Cal Ω "cells_of" 5 1 Fq20){Fq8:Ct}(Cq8:%[|23]){Fq9:Ct}(Cq9:Cal Ω "_law_pen" 2 1 Fq9){Fq12:Ct}(Cq12:Cal Ω "_law_program" 11 1 Fq12){Fq11:Ct}(Cq11:Cal Ω "_law_plan" 4 2 Fq11){Fq14:Ct}(Cq14:Cal Ω "_law_spoiled" 3 2 Fq14){Fq0:Ct}(Cq0:Cal Ω "_law_came" 2 2 Fq0){Fq5:Ct}(Cq5:Cal Ω "_law_due" 2 3 Fq5){Fq17:Ct}(Cq17:Cal Ω "_law_word" 10 3 Fq17){Fq13:Ct}(Cq13:Cal Ω "_law_says" 10 4 Fq13):Bl Ω:=
 Bl.cons (Sm.ret (Ex.and (Bo.cons (Ex.cmp .Eq (Ex.call Cq17 (Ar.cons (Ex.var 2) (Ar.cons (Ex.var 11) (Ar.cons (Ex.int 0) Ar.nil)))) (Ex.str "plan")) (Bo.one (Ex.cmp .Eq (Ex.call Cq17 (Ar.cons (Ex.var 2) (Ar.cons (Ex.var 11) (Ar.cons (Ex.int 99) Ar.nil)))) (Ex.str "plan")))))) Bl.nil
def R7:Bl Ω:=
 Bl.cons (Sm.set 11 (Ex.call Cq14 (Ar.cons (Ex.var 1) (Ar.cons (Ex.var 3) Ar.nil)))) (Lz B Cq57 Cq20 Cq8 Cq9 Cq12 Cq11 Cq14 Cq0 Cq5 Cq17 Cq13)
def Sd:Bl Ω:=
 Bl.cons (Sm.forL (Tg.nm 10) (Ex.lst (Ar.cons (Ex.neg (Ex.int 1)) (Ar.cons (Ex.var 9) (Ar.cons (Ex.bin .Add (Ex.bin .Add (Ex.var 9) (Ex.int 1)) (Ex.call Cq8 (Ar.cons (Ex.var 1) (Ar.cons (Ex.int 9) Ar.nil)))) (Ar.cons (Ex.neg (Ex.bin .Pow (Ex.int 10) (Ex.int 30))) Ar.nil))))) (Bl.cons (Sm.ite (Te.cmp .NotEq (Ex.call Cq17 (Ar.cons (Ex.var 2) (Ar.cons (Ex.var 3) (Ar.cons (Ex.var 10) Ar.nil)))) (Ex.str "turn")) (Bl.cons (Sm.ret (Ex.bl false)) Bl.nil) Bl.nil) Bl.nil)) (R7 B Cq57 Cq20 Cq8 Cq9 Cq12 Cq11 Cq14 Cq0 Cq5 Cq17 Cq13)
def QS:Bl Ω:=
 Bl.cons (Sm.for (Tg.nm 10) (Itb.rng1 B.range_ (Ex.var 9)) (Bl.cons (Sm.ite (Te.not (Te.val (Ex.call Cq13 (Ar.cons (Ex.var 2) (Ar.cons (Ex.var 3) (Ar.cons (Ex.var 10) (Ar.cons (Ex.call Cq5 (Ar.cons (Ex.var 4) (Ar.cons (Ex.var 5) (Ar.cons (Ex.var 10) Ar.nil)))) Ar.nil))))))) (Bl.cons (Sm.ret (Ex.bl false)) Bl.nil) Bl.nil) Bl.nil)) (Sd B Cq57 Cq20 Cq8 Cq9 Cq12 Cq11 Cq14 Cq0 Cq5 Cq17 Cq13)
def Su:Bl Ω:=
 Bl.cons (Sm.set 9 (Ex.blt bc B.len_ (Ar.cons (Ex.ix (Ex.ix (Ex.var 3) (Ex.int 0)) (Ex.int 0)) Ar.nil))) (QS B Cq57 Cq20 Cq8 Cq9 Cq12 Cq11 Cq14 Cq0 Cq5 Cq17 Cq13)
def Qw:Bl Ω:=
 Bl.cons (Sm.forL (Tg.tup [6,7,8]) (Ex.call Cq57 (Ar.cons (Ex.var 2) Ar.nil)) (Bl.cons (Sm.expr (Ex.m_append (Ex.var 5) (Ex.typ bA B.tuple_ (Ar.cons (Ex.comp ["_law_line","_law_counts"] [none,some 7] (Ex.call Cq0 (Ar.cons %[|4] %[|17])) (Tg.nm 0) (Itb.seq (Ex.ix (Ex.ix (Ex.var 3) (Ex.var 6)) (Ex.var 8))) Cd.no) Ar.nil)))) Bl.nil)) (Su B Cq57 Cq20 Cq8 Cq9 Cq12 Cq11 Cq14 Cq0 Cq5 Cq17 Cq13)
def R8:Bl Ω:=
 Bl.cons (Sm.set 5 (Ex.own Ar.nil)) (Qw B Cq57 Cq20 Cq8 Cq9 Cq12 Cq11 Cq14 Cq0 Cq5 Cq17 Cq13)
def QQ:Bl Ω:=
 Bl.cons (Sm.set 4 (Ex.call Cq20 (Ar.cons (Ex.var 2) Ar.nil))) (R8 B Cq57 Cq20 Cq8 Cq9 Cq12 Cq11 Cq14 Cq0 Cq5 Cq17 Cq13)
def R0:Bl Ω:=
 Bl.cons (Sm.set 3 (Ex.call Cq11 (Ar.cons (Ex.var 1) (Ar.cons (Ex.var 2) Ar.nil)))) (QQ B Cq57 Cq20 Cq8 Cq9 Cq12 Cq11 Cq14 Cq0 Cq5 Cq17 Cq13)
def QL:Bl Ω:=
 Bl.cons (Sm.set 2 (Ex.call Cq12 %[|17])) (R0 B Cq57 Cq20 Cq8 Cq9 Cq12 Cq11 Cq14 Cq0 Cq5 Cq17 Cq13)
def WK:Bl Ω:=
 Bl.cons (Sm.set 1 (Ex.call Cq9 %[|22])) (QL B Cq57 Cq20 Cq8 Cq9 Cq12 Cq11 Cq14 Cq0 Cq5 Cq17 Cq13)
end
end
end K44
local macro_rules | `(tactic| walk_at "n") => `(tactic| ((conv => whnf); repeat (with_reducible first | apply RF.cLt | apply RF.cLe | apply RF.cGt | apply RF.cGe | apply RF.cEqI | apply RF.cNeI | apply RF.cEqB | apply RF.cNeB | apply RF.cIsN | apply RF.cIsB | apply RF.cIsNotB | apply RF.cIsNot); (conv => whnf)))
local macro_rules | `(tactic| walk_at "at") => `(tactic| first | (with_reducible assumption) | exact DL.set_get (by first | (with_reducible assumption) | exact DL.set_get (by with_reducible assumption)))
local macro_rules | `(tactic| walk_at "o") => `(tactic| first | omega | decide | (simp; done) | (simp; omega))
local macro_rules | `(tactic| walk_at "a1") => `(tactic| first
 | refine RF.wM1 (by first | exact .inl ⟨by walk_at "o", by walk_at "o"⟩ | exact .inr ⟨by walk_at "o", by walk_at "o"⟩) ?_
 | refine RF.wM2 ⟨by decide, by decide, by decide⟩ ?_
 | refine RF.wM3 ⟨by omega, by omega⟩ ?_
 | refine RF.wM4 (by omega) ?_
 | ((fail_if_success (with_reducible show (_ /\ ∃ _ : Nat -> List DL.D -> DL.Store -> Prop, _))); refine RF.wM5 (by walk_at "o") ?_)
 | refine RF.wM6 (by walk_at "o") ?_
 | (refine' RF.wM7 ?h1 ?h2 ?h3; (case h1 => walk_at "at"); (case h2 => exact rfl); (try rw [List.set_set]))
 | (refine' RF.wM8 ?h1 ?h2 ?h3; (case h1 => walk_at "at"); (case h2 => exact rfl))
 | refine RF.wM9 rfl ?_)
local macro_rules | `(tactic| walk_at "a") => `(tactic| (walk_at "n"; repeat (walk_at "a1"; walk_at "n")))
local macro_rules | `(tactic| walk_at "b") => `(tactic| (walk_at "n"; repeat ((first | walk_at "a1" | apply RF.bT | apply RF.bF | apply RF.dT | apply RF.dF); walk_at "n")))
namespace K44
open PySem L2 DL RF XE
variable {cs ws : %[|3]} {i d n b k j m : Nat} {x : D} {a : Int} {S J : Store} {l : List D}
variable {Ω : Wd} {f : Addr} {fd : FuncData}
def whole:D->Bool
 | .int _=>true
 | _=>false
def aM(x:D)(a b:Int):Bool:=match x with
 | .tup ds=>decide (a≤(ds.length:Int))&&decide ((ds.length:Int)≤b)
 | _=>false
def aY(x:D)(d:Int):Bool:=match x with
 | .tup ds=>decide ((ds.length:Int)=d+1)&&ds.all whole
 | _=>false
def gQ:Ct:=λ ds S W=>∃x,ds=[x]/\W (.bl (whole x)) S
def cJ:Ct:=λ ds S W=>∃x a b,ds=[x,.int a,.int b]/\W (.bl (aM x a b)) S
def nU:Ct:=λ ds S W=>∃x d,ds=[x,.int d]/\d≤1000/\W (.bl (aY x d)) S
def comesTo(f:Int)(fs cs:%[|3]):Int:=f+(List.zipWith (λ a b=>a*b) fs cs).sum
def fM:Ct:=λ ds S W=>∃f fs cs,ds=[.tup (.int f::fs.map .int),.tup (cs.map .int)]/\fs.length≤1000/\(∀c∈cs,-(2 ^ 64)<c/\c<2 ^ 64)/\W (.int (comesTo f fs cs)) S
theorem Jj(ds:List D):(ds.map whole).all id=ds.all whole:=by rw[List.all_map];rfl
theorem Et{fs:%[|3]}{d:D}(h:(List.zipWith (λ x y=>D.tup [x,y]) (fs.map D.int) (cs.map D.int))[i]? =some d):∃a b,fs[i]? =some a/\cs[i]? =some b/\d=.tup [.int a,.int b]:=by
 rw[List.getElem?_zipWith,x5,x5]at h
 cases e1:fs[i]? with
 | none=>rw[e1]at h;cases h
 | some a=>
   cases e2:cs[i]? with
   | none=>rw[e1,e2]at h;cases h
   | some b=>rw[e1,e2]at h;cases h;exact⟨a,b,rfl,rfl,rfl⟩
theorem yp(F:Fun Ω.K "is_whole" "is_whole" iG f fd)(N0:Ω.cd=none)(B:Bi Ω.mg):Ok Ω 1 f fd BV gQ:=by
 refine aA N0 (N:=Bh) F (zO B) %[|9] ?_
 rintro ds S W ⟨x,rfl,hw⟩ hl
 walk_at "n"
 refine⟨λ c=>?_,λ c=>?_⟩
 . walk_at "n"
   have e:(!isD .bool x)=whole x:=by cases x<;>first | rfl | exact ff c | exact tf c
   rw[e];exact hw
 . have e:whole x=false:=by cases x<;>first | rfl | exact ff c | exact tf c
   rw[e]at hw;exact hw
theorem rm(F:Fun Ω.K "is_tuple_of" "is_tuple_of" eV f fd)(N0:Ω.cd=none)(B:Bi Ω.mg):Ok Ω 1 f fd tQ cJ:=by
 refine aA N0 (N:=sY) F (tB B) %[|9] ?_
 rintro ds S W ⟨x,a,b,rfl,hw⟩ hl
 walk_at "n"
 cases x with
 | tup ds=>
   refine⟨λ _=>?_,λ c=>tf c⟩
   walk_at "n"
   refine⟨λ c1=>?_,λ c1=>?_⟩
   . have e:aM (.tup ds) a b=false:=by show(decide _&&decide _)=false;rw[c1];rfl
     rw[e]at hw;exact hw
   . walk_at "n"
     have e:aM (.tup ds) a b=decide ((ds.length:Int)≤b):=by show(decide _&&decide _)=_;rw[c1];rfl
     rw[e]at hw;exact hw
 | _=>exact⟨λ c=>ff c,λ _=>hw⟩
theorem z7(F:Fun Ω.K "is_form" "is_form" jJ f fd)(N0:Ω.cd=none)(B:Bi Ω.mg)(Cq44:Cal Ω "is_whole" 1 1 gQ)(Cq43:Cal Ω "is_tuple_of" 1 3 cJ):Ok Ω 2 f fd Ed nU:=by
 refine aA N0 (N:=Cw) F (DY B Cq44 Cq43) %[|9] ?_
 rintro ds S W ⟨x,d,rfl,hd,hw⟩ hl
 walk_at "n"
 refine⟨rfl,_,_,_,rfl,?_⟩
 refine⟨λ c=>?_,λ c=>?_⟩
 . cases x with
   | tup ds=>
     have hlen:(ds.length:Int)=d+1:=by
      have c':(decide (d+1≤(ds.length:Int))&&decide ((ds.length:Int)≤d+1))=true:=c
      rw[Bool.and_eq_true,decide_eq_true_eq,decide_eq_true_eq]at c'
      omega
     walk_at "n"
     refine gU ⟨%[|0],λ i acc S'=>acc=(ds.take i).map (λ d=>.bl (whole d))/\S'=S,⟨rfl,rfl⟩,?_,?_⟩
     . rintro i e acc S' he ⟨rfl,rfl⟩
       walk_at "n"
       refine⟨λ _=>⟨rfl,_,rfl,?_,rfl⟩,λ z=>tf z⟩
       rw[aV he,List.map_append];rfl
     . rintro acc S' ⟨rfl,rfl⟩
       rw[List.take_length]
       refine⟨ds.map whole,by rw[List.map_map];rfl,?_⟩
       have e2:aY (.tup ds) d=(ds.map whole).all id:=by
        show(decide _&&_)=_
        rw[ZG hlen,Jj];rfl
       rw[e2]at hw;exact hw
   | _=>exact ff c
 . have e:aY x d=false:=by
    cases x with
    | tup ds=>
      have c':(decide (d+1≤(ds.length:Int))&&decide ((ds.length:Int)≤d+1))=false:=c
      show(decide _&&_)=false
      rw[Bool.and_eq_false_iff,decide_eq_false_iff_not,decide_eq_false_iff_not]at c'
      rw[ZH %[|0]];rfl
    | _=>rfl
   rw[e]at hw;exact hw
theorem wO(F:Fun Ω.K "comes_to" "comes_to" il f fd)(N0:Ω.cd=none)(B:Bi Ω.mg):Ok Ω 1 f fd zf fM:=by
 refine aA N0 (N:=zM) F (zV B) %[|9] ?_
 rintro ds S W ⟨g,fs,cs,rfl,hfs,hcs,hw⟩ hl
 walk_at "n"
 refine⟨_,lG _ _,?_⟩
 walk_at "n"
 rw[qY]
 refine gU ⟨by rw[List.length_zipWith,y8];omega,λ i acc S'=>acc=((List.zipWith (λ a b=>a*b) fs cs).take i).map D.int/\S'=S,⟨rfl,rfl⟩,?_,?_⟩
 . rintro i e acc S' he ⟨rfl,rfl⟩
   obtain⟨a,b,h1,h2,rfl⟩:=Et he
   walk_at "n"
   refine⟨rfl,λ _=>⟨.inr (hcs b (y6 h2)),?_,rfl⟩,λ z=>tf z⟩
   have e3:(List.zipWith (λ a b=>a*b) fs cs)[i]? =some (a*b):=by rw[List.getElem?_zipWith,h1,h2]
   rw[aV e3,List.map_append];rfl
 . rintro acc S' ⟨rfl,rfl⟩
   have e:(List.zipWith (λ x y=>D.tup [x,y]) (fs.map D.int) (cs.map D.int)).length=(List.zipWith (λ a b=>a*b) fs cs).length:=by simp
   rw[e,List.take_length]
   exact⟨_,rfl,hw⟩
def small:D->Bool
 | .int n=>decide (-2≤n)&&decide (n≤2)
 | _=>false
def Wb:List D->Bool
 | .int a::fs=>decide (-9≤a)&&(decide (a≤9)&&fs.all small)
 | _=>false
def bY(x:D)(d:Int):Bool:=aY x d&&Wb (match x with | .tup ds=>ds | _=>[])
def iz(x:D)(d:Int):Bool:=match x with
 | .tup [a,b]=>bY a d&&bY b d
 | _=>false
def fP(x:D):Bool:=match x with
 | .tup ds=>(decide (1≤(ds.length:Int))&&decide ((ds.length:Int)≤3))&&(ds.mapIdx λ i d=>iz d i).all id
 | _=>false
def Gf:Ct:=λ ds S W=>∃x d,ds=[x,.int d]/\0≤d/\d≤1000/\W (.bl (bY x d)) S
def Jl:Ct:=λ ds S W=>∃x d,ds=[x,.int d]/\0≤d/\d≤1000/\W (.bl (iz x d)) S
def Fx:Ct:=λ ds S W=>∃x,ds=[x]/\W (.bl (fP x)) S
theorem ints_of:∀{ds:List D},ds.all whole=true->∃ns:%[|3],ds=ns.map .int
 | [],_=>⟨[],rfl⟩
 | d::ds,h=>by
   rw[List.all_cons]at h
   obtain⟨h1,h2⟩:=az h
   obtain⟨ns,rfl⟩:=ints_of h2
   cases d with
   | int i=>exact⟨i::ns,rfl⟩
   | _=>exact ff h1
theorem jF{d:Int}(h:aY x d=true)(hd:0≤d):∃a fs,x=.tup (.int a::List.map .int fs)/\(fs.length:Int)=d:=by
 cases x with
 | tup ds=>
   obtain⟨h1,h2⟩:=az h
   have h1:=ZF h1
   cases ds with
   | nil=>simp at h1;omega
   | cons e es=>
     rw[List.all_cons]at h2
     obtain⟨h2,h3⟩:=az h2
     have h4:=ints_of h3
     obtain⟨ns,rfl⟩:=h4
     cases e with
     | int a=>exact⟨a,ns,rfl,by simp at h1;omega⟩
     | _=>exact ff h2
 | _=>exact ff h
theorem Aw(p:D->Bool)(ds:List D):(ds.map p).all id=ds.all p:=by rw[List.all_map];rfl
theorem xY (F:Fun Ω.K "is_bound" "is_bound" iK f fd)(N0:Ω.cd=none)(B:Bi Ω.mg)(Cq28:Cal Ω "is_form" 2 2 nU):Ok Ω 3 f fd zL Gf:=by
 refine aA N0 (N:=Aq) F (z9 B Cq28) %[|9] ?_
 rintro ds S W ⟨x,d,rfl,hd0,hd,hw⟩ hl
 walk_at "a"
 refine⟨rfl,_,_,rfl,hd,?_⟩
 walk_at "a"
 cases h:aY x d with
 | false=>
   have e:bY x d=false:=by unfold bY;rw[h];rfl
   rw[e]at hw
   exact⟨λ _=>hw,λ z=>tf z⟩
 | true=>
   refine⟨λ z=>ff z,λ _=>?_⟩
   obtain⟨a,fs,rfl,hf⟩:=jF h hd0
   have e:bY (.tup (.int a::fs.map .int)) d=(decide (-9≤a)&&(decide (a≤9)&&(fs.map D.int).all small)):=by unfold bY;rw[h];rfl
   rw[e]at hw
   walk_at "a"
   refine⟨_,lG _ _,?_⟩
   walk_at "a"
   refine⟨λ h1=>?_,λ h1=>?_⟩
   . have h1:decide (-9≤a)=false:=h1
     rw[h1]at hw
     exact⟨λ z=>ff z,λ _=>hw⟩
   have h1:decide (-9≤a)=true:=h1
   rw[h1,Bool.true_and]at hw
   walk_at "a"
   refine⟨λ h2=>?_,λ h2=>?_⟩
   . rw [h2,Bool.true_and]at hw
     walk_at "a"
     rw[qY]
     refine cL (λ d=>.bl (small d)) (by simp;omega) ?_ ?_
     . intro i e he Q hq
       rw[x5]at he
       cases e1:fs[i]? with
       | none=>rw[e1]at he;cases he
       | some n=>
         rw[e1]at he
         cases he
         walk_at "a"
         refine⟨λ h3=>?_,λ h3=>?_⟩
         . have h3:decide (-2≤n)=false:=h3
           have e:small (.int n)=false:=by show(decide _&&_)=false;rw[h3];rfl
           rw[e]at hq
           exact hq
         . have h3:decide (-2≤n)=true:=h3
           walk_at "a"
           have e:small (.int n)=decide (n≤2):=by show(decide _&&_)=_;rw[h3];rfl
           rw[e]at hq
           exact hq
     . refine⟨(fs.map D.int).map small,by simp only[List.map_map];rfl,?_⟩
       rw[Aw];exact hw
   . rw[h2]at hw
     exact hw
theorem Bd(F:Fun Ω.K "is_loop" "is_loop" ju f fd)(N0:Ω.cd=none)(Cq43:Cal Ω "is_tuple_of" 1 3 cJ)(Cq26:Cal Ω "is_bound" 3 2 Gf):Ok Ω 4 f fd CZ Jl:=by
 refine aA N0 (N:=DQ) F (Eb Cq43 Cq26) %[|9] ?_
 rintro ds S W ⟨x,d,rfl,hd0,hd,hw⟩ hl
 walk_at "a"
 refine⟨rfl,_,_,_,rfl,?_⟩
 walk_at "a"
 cases x with
 | tup ds=>
   match ds,hw with
   | [a,b],hw=>
     refine⟨λ _=>?_,λ z=>tf z⟩
     walk_at "a"
     refine⟨rfl,_,_,rfl,hd0,hd,?_⟩
     have e:iz (.tup [a,b]) d=(bY a d&&bY b d):=rfl
     rw[e]at hw
     refine⟨λ h=>?_,λ h=>?_⟩
     . rw[h,Bool.true_and]at hw
       walk_at "a"
       exact⟨rfl,_,_,rfl,hd0,hd,hw⟩
     . rw[h]at hw;exact hw
   | [],hw=>exact⟨λ z=>ff z,λ _=>hw⟩
   | [_],hw=>exact⟨λ z=>ff z,λ _=>hw⟩
   | _::_::_::es,hw=>
     refine⟨λ z=>?_,λ _=>hw⟩
     obtain⟨_,z⟩:=az z
     have z:=ZF z
     simp at z;omega
 | _=>exact⟨λ z=>ff z,λ _=>hw⟩
theorem yg(F:Fun Ω.K "is_loops" "is_loops" iJ f fd)(N0:Ω.cd=none)(B:Bi Ω.mg)(Cq43:Cal Ω "is_tuple_of" 1 3 cJ)(Cq31:Cal Ω "is_loop" 4 2 Jl):Ok Ω 5 f fd BJ Fx:=by
 refine aA N0 (N:=zp) F (zb B Cq43 Cq31) %[|9] ?_
 rintro ds S W ⟨x,rfl,hw⟩ hl
 walk_at "a"
 refine⟨rfl,_,_,_,rfl,?_⟩
 walk_at "a"
 cases x with
 | tup ds=>
   have e:fP (.tup ds)=((decide (1≤(ds.length:Int))&&decide ((ds.length:Int)≤3))&&(ds.mapIdx λ i d=>iz d i).all id):=rfl
   rw[e]at hw
   refine⟨λ h=>?_,λ h=>?_⟩
   . have h:(decide (1≤(ds.length:Int))&&decide ((ds.length:Int)≤3))=true:=h
     rw[h,Bool.true_and]at hw
     have hlen:=ZF (az h).2
     walk_at "a"
     refine cL (λ p=>match p with | .tup [.int i,d]=>.bl (iz d i) | _=>.non) (by simp;omega) ?_ ?_
     . intro i e he Q hq
       rw[List.getElem?_mapIdx]at he
       cases e1:ds[i]? with
       | none=>rw[e1]at he;cases he
       | some d0=>
         rw[e1]at he
         cases he
         have hi:i<ds.length:=(y3.mp e1).1
         walk_at "a"
         refine⟨rfl,?_⟩
         walk_at "a"
         exact⟨rfl,_,_,rfl,%[|0],%[|0],hq⟩
     . refine⟨ds.mapIdx λ i d=>iz d i,?_,hw⟩
       apply List.ext_getElem?
       intro i
       simp only[x5,List.getElem?_mapIdx]
       cases ds[i]?<;>rfl
   . have h:(decide (1≤(ds.length:Int))&&decide ((ds.length:Int)≤3))=false:=h
     rw[h]at hw
     exact hw
 | _=>exact⟨λ z=>ff z,λ _=>hw⟩
abbrev Fm:=Int×%[|3]
abbrev Lp:=Fm×Fm
def dF(f:Fm):D:=.tup (.int f.1::f.2.map .int)
def dC(cs:%[|3]):D:=.tup (cs.map .int)
def dL(l:Lp):D:=.tup [dF l.1,dF l.2]
def atC(f:Fm)(cs:%[|3]):Int:=comesTo f.1 f.2 cs
def upI(a:Int)(n:Nat):%[|3]:=(List.range n).map λ(k:Nat)=>a+(k:Int)
def bI(lo hi:Fm)(cs:%[|3]):List %[|3]:=(upI (atC lo cs) (atC hi cs-atC lo cs).toNat).map λ c=>cs++[c]
def aK(lo hi:Fm)(ahead:List %[|3]):List %[|3]:=ahead.flatMap (bI lo hi)
def cnt(ls:List Lp):List %[|3]:=ls.foldl (λ acc l=>aK l.1 l.2 acc) [[]]
def Sm6(ns:%[|3]):Prop:=ns.length≤10/\∀n∈ns,-1000000≤n/\n≤1000000
def SmF(f:Fm):Prop:= -1000000≤f.1/\f.1≤1000000/\Sm6 f.2
theorem wy:∀(fs cs:%[|3]),(∀n∈fs,-1000000≤n/\n≤1000000)->(∀n∈cs,-1000000≤n/\n≤1000000)-> -(1000000000000*(cs.length:Int))≤(List.zipWith (λ a b=>a*b) fs cs).sum/\(List.zipWith (λ a b=>a*b) fs cs).sum≤1000000000000*(cs.length:Int)
 | [],cs,_,_=>by simp;omega
 | f::fs,[],_,_=>by simp
 | f::fs,c::cs,h1,h2=>by
   have ih:=wy fs cs (λ n hn=>h1 n (x8 _ hn)) (λ n hn=>h2 n (x8 _ hn))
   have hf:=h1 f v3
   have hc:=h2 c v3
   have hp:(f*c).natAbs≤1000000*1000000:=by rw[Int.natAbs_mul];exact Nat.mul_le_mul %[|0] %[|0]
   simp only[List.zipWith_cons_cons,List.sum_cons,List.length_cons]
   omega
theorem jf{f:Fm}(hf:SmF f)(hc:Sm6 cs): -(2 ^ 62)≤atC f cs/\atC f cs<2 ^ 62:=by
 have:=wy f.2 cs hf.2.2.2 hc.2
 have h1:=hf.1
 have h2:=hf.2.1
 have h3:=hc.1
 unfold atC comesTo
 omega
theorem QZ(a:Int)(n:Nat):(upI a n).length=n:=by simp[upI]
theorem Gh(h:i<n):(upI a n)[i]? =some (a+i):=by simp[upI,h]
theorem cR(lo hi:Fm)(cs:%[|3]):(bI lo hi cs).length=(atC hi cs-atC lo cs).toNat:=by simp[bI,QZ]
theorem ie{lo hi:Fm}{ahead:List %[|3]}(h:ahead[i]? =some cs):aK lo hi (ahead.take (i+1))=aK lo hi (ahead.take i)++bI lo hi cs:=by
 unfold aK
 rw[aV h,List.flatMap_append];simp
theorem Ak{lo hi:Fm}{ahead:List %[|3]}(h:ahead[i]? =some cs):(aK lo hi (ahead.take i)).length+(bI lo hi cs).length≤(aK lo hi ahead).length:=by
 have e:aK lo hi ahead=aK lo hi (ahead.take (i+1))++aK lo hi (ahead.drop (i+1)):=by
  unfold aK
  rw[←List.flatMap_append,List.take_append_drop]
 rw[e,ie h,List.length_append,List.length_append];omega
theorem oF(xs:List %[|3]):aa (xs.map dC)=true:=by
 induction xs with
 | nil=>rfl
 | cons x xs ih=>
   simp only[List.map_cons,aa,ih,Bool.and_true]
   show aa (x.map D.int)=true
   induction x with
   | nil=>rfl
   | cons y ys ih=>simp only[List.map_cons,aa,ih,Bool.and_true];rfl
def Be:Ct:=λ ds S W=>∃ahead lo hi,ds=[.lst (List.map dC ahead),dF lo,dF hi]/\SmF lo/\SmF hi/\(∀cs∈ahead,Sm6 cs)/\ahead.length≤1000000/\(aK lo hi ahead).length≤1000000/\flat S/\hand W ((aK lo hi ahead).map dC) S
theorem lR(F:Fun Ω.K "with_next_count" "with_next_count" cN f fd)(N0:Ω.cd=none)(B:Bi Ω.mg)(Cq22:Cal Ω "comes_to" 1 2 fM):Ok Ω 2 f fd mG Be:=by
 refine aA N0 (N:=mF) F (Bl.frz (mH B Cq22)) %[|9] ?_
 rintro ds S W ⟨ahead,lo,hi,rfl,hlo,hhi,hah,hz0,hz,hS,hw⟩ hl
 walk_at "b"
 refine aN ⟨λ i Γ' S'=>(∃o4 o5,Γ'=[some (.lst (ahead.map dC)),some (dF lo),some (dF hi),%[|18],o4,o5])/\S'=S++[(aK lo hi (ahead.take i)).map dC],⟨⟨_,_,rfl⟩,rfl⟩,?_,?_⟩
 . rintro i e Γ' S' he ⟨⟨o4,o5,rfl⟩,rfl⟩
   rw[x5]at he
   cases e1:ahead[i]? with
   | none=>rw[e1]at he;cases he
   | some cs=>
     rw[e1]at he
     cases he
     have hcs:=hah cs (y6 e1)
     have b1:=jf hlo hcs
     have b2:=jf hhi hcs
     have h64:∀c∈cs,-(2 ^ 64)<c/\c<2 ^ 64:=λ c hc=>by have:=hcs.2 c hc;omega
     walk_at "b"
     refine⟨rfl,lo.1,lo.2,cs,rfl,by have:=hlo.2.2.1;omega,h64,?_⟩
     walk_at "b"
     refine⟨rfl,hi.1,hi.2,cs,rfl,by have:=hhi.2.2.1;omega,h64,?_⟩
     walk_at "b"
     refine⟨⟨b1.1,b1.2,b2.1,b2.2⟩,aN ⟨λ j Γ' S'=>(∃o5,Γ'=[some (.lst (ahead.map dC)),some (dF lo),some (dF hi),%[|18],some (dC cs),o5])/\S'=S++[(aK lo hi (ahead.take i)++(bI lo hi cs).take j).map dC],⟨⟨_,rfl⟩,by simp⟩,?_,?_⟩⟩
     . rintro j e Γ' S' he ⟨⟨o5,rfl⟩,rfl⟩
       obtain⟨hj,rfl⟩:=aJ he
       have hj':j<(bI lo hi cs).length:=by rw[cR];exact hj
       have lf:=Ak (lo:=lo) (hi:=hi) e1
       walk_at "b"
       refine⟨by simp;have:=hcs.1;omega,_,bw _ _,by simp;omega,?_⟩
       refine⟨⟨_,rfl⟩,?_⟩
       rw[bO]
       have e3:(bI lo hi cs)[j]? =some (cs++[atC lo cs+(j:Int)]):=by
        unfold bI
        rw[x5,Gh (by rw[cR]at hj';exact hj')];rfl
       have e4:dC (cs++[atC lo cs+(j:Int)])=D.tup (cs.map D.int++[D.int (comesTo lo.1 lo.2 cs+(j:Int))]):=by
        unfold dC;rw[List.map_append];rfl
       rw[aV e3,←List.append_assoc,List.map_append (l₂:=[_]),List.map_singleton,e4]
     . rintro Γ' S' ⟨⟨o5,rfl⟩,rfl⟩
       refine⟨⟨_,_,rfl⟩,?_⟩
       have e5:(bI lo hi cs).take (DL.upTo (comesTo lo.1 lo.2 cs) (comesTo hi.1 hi.2 cs-comesTo lo.1 lo.2 cs).toNat).length=bI lo hi cs:=by
        rw[ak];exact List.take_of_length_le (by rw[cR];exact x6 _)
       rw[e5,ie e1]
 . rintro Γ' S' ⟨⟨o4,o5,rfl⟩,rfl⟩
   rw[y8,List.take_length]
   exact qL hw (oF _) hS
def Fits(ls:List Lp):Prop:=(∀l∈ls,SmF l.1/\SmF l.2)/\∀i,i≤ls.length->(cnt (ls.take i)).length≤1000000/\∀cs∈cnt (ls.take i),Sm6 cs
def sH:Ct:=λ ds S W=>∃ls,ds=[.tup (List.map dL ls)]/\1≤ls.length/\Fits ls/\flat S/\hand W ((cnt ls).map dC) S
theorem lB{ls:List Lp}{l:Lp}(h:ls[i]? =some l):cnt (ls.take (i+1))=aK l.1 l.2 (cnt (ls.take i)):=by
 unfold cnt
 rw[aV h,List.foldl_append];rfl
theorem vz(F:Fun Ω.K "counts_of" "counts_of" gA f fd)(N0:Ω.cd=none)(Cq59:Cal Ω "with_next_count" 2 3 Be):Ok Ω 3 f fd xW sH:=by
 refine aA N0 (N:=xN) F (Bl.frz (xG Cq59)) %[|9] ?_
 rintro ds S W ⟨ls,rfl,hn,hf,hS,hw⟩ hl
 walk_at "b"
 have turn:∀(i:Nat)(e:D),(ls.map dL)[i]? =some e->∃l,ls[i]? =some l/\e=dL l:=λ i e he=>by
  rw[x5]at he
  cases e1:ls[i]? with
  | none=>rw[e1]at he;cases he
  | some l=>rw[e1]at he;cases he;exact⟨l,rfl,rfl⟩
 have step:∀(i:Nat)(l:Lp)(W:WD),ls[i]? =some l->hand W ((cnt (ls.take (i+1))).map dC) S->Be [.lst ((cnt (ls.take i)).map dC),dF l.1,dF l.2] S W:=λ i l W h w=>by
  have hi:=(y3.mp h).1
  obtain⟨a,b⟩:=hf.1 l (y6 h)
  obtain⟨c,d⟩:=hf.2 i %[|0]
  obtain⟨c',d'⟩:=hf.2 (i+1) %[|0]
  rw[lB h]at c' w
  exact⟨_,_,_,rfl,a,b,d,c,c',hS,w⟩
 rcases hw with hw | hw
 . refine aN ⟨λ i Γ' S'=>(∃o2 o3,Γ'=[some (.tup (ls.map dL)),some (.lst ((cnt (ls.take i)).map dC)),o2,o3])/\S'=S,⟨⟨_,_,rfl⟩,rfl⟩,?_,?_⟩
   . rintro i e Γ' S' he ⟨⟨o2,o3,rfl⟩,rfl⟩
     obtain⟨l,hl',rfl⟩:=turn i e he
     walk_at "b"
     refine⟨rfl,?_⟩
     walk_at "n"
     exact⟨rfl,step i l _ hl' (.inl ⟨⟨_,_,rfl⟩,rfl⟩)⟩
   . rintro Γ' S' ⟨⟨o2,o3,rfl⟩,rfl⟩
     rw[y8,List.take_length]
     exact .inl hw
 . refine aN ⟨λ i Γ' S'=>(i<ls.length/\(∃o2 o3,Γ'=[some (.tup (ls.map dL)),some (.lst ((cnt (ls.take i)).map dC)),o2,o3])/\S'=S)∨(i=ls.length/\(∃o2 o3,Γ'=[some (.tup (ls.map dL)),%[|18],o2,o3])/\S'=S++[(cnt ls).map dC]),.inl ⟨%[|0],⟨_,_,rfl⟩,rfl⟩,?_,?_⟩
   . rintro i e Γ' S' he q
     obtain⟨l,hl',rfl⟩:=turn i e he
     have hi:=(y3.mp hl').1
     rcases q with⟨_,⟨o2,o3,rfl⟩,rfl⟩ | ⟨q,_⟩
     . walk_at "b"
       refine⟨rfl,?_⟩
       walk_at "n"
       by_cases hlast:i+1=ls.length
       . refine⟨rfl,step i l _ hl' (.inr (.inr ⟨hlast,⟨_,_,rfl⟩,?_⟩))⟩
         rw[hlast,List.take_length]
       . exact⟨rfl,step i l _ hl' (.inl (.inl ⟨%[|0],⟨_,_,rfl⟩,rfl⟩))⟩
     . omega
   . rintro Γ' S' q
     rw[y8]at q
     rcases q with⟨q,_⟩ | ⟨_,⟨o2,o3,rfl⟩,rfl⟩
     . omega
     . exact .inl hw
def BdF(f:Fm)(k:Nat):Prop:=f.2.length=k/\ -9≤f.1/\f.1≤9/\∀n∈f.2,-2≤n/\n≤2
theorem Ih{g m:Int}(hg: -2≤g/\g≤2)(ha: -m≤a/\a≤m): -(2*m)≤g*a/\g*a≤2*m:=by
 have:g= -2∨g= -1∨g=0∨g=1∨g=2:=%[|0]
 rcases this with rfl | rfl | rfl | rfl | rfl<;>omega
def bnd:Nat->Int
 | 0=>0
 | 1=>9
 | 2=>27
 | _=>117
def Cs(i:Nat)(cs:%[|3]):Prop:=cs.length=i/\∀c∈cs,-(bnd i)≤c/\c≤bnd i
theorem tR{f:Fm}(hi:i≤2)(hf:BdF f i)(hc:Cs i cs): -(bnd (i+1))≤atC f cs/\atC f cs≤bnd (i+1):=by
 obtain⟨a,fs⟩:=f
 obtain⟨h1,h2,h3,h4⟩:=hf
 obtain⟨c1,c2⟩:=hc
 dsimp only at h1 h2 h3 h4
 unfold atC comesTo
 have:i=0∨i=1∨i=2:=%[|0]
 rcases this with rfl | rfl | rfl
 . match fs,cs,h1,c1 with
   | [],[],_,_=>simp[bnd];omega
 . match fs,cs,h1,c1 with
   | [g],[x],_,_=>
     have:=Ih (h4 g (by simp)) (c2 x (by simp))
     simp[bnd]at this ⊢;omega
 . match fs,cs,h1,c1 with
   | [g,g'],[x,x'],_,_=>
     have t1:=Ih (h4 g (by simp)) (c2 x (by simp))
     have t2:=Ih (h4 g' (by simp)) (c2 x' (by simp))
     simp[bnd]at t1 t2 ⊢;omega
theorem Uc:bnd i≤bnd (i+1):=by
 match i with
 | 0=>decide
 | 1=>decide
 | 2=>decide
 | i+3=>exact Int.le_refl _
theorem Lf(i:Nat):bnd i≤117:=by
 match i with
 | 0=>decide
 | 1=>decide
 | 2=>decide
 | i+3=>exact Int.le_refl _
theorem Rg{lo hi:Fm}{ds:%[|3]}(hi2:i≤2)(hlo:BdF lo i)(hhi:BdF hi i)(hc:Cs i cs)(h:ds∈bI lo hi cs):Cs (i+1) ds:=by
 unfold bI at h
 obtain⟨c,hc',rfl⟩:=ZO.mp h
 unfold upI at hc'
 obtain⟨k,hk,rfl⟩:=ZO.mp hc'
 have hk:=List.mem_range.mp hk
 have b1:=tR hi2 hlo hc
 have b2:=tR hi2 hhi hc
 refine⟨by simp[hc.1],λ c h=>?_⟩
 rcases ZK.mp h with h | h
 . have:=hc.2 c h
   have:=Uc (i:=i)
   omega
 . have:c=atC lo cs+(k:Int):=by simpa using h
   omega
def Lps(ls:List Lp):Prop:=1≤ls.length/\ls.length≤3/\∀(i:Nat)(l:Lp),ls[i]? =some l->BdF l.1 i/\BdF l.2 i
theorem tu{ls:List Lp}(h:Lps ls):∀i,i≤ls.length->∀cs∈cnt (ls.take i),Cs i cs
 | 0,_,cs,hc=>by
   have:cs=[]:=by simpa[cnt]using hc
   subst this
   exact⟨rfl,λ c hc=>by simp at hc⟩
 | i+1,hi,cs,hc=>by
   have hl:=y4 (l:=ls) (i:=i) %[|0]
   rw[lB hl]at hc
   obtain⟨ds,hd,hc⟩:=List.mem_flatMap.mp hc
   have:=h.2.2 i _ hl
   have h3:=h.2.1
   exact Rg %[|0] this.1 this.2 (tu h i %[|0] ds hd) hc
def GK:Nat->Nat
 | 0=>1
 | 1=>18
 | 2=>972
 | _=>227448
theorem Bs{lo hi:Fm}{m:Nat}:∀{ahead:List %[|3]},(∀cs∈ahead,(bI lo hi cs).length≤m)->(aK lo hi ahead).length≤ahead.length*m
 | [],_=>by simp[aK]
 | a::as,h=>by
   have ih:=Bs (ahead:=as) λ cs hc=>h cs (x8 _ hc)
   have:=h a v3
   unfold aK at ih ⊢
   rw[List.flatMap_cons,List.length_append,List.length_cons,Nat.succ_mul]
   omega
theorem Fz{ls:List Lp}(h:Lps ls):∀i,i≤ls.length->(cnt (ls.take i)).length≤GK i
 | 0,_=>by simp[cnt,GK]
 | i+1,hi=>by
   have hl:=y4 (l:=ls) (i:=i) %[|0]
   have ih:=Fz h i %[|0]
   have h3:=h.2.1
   have hb:=h.2.2 i _ hl
   rw[lB hl]
   have hm:∀cs∈cnt (ls.take i),(bI ls[i].1 ls[i].2 cs).length≤(2*bnd (i+1)).toNat:=λ cs hc=>by
    have c:=tu h i %[|0] cs hc
    have b1:=tR %[|0] hb.1 c
    have b2:=tR %[|0] hb.2 c
    rw[cR];omega
   have:=Bs hm
   have:i=0∨i=1∨i=2:=%[|0]
   rcases this with rfl | rfl | rfl<;>simp[bnd,GK]at* <;>omega
theorem Lps.fits{ls:List Lp}(h:Lps ls):Fits ls:=by
 refine⟨λ l hl=>?_,λ i hi=>⟨?_,λ cs hc=>?_⟩⟩
 . obtain⟨i,hi⟩:=ZR hl
   have hl':=(y3.mp hi).1
   have h3:=h.2.1
   obtain⟨⟨a1,a2,a3,a4⟩,b1,b2,b3,b4⟩:=h.2.2 i l hi
   exact⟨⟨%[|0],%[|0],%[|0],λ n hn=>by have:=a4 n hn;omega⟩,%[|0],%[|0],%[|0],λ n hn=>by have:=b4 n hn;omega⟩
 . have:=Fz h i hi
   have h3:=h.2.1
   have:i=0∨i=1∨i=2∨i=3:=%[|0]
   rcases this with rfl | rfl | rfl | rfl<;>simp only[GK]at* <;>omega
 . have c:=tu h i hi cs hc
   have h3:=h.2.1
   exact⟨by have:=c.1;omega,λ n hn=>by have:=c.2 n hn;have:=Lf i;omega⟩
def lr(a b:Int):D->Bool
 | .int n=>decide (a≤n)&&decide (n≤b)
 | _=>false
def qK(n:Int):Bool:=decide ((if n<0 then-n else n)<10 ^ Int.toNat 30)
def vI:D->Bool
 | .int n=>qK n
 | _=>false
def parts:D->List D
 | .tup ds=>ds
 | _=>[]
def iV(x:D):Bool:=aM x 1 3&&(parts x).all (lr 1 2)
def isPlace(d:Int)(x:D):Bool:=aY x d&&(parts x).all (lr (-99) 99)
def isStart(x:D)(d:Int):Bool:=aY x d&&(parts x).all vI
def jq(t p:D)(ws:%[|3])(d:Int):Bool:=match t with
 | .int n=>(decide (0≤n)&&decide (n<(ws.length:Int)))&&(aM p (ws.getD n.toNat 0) (ws.getD n.toNat 0)&&(parts p).all (isPlace d))
 | _=>false
def jO(ws:%[|3])(d:Int)(x:D):Bool:=match x with
 | .tup [f,t,p]=>vI f&&jq t p ws d
 | _=>false
def pL(x:D)(ws:%[|3])(d:Int):Bool:=aM x 0 3&&(parts x).all (jO ws d)
def fD(ws:%[|3])(d:Int)(x:D):Bool:=match x with
 | .tup [t,p,s,r]=>jq t p ws d&&(isStart s d&&pL r ws d)
 | _=>false
def g8(ws:%[|3])(x:D):Bool:=match x with
 | .tup [l,ds]=>fP l&&(aM ds 1 4&&(parts ds).all (fD ws ((parts l).length:Int)))
 | _=>false
def pN(x:D)(ws:%[|3]):Bool:=aM x 1 3&&(parts x).all (g8 ws)
def G3:Ct:=λ ds S W=>∃n,ds=[.int n]/\W (.bl (qK n)) S
def yU:Ct:=λ ds S W=>∃x,ds=[x]/\W (.bl (iV x)) S
def yH:Ct:=λ ds S W=>∃x d,ds=[x,.int d]/\0≤d/\d≤1000/\W (.bl (isPlace d x)) S
def FZ:Ct:=λ ds S W=>∃x d,ds=[x,.int d]/\0≤d/\d≤1000/\W (.bl (isStart x d)) S
def Ws(ws:%[|3]):Prop:=ws.length≤3/\∀w∈ws,1≤w/\w≤2
def PB:Ct:=λ ds S W=>∃t p ws d,ds=[t,p,.tup (List.map .int ws),.int d]/\Ws ws/\0≤d/\d≤1000/\W (.bl (jq t p ws d)) S
def Kg:Ct:=λ ds S W=>∃x ws d,ds=[x,.tup (List.map .int ws),.int d]/\Ws ws/\0≤d/\d≤1000/\W (.bl (jO ws d x)) S
def Gx:Ct:=λ ds S W=>∃x ws d,ds=[x,.tup (List.map .int ws),.int d]/\Ws ws/\0≤d/\d≤1000/\W (.bl (pL x ws d)) S
def JP:Ct:=λ ds S W=>∃x ws d,ds=[x,.tup (List.map .int ws),.int d]/\Ws ws/\0≤d/\d≤1000/\W (.bl (fD ws d x)) S
def Jt:Ct:=λ ds S W=>∃x ws,ds=[x,.tup (List.map .int ws)]/\Ws ws/\W (.bl (g8 ws x)) S
def Ge:Ct:=λ ds S W=>∃x ws,ds=[x,.tup (List.map .int ws)]/\Ws ws/\W (.bl (pN x ws)) S
theorem b7{ds:List D}{p:D->Bool}{W:WD}(w:W (.bl (ds.all p)) S):eU.wp [.lst (ds.map λ d=>.bl (p d))] S W:=
 ⟨ds.map p,by rw[List.map_map];rfl,by rw[Aw];exact w⟩
theorem wk{ds:List D}{b:Int}(h:aM (.tup ds) a b=true):a≤(ds.length:Int)/\(ds.length:Int)≤b:=by
 obtain⟨h1,h2⟩:=az h
 exact⟨ZF h1,ZF h2⟩
theorem aR{b:Int}(h:aM x a b=true):∃ds,x=.tup ds/\a≤(ds.length:Int)/\(ds.length:Int)≤b:=by
 cases x with
 | tup ds=>exact⟨ds,rfl,wk h⟩
 | _=>exact ff h
theorem pH{b n:Int}{Q:WD}(hq:Q (.bl (lr a b (.int n))) S):(decide (a≤n)=false->Q (.bl false) S)/\(decide (a≤n)=true->Q (.bl (decide (n≤b))) S):=by
 have e:lr a b (.int n)=(decide (a≤n)&&decide (n≤b)):=rfl
 rw[e]at hq
 exact⟨λ h=>by rw[h]at hq;exact hq,λ h=>by rw[h]at hq;exact hq⟩
theorem kh(F:Fun Ω.K "has_few_figures" "has_few_figures" cP f fd)(N0:Ω.cd=none)(B:Bi Ω.mg):Ok Ω 1 f fd mQ G3:=by
 refine aA N0 (N:=mV) F (mR B) %[|9] ?_
 rintro ds S W ⟨n,rfl,hw⟩ hl
 walk_at "b"
 exact hw
theorem uP(F:Fun Ω.K "is_widths" "is_widths" gB f fd)(N0:Ω.cd=none)(B:Bi Ω.mg)(Cq44:Cal Ω "is_whole" 1 1 gQ)(Cq43:Cal Ω "is_tuple_of" 1 3 cJ):Ok Ω 2 f fd xF yU:=by
 refine aA N0 (N:=wR) F (xX B Cq44 Cq43) %[|9] ?_
 rintro ds S W ⟨x,rfl,hw⟩ hl
 walk_at "b"
 refine⟨rfl,_,_,_,rfl,?_⟩
 walk_at "b"
 unfold iV at hw
 refine⟨λ h=>?_,λ h=>by rw[h]at hw;exact hw⟩
 rw[h]at hw
 obtain⟨ds,rfl,l1,l2⟩:=aR h
 walk_at "b"
 refine cL (λ d=>.bl (lr 1 2 d)) %[|0] ?_ (b7 hw)
 intro i e he Q hq
 walk_at "b"
 refine⟨rfl,_,rfl,?_⟩
 cases e with
 | int n=>
   walk_at "b"
   refine⟨(pH hq).1,λ h=>?_⟩
   walk_at "b"
   exact(pH hq).2 h
 | _=>walk_at "b";exact hq
theorem nu(F:Fun Ω.K "is_place_form" "is_place_form" dG f fd)(N0:Ω.cd=none)(B:Bi Ω.mg)(Cq28:Cal Ω "is_form" 2 2 nU):Ok Ω 3 f fd qi yH:=by
 refine aA N0 (N:=qj) F (qm B Cq28) %[|9] ?_
 rintro ds S W ⟨x,d,rfl,hd0,hd,hw⟩ hl
 walk_at "b"
 refine⟨rfl,_,_,rfl,hd,?_⟩
 walk_at "b"
 unfold isPlace at hw
 refine⟨λ h=>?_,λ h=>by rw[h]at hw;exact hw⟩
 rw[h]at hw
 obtain⟨a,fs,rfl,hf⟩:=jF h hd0
 walk_at "b"
 refine cL (λ d=>.bl (lr (-99) 99 d)) (by simp;omega) ?_ (b7 hw)
 intro i e he Q hq
 have:∃n,e=.int n:=by
  have:=y6 he
  rcases ZJ.mp this with rfl | h
  . exact⟨_,rfl⟩
  . obtain⟨n,_,rfl⟩:=ZO.mp h
    exact⟨n,rfl⟩
 obtain⟨n,rfl⟩:=this
 walk_at "b"
 refine⟨(pH hq).1,λ h=>?_⟩
 walk_at "b"
 exact(pH hq).2 h
theorem wU(F:Fun Ω.K "is_start" "is_start" gZ f fd)(N0:Ω.cd=none)(B:Bi Ω.mg)(Cq28:Cal Ω "is_form" 2 2 nU)(Cq25:Cal Ω "has_few_figures" 1 1 G3):Ok Ω 3 f fd yC FZ:=by
 refine aA N0 (N:=yO) F (BP B Cq28 Cq25) %[|9] ?_
 rintro ds S W ⟨x,d,rfl,hd0,hd,hw⟩ hl
 walk_at "b"
 refine⟨rfl,_,_,rfl,hd,?_⟩
 walk_at "b"
 unfold isStart at hw
 refine⟨λ h=>?_,λ h=>by rw[h]at hw;exact hw⟩
 rw[h]at hw
 obtain⟨a,fs,rfl,hf⟩:=jF h hd0
 walk_at "b"
 refine cL (λ d=>.bl (vI d)) (by simp;omega) ?_ (b7 hw)
 intro i e he Q hq
 have:∃n,e=.int n:=by
  have:=y6 he
  rcases ZJ.mp this with rfl | h
  . exact⟨_,rfl⟩
  . obtain⟨n,_,rfl⟩:=ZO.mp h
    exact⟨n,rfl⟩
 obtain⟨n,rfl⟩:=this
 walk_at "b"
 exact⟨rfl,_,rfl,hq⟩
theorem iT(F:Fun Ω.K "is_table_with_place" "is_table_with_place" bW f fd)(N0:Ω.cd=none)(B:Bi Ω.mg)(Cq44:Cal Ω "is_whole" 1 1 gQ)(Cq43:Cal Ω "is_tuple_of" 1 3 cJ)(Cq36:Cal Ω "is_place_form" 3 2 yH):Ok Ω 4 f fd je PB:=by
 refine aA N0 (N:=jd) F (jb B Cq44 Cq43 Cq36) %[|9] ?_
 rintro ds S W ⟨t,p,ws,d,rfl,hws,hd0,hd,hw⟩ hl
 walk_at "b"
 refine⟨rfl,_,rfl,?_⟩
 cases t with
 | int n=>
   have e:jq (.int n) p ws d=((decide (0≤n)&&decide (n<(ws.length:Int)))&&(aM p (ws.getD n.toNat 0) (ws.getD n.toNat 0)&&(parts p).all (isPlace d))):=rfl
   rw[e]at hw
   have hl3:((ws.map D.int).length:Int)=(ws.length:Int):=by rw[y8]
   walk_at "b"
   refine⟨λ h=>?_,λ h=>?_⟩
   . rw[h]at hw
     walk_at "b"
     exact hw
   rw[h,Bool.true_and]at hw
   walk_at "b"
   rw[hl3]
   refine⟨λ h2=>?_,λ h2=>?_⟩
   . have h2:decide (n<(ws.length:Int))=false:=nt h2
     rw[h2]at hw
     walk_at "b"
     exact hw
   have h2:decide (n<(ws.length:Int))=true:=by
    cases q:decide (n<(ws.length:Int))with
    | true=>rfl
    | false=>rw[q]at h2;exact tf h2
   rw[h2,Bool.true_and]at hw
   have h0:=ZF h
   have h1:=ZF h2
   have hk:n.toNat<ws.length:=%[|0]
   have ew:ws.getD n.toNat 0=ws[n.toNat]:=by simp[List.getD,hk]
   have at1:atI (ws.map D.int) n=some (.int (ws.getD n.toNat 0)):=by
    have:=dm (xs:=ws.map D.int) (j:=n.toNat) (v:=.int ws[n.toNat]) (by rw[x5,y4 hk];rfl)
    rw[Int.toNat_of_nonneg h0]at this
    rw[ew];exact this
   have hw12:=hws.2 _ (List.getElem_mem hk)
   rw[←ew]at hw12
   generalize ws.getD n.toNat 0=w at at1 hw hw12
   walk_at "b"
   refine⟨_,at1,?_⟩
   walk_at "b"
   refine⟨_,at1,?_⟩
   walk_at "b"
   refine⟨rfl,_,_,_,rfl,?_⟩
   walk_at "b"
   refine⟨λ h3=>?_,λ h3=>by rw[h3]at hw;exact hw⟩
   rw[h3]at hw
   obtain⟨ds,rfl,l1,l2⟩:=aR h3
   walk_at "b"
   refine cL (λ x=>.bl (isPlace d x)) %[|0] ?_ (b7 hw)
   intro i e he Q hq
   walk_at "b"
   exact⟨rfl,_,_,rfl,hd0,hd,hq⟩
 | _=>walk_at "b";exact hw
theorem za(F:Fun Ω.K "is_read" "is_read" jr f fd)(N0:Ω.cd=none)(Cq44:Cal Ω "is_whole" 1 1 gQ)(Cq43:Cal Ω "is_tuple_of" 1 3 cJ)(Cq25:Cal Ω "has_few_figures" 1 1 G3)(Cq42:Cal Ω "is_table_with_place" 4 4 PB):Ok Ω 5 f fd DK Kg:=by
 refine aA N0 (N:=CJ) F (DW Cq44 Cq43 Cq25 Cq42) %[|9] ?_
 rintro ds S W ⟨x,ws,d,rfl,hws,hd0,hd,hw⟩ hl
 walk_at "b"
 refine⟨rfl,_,_,_,rfl,?_⟩
 cases h:aM x 3 3 with
 | false=>
   have e:jO ws d x=false:=by
    cases x with
    | tup ds=>
      match ds,h with
      | [a,b,c],h=>exact tf h
      | [],_=>rfl
      | [_],_=>rfl
      | [_,_],_=>rfl
      | _::_::_::_::_,_=>rfl
    | _=>rfl
   rw[e]at hw
   walk_at "b"
   exact hw
 | true=>
   obtain⟨ds,rfl,l1,l2⟩:=aR h
   match ds,l1,l2,hw with
   | [f, t,p],_,_,hw=>
     walk_at "b"
     refine⟨rfl,_,rfl,?_⟩
     have e:jO ws d (.tup [f,t,p])=(vI f&&jq t p ws d):=rfl
     rw[e]at hw
     cases f with
     | int n=>
       walk_at "b"
       refine⟨rfl,_,rfl,?_⟩
       have e:vI (.int n)=qK n:=rfl
       rw[e]at hw
       cases h2:qK n with
       | true=>
         rw[h2]at hw
         walk_at "b"
         exact⟨rfl,_,_,_,_,rfl,hws,hd0,hd,hw⟩
       | false=>
         rw[h2]at hw
         walk_at "b"
         exact hw
     | _=>walk_at "b";exact hw
   | [],l1,_,_=>simp at l1
   | [_],l1,_,_=>simp at l1
   | [_,_],l1,_,_=>simp at l1
   | _::_::_::_::es,_,l2,_=>simp at l2;omega
theorem xK(F:Fun Ω.K "is_reads" "is_reads" iY f fd)(N0:Ω.cd=none)(B:Bi Ω.mg)(Cq43:Cal Ω "is_tuple_of" 1 3 cJ)(Cq38:Cal Ω "is_read" 5 3 Kg):Ok Ω 6 f fd yN Gx:=by
 refine aA N0 (N:=Ae) F (Ao B Cq43 Cq38) %[|9] ?_
 rintro ds S W ⟨x,ws,d,rfl,hws,hd0,hd,hw⟩ hl
 walk_at "b"
 refine⟨rfl,_,_,_,rfl,?_⟩
 walk_at "b"
 unfold pL at hw
 refine⟨λ h=>?_,λ h=>by rw[h]at hw;exact hw⟩
 rw[h]at hw
 obtain⟨ds,rfl,l1,l2⟩:=aR h
 walk_at "b"
 refine cL (λ x=>.bl (jO ws d x)) %[|0] ?_ (b7 hw)
 intro i e he Q hq
 walk_at "b"
 exact⟨rfl,_,_,_,rfl,hws,hd0,hd,hq⟩
theorem Av(F:Fun Ω.K "is_deed" "is_deed" jw f fd)(N0:Ω.cd=none)(Cq43:Cal Ω "is_tuple_of" 1 3 cJ)(Cq41:Cal Ω "is_start" 3 2 FZ)(Cq42:Cal Ω "is_table_with_place" 4 4 PB)(Cq39:Cal Ω "is_reads" 6 3 Gx):Ok Ω 7 f fd Di JP:=by
 refine aA N0 (N:=Dn) F (DR Cq43 Cq41 Cq42 Cq39) %[|9] ?_
 rintro ds S W ⟨x,ws,d,rfl,hws,hd0,hd,hw⟩ hl
 walk_at "b"
 refine⟨rfl,_,_,_,rfl,?_⟩
 cases h:aM x 4 4 with
 | false=>
   have e:fD ws d x=false:=by
    cases x with
    | tup ds=>
      match ds,h with
      | [a,b,c,d],h=>exact tf h
      | [],_=>rfl
      | [_],_=>rfl
      | [_,_],_=>rfl
      | [_,_,_],_=>rfl
      | _::_::_::_::_::_,_=>rfl
    | _=>rfl
   rw[e]at hw
   walk_at "b"
   exact hw
 | true=>
   obtain⟨ds,rfl,l1,l2⟩:=aR h
   match ds,l1,l2,hw with
   | [t, p,s,r],_,_,hw=>
     have e:fD ws d (.tup [t,p,s,r])=(jq t p ws d&&(isStart s d&&pL r ws d)):=rfl
     rw[e]at hw
     walk_at "b"
     refine⟨rfl,_,_,_,_,rfl,hws,hd0,hd,?_⟩
     cases h2:jq t p ws d with
     | false=>
       rw[h2]at hw
       walk_at "b"
       exact hw
     | true=>
       rw[h2,Bool.true_and]at hw
       walk_at "b"
       refine⟨rfl,_,_,rfl,hd0,hd,?_⟩
       cases h3:isStart s d with
       | false=>
         rw[h3]at hw
         walk_at "b"
         exact hw
       | true=>
         rw[h3,Bool.true_and]at hw
         walk_at "b"
         exact⟨rfl,_,_,_,rfl,hws,hd0,hd,hw⟩
   | [],l1,_,_=>simp at l1
   | [_],l1,_,_=>simp at l1
   | [_,_],l1,_,_=>simp at l1
   | [_,_,_],l1,_,_=>simp at l1
   | _::_::_::_::_::es,_,l2,_=>simp at l2;omega
theorem Cg(F:Fun Ω.K "is_nest" "is_nest" jx f fd)(N0:Ω.cd=none)(B:Bi Ω.mg)(Cq43:Cal Ω "is_tuple_of" 1 3 cJ)(Cq32:Cal Ω "is_loops" 5 1 Fx)(Cq27:Cal Ω "is_deed" 7 3 JP):Ok Ω 8 f fd Ef Jt:=by
 refine aA N0 (N:=CK) F (Dy B Cq43 Cq32 Cq27) %[|9] ?_
 rintro ds S W ⟨x,ws,rfl,hws,hw⟩ hl
 walk_at "b"
 refine⟨rfl,_,_,_,rfl,?_⟩
 cases h:aM x 2 2 with
 | false=>
   have e:g8 ws x=false:=by
    cases x with
    | tup ds=>
      match ds,h with
      | [a,b],h=>exact tf h
      | [],_=>rfl
      | [_],_=>rfl
      | _::_::_::_,_=>rfl
    | _=>rfl
   rw[e]at hw
   walk_at "b"
   exact hw
 | true=>
   obtain⟨ds,rfl,l1,l2⟩:=aR h
   match ds,l1,l2,hw with
   | [l, dd],_,_,hw=>
     have e:g8 ws (.tup [l,dd])=(fP l&&(aM dd 1 4&&(parts dd).all (fD ws ((parts l).length:Int)))):=rfl
     rw[e]at hw
     walk_at "b"
     refine⟨rfl,_,rfl,?_⟩
     cases h2:fP l with
     | false=>
       rw[h2]at hw
       walk_at "b"
       exact hw
     | true=>
       rw[h2,Bool.true_and]at hw
       cases l with
       | tup ls=>
         have hlen:(ls.length:Int)≤3:=ZF (az (az h2).1).2
         have hw:W (.bl (aM dd 1 4&&(parts dd).all (fD ws (ls.length:Int)))) S:=hw
         walk_at "b"
         refine⟨rfl,_,_,_,rfl,?_⟩
         walk_at "b"
         refine⟨λ h3=>?_,λ h3=>by rw[h3]at hw;exact hw⟩
         rw[h3]at hw
         obtain⟨es,rfl,l1,l2⟩:=aR h3
         walk_at "b"
         refine cL (λ x=>.bl (fD ws (ls.length:Int) x)) %[|0] ?_ (b7 hw)
         intro i e he Q hq
         walk_at "b"
         exact⟨rfl,_,_,_,rfl,hws,%[|0],%[|0],hq⟩
       | _=>exact ff h2
   | [],l1,_,_=>simp at l1
   | [_],l1,_,_=>simp at l1
   | _::_::_::es,_,l2,_=>simp at l2;omega
theorem xR(F:Fun Ω.K "is_nests" "is_nests" iQ f fd)(N0:Ω.cd=none)(B:Bi Ω.mg)(Cq43:Cal Ω "is_tuple_of" 1 3 cJ)(Cq33:Cal Ω "is_nest" 8 2 Jt):Ok Ω 9 f fd Bx Ge:=by
 refine aA N0 (N:=yX) F (zr B Cq43 Cq33) %[|9] ?_
 rintro ds S W ⟨x,ws,rfl,hws,hw⟩ hl
 walk_at "b"
 refine⟨rfl,_,_,_,rfl,?_⟩
 walk_at "b"
 unfold pN at hw
 refine⟨λ h=>?_,λ h=>by rw[h]at hw;exact hw⟩
 rw[h]at hw
 obtain⟨ds,rfl,l1,l2⟩:=aR h
 walk_at "b"
 refine cL (λ x=>.bl (g8 ws x)) %[|0] ?_ (b7 hw)
 intro i e he Q hq
 walk_at "b"
 exact⟨rfl,_,_,rfl,hws,hq⟩
structure Rd where
 fac:Int
 tab:Nat
 pl:List Fm
structure Dd where
 tab:Nat
 pl:List Fm
 st:Fm
 rds:List Rd
structure Ns where
 lps:List Lp
 dds:List Dd
structure Pg where
 ws:%[|3]
 nss:List Ns
def dP(pl:List Fm):D:=.tup (pl.map dF)
def dRd(r:Rd):D:=.tup [.int r.fac,.int r.tab,dP r.pl]
def dDd(x:Dd):D:=.tup [.int x.tab,dP x.pl,dF x.st,.tup (x.rds.map dRd)]
def dNs(n:Ns):D:=.tup [.tup (n.lps.map dL),.tup (n.dds.map dDd)]
def dWs(ws:%[|3]):D:=.tup (ws.map .int)
def dPg(p:Pg):D:=.tup [dWs p.ws,.tup (p.nss.map dNs)]
def many(nss:List Ns):Int:=(nss.map λ n=>((cnt n.lps).length:Int)*(n.dds.length:Int)).sum
def nM(n:Ns):Prop:=1≤n.lps.length/\Fits n.lps/\n.dds.length≤1000
def Ka:Ct:=λ ds S W=>∃nss,ds=[.tup (List.map dNs nss)]/\nss.length≤1000/\(∀n∈nss,nM n)/\flat S/\W (.int (many nss)) S
def yM:Ct:=λ ds S W=>∃p:Pg,ds=[dWs p.ws,.tup (List.map dNs p.nss)]/\iV (dWs p.ws)=true/\pN (.tup (p.nss.map dNs)) p.ws=true/\p.nss.length≤1000/\(∀n∈p.nss,nM n)/\many p.nss≤60/\flat S/\W (dPg p) S
theorem JW(h:iV (dWs ws)=true):Ws ws:=by
 obtain⟨h1,h2⟩:=az h
 have:=wk h1
 refine⟨by simp at this;omega,λ w hw=>?_⟩
 have h3:=List.all_eq_true.mp h2 (.int w) (ZO.mpr ⟨w,hw,rfl⟩)
 obtain⟨a,b⟩:=az h3
 exact⟨ZF a,ZF b⟩
theorem j9(F:Fun Ω.K "number_of_steps" "number_of_steps" cO f fd)(N0:Ω.cd=none)(B:Bi Ω.mg)(Cq23:Cal Ω "counts_of" 3 1 sH):Ok Ω 4 f fd mJ Ka:=by
 refine aA N0 (N:=mO) F (mW B Cq23) %[|9] ?_
 rintro ds S W ⟨nss,rfl,hz,hok,hS,hw⟩ hl
 walk_at "b"
 refine dM (λ n=>.int (((cnt n.lps).length:Int)*(n.dds.length:Int))) %[|0] ?_ ?_
 . intro i n hn Q hq
   obtain⟨h1,h2,h3⟩:=hok n (y6 hn)
   have h4:=(h2.2 n.lps.length (x6 _)).1
   rw[List.take_length]at h4
   walk_at "b"
   refine⟨rfl,?_⟩
   walk_at "b"
   refine⟨rfl,_,rfl,h1,h2,hS,.inl ?_⟩
   have e1:(((cnt n.lps).map dC).length:Int)=((cnt n.lps).length:Int):=by rw[y8]
   have e2:((n.dds.map dDd).length:Int)=(n.dds.length:Int):=by rw[y8]
   walk_at "n"
   rw[e1,e2]
   exact⟨.inl ⟨%[|0],%[|0]⟩,hq⟩
 . exact⟨nss.map λ(n:Ns)=>((cnt n.lps).length:Int)*(n.dds.length:Int),by rw[List.map_map];rfl,hw⟩
theorem sO(F:Fun Ω.K "program_of" "program_of" fV f fd)(N0:Ω.cd=none)(B:Bi Ω.mg)(Cq45:Cal Ω "is_widths" 2 1 yU)(Cq35:Cal Ω "is_nests" 9 2 Ge)(Cq51:Cal Ω "number_of_steps" 4 1 Ka):Ok Ω 10 f fd uH yM:=by
 refine aA N0 (N:=vO) F (ut B Cq45 Cq35 Cq51) %[|9] ?_
 rintro ds S W ⟨p,rfl,h1,h2,hz,hok,h60,hS,hw⟩ hl
 have hws:=JW h1
 walk_at "b"
 refine⟨rfl,_,rfl,?_⟩
 rw[h1]
 walk_at "b"
 refine⟨rfl,_,_,rfl,hws,?_⟩
 rw[h2]
 walk_at "b"
 refine⟨rfl,_,rfl,hz,hok,hS,?_⟩
 walk_at "b"
 rw[ZH %[|0]]
 walk_at "b"
 exact hw
abbrev Stp:=Nat×%[|3]×Nat
def dSt(s:Stp):D:=.tup [.int s.1,dC s.2.1,.int s.2.2]
def bQ(i:Nat)(n:Ns):List Stp:=(cnt n.lps).flatMap λ cs=>(List.range n.dds.length).map λ s=>(i,cs,s)
def aB(nss:List Ns):List Stp:=(nss.mapIdx bQ).flatten
def gR:Ct:=λ ds S W=>∃p:Pg,ds=[dPg p]/\p.nss.length≤1000/\(∀n∈p.nss,nM n)/\(aB p.nss).length≤1000000/\flat S/\hand W ((aB p.nss).map dSt) S
theorem jn{nss:List Ns}{n:Ns}(h:nss[i]? =some n):aB (nss.take (i+1))=aB (nss.take i)++bQ i n:=by
 unfold aB
 rw[aV h,List.mapIdx_append,List.flatten_append]
 have hi:=(y3.mp h).1
 simp only[List.mapIdx_cons,List.mapIdx_nil,List.flatten_cons,List.flatten_nil,List.append_nil,List.length_take]
 rw[Nat.min_eq_left %[|0],Nat.zero_add]
theorem tM(xs:List Stp):aa (xs.map dSt)=true:=by
 induction xs with
 | nil=>rfl
 | cons x xs ih=>
   simp only[List.map_cons,aa,ih,Bool.and_true]
   have:=oF [x.2.1]
   simp only[List.map_cons,List.map_nil,aa,Bool.and_true]at this
   show aa [D.int _,dC x.2.1,D.int _]=true
   simp only[aa,this,Bool.and_true];rfl
theorem Lj(h:flat S)(hl:aa l=true):flat (S++[l]):=λ x hx=>by
 rcases ZK.mp hx with q | q
 . exact h x q
 . rw[ZL.mp q];exact hl
theorem Kv{nss:List Ns}{n:Ns}(h:nss[i]? =some n):(aB (nss.take i)).length+(bQ i n).length≤(aB nss).length:=by
 have e:∃more,aB nss=aB (nss.take (i+1))++more:=by
  unfold aB
  conv=>enter [1,more,1,1];rw[←List.take_append_drop (i+1) nss]
  rw[List.mapIdx_append,List.flatten_append]
  exact⟨_,rfl⟩
 obtain⟨more,e⟩:=e
 rw[e,jn h,List.length_append,List.length_append];omega
theorem wM(F:Fun Ω.K "steps_of" "steps_of" ir f fd)(N0:Ω.cd=none)(B:Bi Ω.mg)(Cq23:Cal Ω "counts_of" 3 1 sH):Ok Ω 4 f fd zH gR:=by
 refine aA N0 (N:=zz) F (Bl.frz (yZ B Cq23)) %[|9] ?_
 rintro ds S W ⟨p,rfl,hz,hok,hlen,hS,hw⟩ hl
 walk_at "b"
 refine aN ⟨λ i Γ' S'=>(∃o2 o3 o4 o5,Γ'=[some (dPg p),%[|18],o2,o3,o4,o5])/\S'=S++[(aB (p.nss.take i)).map dSt],⟨⟨_,_,_,_,rfl⟩,rfl⟩,?_,?_⟩
 . rintro i e Γ' S' he ⟨⟨o2,o3,o4,o5,rfl⟩,rfl⟩
   obtain⟨e',he',rfl⟩:=FJ he
   obtain⟨n,hn,rfl⟩:=bK he'
   obtain⟨h1,h2,h3⟩:=hok n (y6 hn)
   have lf:=Kv hn
   walk_at "b"
   refine⟨rfl,?_⟩
   walk_at "b"
   refine⟨rfl,_,rfl,h1,h2,Lj hS (tM _),.inl ?_⟩
   walk_at "n"
   refine aN ⟨λ j Γ' S'=>(∃o4 o5,Γ'=[some (dPg p),%[|18],some (.int (i:Int)),some (dNs n),o4,o5])/\S'=S++[(aB (p.nss.take i)++((cnt n.lps).take j).flatMap λ cs=>(List.range n.dds.length).map λ s=>(i,cs,s)).map dSt],⟨⟨_,_,rfl⟩,by simp⟩,?_,?_⟩
   . rintro j e Γ' S' he ⟨⟨o4,o5,rfl⟩,rfl⟩
     obtain⟨cs,hcs,rfl⟩:=bK he
     have e2:((n.dds.map dDd).length:Int)=(n.dds.length:Int):=by rw[y8]
     have lj:((cnt n.lps).take j |>.flatMap λ cs=>(List.range n.dds.length).map λ s=>(i,cs,s)).length+n.dds.length≤(bQ i n).length:=by
      have:∃more,bQ i n=((cnt n.lps).take (j+1) |>.flatMap λ cs=>(List.range n.dds.length).map λ s=>(i,cs,s))++more:=by
       unfold bQ
       conv=>enter [1,more,1,2];rw[←List.take_append_drop (j+1) (cnt n.lps)]
       rw[List.flatMap_append]
       exact⟨_,rfl⟩
      obtain⟨more,em⟩:=this
      rw[em,aV hcs,List.flatMap_append,List.length_append,List.length_append]
      simp
     walk_at "b"
     rw[e2]
     refine⟨⟨%[|0],%[|0]⟩,aN ⟨λ t Γ' S'=>(∃o5,Γ'=[some (dPg p),%[|18],some (.int (i:Int)),some (dNs n),some (dC cs),o5])/\S'=S++[((aB (p.nss.take i)++((cnt n.lps).take j).flatMap λ cs=>(List.range n.dds.length).map λ s=>(i,cs,s))++(List.range t).map λ s=>(i,cs,s)).map dSt],⟨⟨_,rfl⟩,by simp⟩,?_,?_⟩⟩
     . rintro t e Γ' S' he ⟨⟨o5,rfl⟩,rfl⟩
       obtain⟨ht,rfl⟩:=aJ he
       have ez:(0:Int)+(t:Int)=(t:Int):=%[|0]
       rw[ez]
       walk_at "b"
       refine⟨_,bw _ _,by simp only[y8,List.length_append,List.length_range];omega,?_⟩
       refine⟨⟨_,rfl⟩,?_⟩
       rw[bO,List.range_succ]
       simp only[List.map_append,List.map_cons,List.map_nil,List.append_assoc]
       rfl
     . rintro Γ' S' ⟨⟨o5,rfl⟩,rfl⟩
       refine⟨⟨_,_,rfl⟩,?_⟩
       rw[ak,aV hcs,List.flatMap_append,List.flatMap_singleton,←List.append_assoc,Int.toNat_natCast]
   . rintro Γ' S' ⟨⟨o4,o5,rfl⟩,rfl⟩
     refine⟨⟨_,_,_,_,rfl⟩,?_⟩
     rw[y8,List.take_length,jn hn];rfl
 . rintro Γ' S' ⟨⟨o2,o3,o4,o5,rfl⟩,rfl⟩
   have e:((p.nss.map dNs).mapIdx λ i d=>D.tup [D.int (i:Int),d]).length=p.nss.length:=by simp
   rw[e,List.take_length]
   exact qL hw (tM _) hS
def By:Ct:=λ ds S W=>∃(p:Pg) (s:Stp) (n:Ns) (x:Dd),ds=[dPg p,dSt s]/\p.nss[s.1]? =some n/\n.dds[s.2.2]? =some x/\W (dDd x) S
abbrev Cell:=Nat×%[|3]
def aO(c:Cell):D:=.tup [.int c.1,.tup (c.2.map .int)]
def C64(cs:%[|3]):Prop:=∀c∈cs,-(2 ^ 64)<c/\c<2 ^ 64
def Hy(pl:List Fm):Prop:=pl.length≤1000/\∀f∈pl,f.2.length≤1000
def spot(t:Nat)(pl:List Fm)(cs:%[|3]):Cell:=(t,pl.map λ f=>atC f cs)
def Al:Ct:=λ ds S W=>∃(t:Nat) (pl:List Fm) (cs:%[|3]),ds=[.int t,dP pl,dC cs]/\Hy pl/\C64 cs/\W (aO (spot t pl cs)) S
theorem Ci(F:Fun Ω.K "deed_of" "deed_of" jM f fd)(N0:Ω.cd=none):Ok Ω 1 f fd El By:=by
 refine aA N0 (N:=Dr) F (Ea) %[|9] ?_
 rintro ds S W ⟨p,⟨i,cs,t⟩,n,x,rfl,hn,hx,hw⟩ hl
 have a1:atI (p.nss.map dNs) ((i:Nat):Int)=some (dNs n):=dm (by rw[x5,hn];rfl)
 have a2:atI (n.dds.map dDd) ((t:Nat):Int)=some (dDd x):=dm (by rw[x5,hx];rfl)
 walk_at "b"
 refine⟨_,a1,?_⟩
 walk_at "b"
 exact⟨_,a2,hw⟩
theorem Aa(F:Fun Ω.K "cell_at" "cell_at" jl f fd)(N0:Ω.cd=none)(B:Bi Ω.mg)(Cq22:Cal Ω "comes_to" 1 2 fM):Ok Ω 2 f fd Dq Al:=by
 refine aA N0 (N:=Dw) F (DP B Cq22) %[|9] ?_
 rintro ds S W ⟨t,pl,cs,rfl,hpl,hcs,hw⟩ hl
 walk_at "b"
 refine dM (λ f=>.int (atC f cs)) (by have:=hpl.1;omega) ?_ ?_
 . intro i f hf Q hq
   walk_at "b"
   exact⟨rfl,f.1,f.2,cs,rfl,hpl.2 f (y6 hf),hcs,hq⟩
 . walk_at "b"
   have e:(spot t pl cs).2.map D.int=pl.map λ f=>D.int (atC f cs):=by unfold spot;rw[List.map_map];rfl
   unfold aO at hw
   rw[e]at hw
   exact hw
def dCs(x:Dd)(cs:%[|3]):D:=.tup [aO (spot x.tab x.pl cs),.lst (x.rds.map λ r=>aO (spot r.tab r.pl cs))]
def Ni(x:Dd):Prop:=Hy x.pl/\x.rds.length≤1000/\∀r∈x.rds,Hy r.pl
def qH:Ct:=λ ds S W=>∃(p:Pg) (s:Stp) (n:Ns) (x:Dd),ds=[dPg p,dSt s]/\p.nss[s.1]? =some n/\n.dds[s.2.2]? =some x/\Ni x/\C64 s.2.1/\W (dCs x s.2.1) S
theorem nR(F:Fun Ω.K "cells_of_step" "cells_of_step" dD f fd)(N0:Ω.cd=none)(Cq24:Cal Ω "deed_of" 1 2 By)(Cq19:Cal Ω "cell_at" 2 3 Al):Ok Ω 3 f fd pZ qH:=by
 refine aA N0 (N:=pW) F (pX Cq24 Cq19) %[|9] ?_
 rintro ds S W ⟨p,⟨i,cs,t⟩,n,x,rfl,hn,hx,hok,hcs,hw⟩ hl
 walk_at "b"
 refine⟨rfl,p,(i,cs,t),n,x,rfl,hn,hx,?_⟩
 walk_at "b"
 refine dM (λ r=>aO (spot r.tab r.pl cs)) (by have:=hok.2.1;omega) ?_ ?_
 . intro j r hr Q hq
   walk_at "b"
   refine⟨rfl,?_⟩
   walk_at "b"
   exact⟨rfl,r.tab,r.pl,cs,rfl,hok.2.2 r (y6 hr),hcs,hq⟩
 . walk_at "b"
   refine⟨rfl,x.tab,x.pl,cs,rfl,hok.1,hcs,?_⟩
   walk_at "b"
   exact hw
theorem ph{nss:List Ns}{s:Stp}(h:s∈aB nss):∃n,nss[s.1]? =some n/\s.2.1∈cnt n.lps/\s.2.2<n.dds.length:=by
 unfold aB at h
 obtain⟨l,hl,hs⟩:=List.mem_flatten.mp h
 obtain⟨i,hi,rfl⟩:=List.mem_mapIdx.mp hl
 unfold bQ at hs
 obtain⟨cs,hcs,hs⟩:=List.mem_flatMap.mp hs
 obtain⟨t,ht,rfl⟩:=ZO.mp hs
 exact⟨nss[i],y4 hi,hcs,List.mem_range.mp ht⟩
def dU(p:Pg)(s:Stp):D:=match p.nss[s.1]? with
 | some n=>(match n.dds[s.2.2]? with | some x=>dCs x s.2.1 | none=>.non)
 | none=>.non
def jk:Ct:=λ ds S W=>∃p:Pg,ds=[dPg p]/\p.nss.length≤1000/\(∀n∈p.nss,nM n/\∀x∈n.dds,Ni x)/\(aB p.nss).length≤1000000/\flat S/\W (.lst ((aB p.nss).map (dU p))) S
theorem nM.c64{n:Ns}(h:nM n){cs:%[|3]}(hc:cs∈cnt n.lps):C64 cs:=λ c hcc=>by
 have:=((h.2.1.2 n.lps.length (x6 _)).2 cs (by rw[List.take_length];exact hc)).2 c hcc
 omega
theorem yd(F:Fun Ω.K "cells_of" "cells_of" iD f fd)(N0:Ω.cd=none)(Cq57:Cal Ω "steps_of" 4 1 gR)(Cq21:Cal Ω "cells_of_step" 3 2 qH):Ok Ω 5 f fd zg jk:=by
 refine aA N0 (N:=Bp) F (yz Cq57 Cq21) %[|9] ?_
 rintro ds S W ⟨p,rfl,hz,hok,hlen,hS,hw⟩ hl
 walk_at "b"
 refine⟨rfl,p,rfl,hz,λ n hn=>(hok n hn).1,hlen,hS,.inl ?_⟩
 walk_at "n"
 refine dM (dU p) hlen ?_ hw
 intro i s hs Q hq
 obtain⟨n,h1,h2,h3⟩:=ph (y6 hs)
 obtain⟨ok,dd⟩:=hok n (y6 h1)
 have e:n.dds[s.2.2]? =some n.dds[s.2.2]:=y4 h3
 have ec:dU p s=dCs n.dds[s.2.2] s.2.1:=by
  unfold dU
  rw[h1]
  show(match n.dds[s.2.2]? with | some x=>dCs x s.2.1 | none=>D.non)=_
  rw[e]
 rw[ec]at hq
 walk_at "b"
 exact⟨rfl,p,s,n,n.dds[s.2.2],rfl,h1,e,dd _ (List.getElem_mem _),ok.c64 h2,hq⟩
theorem fX(x:%[|3]):aa (x.map D.int)=true:=by
 induction x with
 | nil=>rfl
 | cons y ys ih=>simp only[List.map_cons,aa,ih,Bool.and_true];rfl
def iZ(ns:%[|3])(n c d:Int):List D:=[.lst (ns.map .int),.int n,.int c,.int d]
def aD(S:Store)(k b:Nat):Prop:=∃ns n c d,S[k]? =some (iZ ns n c d)/\0≤n/\n≤(b:Int)
def aH(S:Store)(k:Nat)(S':Store):Prop:=∃ns n c d,S'=S.set k (iZ ns n c d)
theorem aH.trans{S1 S2:Store}(a:aH S k S1)(b:aH S1 k S2):aH S k S2:=by
 obtain⟨_,_,_,_,rfl⟩:=a
 obtain⟨ns,n,c,d,rfl⟩:=b
 exact⟨ns,n,c,d,by rw[List.set_set]⟩
theorem aH.refl(p:aD S k b):aH S k S:=by
 obtain⟨ns,n,c,d,h,_⟩:=p
 exact⟨ns,n,c,d,by
  obtain⟨hl,e⟩:=y3.mp h
  rw[←e,List.set_getElem_self]⟩
theorem aH.len{S':Store}(u:aH S k S'):S'.length=S.length:=by
 obtain⟨_,_,_,_,rfl⟩:=u
 simp
theorem aD.lt(p:aD S k b):k<S.length:=by
 obtain⟨_,_,_,_,h,_⟩:=p
 exact(y3.mp h).1
theorem aD.mono{b':Nat}(p:aD S k b)(h:b≤b'):aD S k b':=by
 obtain⟨ns,n,c,d,h1,h2,h3⟩:=p
 exact⟨ns,n,c,d,h1,h2,%[|0]⟩
theorem aD.app(R:Store)(p:aD S k b):aD (S++R) k b:=by
 have hl:=p.lt
 obtain⟨ns,n,c,d,h,hn⟩:=p
 exact⟨ns,n,c,d,by rw[List.getElem?_append_left hl];exact h,hn⟩
theorem aH.split{T:Store}{b':Nat}{R:Store}(p:aD S k b)(u:aH (S++R) k T)(p':aD T k b'):∃S',T=S'++R/\aH S k S'/\aD S' k b':=by
 have hl:=p.lt
 obtain⟨ns,n,c,d,rfl⟩:=u
 have e:(S++R).set k (iZ ns n c d)=S.set k (iZ ns n c d)++R:=by rw[List.set_append_left k _ hl]
 refine⟨S.set k (iZ ns n c d),e,⟨ns,n,c,d,rfl⟩,?_⟩
 obtain⟨ns',n',c',d',h,hn⟩:=p'
 rw[e,List.getElem?_append_left (by simpa using hl)]at h
 exact⟨ns',n',c',d',h,hn⟩
theorem qG(ns:%[|3])(n c d:Int):aa (iZ ns n c d)=true:=by
 show(aa (ns.map D.int)&&true)=true
 rw[fX];rfl
theorem aH.flat{S':Store}(u:aH S k S')(h:flat S):RF.flat S':=by
 obtain⟨ns,n,c,d,rfl⟩:=u
 intro l hl
 rcases List.mem_or_eq_of_mem_set hl with hl | rfl
 . exact h l hl
 . exact qG ..
def vo:Ct:=λ ds S W=>∃ns k,ds=[.lst (List.map .int ns),.int k]/\0≤k/\k≤1000000000/\∀v,W (.int v) S
def K4:Ct:=λ ds S W=>∃ns:%[|3],ds=[.lst (List.map .int ns)]/\∀c d,W (.loc S.length) (S++[iZ ns 0 c d])
def cu:Ct:=λ ds S W=>∃(k:Nat) (m:Int) (b:Nat),ds=[.loc k,.int m]/\aD S k b/\b≤1000000/\0<m/\m<1000000/\∀v S',0≤v->v<m->aH S k S'->aD S' k (b+1)->W (.int v) S'
theorem bx{m:Int}{W:WD}(hp:aD S k b)(hb:b≤1000000)(h0:0<m)(h1:m<1000000)(w:∀v S',0≤v->v<m->aH S k S'->aD S' k (b+1)->W (.int v) S'):([D.loc k,.int m].length=2/\cu [.loc k,.int m] S W):=⟨rfl,k,m,b,rfl,hp,hb,h0,h1,w⟩
theorem bD{R:Store}{m:Int}{W:WD}(hp:aD S k b)(hb:b≤1000000)(h0:0<m)(h1:m<1000000)(w:∀v S',0≤v->v<m->aH S k S'->aD S' k (b+1)->W (.int v) (S'++R)):([D.loc k,.int m].length=2/\cu [.loc k,.int m] (S++R) W):=by
 refine bx (hp.app R) hb h0 h1 λ v T v0 v1 u p=>?_
 obtain⟨S',rfl,u',p'⟩:=u.split hp p
 exact w v S' v0 v1 u' p'
theorem SN{ns:%[|3]}{W:D->Prop}(h:0<((ns.map D.int).length:Int))(w:∀y:Int,W (.int y)):∃d,atI (ns.map D.int) (a % ((ns.map D.int).length:Int))=some d/\W d:=by
 obtain⟨x,h1,h2⟩:=gY (ds:=ns.map D.int) (v:=a % ((ns.map D.int).length:Int)) (Int.emod_nonneg _ %[|0]) (Int.emod_lt_of_pos _ h)
 obtain⟨y,_,rfl⟩:=ZO.mp (y6 h2)
 exact⟨_,h1,w y⟩
theorem Kc(F:Fun Ω.K "_law_cell" "_law_cell" rK f fd)(N0:Ω.cd=none)(B:Bi Ω.mg):Ok Ω 1 f fd Oh vo:=by
 refine aA N0 (N:=Mz) F (OD B) %[|9] ?_
 rintro ds S W ⟨ns,k,rfl,hk,hk2,hw⟩ hl
 have last:∀v:Int,(tG B).wp [some (.lst (ns.map .int)),some (.int k),some (.int v)] S %[|25]:=by
  intro v
  walk_at "b"
  exact hw _
 have two:(sX B).wp [some (.lst (ns.map .int)),some (.int k),none] S %[|25]:=by
  walk_at "b"
  refine⟨λ q=>?_,λ q=>last _⟩
  have q:=ZF q
  walk_at "b"
  refine SN q λ y=>?_
  walk_at "b"
  exact last _
 walk_at "b"
 refine⟨λ q=>?_,λ q=>two⟩
 have q:=ZF q
 walk_at "b"
 obtain⟨x,h1,h2⟩:=gY (ds:=ns.map D.int) (v:=k) hk q
 obtain⟨y,_,rfl⟩:=ZO.mp (y6 h2)
 refine⟨_,h1,?_⟩
 walk_at "b"
 exact hw _
theorem MP(F:Fun Ω.K "_law_pen" "_law_pen" uW f fd)(N0:Ω.cd=none)(Cq1:Cal Ω "_law_cell" 1 2 vo):Ok Ω 2 f fd QC K4:=by
 refine aA N0 (N:=R5) F (QJ Cq1) %[|9] ?_
 rintro ds S W ⟨ns,rfl,hw⟩ hl
 walk_at "b"
 refine⟨rfl,ns,0,rfl,%[|2],%[|2],λ c=>?_⟩
 walk_at "b"
 refine⟨rfl,ns,0,rfl,%[|2],%[|2],λ d=>?_⟩
 walk_at "b"
 exact hw _ _
theorem Le(F:Fun Ω.K "_law_next" "_law_next" rN f fd)(N0:Ω.cd=none)(Cq1:Cal Ω "_law_cell" 1 2 vo):Ok Ω 2 f fd Mm cu:=by
 refine aA N0 (N:=M7) F (Oq Cq1) %[|9] ?_
 rintro ds S W ⟨k,m,b,rfl,⟨ns,n,c,d,hk,hn0,hn1⟩,hb,h0,h1,hw⟩ hl
 have k2:∀l:List D,(S.set k l)[k]? =some l:=λ l=>set_get hk
 have fin:∀v n' d',0≤n'->n'≤(b:Int)+1->W (.int (v % m)) (S.set k (iZ ns n' c d')):=λ v n' d' h h'=>
  hw _ _ (Int.emod_nonneg _ %[|0]) (Int.emod_lt_of_pos _ h0) ⟨ns,n',c,d',rfl⟩ ⟨ns,n',c,d',k2 _,h,%[|0]⟩
 walk_at "b"
 refine⟨λ _=>?_,λ _=>?_⟩
 . walk_at "b"
   exact fin d n _ hn0 %[|0]
 walk_at "b"
 refine⟨rfl,ns,n+1,rfl,%[|0],%[|0],λ v=>?_⟩
 walk_at "b"
 exact fin _ (n+1) d %[|0] %[|0]
theorem gV(f:Fm):au (dF f)=true:=fX (f.1::f.2)
theorem PK(cs:%[|3]):au (dC cs)=true:=fX cs
theorem gO(ls:List Lp):aa (ls.map dL)=true:=by
 induction ls with
 | nil=>rfl
 | cons y ys ih=>
   simp only[List.map_cons,aa,ih,Bool.and_true]
   show aa [dF y.1,dF y.2]=true
   simp only[aa,gV,Bool.and_true]
def nlO(o:Option D):Prop:=∀d,o=some d->au d=true
theorem lE:nlO none:=λ d h=>by cases h
theorem Ro(n:Int):nlO (some (.int n)):=λ d h=>by cases h;rfl
theorem T3(cs:%[|3]):nlO (some (dC cs)):=λ d h=>by cases h;exact PK cs
theorem uQ{ds:List D}{o:Option D}(h:nlO o):jD k ds o=o:=by
 cases o with
 | none=>rfl
 | some d=>
   cases d with
   | loc j=>have:=h _ rfl;simp[au]at this
   | _=>rfl
def Old(n:Nat)(x:D):Prop:=au x=true∨∃j,x=.loc j/\j<n
theorem Np{ds:List D}(h:Old n x):jD n ds (some x)=some x:=by
 rcases h with h | ⟨j,rfl,hj⟩
 . exact uQ λ d e=>by cases e;exact h
 . simp[jD];omega
def KY:Ct:=λ ds S W=>∃(x:D) (ls:List Lp),ds=[x]/\(x=.tup (ls.map dL)∨∃k,x=.loc k/\S[k]? =some (ls.map dL))/\Lps ls/\flat S/\W (.int (cnt ls).length) S
theorem G9(F:Fun Ω.K "_law_value" "_law_value" oh f fd)(N0:Ω.cd=none)(B:Bi Ω.mg):Ok Ω 1 f fd Ip fM:=by
 refine aA N0 (N:=IW) F (JT B) %[|9] ?_
 rintro ds S W ⟨g,fs,cs,rfl,hfs,hcs,hw⟩ hl
 walk_at "n"
 refine⟨_,lG _ _,?_⟩
 walk_at "n"
 rw[qY]
 refine gU ⟨by rw[List.length_zipWith,y8];omega,λ i acc S'=>acc=((List.zipWith (λ a b=>a*b) fs cs).take i).map D.int/\S'=S,⟨rfl,rfl⟩,?_,?_⟩
 . rintro i e acc S' he ⟨rfl,rfl⟩
   obtain⟨a,b,h1,h2,rfl⟩:=Et he
   walk_at "n"
   refine⟨rfl,λ _=>⟨.inr (hcs b (y6 h2)),?_,rfl⟩,λ z=>tf z⟩
   have e3:(List.zipWith (λ a b=>a*b) fs cs)[i]? =some (a*b):=by rw[List.getElem?_zipWith,h1,h2]
   rw[aV e3,List.map_append];rfl
 . rintro acc S' ⟨rfl,rfl⟩
   have e:(List.zipWith (λ x y=>D.tup [x,y]) (fs.map D.int) (cs.map D.int)).length=(List.zipWith (λ a b=>a*b) fs cs).length:=by simp
   rw[e,List.take_length]
   exact⟨_,rfl,hw⟩
theorem Ij(F:Fun Ω.K "_law_count" "_law_count" nD f fd)(N0:Ω.cd=none)(B:Bi Ω.mg)(Cq16:Cal Ω "_law_value" 1 2 fM):Ok Ω 2 f fd KH KY:=by
 refine aA N0 (N:=Kp) F (K5 B Cq16) %[|9] ?_
 rintro ds S W ⟨x,ls,rfl,hx,hL,hS,hw⟩ hl
 have hf:=hL.fits
 have turn:∀(x:D),Old S.length x->∀(i:Nat)(l:Lp),ls[i]? =some l->∀(o2 o3 o4 o5 o6:Option D),nlO o5->nlO o6->∀Wf:DL.Fin,(∀o2' o3' o4' o5' o6',nlO o5'->nlO o6'->Wf.nx [some x,some (.lst ((cnt (ls.take (i+1))).map dC)),o2',o3',o4',o5',o6'] S)->
  (Tg.tup [2,3]).wp (dL l) [some x,some (.lst ((cnt (ls.take i)).map dC)),o2,o3,o4,o5,o6] λ Γ2=>(Bl.fzl (m5 B Cq16)).wp Γ2 S Wf:=by
  intro x hx i l hli o2 o3 o4 o5 o6 n5 n6 Wf hnx
  have hi:=(y3.mp hli).1
  obtain⟨hlo,hhi⟩:=hf.1 l (y6 hli)
  have hah:=(hf.2 i %[|0]).2
  have hz:=(hf.2 (i+1) %[|0]).1
  rw[lB hli]at hz hnx
  obtain⟨lo,hi_⟩:=l
  dsimp only at hlo hhi hz hnx
  generalize hG:cnt (ls.take i)=ahead at*
  walk_at "b"
  refine⟨rfl,?_⟩
  walk_at "b"
  refine aN ⟨λ j Γ' S'=>(∃o5 o6,Γ'=[some x,some (.lst (ahead.map dC)),some (dF lo),some (dF hi_),%[|18],o5,o6]/\nlO o5/\nlO o6)/\S'=S++[(aK lo hi_ (ahead.take j)).map dC],⟨⟨_,_,rfl,n5,n6⟩,rfl⟩,?_,?_⟩
  . rintro j e Γ' S' he ⟨⟨o5,o6,rfl,n5,n6⟩,rfl⟩
    obtain⟨cs,e1,rfl⟩:=bK he
    have hcs:=hah cs (y6 e1)
    have b1:=jf hlo hcs
    have b2:=jf hhi hcs
    have h64:∀c∈cs,-(2 ^ 64)<c/\c<2 ^ 64:=λ c hc=>by have:=hcs.2 c hc;omega
    walk_at "b"
    refine⟨rfl,lo.1,lo.2,cs,rfl,by have:=hlo.2.2.1;omega,h64,?_⟩
    walk_at "b"
    refine⟨rfl,hi_.1,hi_.2,cs,rfl,by have:=hhi.2.2.1;omega,h64,?_⟩
    walk_at "b"
    refine⟨⟨b1.1,b1.2,b2.1,b2.2⟩,aN ⟨λ m Γ' S'=>(∃o6,Γ'=[some x,some (.lst (ahead.map dC)),some (dF lo),some (dF hi_),%[|18],some (dC cs),o6]/\nlO o6)/\S'=S++[(aK lo hi_ (ahead.take j)++(bI lo hi_ cs).take m).map dC],⟨⟨_,rfl,n6⟩,by simp⟩,?_,?_⟩⟩
    . rintro m e Γ' S' he ⟨⟨o6,rfl,n6⟩,rfl⟩
      obtain⟨hj,rfl⟩:=aJ he
      have hj':m<(bI lo hi_ cs).length:=by rw[cR];exact hj
      have lf:=Ak (lo:=lo) (hi:=hi_) e1
      walk_at "b"
      refine⟨by simp;have:=hcs.1;omega,_,bw _ _,by simp;omega,?_⟩
      refine⟨⟨_,rfl,Ro _⟩,?_⟩
      rw[bO]
      have e3:(bI lo hi_ cs)[m]? =some (cs++[atC lo cs+(m:Int)]):=by
       unfold bI
       rw[x5,Gh (by rw[cR]at hj';exact hj')];rfl
      have e4:dC (cs++[atC lo cs+(m:Int)])=D.tup (cs.map D.int++[D.int (comesTo lo.1 lo.2 cs+(m:Int))]):=by
       unfold dC;rw[List.map_append];rfl
      rw[aV e3,←List.append_assoc,List.map_append (l₂:=[_]),List.map_singleton,e4]
    . rintro Γ' S' ⟨⟨o6,rfl,n6⟩,rfl⟩
      refine⟨⟨_,_,rfl,T3 _,n6⟩,?_⟩
      have e5:(bI lo hi_ cs).take (DL.upTo (comesTo lo.1 lo.2 cs) (comesTo hi_.1 hi_.2 cs-comesTo lo.1 lo.2 cs).toNat).length=bI lo hi_ cs:=by
       rw[ak];exact List.take_of_length_le (by rw[cR];exact x6 _)
      rw[e5,ie e1]
  . rintro Γ' S' ⟨⟨o5,o6,rfl,n5,n6⟩,rfl⟩
    rw[y8,List.take_length]
    walk_at "b"
    refine .inr ⟨_,_,rfl,x6 _,oF _,hS,?_,?_⟩
    . intro y d hy
      match y,hy with
      | 0,hy=>cases hy;rcases hx with hx | ⟨j,rfl,_⟩;exact .inl hx;exact .inr ⟨_,rfl⟩
      | 1,hy=>cases hy;exact .inr ⟨_,rfl⟩
      | 2,hy=>cases hy;exact .inl (gV _)
      | 3,hy=>cases hy;exact .inl (gV _)
      | 4,hy=>cases hy;exact .inr ⟨_,rfl⟩
      | 5,hy=>exact .inl (n5 d (by simpa using hy))
      | 6,hy=>exact .inl (n6 d (by simpa using hy))
      | y+7,hy=>simp at hy
    . have e:∀Γ:Gam,Γ=[some x,%[|18],some (dF lo),some (dF hi_),%[|18],o5,o6]->Γ.map (jD S.length ((aK lo hi_ ahead).map dC))=[some x,some (.lst ((aK lo hi_ ahead).map dC)),some (dF lo),some (dF hi_),some (.lst ((aK lo hi_ ahead).map dC)),o5,o6]:=by
       rintro Γ rfl
       have e1:jD S.length ((aK lo hi_ ahead).map dC) %[|18]=some (.lst ((aK lo hi_ ahead).map dC)):=by simp[jD]
       simp only[List.map_cons,List.map_nil,Np hx,uQ n5,uQ n6,e1]
       rfl
      simp only[List.set_cons_succ,List.set_cons_zero]
      rw[e _ rfl]
      exact hnx _ _ _ _ _ n5 n6
 rcases hx with rfl | ⟨k,rfl,hk⟩
 . walk_at "b"
   refine aN ⟨λ i Γ' S'=>(∃o2 o3 o4 o5 o6,Γ'=[some (.tup (ls.map dL)),some (.lst ((cnt (ls.take i)).map dC)),o2,o3,o4,o5,o6]/\nlO o5/\nlO o6)/\S'=S,⟨⟨_,_,_,_,_,rfl,lE,lE⟩,rfl⟩,?_,?_⟩
   . rintro i e Γ' S' he ⟨⟨o2,o3,o4,o5,o6,rfl,n5,n6⟩,rfl⟩
     obtain⟨l,hli,rfl⟩:=bK he
     exact turn _ (.inl (show au (.tup (ls.map dL))=true from gO ls)) i l hli o2 o3 o4 o5 o6 n5 n6 _ λ a b c d e h1 h2=>⟨⟨a,b,c,d,e,rfl,h1,h2⟩,rfl⟩
   . rintro Γ' S' ⟨⟨o2,o3,o4,o5,o6,rfl,n5,n6⟩,rfl⟩
     rw[y8,List.take_length]
     walk_at "b"
     rw[y8]
     exact hw
 . have hlt:=(y3.mp hk).1
   walk_at "b"
   refine⟨_,hk,Fw ⟨λ i Γ' S'=>(∃o2 o3 o4 o5 o6,Γ'=[some (.loc k),some (.lst ((cnt (ls.take i)).map dC)),o2,o3,o4,o5,o6]/\nlO o5/\nlO o6)/\S'=S,⟨⟨_,_,_,_,_,rfl,lE,lE⟩,rfl⟩,?_,?_,?_⟩⟩
   . rintro i Γ' S' ⟨_,rfl⟩
     exact hk
   . rintro i e Γ' S' he ⟨⟨o2,o3,o4,o5,o6,rfl,n5,n6⟩,rfl⟩
     obtain⟨l,hli,rfl⟩:=bK he
     exact turn _ (.inr ⟨k,rfl,hlt⟩) i l hli o2 o3 o4 o5 o6 n5 n6 _ λ a b c d e h1 h2=>⟨⟨a,b,c,d,e,rfl,h1,h2⟩,rfl⟩
   . rintro Γ' S' ⟨⟨o2,o3,o4,o5,o6,rfl,n5,n6⟩,rfl⟩
     rw[y8,List.take_length]
     walk_at "b"
     rw[y8]
     exact hw
section
variable {Ω : Wd} {cap : List (Option Nat)} {Γ : Gam} {elt : Ex Ω} {tg : Tg} {W : WD} {ds : List D} {S1 : Store}
theorem eQ(P:D->Prop)(Q:Nat->%[|5])(hz:ds.length≤1000000)(q0:Q 0 S1)(h:∀(i:Nat)(d:D)(S':Store),ds[i]? =some d->Q i S'->∀R:WD,(∀y S4,P y->Q (i+1) S4->R y S4)->tg.wp d (capt cap Γ) λ Γ2=>elt.wp Γ2 S' R)
 (w:∀(ys:List D)(S':Store),ys.length=ds.length->(∀y∈ys,P y)->Q ds.length S'->W (.lst ys) S'):pM cap Γ elt tg (Cd.no (Ω:=Ω)) W ds S1:=by
 refine gU ⟨hz,λ i acc S'=>(acc.length=i/\∀y∈acc,P y)/\Q i S',⟨⟨rfl,λ y e=>by cases e⟩,q0⟩,?_,λ acc S' h=>w acc S' h.1.1 h.1.2 h.2⟩
 rintro i d acc S' hd ⟨⟨hl,ha⟩,q⟩
 refine Tg.mono (h i d S' hd q (λ y S4=>((acc++[y]).length=i+1/\∀y'∈(acc++[y]),P y')/\Q (i+1) S4) λ y S4 hy q4=>⟨⟨by simp[hl],λ y' e=>?_⟩,q4⟩) λ G q=>⟨λ _=>q,λ z=>tf z⟩
 rcases ZK.mp e with e | e
 . exact ha y' e
 . rw[ZL.mp e];exact hy
end
theorem dg{P:Int->Prop}:∀{ys:List D},(∀y∈ys,∃n:Int,y=D.int n/\P n)->∃fs:%[|3],ys=fs.map D.int/\∀n∈fs,P n
 | [],_=>⟨[],rfl,by simp⟩
 | y::ys,h=>by
   obtain⟨n,rfl,hn⟩:=h y v3
   obtain⟨fs,rfl,hf⟩:=dg (ys:=ys) λ y h'=>h y (x8 _ h')
   exact⟨n::fs,rfl,by
    intro m hm
    rcases ZJ.mp hm with rfl | hm
    . exact hn
    . exact hf m hm⟩
theorem pA(h:n=S.length):(S++[l])[n]? =some l:=by subst h;exact bw _ _
theorem BR{l':List D}(h:n=S.length):(S++[l]).set n l'=S++[l']:=by subst h;exact bO _ _ _
theorem at1{a:List D}(h:n=S.length):(S++a::J)[n]? =some a:=by subst h;simp
theorem Ms{a b:List D}(h:n=S.length):(S++a::J).set n b=S++b::J:=by subst h;simp
theorem at2{a c:List D}(h:n=(S++a::J).length):(S++a::(J++[c]))[n]? =some c:=by
 have e:S++a::(J++[c])=(S++a::J)++[c]:=by simp
 rw[e,h];exact bw _ _
theorem put2{a b c:List D}(h:n=(S++a::J).length):(S++a::(J++[c])).set n b=S++a::(J++[b]):=by
 have e:∀c,S++a::(J++[c])=(S++a::J)++[c]:=λ c=>by simp
 rw[e,e,h];exact bO _ _ _
theorem Gq(h:j<n):ixN n (j:Int)=some j:=by
 unfold ixN
 have h1:¬((j:Int)<0):=%[|0]
 simp[h1,h]
theorem Vu(a m:Int)(his:%[|3])(j:Nat):((a::his).map D.int).set (j+1) (.int m)=(a::his.set j m).map D.int:=by simp[List.map_set]
def lX(ls:List Lp):Prop:=∀(i:Nat)(l:Lp),ls[i]? =some l->BdF l.1 i/\BdF l.2 i
theorem lX.snoc{ls:List Lp}{l:Lp}(h:lX ls)(b1:BdF l.1 ls.length)(b2:BdF l.2 ls.length):lX (ls++[l]):=by
 intro i l' hl
 by_cases hi:i<ls.length
 . rw[List.getElem?_append_left hi]at hl
   exact h i l' hl
 . rw[List.getElem?_append_right %[|0]]at hl
   have:i-ls.length=0:=by
    have:=(y3.mp hl).1
    simp at this;omega
   rw[this]at hl
   cases hl
   have e:i=ls.length:=%[|0]
   rw[e]
   exact⟨b1,b2⟩
theorem lX.cut{ls:List Lp}(h:lX ls):lX ls.dropLast:=by
 intro i l hl
 refine h i l ?_
 rw[List.dropLast_eq_take,List.getElem?_take]at hl
 split at hl
 . exact hl
 . cases hl
theorem SM{d:D}{Γ:Gam}{R:Gam->Prop}(h:R (Γ.set j (some d))):(Tg.nm j).wp d Γ R:=h
def zX:Ct:=λ ds S W=>∃(k b:Nat),ds=[.loc k]/\aD S k b/\b≤1000/\flat S/\∀ls S' J,Lps ls->aH S k S'->aD S' k (b+20)->flat J->W (.loc S.length) (S'++ls.map dL::J)
def LoI(S:Store)(k b i:Nat)(Γ':Gam)(T:Store):Prop:=∃(S':Store) (ls:List Lp) (J:Store) (o2 o3 o4 o5:Option D),Γ'=[some (.loc k),%[|18],o2,o3,o4,o5]/\T=S'++ls.map dL::J/\ls.length=i/\lX ls/\aH S k S'/\aD S' k (b+1+6*i)/\flat J
def LoJ(S:Store)(k b i:Nat)(x h:Int)(los:%[|3])(ls:List Lp)(J:Store)(j:Nat)(Γ':Gam)(T:Store):Prop:=∃(S':Store) (his:%[|3]) (o5:Option D),Γ'=[some (.loc k),%[|18],some (.int i),some (.lst (((x-2)::los).map D.int)),some (.loc (S.length+1+J.length)),o5]/\T=S'++ls.map dL::(J++[((x-2+h)::his).map D.int])/\aH S k S'/\aD S' k (b+1+6*i+1+i+1+j)/\his.length=i/\∀n∈his,-2≤n/\n≤2
theorem G8(F:Fun Ω.K "_law_loops" "_law_loops" oM f fd)(N0:Ω.cd=none)(B:Bi Ω.mg)(Cq8:Cal Ω "_law_next" 2 2 cu):Ok Ω 3 f fd Jg zX:=by
 refine aA N0 (N:=KC) F (Jd B Cq8) %[|9] ?_
 rintro ds S W ⟨k,b,rfl,hp,hb,hS,hw⟩ hl
 walk_at "b"
 refine bD (R:=[[]]) hp %[|0] %[|2] %[|2] λ v S1 v0 v1 u1 p1=>?_
 walk_at "b"
 refine⟨⟨%[|0],%[|0]⟩,aN ⟨LoI S k b,⟨S1,[],[],_,_,_,_,rfl,rfl,rfl,λ i l h=>by simp at h,u1,p1,λ l h=>by cases h⟩,?_,?_⟩⟩
 . rintro i e Γ' T he ⟨S2,ls,J,o2,o3,o4,o5,rfl,rfl,hln,hI,u2,p2,hJ⟩
   obtain⟨hi,rfl⟩:=aJ he
   have hi3:i≤2:=%[|0]
   have ez:(0:Int)+(i:Int)=(i:Int):=%[|0]
   rw[ez]
   suffices body:∀Wf:DL.Fin,(∀G T,LoI S k b (i+1) G T->Wf.nx G T)->(oO B Cq8).wp [some (.loc k),%[|18],some (.int (i:Int)),o3,o4,o5] (S2++ls.map dL::J) Wf by
    refine SM ?_
    simp only[List.set_cons_succ,List.set_cons_zero]
    exact body _ λ G T h=>h
   intro Wf hnx
   walk_at "b"
   refine bD p2 %[|0] %[|2] %[|2] λ x S3 x0 x1 u3 p3=>?_
   have u3:=u2.trans u3
   walk_at "b"
   refine⟨⟨%[|0],%[|0]⟩,eQ (λ y=>∃n:Int,y=.int n/\(-2≤n/\n≤2)) (λ j T=>∃S',T=S'++ls.map dL::J/\aH S k S'/\aD S' k (b+1+6*i+1+j)) (by rw[ak];omega) ⟨S3,rfl,u3,p3⟩ ?_ ?_⟩
   . rintro j d T hd ⟨S4,rfl,u4,p4⟩ R hR
     have hj:=(aJ hd).1
     walk_at "b"
     refine bD p4 %[|0] %[|2] %[|2] λ y S5 y0 y1 u5 p5=>?_
     obtain⟨e,a1,a2⟩:=gY (ds:=[D.int 0,.int 0,.int 1,.int (-1)]) (v:=y) y0 y1
     have he:=y6 a2
     walk_at "b"
     refine⟨_,a1,?_⟩
     obtain⟨t,rfl,t1,t2⟩:∃h:Int,e=.int h/\ -2≤h/\h≤2:=by
      clear a1 a2
      simp only[List.mem_cons,List.not_mem_nil,or_false]at he
      rcases he with rfl | rfl | rfl | rfl<;>exact⟨_,rfl,%[|2],%[|2]⟩
     exact hR _ _ ⟨_,rfl,t1,t2⟩ ⟨S5,rfl,u4.trans u5,p5⟩
   rintro ys T hyl hys ⟨S4,rfl,u4,p4⟩
   obtain⟨los,rfl,hlos⟩:=dg hys
   rw[ak,y8]at hyl
   rw[ak]at p4
   have hyl:los.length=i:=%[|0]
   have p4:=p4.mono (b':=b+1+6*i+1+i) %[|0]
   clear hys
   walk_at "b"
   refine⟨_,_,rfl,rfl,by simp;omega,?_⟩
   have ec:[D.int (x-2)]++los.map D.int=((x-2)::los).map D.int:=rfl
   have ea:∀L,(S4++ls.map dL::J)++[L]=S4++ls.map dL::(J++[L]):=λ L=>by simp
   have en:∀S',aH S k S'->S'.length=S.length:=λ S' u=>u.len
   have n4:(S4++ls.map dL::J).length=S.length+1+J.length:=by simp[en S4 u4];omega
   have nn:∀S',aH S k S'->S.length+1+J.length=(S'++ls.map dL::J).length:=λ S' u=>by simp[en S' u];omega
   walk_at "b"
   rw[ec,ea,n4]
   walk_at "b"
   refine⟨_,lG _ _,?_⟩
   walk_at "b"
   refine bD p4 %[|0] %[|2] %[|2] λ y S5 y0 y1 u5 p5=>?_
   have u5:=u4.trans u5
   walk_at "b"
   have pk:∀d∈[D.int 2,.int 1,.int 3,.int 4,.int 2,.int 3,.int 0],∃h:Int,d=.int h/\0≤h/\h≤4:=by
    intro d hd
    simp only[List.mem_cons,List.not_mem_nil,or_false]at hd
    rcases hd with rfl | rfl | rfl | rfl | rfl | rfl | rfl<;>exact⟨_,rfl,%[|2],%[|2]⟩
   obtain⟨d,a1,a2⟩:=gY (ds:=[D.int 2,.int 1,.int 3,.int 4,.int 2,.int 3,.int 0]) (v:=y) y0 y1
   obtain⟨h,rfl,h0,h4⟩:=pk d (y6 a2)
   refine⟨_,a1,?_⟩
   walk_at "b"
   refine⟨_,_,at2 (nn S5 u5),Gq (j:=0) (by simp),?_⟩
   rw[put2 (nn S5 u5)]
   walk_at "b"
   refine⟨⟨%[|2],%[|2],%[|0],%[|0]⟩,aN ⟨LoJ S k b i x h los ls J,⟨S5,los,_,rfl,rfl,u5,p5,hyl,hlos⟩,?_,?_⟩⟩
   . rintro j d Γ' T hd ⟨S6,his,o5,rfl,rfl,u6,p6,hhl,hhs⟩
     obtain⟨hj,rfl⟩:=aJ hd
     have hj':j<i:=%[|0]
     walk_at "b"
     have gh:(((x-2+h)::his).map D.int)[j+1]? =some (.int his[j]):=by
      rw[x5,List.getElem?_cons_succ,y4 %[|0]];rfl
     have gb:=hhs his[j] (List.getElem_mem _)
     have ej:(1:Int)+(j:Int)=((j+1:Nat):Int):=%[|0]
     rw[ej]
     refine⟨_,_,at2 (nn S6 u6),dm gh,?_⟩
     walk_at "b"
     refine bD p6 %[|0] %[|2] %[|2] λ z S7 z0 z1 u7 p7=>?_
     have u7:=u6.trans u7
     walk_at "b"
     have pk:∀d∈[D.int 0,.int 0,.int 1,.int (-1),.int 0,.int 0],∃h:Int,d=.int h:=by
      intro d hd
      simp only[List.mem_cons,List.not_mem_nil,or_false]at hd
      rcases hd with rfl | rfl | rfl | rfl | rfl | rfl<;>exact⟨_,rfl⟩
     obtain⟨d,a1,a2⟩:=gY (ds:=[D.int 0,.int 0,.int 1,.int (-1),.int 0,.int 0]) (v:=z) z0 z1
     obtain⟨w,rfl⟩:=pk d (y6 a2)
     refine⟨_,a1,?_⟩
     walk_at "b"
     refine⟨_,_,at2 (nn S7 u7),Gq (j:=j+1) (by simp;omega),?_⟩
     rw[put2 (nn S7 u7),Vu]
     refine⟨S7,_,_,rfl,rfl,u7,p7,by rw[List.length_set];exact hhl,λ n hn=>?_⟩
     rcases List.mem_or_eq_of_mem_set hn with hn | rfl
     . exact hhs n hn
     . constructor<;>(repeat' split)<;>omega
   . rintro Γ' T ⟨S6,his,o5,rfl,rfl,u6,p6,hhl,hhs⟩
     rw[ak]at p6
     walk_at "b"
     refine⟨_,at2 (nn S6 u6),?_⟩
     walk_at "b"
     refine⟨_,at1 (en S6 u6).symm,by simp;omega,?_⟩
     walk_at "b"
     rw[Ms (en S6 u6).symm]
     refine hnx _ _ ⟨S6,ls++[((x-2,los),(x-2+h,his))],J++[((x-2+h)::his).map D.int],_,_,_,_,rfl,?_,by simp[hln],hI.snoc ⟨by rw[hln];exact hyl,by show-9≤x-2;omega,by show x-2≤9;omega,hlos⟩ ⟨by rw[hln];exact hhl,by show-9≤x-2+h;omega,by show x-2+h≤9;omega,hhs⟩,u6,p6.mono %[|0],λ l hl=>?_⟩
     . rw[List.map_append];rfl
     . rcases ZK.mp hl with hl | hl
       . exact hJ l hl
       . rw[ZL.mp hl];exact fX _
 . rintro Γ' T ⟨S6,ls,J,o2,o3,o4,o5,rfl,rfl,hln,hI,u6,p6,hJ⟩
   rw[ak]at hln p6
   walk_at "b"
   exact hw ls S6 J ⟨%[|0],%[|0],hI⟩ u6 (p6.mono %[|0]) hJ
def Vw(ns:%[|3]):Prop:=∀n∈ns,-99≤n/\n≤99
def FmB(d:Nat)(w:Int)(f:Fm):Prop:=f.2.length=d/\Vw f.2/\((-w≤f.1/\f.1≤w)∨(w=1/\ -99≤f.1/\f.1≤99))
def TpB(ws:%[|3])(d t:Nat)(pl:List Fm):Prop:=∃w,ws[t]? =some w/\(pl.length:Int)=w/\∀f∈pl,FmB d 1 f
def RdB(ws:%[|3])(d:Nat)(r:Rd):Prop:= -1000000000000000000000000000000<r.fac/\r.fac<1000000000000000000000000000000/\TpB ws d r.tab r.pl
def StB(d:Nat)(f:Fm):Prop:=f.2.length=d/\Vw f.2/\ -1000000000000000000000000000000<f.1/\f.1<1000000000000000000000000000000
def DdB(ws:%[|3])(d:Nat)(x:Dd):Prop:=TpB ws d x.tab x.pl/\StB d x.st/\x.rds.length≤3/\∀r∈x.rds,RdB ws d r
def WsB(ws:%[|3]):Prop:=1≤ws.length/\ws.length≤3/\∀w∈ws,1≤w/\w≤2
theorem Qm{t:Int}(hw:WsB ws)(h0:0≤t)(h1:t<(ws.map D.int).length):∃w:Int,atI (ws.map D.int) t=some (.int w)/\ws[t.toNat]? =some w/\1≤w/\w≤2:=by
 obtain⟨x,a,b⟩:=gY h0 h1
 rw[x5]at b
 cases e:ws[t.toNat]? with
 | none=>rw[e]at b;cases b
 | some w=>rw[e]at b;cases b;exact⟨w,a,rfl,hw.2.2 w (y6 e)⟩
theorem nZ(pl:List Fm):au (dP pl)=true:=by
 show aa (pl.map dF)=true
 induction pl with
 | nil=>rfl
 | cons y ys ih=>simp only[List.map_cons,aa,ih,gV,Bool.and_true]
theorem uc(rs:List Rd):aa (rs.map dRd)=true:=by
 induction rs with
 | nil=>rfl
 | cons y ys ih=>
   simp only[List.map_cons,aa,ih,Bool.and_true]
   show aa [D.int _,D.int _,dP y.pl]=true
   simp only[aa,nZ,Bool.and_true];rfl
theorem wH(x:Dd):au (dDd x)=true:=by
 show aa [D.int _,dP x.pl,dF x.st,.tup (x.rds.map dRd)]=true
 have:au (.tup (x.rds.map dRd))=true:=uc x.rds
 simp only[aa,nZ,gV,this,Bool.and_true];rfl
theorem V5:(10:Int) ^ (30:Int).toNat=1000000000000000000000000000000:=%[|2]
def Bk:Ct:=λ ds S W=>∃(k b n:Nat) (w:Int),ds=[.loc k,.int w,.int n]/\aD S k b/\b≤100000/\n≤3/\1≤w/\w≤2/\flat S/\∀(p:List Fm) S',(p.length:Int)=w->(∀f∈p,FmB n 1 f)->aH S k S'->aD S' k (b+8)->W (dP p) S'
theorem G6(F:Fun Ω.K "_law_place" "_law_place" oG f fd)(N0:Ω.cd=none)(B:Bi Ω.mg)(Cq8:Cal Ω "_law_next" 2 2 cu):Ok Ω 3 f fd Je Bk:=by
 refine aA N0 (N:=Ko) F (Bl.drp (JS B Cq8)) %[|9] ?_
 rintro ds S W ⟨k,b,n,w,rfl,hp,hb,hn,hw1,hw2,hS,hw⟩ hl
 walk_at "b"
 refine⟨⟨%[|0],%[|0]⟩,aN ⟨λ i Γ' T=>∃(S':Store) (p:List Fm) (o4 o5:Option D),Γ'=[some (.loc k),some (.int w),some (.int n),%[|18],o4,o5]/\T=S'++[p.map dF]/\p.length=i/\(∀f∈p,FmB n 1 f)/\aH S k S'/\aD S' k (b+4*i),⟨S,[],_,_,rfl,rfl,rfl,(λ f h=>by cases h),aH.refl hp,hp⟩,?_,?_⟩⟩
 . rintro i e Γ' T he ⟨S2,p,o4,o5,rfl,rfl,hpl,hpf,u2,p2⟩
   obtain⟨hi,rfl⟩:=aJ he
   have hi:i<2:=%[|0]
   have en:∀S',aH S k S'->S.length=S'.length:=λ S' u=>u.len.symm
   walk_at "b"
   refine⟨⟨%[|0],%[|0]⟩,eQ (λ y=>∃n:Int,y=.int n/\(-99≤n/\n≤99)) (λ j T=>∃S',T=S'++[p.map dF]/\aH S k S'/\aD S' k (b+4*i+j)) (by rw[ak];omega) ⟨S2,rfl,u2,p2⟩ ?_ ?_⟩
   . rintro j d T hd ⟨S6,rfl,u6,p6⟩ R hR
     have hj:=(aJ hd).1
     walk_at "b"
     refine bD p6 %[|0] %[|2] %[|2] λ y S7 y0 y1 u7 p7=>?_
     obtain⟨e,a1,a2⟩:=gY (ds:=[D.int 0,.int 1,.int 0,.int (-1),.int 1,.int 2]) (v:=y) y0 y1
     have he:=y6 a2
     walk_at "b"
     refine⟨_,a1,?_⟩
     obtain⟨t,rfl,t1,t2⟩:∃h:Int,e=.int h/\ -99≤h/\h≤99:=by
      clear a1 a2
      simp only[List.mem_cons,List.not_mem_nil,or_false]at he
      rcases he with rfl | rfl | rfl | rfl | rfl | rfl<;>exact⟨_,rfl,%[|2],%[|2]⟩
     exact hR _ _ ⟨_,rfl,t1,t2⟩ ⟨S7,rfl,u6.trans u7,p7⟩
   rintro ys T hyl hys ⟨S6,rfl,u6,p6⟩
   obtain⟨fs,rfl,hfb⟩:=dg hys
   rw[ak,y8]at hyl
   rw[ak]at p6
   have hyl:fs.length=n:=%[|0]
   walk_at "b"
   refine bD p6 %[|0] %[|2] %[|2] λ x S7 x0 x1 u7 p7=>?_
   have u7:=u6.trans u7
   walk_at "b"
   refine⟨_,_,rfl,rfl,by simp;omega,?_⟩
   walk_at "b"
   refine⟨_,pA (en S7 u7),by simp;omega,?_⟩
   rw[BR (en S7 u7)]
   walk_at "b"
   refine⟨S7,p++[(x-2,fs)],_,_,rfl,?_,by simp[hpl],λ g hg=>?_,u7,p7.mono %[|0]⟩
   . rw[List.map_append];rfl
   . rcases ZK.mp hg with hg | hg
     . exact hpf g hg
     . rw[ZL.mp hg];exact⟨hyl,hfb,.inr ⟨rfl,by show-99≤x-2;omega,by show x-2≤99;omega⟩⟩
 . rintro Γ' T ⟨S2,p,o4,o5,rfl,rfl,hpl,hpf,u2,p2⟩
   rw[ak]at hpl p2
   walk_at "b"
   refine⟨_,pA u2.len.symm,?_⟩
   exact .inr ⟨_,S2,rfl,by rw[u2.len];exact x6 _,nZ p,u2.flat hS,hw p S2 %[|0] hpf u2 (p2.mono %[|0])⟩
def Gj:Ct:=λ ds S W=>∃(k b d:Nat) (ws:%[|3]),ds=[.loc k,dWs ws,.int d]/\aD S k b/\b≤10000/\flat S/\d≤3/\WsB ws/\∀x S',DdB ws d x->aH S k S'->aD S' k (b+50)->W (dDd x) S'
theorem Ur(h:flat S)(hl:aa l=true):flat (S++[l]):=λ x hx=>by
 rcases ZK.mp hx with hx | hx
 . exact h x hx
 . rw[ZL.mp hx];exact hl
theorem JH(F:Fun Ω.K "_law_deed" "_law_deed" rO f fd)(N0:Ω.cd=none)(B:Bi Ω.mg)(Cq8:Cal Ω "_law_next" 2 2 cu)(Cq10:Cal Ω "_law_place" 3 3 Bk):Ok Ω 4 f fd Mv Gj:=by
 refine aA N0 (N:=Pz) F (Bl.drp (Pk B Cq8 Cq10)) %[|9] ?_
 rintro ds S W ⟨k,b,d,ws,rfl,hp,hb,hS,hd,hws,hw⟩ hl
 obtain⟨hw1,hw2,hw3⟩:=id hws
 have hlen:((ws.map D.int).length:Int)=(ws.length:Int):=by rw[y8]
 walk_at "b"
 refine bx hp %[|0] (by rw[hlen];omega) (by rw[hlen];omega) λ t S1 t0 t1 u1 p1=>?_
 obtain⟨w,g1,g2,gw1,gw2⟩:=Qm hws t0 t1
 obtain⟨tn,rfl⟩:∃tn:Nat,t=(tn:Int):=⟨t.toNat,%[|0]⟩
 walk_at "b"
 refine⟨_,g1,?_⟩
 walk_at "b"
 refine⟨rfl,k,_,d,w,rfl,p1,%[|0],hd,gw1,gw2,u1.flat hS,λ pl S2 hpl hpf u2 p2=>?_⟩
 have u2:=u1.trans u2
 walk_at "b"
 refine bx p2 %[|0] %[|2] %[|2] λ sx Sa sx0 sx1 ua pa=>?_
 have ua:=u2.trans ua
 walk_at "b"
 refine⟨⟨%[|0],%[|0]⟩,eQ (λ y=>∃n:Int,y=.int n/\(-99≤n/\n≤99)) (λ j T=>aH S k T/\aD T k (b+10+j)) (by rw[ak];omega) ⟨ua,pa.mono %[|0]⟩ ?_ ?_⟩
 . rintro j e T he ⟨u6,p6⟩ R hR
   have hj:=(aJ he).1
   walk_at "b"
   refine bx p6 %[|0] %[|2] %[|2] λ y S7 y0 y1 u7 p7=>?_
   walk_at "b"
   exact hR _ _ ⟨_,rfl,%[|0],%[|0]⟩ ⟨u6.trans u7,p7⟩
 rintro ys Sb hyl hys ⟨ub,pb⟩
 obtain⟨fs,rfl,hfb⟩:=dg hys
 rw[ak,y8]at hyl
 rw[ak]at pb
 have hfl:fs.length=d:=%[|0]
 have pb:=pb.mono (b':=b+13) %[|0]
 have hst:StB d (sx-3,fs):=⟨hfl,hfb,by show _<sx-3;omega,by show sx-3<_;omega⟩
 walk_at "b"
 refine⟨_,_,rfl,rfl,by simp;omega,?_⟩
 walk_at "b"
 refine bD (R:=[[]]) pb %[|0] %[|2] %[|2] λ n S3 n0 n1 u3 p3=>?_
 have u3:=ub.trans u3
 walk_at "b"
 refine⟨⟨%[|0],%[|0]⟩,aN ⟨λ i Γ' T=>∃(S':Store) (rds:List Rd) (o6 o7:Option D),Γ'=[some (.loc k),some (dWs ws),some (.int d),some (.int tn),some (dP pl),some (dF (sx-3,fs)),%[|18],o6,o7]/\T=S'++[rds.map dRd]/\rds.length=i/\(∀r∈rds,RdB ws d r)/\aH S k S'/\aD S' k (b+15+11*i),⟨S3,[],none,none,by rw[←ub.len];rfl,rfl,rfl,(λ r h=>by cases h),u3,p3.mono %[|0]⟩,?_,?_⟩⟩
 . rintro i e Γ' T he ⟨S4,rds,o6,o7,rfl,rfl,hrl,hrd,u4,p4⟩
   obtain⟨hi,rfl⟩:=aJ he
   have hi:i<3:=%[|0]
   have en:∀S',aH S k S'->S.length=S'.length:=λ S' u=>u.len.symm
   walk_at "b"
   refine bD p4 %[|0] (by rw[hlen];omega) (by rw[hlen];omega) λ o S5 o0 o1 u5 p5=>?_
   have u5:=u4.trans u5
   obtain⟨w',g1',g2',gw1',gw2'⟩:=Qm hws o0 o1
   obtain⟨on,rfl⟩:∃on:Nat,o=(on:Int):=⟨o.toNat,%[|0]⟩
   walk_at "b"
   refine bD p5 %[|0] %[|2] %[|2] λ f S6 f0 f1 u6 p6=>?_
   have u6:=u5.trans u6
   walk_at "b"
   refine⟨_,g1',?_⟩
   walk_at "b"
   refine⟨rfl,k,_,d,w',rfl,p6.app _,%[|0],hd,gw1',gw2',Ur (u6.flat hS) (uc _),λ pl' T7 hpl' hpf' u7 p7=>?_⟩
   obtain⟨S7,rfl,u7,p7⟩:=u7.split p6 p7
   have u7:=u6.trans u7
   walk_at "b"
   refine⟨_,pA (en S7 u7),by simp;omega,?_⟩
   rw[BR (en S7 u7)]
   refine⟨S7,rds++[⟨f-2,on,pl'⟩],_,_,rfl,by rw[List.map_append];rfl,by simp[hrl],λ r hr=>?_,u7,p7.mono %[|0]⟩
   rcases ZK.mp hr with hr | hr
   . exact hrd r hr
   . rw[ZL.mp hr]
     exact⟨by show _<f-2;omega,by show f-2<_;omega,w',by simpa using g2',hpl',hpf'⟩
 . rintro Γ' T ⟨S4,rds,o6,o7,rfl,rfl,hrl,hrd,u4,p4⟩
   rw[ak]at hrl p4
   have en:S.length=S4.length:=u4.len.symm
   walk_at "b"
   refine⟨_,pA en,?_⟩
   walk_at "b"
   have ok:DdB ws d ⟨tn,pl,(sx-3,fs),rds⟩:=⟨⟨w,by simpa using g2,hpl,hpf⟩,hst,by show rds.length≤3;omega,hrd⟩
   exact .inr ⟨_,S4,rfl,by rw[u4.len];exact x6 _,wH ⟨tn,pl,(sx-3,fs),rds⟩,u4.flat hS,hw ⟨tn,pl,(sx-3,fs),rds⟩ S4 ok u4 (p4.mono %[|0])⟩
def NsB(ws:%[|3])(m:Nat)(n:Ns):Prop:=Lps n.lps/\1≤n.dds.length/\n.dds.length≤4/\m=m/\∀x∈n.dds,DdB ws n.lps.length x
def PgB(m:Nat)(p:Pg):Prop:=WsB p.ws/\1≤p.nss.length/\p.nss.length≤3/\∀n∈p.nss,NsB p.ws m n
theorem Ii(xs:List Dd):aa (xs.map dDd)=true:=by
 induction xs with
 | nil=>rfl
 | cons y ys ih=>simp only[List.map_cons,aa,ih,wH,Bool.and_true]
theorem Kf(n:Ns):au (dNs n)=true:=by
 show aa [.tup (n.lps.map dL),.tup (n.dds.map dDd)]=true
 have h1:au (.tup (n.lps.map dL))=true:=gO _
 have h2:au (.tup (n.dds.map dDd))=true:=Ii _
 simp only[aa,h1,h2,Bool.and_true]
theorem lC(xs:List Ns):aa (xs.map dNs)=true:=by
 induction xs with
 | nil=>rfl
 | cons y ys ih=>simp only[List.map_cons,aa,ih,Kf,Bool.and_true]
theorem K7(p:Pg):au (dPg p)=true:=by
 show aa [dWs p.ws,.tup (p.nss.map dNs)]=true
 have h1:au (dWs p.ws)=true:=fX _
 have h2:au (.tup (p.nss.map dNs))=true:=lC _
 simp only[aa,h1,h2,Bool.and_true]
theorem all_map{α:Type}{enc:α->D}{q:D->Bool}{l:List α}(h:∀a∈l,q (enc a)=true):(l.map enc).all q=true:=by
 rw[List.all_eq_true]
 intro x hx
 obtain⟨a,ha,rfl⟩:=ZO.mp hx
 exact h a ha
theorem gj{α:Type}{enc:α->D}{l:List α}{b:Int}(h1:a≤(l.length:Int))(h2:(l.length:Int)≤b):aM (.tup (l.map enc)) a b=true:=by
 show(decide _&&decide _)=true
 rw[y8,ZG h1,ZG h2];rfl
theorem uJ{f:Fm}(h:f.2.length=d):aY (dF f) (d:Int)=true:=by
 show(decide _&&((f.1::f.2).map D.int).all whole)=true
 rw[ZG (by simp;omega),all_map (λ _ _=>rfl)];rfl
theorem Ax{b n:Int}(h1:a≤n)(h2:n≤b):lr a b (.int n)=true:=by
 show(decide _&&decide _)=true
 rw[ZG h1,ZG h2];rfl
theorem Ov{f:Fm}(h:FmB d 1 f):isPlace (d:Int) (dF f)=true:=by
 obtain⟨h1,h2,h3⟩:=h
 show(aY (dF f) (d:Int)&&((f.1::f.2).map D.int).all (lr (-99) 99))=true
 rw[uJ h1,all_map λ n hn=>?_]
 . rfl
 . rcases ZJ.mp hn with rfl | hn
   . exact Ax %[|0] %[|0]
   . exact Ax (h2 n hn).1 (h2 n hn).2
theorem Ah{n:Int}(h1: -1000000000000000000000000000000<n)(h2:n<1000000000000000000000000000000):qK n=true:=by
 unfold qK
 rw[V5]
 exact ZG (by split<;>omega)
theorem Mt{f:Fm}(h:StB d f):isStart (dF f) (d:Int)=true:=by
 obtain⟨h1,h2,h3,h4⟩:=h
 show(aY (dF f) (d:Int)&&((f.1::f.2).map D.int).all vI)=true
 rw[uJ h1,all_map λ n hn=>?_]
 . rfl
 . rcases ZJ.mp hn with rfl | hn
   . exact Ah h3 h4
   . have:=h2 n hn
     exact Ah %[|0] %[|0]
theorem Ql{t:Nat}{pl:List Fm}(h:TpB ws d t pl):jq (.int t) (dP pl) ws (d:Int)=true:=by
 obtain⟨w,hw,hl,hf⟩:=h
 have ht:=(y3.mp hw).1
 have e:ws.getD ((t:Int)).toNat 0=w:=by simp[List.getD,hw]
 show((decide _&&decide _)&&(aM (.tup (pl.map dF)) (ws.getD ((t:Int)).toNat 0) (ws.getD ((t:Int)).toNat 0)&&(pl.map dF).all (isPlace d)))=true
 rw[e,ZG (p:=(0:Int)≤t) %[|0],ZG (p:=(t:Int)<ws.length) %[|0],gj %[|0] %[|0],all_map λ f hf'=>Ov (hf f hf')];rfl
theorem Qu{x:Dd}(h:DdB ws d x):fD ws (d:Int) (dDd x)=true:=by
 obtain⟨h1,h2,h3,h4⟩:=h
 show(jq (.int x.tab) (dP x.pl) ws d&&(isStart (dF x.st) d&&(aM (.tup (x.rds.map dRd)) 0 3&&(x.rds.map dRd).all (jO ws d))))=true
 rw[Ql h1,Mt h2,gj %[|0] %[|0],all_map λ r hr=>?_]
 . rfl
 . obtain⟨a,b,c⟩:=h4 r hr
   show(qK r.fac&&jq (.int r.tab) (dP r.pl) ws d)=true
   rw[Ah a b,Ql c];rfl
theorem yS{f:Fm}(h:BdF f i):bY (dF f) (i:Int)=true:=by
 obtain⟨h1,h2,h3,h4⟩:=h
 show(aY (dF f) (i:Int)&&(decide _&&(decide _&&(f.2.map D.int).all small)))=true
 rw[uJ h1,ZG h2,ZG h3,all_map λ n hn=>?_]
 . rfl
 . have:=h4 n hn
   show(decide _&&decide _)=true
   rw[ZG this.1,ZG this.2];rfl
theorem Nx{ls:List Lp}(h:Lps ls):fP (.tup (ls.map dL))=true:=by
 obtain⟨h1,h2,h3⟩:=h
 show((decide _&&decide _)&&((ls.map dL).mapIdx λ i d=>iz d i).all id)=true
 rw[y8,ZG %[|0],ZG %[|0],List.all_eq_true.mpr λ b hb=>?_]
 . rfl
 . obtain⟨i,hi⟩:=ZR hb
   rw[List.getElem?_mapIdx,x5]at hi
   cases e:ls[i]? with
   | none=>rw[e]at hi;cases hi
   | some l=>
     rw[e]at hi
     cases hi
     show(bY (dF l.1) i&&bY (dF l.2) i)=true
     rw[yS (h3 i l e).1,yS (h3 i l e).2];rfl
theorem Rw{n:Ns}(h:NsB ws m n):g8 ws (dNs n)=true:=by
 obtain⟨h1,h2,h3,h4,h5⟩:=h
 show(fP (.tup (n.lps.map dL))&&(aM (.tup (n.dds.map dDd)) 1 4&&(n.dds.map dDd).all (fD ws ((n.lps.map dL).length:Int))))=true
 rw[Nx h1,gj %[|0] %[|0],y8,all_map λ x hx=>Qu (h5 x hx)];rfl
theorem PgB.widths{p:Pg}(h:PgB m p):iV (dWs p.ws)=true:=by
 obtain⟨⟨h1,h2,h3⟩,_⟩:=h
 show(aM (.tup (p.ws.map D.int)) 1 3&&(p.ws.map D.int).all (lr 1 2))=true
 rw[gj %[|0] %[|0],all_map λ w hw=>Ax (h3 w hw).1 (h3 w hw).2];rfl
theorem PgB.nests{p:Pg}(h:PgB m p):pN (.tup (p.nss.map dNs)) p.ws=true:=by
 obtain⟨_,h1,h2,h3⟩:=h
 show(aM (.tup (p.nss.map dNs)) 1 3&&(p.nss.map dNs).all (g8 p.ws))=true
 rw[gj %[|0] %[|0],all_map λ n hn=>Rw (h3 n hn)];rfl
theorem PgB.ok{p:Pg}(h:PgB m p):∀n∈p.nss,nM n:=λ n hn=>by
 obtain⟨h1,h2,h3,_⟩:=h.2.2.2 n hn
 exact⟨h1.1,h1.fits,%[|0]⟩
theorem TpB.pl{t:Nat}{pl:List Fm}(hW:WsB ws)(hd:d≤3)(h:TpB ws d t pl):Hy pl:=by
 obtain⟨w,hw,hl,hf⟩:=h
 have:=hW.2.2 w (y6 hw)
 exact⟨%[|0],λ f hf'=>by rw[(hf f hf').1];omega⟩
theorem PgB.deeds{p:Pg}(h:PgB m p):∀n∈p.nss,nM n/\∀x∈n.dds,Ni x:=λ n hn=>by
 refine⟨h.ok n hn,λ x hx=>?_⟩
 obtain⟨hL,_,_,_,hd⟩:=h.2.2.2 n hn
 obtain⟨h1,h2,h3,h4⟩:=hd x hx
 exact⟨h1.pl h.1 hL.2.1,%[|0],λ r hr=>(h4 r hr).2.2.pl h.1 hL.2.1⟩
theorem HR(i:Nat)(n:Ns):(bQ i n).length=(cnt n.lps).length*n.dds.length:=by
 unfold bQ
 generalize cnt n.lps=l
 induction l with
 | nil=>simp
 | cons c l ih=>rw[List.flatMap_cons,List.length_append,ih,List.length_cons,Nat.succ_mul];simp[Nat.add_comm]
theorem lD(nss:List Ns):((aB nss).length:Int)=many nss:=by
 have:∀i,i≤nss.length->((aB (nss.take i)).length:Int)=many (nss.take i):=by
  intro i
  induction i with
  | zero=>intro _;rfl
  | succ i ih=>
    intro hi
    have hl:=y4 (l:=nss) (i:=i) %[|0]
    rw[jn hl,List.length_append,Int.natCast_add,ih %[|0],HR,aV hl]
    unfold many
    rw[List.map_append,List.sum_append]
    simp
 have:=this nss.length (x6 _)
 rw[List.take_length]at this
 exact this
theorem Mx{p:Pg}{W:WD}(h:PgB 0 p)(h24:many p.nss≤60)(hS:flat S)(w:W (dPg p) S):yM [dWs p.ws,.tup (p.nss.map dNs)] S W:=
 ⟨p,rfl,h.widths,h.nests,by have:=h.2.2.1;omega,h.ok,%[|0],hS,w⟩
theorem wD{p:Pg}{W:WD}(h:PgB 0 p)(h24:many p.nss≤60)(hS:flat S)(w:W (.lst ((aB p.nss).map (dU p))) S):jk [dPg p] S W:=
 ⟨p,rfl,by have:=h.2.2.1;omega,h.deeds,by have:=lD p.nss;omega,hS,w⟩
theorem Lk{p:Pg}{W:WD}(h:PgB 0 p)(h24:many p.nss≤60)(hS:flat S)(w:hand W ((aB p.nss).map dSt) S):gR [dPg p] S W:=
 ⟨p,rfl,by have:=h.2.2.1;omega,h.ok,by have:=lD p.nss;omega,hS,w⟩
theorem yu{d:D}{Γ:Gam}{R:Gam->Prop}(h:R (Γ.set j (some d))):(Tg.nm j).wp d Γ R:=h
theorem Fj{α:Type}{enc:α->D}{P:α->Prop}:∀{ys:List D},(∀y∈ys,∃a,y=enc a/\P a)->∃as,ys=List.map enc as/\∀a∈as,P a
 | [],_=>⟨[],rfl,by simp⟩
 | y::ys,h=>by
   obtain⟨a,rfl,ha⟩:=h y v3
   obtain⟨as,rfl,has⟩:=Fj (enc:=enc) (P:=P) (ys:=ys) λ y h'=>h y (x8 _ h')
   exact⟨a::as,rfl,λ b hb=>(ZJ.mp hb).elim (λ e=>e▸ha) (has b)⟩
theorem atJ{N:List D}(h:n=S.length+1+j):(S++N::J)[n]? =J[j]?:=by
 subst h
 rw[List.getElem?_append_right %[|0],show S.length+1+j-S.length=j+1 from %[|0],List.getElem?_cons_succ]
theorem Xo{N x:List D}(h:n=S.length+1+j):(S++N::J).set n x=S++N::J.set j x:=by
 subst h
 rw[List.set_append_right _ _ %[|0],show S.length+1+j-S.length=j+1 from %[|0]];rfl
theorem pK{N:List D}(hS:flat S)(hN:aa N=true)(hJ:flat J):flat (S++N::J):=λ l hl=>by
 rcases ZK.mp hl with hl | hl
 . exact hS l hl
 . rcases ZJ.mp hl with rfl | hl
   . exact hN
   . exact hJ l hl
theorem Om{x:List D}(h:flat J)(hx:aa x=true):flat (J.set j x):=λ l hl=>by
 rcases List.mem_or_eq_of_mem_set hl with hl | rfl
 . exact h l hl
 . exact hx
theorem Ke(nss:List Ns)(n:Ns):many (nss++[n])=many nss+((cnt n.lps).length:Int)*(n.dds.length:Int):=by
 unfold many
 rw[List.map_append,List.sum_append];simp
theorem M8:(cnt [((0,[]),(0,[]))]).length=0:=%[|2]
theorem Oe:Lps [((0,[]),(0,[]))]:=⟨%[|2],%[|2],λ i l h=>by
 match i,h with
 | 0,h=>cases h;exact⟨⟨rfl,%[|2],%[|2],λ n hn=>by cases hn⟩,⟨rfl,%[|2],%[|2],λ n hn=>by cases hn⟩⟩
 | i+1,h=>simp at h⟩
def Fp:Ct:=λ ds S W=>∃(k b:Nat),ds=[.loc k]/\aD S k b/\b≤100/\flat S/\∀p S',PgB 0 p->many p.nss≤60->aH S k S'->aD S' k (b+1000)->W (dPg p) S'
def Qk(L:Int)(S:Store)(k b:Nat)(ws:%[|3])(i:Nat)(Γ':Gam)(T:Store):Prop:=∃(S':Store) (nss:List Ns) (J:Store) (l:Int) (o4 o5 o6 o7:Option D),Γ'=[some (.loc k),some (dWs ws),some (.int l),%[|18],o4,o5,o6,o7]/\T=S'++nss.map dNs::J/\nss.length=i/\(∀n∈nss,NsB ws 0 n)/\many nss+l=L/\0≤l/\flat J/\aH S k S'/\aD S' k (b+6+230*i)
theorem zU(F:Fun Ω.K "_law_program" "_law_program" jz f fd)(N0:Ω.cd=none)(B:Bi Ω.mg)(Cq54:Cal Ω "program_of" 10 2 yM)(Cq8:Cal Ω "_law_next" 2 2 cu)(Cq7:Cal Ω "_law_loops" 3 1 zX)(Cq2:Cal Ω "_law_count" 2 1 KY)(Cq3:Cal Ω "_law_deed" 4 3 Gj):Ok Ω 11 f fd Dc Fp:=by
 refine aA N0 (N:=CG) F (Bl.drp (Ck B Cq54 Cq8 Cq7 Cq2 Cq3)) %[|9] ?_
 rintro ds S W ⟨k,b,rfl,hp,hb,hS,hw⟩ hl
 walk_at "b"
 refine bx hp %[|0] %[|2] %[|2] λ v S1 v0 v1 u1 p1=>?_
 walk_at "b"
 refine⟨⟨%[|0],%[|0]⟩,eQ (λ y=>∃n:Int,y=.int n/\(1≤n/\n≤2)) (λ j T=>aH S k T/\aD T k (b+1+j)) (by rw[ak];omega) ⟨u1,p1⟩ ?_ ?_⟩
 . rintro j d T hd ⟨u,p⟩ R hR
   have hj:=(aJ hd).1
   walk_at "b"
   refine bx p %[|0] %[|2] %[|2] λ w S2 w0 w1 u2 p2=>?_
   walk_at "b"
   exact hR _ _ ⟨_,rfl,%[|0],%[|0]⟩ ⟨u.trans u2,p2⟩
 rintro ys S2 hyl hys ⟨u2,p2⟩
 obtain⟨ws,rfl,hws⟩:=dg hys
 rw[ak,y8]at hyl
 rw[ak]at p2
 have hW:WsB ws:=⟨%[|0],%[|0],hws⟩
 have p2:=p2.mono (b':=b+4) %[|0]
 walk_at "b"
 refine bD (R:=[[]]) p2 %[|0] %[|2] %[|2] λ mv S3 m0 m1 u3 p3=>?_
 have u3:=u2.trans u3
 walk_at "b"
 refine⟨⟨%[|0],%[|0]⟩,aN ⟨Qk 24 S k b ws,⟨S3,[],[],24,none,none,none,none,by rw[←u2.len];rfl,rfl,rfl,(λ n h=>by cases h),by show many []+24=24;unfold many;simp,%[|2],(λ l h=>by cases h),u3,p3.mono %[|0]⟩,?_,?_⟩⟩
 . rintro i e Γ' T he ⟨S4,nss,J,l,o4,o5,o6,o7,rfl,rfl,hnl,hns,hml,hl0,hJ,u4,p4⟩
   obtain⟨hi,rfl⟩:=aJ he
   have hi:i<3:=%[|0]
   suffices body:∀Wf:DL.Fin,(∀G T,Qk 24 S k b ws (i+1) G T->Wf.nx G T)->(jY B Cq54 Cq8 Cq7 Cq2 Cq3).wp [some (.loc k),some (dWs ws),some (.int l),%[|18],some (.int (0+(i:Int))),o5,o6,o7] (S4++nss.map dNs::J) Wf by
    refine yu ?_
    simp only[List.set_cons_succ,List.set_cons_zero]
    exact body _ λ G T h=>h
   intro Wf hnx
   have nN:=lC nss
   walk_at "b"
   refine⟨rfl,k,_,rfl,p4.app _,%[|0],pK (u4.flat hS) nN hJ,λ ls T5 J5 hL u5 p5 fJ5=>?_⟩
   obtain⟨S5,rfl,u5,p5⟩:=u5.split p4 p5
   have u5:=u4.trans u5
   have e1:(S5++nss.map dNs::J)++ls.map dL::J5=S5++nss.map dNs::(J++ls.map dL::J5):=by simp
   have e2:(S4++nss.map dNs::J).length=S.length+1+J.length:=by simp[u4.len];omega
   rw[e1,e2]
   walk_at "b"
   refine bD p5 %[|0] %[|2] %[|2] λ mv S6 m0 m1 u6 p6=>?_
   have u6:=u5.trans u6
   obtain⟨mn,hmn⟩:∃n:Nat,1+mv=(n:Int):=⟨(1+mv).toNat,%[|0]⟩
   have en:∀S',aH S k S'->S.length=S'.length:=λ S' u=>u.len.symm
   have rest:∀(q j':Nat)(ls':List Lp)(J':Store),q=S.length+1+j'->J'[j']? =some (ls'.map dL)->Lps ls'->((cnt ls').length:Int)*(mn:Int)≤l->flat J'->(ik B Cq54 Cq8 Cq7 Cq2 Cq3).wp [some (.loc k),some (dWs ws),some (.int l),%[|18],some (.int (0+(i:Int))),some (.loc q),some (.int mn),o7] (S6++nss.map dNs::J') Wf:=by
    intro q j' ls' J' hq hj' hL' hle fJ'
    have l3:=hL'.2.1
    have get:∀S',aH S k S'->(S'++nss.map dNs::J')[q]? =some (ls'.map dL):=λ S' u=>by rw[atJ (by rw[u.len];exact hq)];exact hj'
    walk_at "b"
    refine⟨rfl,_,ls',rfl,.inr ⟨_,rfl,get S6 u6⟩,hL',pK (u6.flat hS) nN fJ',?_⟩
    walk_at "b"
    refine⟨⟨%[|0],%[|0]⟩,eQ (λ y=>∃x,y=dDd x/\DdB ws ls'.length x) (λ j T=>∃S',T=S'++nss.map dNs::J'/\aH S k S'/\aD S' k (b+6+230*i+21+50*j)) (by rw[ak];omega) ⟨S6,rfl,u6,p6.mono %[|0]⟩ ?_ ?_⟩
    . rintro j d T hd ⟨S7,rfl,u7,p7⟩ R hR
      have hj:=(aJ hd).1
      walk_at "b"
      refine⟨_,get S7 u7,?_⟩
      walk_at "b"
      rw[y8]
      refine⟨rfl,k,_,ls'.length,ws,rfl,p7.app _,%[|0],pK (u7.flat hS) nN fJ',l3,hW,λ x T8 hx u8 p8=>?_⟩
      obtain⟨S8,rfl,u8,p8⟩:=u8.split p7 p8
      exact hR _ _ ⟨x,rfl,hx⟩ ⟨S8,rfl,u7.trans u8,p8.mono %[|0]⟩
    rintro ys T hyl hys ⟨S7,rfl,u7,p7⟩
    obtain⟨dds,rfl,hdds⟩:=Fj hys
    rw[ak,y8]at hyl
    rw[ak]at p7
    walk_at "b"
    refine⟨_,get S7 u7,?_⟩
    walk_at "b"
    refine⟨_,at1 (en S7 u7),by simp;omega,?_⟩
    rw[Ms (en S7 u7)]
    refine hnx _ _ ⟨S7,nss++[⟨ls',dds⟩],J',l-((cnt ls').length:Int)*(mn:Int),_,_,_,_,rfl,by rw[List.map_append];rfl,by simp[hnl],λ n hn=>?_,?_,%[|0],fJ',u7,p7.mono %[|0]⟩
    . rcases ZK.mp hn with hn | hn
      . exact hns n hn
      . rw[ZL.mp hn]
        exact⟨hL',by show 1≤dds.length;omega,by show dds.length≤4;omega,rfl,hdds⟩
    . rw[Ke]
      show many nss+((cnt ls').length:Int)*(dds.length:Int)+_=24
      rw[show(dds.length:Int)=(mn:Int)from %[|0]]
      omega
   walk_at "b"
   rw[hmn]
   refine Ol ⟨λ m Γ' T=>∃(ls:List Lp) (J':Store),Γ'=[some (.loc k),some (dWs ws),some (.int l),%[|18],some (.int (0+(i:Int))),some (.loc (S.length+1+J.length)),some (.int mn),o7]/\T=S6++nss.map dNs::J'/\J'[J.length]? =some (ls.map dL)/\flat J'/\ls.length=m/\Lps ls,ls.length,⟨ls,_,rfl,rfl,by simp,?_,rfl,hL⟩,?_⟩
   . intro x hx
     rcases ZK.mp hx with hx | hx
     . exact hJ x hx
     . rcases ZJ.mp hx with rfl | hx
       . exact gO ls
       . exact fJ5 x hx
   clear hL e1 e2
   rintro m Γ' T ⟨ls,J',rfl,rfl,hj,fJ',hm,hL⟩
   have hq:∀S',aH S k S'->S.length+1+J.length=S'.length+1+J.length:=λ S' u=>by rw[u.len]
   have get:(S6++nss.map dNs::J')[S.length+1+J.length]? =some (ls.map dL):=by rw[atJ (hq S6 u6)];exact hj
   have out:(iI B Cq54 Cq8 Cq7 Cq2 Cq3).wp [some (.loc k),some (dWs ws),some (.int l),%[|18],some (.int (0+(i:Int))),some (.loc (S.length+1+J.length)),some (.int mn),o7] (S6++nss.map dNs::J') Wf:=by
    walk_at "b"
    refine⟨rfl,_,ls,rfl,.inr ⟨_,rfl,get⟩,hL,pK (u6.flat hS) nN fJ',?_⟩
    walk_at "b"
    refine⟨λ c=>?_,λ c=>rest _ J.length ls J' rfl hj hL (by have:=of_decide_eq_false c;omega) fJ'⟩
    walk_at "b"
    have e3:(S6++nss.map dNs::J').length=S.length+1+J'.length:=by simp[u6.len];omega
    have e4:(S6++nss.map dNs::J')++[[D.tup [.tup [.int 0],.tup [.int 0]]]]=S6++nss.map dNs::(J'++[[D.tup [.tup [.int 0],.tup [.int 0]]]]):=by simp
    rw[e3,e4]
    exact rest _ J'.length [((0,[]),(0,[]))] _ rfl (by simp;rfl) Oe (by rw[M8];simp;omega) λ x hx=>by
     rcases ZK.mp hx with hx | hx
     . exact fJ' x hx
     . rw[ZL.mp hx];rfl
   walk_at "b"
   refine⟨_,get,?_⟩
   walk_at "b"
   refine⟨λ c=>?_,λ c=>⟨λ z=>ff z,λ _=>out⟩⟩
   have c:=ZF c
   rw[y8]at c
   walk_at "b"
   refine⟨rfl,_,ls,rfl,.inr ⟨_,rfl,get⟩,hL,pK (u6.flat hS) nN fJ',?_⟩
   walk_at "b"
   refine⟨λ _=>?_,λ _=>out⟩
   walk_at "b"
   obtain⟨x,hx⟩:∃x,ls[ls.length-1]? =some x:=⟨_,y4 %[|0]⟩
   refine⟨_,dL x,get,by rw[y8,x5,hx];rfl,?_⟩
   walk_at "b"
   have hcut:lX ls.dropLast:=lX.cut hL.2.2
   refine⟨m-1,%[|0],ls.dropLast,J'.set J.length (ls.dropLast.map dL),rfl,?_,?_,Om fJ' (gO _),by rw[List.length_dropLast];omega,⟨by rw[List.length_dropLast];omega,by rw[List.length_dropLast];have:=hL.2.1;omega,hcut⟩⟩
   . rw[Xo (hq S6 u6),List.map_dropLast]
   . rw[List.getElem?_set_self (y3.mp hj).1]
 . rintro Γ' T ⟨S4,nss,J,l,o4,o5,o6,o7,rfl,rfl,hnl,hns,hml,hl0,hJ,u4,p4⟩
   rw[ak]at hnl p4
   have ok:PgB 0 ⟨ws,nss⟩:=⟨hW,by show 1≤nss.length;omega,by show nss.length≤3;omega,hns⟩
   have h24:many nss≤60:=%[|0]
   walk_at "b"
   refine⟨_,at1 u4.len.symm,?_⟩
   walk_at "b"
   refine⟨rfl,Mx (p:=⟨ws,nss⟩) ok h24 (pK (u4.flat hS) (lC nss) hJ) ?_⟩
   exact .inr ⟨_,S4,rfl,by rw[u4.len];exact x6 _,K7 ⟨ws,nss⟩,u4.flat hS,hw ⟨ws,nss⟩ _ ok h24 u4 (p4.mono %[|0])⟩
def toC(c:Cell):Int×%[|3]:=((c.1:Int),c.2)
theorem Nv(l:List Cell):l.map aO=(l.map toC).map cD:=by rw[List.map_map];rfl
def tch(a b:Cell×List Cell):List Cell:=(if a.1=b.1∨a.1∈b.2 then[a.1]else[])++(if b.1∈a.2 then[b.1]else[])
def jL(a b:Cell×List Cell):Bool:=(decide (a.1=b.1)||decide (a.1∈b.2))||decide (b.1∈a.2)
def dCR(a:Cell×List Cell):D:=.tup [aO a.1,.lst (a.2.map aO)]
theorem oW:∀(xs ys:%[|3]),cz (xs.map D.int) (ys.map D.int)=decide (xs=ys)
 | [],[]=>by simp[cz]
 | [],_::_=>by simp[cz]
 | _::_,[]=>by simp[cz]
 | x::xs,y::ys=>by
   simp only[List.map_cons,cz,eqD_i,oW xs ys]
   rw[Bool.eq_iff_iff]
   simp
theorem yD(a b:Cell):eqD (aO a) (aO b)=decide (a=b):=by
 unfold aO
 simp only[eqD_t,eqD_i,cz,oW,Bool.and_true]
 rw[Bool.eq_iff_iff]
 simp[Prod.ext_iff]
 intro _
 omega
theorem Nf(c:Cell)(l:List Cell):((l.map aO).any λ d=>eqD d (aO c))=decide (c∈l):=by
 rw[List.any_map]
 rw[Bool.eq_iff_iff,List.any_eq_true]
 simp only[Function.comp_apply,yD,decide_eq_true_eq]
 exact⟨λ⟨x,h1,h2⟩=>h2▸h1,λ h=>⟨c,h,rfl⟩⟩
theorem wu:∀xs:%[|3],cX (xs.map D.int)=true
 | []=>rfl
 | x::xs=>by simp only[List.map_cons,cX,okD,wu xs,Bool.and_true]
theorem tZ:∀xs:%[|3],bj (xs.map D.int)=0
 | []=>rfl
 | x::xs=>by simp only[List.map_cons,bj,deep,tZ xs];rfl
theorem kW(c:Cell):okD (aO c)=true:=by unfold aO;simp only[okD,cX,wu,Bool.and_true]
theorem wB(c:Cell):deep (aO c)=2:=by unfold aO;simp only[deep,bj,tZ];rfl
theorem t8:∀l:List Cell,cX (l.map aO)=true
 | []=>rfl
 | c::l=>by simp only[List.map_cons,cX,kW,t8 l,Bool.and_true]
theorem qJ:∀l:List Cell,bj (l.map aO)≤2
 | []=>by simp[bj]
 | c::l=>by have:=qJ l;simp only[List.map_cons,bj,wB];omega
theorem cell_eq{a b:Cell}{W:Bool->%[|5]}(w:W (decide (a=b)) S):aP .Eq (aO a) (aO b) S W:=by
 rw[←yD]at w
 unfold aP
 exact⟨⟨kW a,kW b,by show deep (aO a)≤50;rw[wB];decide⟩,w⟩
theorem cell_in{c:Cell}{l:List Cell}{W:Bool->%[|5]}(w:W (decide (c∈l)) S):aP .In (aO c) (.lst (l.map aO)) S W:=by
 rw[←Nf]at w
 exact cIn (ds:=l.map aO) rfl (kW c) (t8 l) (Nat.le_trans (qJ l) %[|2]) w
theorem Ng(l:List Cell):((sset id (l.map toC)).map cD).isEmpty=l.isEmpty:=by
 match l with
 | []=>rfl
 | [a]=>rfl
 | [a,b]=>
   show((if toC b=toC a then[toC a]else if ltC (toC b) (toC a)=true then[toC b,toC a]else[toC a,toC b]).map cD).isEmpty=false
   split
   . rfl
   . split<;>rfl
 | _::_::_::_=>rfl
theorem Ew(a b:Cell×List Cell):(tch a b).length≤2:=by
 unfold tch
 split<;>split<;>simp
theorem Qt(a b:Cell×List Cell):(!(tch a b).isEmpty)=jL a b:=by
 unfold tch jL
 by_cases h1:a.1=b.1
 . simp[h1]
 . by_cases h2:a.1∈b.2
   . simp[h2]
   . by_cases h3:b.1∈a.2<;>simp[h1,h2,h3]
def bf(p:Pg):List (Dd×%[|3]):=p.nss.flatMap λ n=>(cnt n.lps).flatMap λ cs=>n.dds.map λ x=>(x,cs)
def crs(x:Dd×%[|3]):Cell×List Cell:=(spot x.1.tab x.1.pl x.2,x.1.rds.map λ r=>spot r.tab r.pl x.2)
theorem RM(x:Dd×%[|3]):dCR (crs x)=dCs x.1 x.2:=by
 unfold dCR crs dCs
 rw[List.map_map];rfl
theorem zR{α β:Type}{f g:α->List β}:∀{l:List α},(∀a∈l,f a=g a)->l.flatMap f=l.flatMap g
 | [],_=>rfl
 | a::l,h=>by rw[List.flatMap_cons,List.flatMap_cons,h a v3,zR λ x hx=>h x (x8 _ hx)]
theorem BW{p:Pg}{n:Ns}(h:p.nss[i]? =some n):(bQ i n).map (dU p)=((cnt n.lps).flatMap λ cs=>n.dds.map λ x=>(x,cs)).map λ x=>dCR (crs x):=by
 unfold bQ
 rw[List.map_flatMap,List.map_flatMap]
 refine zR λ cs _=>?_
 rw[List.map_map,List.map_map]
 apply List.ext_getElem
 . simp
 . intro s h1 h2
   have hs:s<n.dds.length:=by simpa using h2
   rw[List.getElem_map,List.getElem_map,List.getElem_range]
   show dU p (i,cs,s)=dCR (crs (n.dds[s],cs))
   rw[RM]
   unfold dU
   show(match p.nss[i]? with | some n=>(match n.dds[s]? with | some x=>dCs x cs | none=>D.non) | none=>D.non)=_
   rw[h]
   show(match n.dds[s]? with | some x=>dCs x cs | none=>D.non)=_
   rw[y4 hs]
theorem nY(p:Pg):(aB p.nss).map (dU p)=(bf p).map λ x=>dCR (crs x):=by
 unfold aB bf
 rw[List.map_flatten,List.map_flatMap,List.flatMap_def]
 congr 1
 apply List.ext_getElem
 . simp
 . intro i h1 h2
   have hi:i<p.nss.length:=by simpa using h2
   rw[List.getElem_map,List.getElem_mapIdx,List.getElem_map]
   exact BW (y4 hi)
theorem uo(h:n=S.length):(S++[l]++J)[n]? =some l:=by
 subst h
 rw[List.getElem?_append_left (by simp)];exact bw _ _
theorem Es{l':List D}(h:n=S.length):(S++[l]++J).set n l'=S++[l']++J:=by
 subst h
 rw[List.set_append_left _ _ (by simp),bO]
def ssC(a b:Cell×List Cell):List (Int×%[|3]):=sset id ((tch a b).map toC)
theorem Rt(a b:Cell×List Cell):((ssC a b).map cD).isEmpty=(ssC a b).isEmpty:=by cases ssC a b<;>rfl
theorem RL(a b:Cell×List Cell):(ssC a b).length≤2:=by
 unfold ssC
 have h:=Ew a b
 generalize tch a b=l at h
 match l,h with
 | [],_=>exact Nat.zero_le _
 | [x],_=>exact Nat.le_succ _
 | [x,y],_=>
   show(if toC y=toC x then[toC x]else if ltC (toC y) (toC x)=true then[toC y,toC x]else[toC x,toC y]).length≤2
   split
   . exact Nat.le_succ _
   . split<;>exact x6 _
def tL:Ct:=λ ds S W=>∃a b:Cell×List Cell,ds=[dCR a,dCR b]/\W (.loc (S.length+1)) (S++[(tch a b).map aO]++[(ssC a b).map cD])
theorem nq(F:Fun Ω.K "touched_cells" "touched_cells" dz f fd)(N0:Ω.cd=none)(B:Bi Ω.mg):Ok Ω 1 f fd qp tL:=by
 refine aA N0 (N:=qg) F (pU B) %[|9] ?_
 rintro ds S W ⟨a,b,rfl,hw⟩ hl
 have fin:∀l:List Cell,l=tch a b->(fJ B).wp [some (dCR a),some (dCR b),%[|18]] (S++[l.map aO]) %[|25]:=by
  rintro l rfl
  walk_at "b"
  refine⟨(tch a b).map toC,by rw[y8];exact Ew a b,.inr ⟨_,rfl,?_⟩,?_⟩
  . rw[←Nv];exact bw _ _
  . have e:(S++[(tch a b).map aO]).length=S.length+1:=by simp
    rw[e]
    exact hw
 have two:∀l:List Cell,l=(if a.1=b.1∨a.1∈b.2 then[a.1]else[])->(fK B).wp [some (dCR a),some (dCR b),%[|18]] (S++[l.map aO]) %[|25]:=by
  intro l el
  have hlen:l.length≤1:=by rw[el];split<;>simp
  walk_at "b"
  refine cell_in ?_
  by_cases h:b.1∈a.2
  . rw[ZG h]
    walk_at "b"
    refine⟨_,bw _ _,by rw[y8];omega,?_⟩
    rw[bO]
    have:=fin (l++[b.1]) (by unfold tch;rw[el,if_pos h])
    rw[List.map_append]at this
    exact this
  . rw[ZH h]
    walk_at "b"
    exact fin l (by unfold tch;rw[el,if_neg h,List.append_nil])
 walk_at "b"
 refine cell_eq ?_
 by_cases h:a.1=b.1
 . rw[ZG h]
   walk_at "b"
   refine⟨_,bw _ _,by simp,?_⟩
   rw[bO]
   exact two [a.1] (by rw[if_pos (.inl h)])
 . rw[ZH h]
   walk_at "b"
   refine cell_in ?_
   by_cases h2:a.1∈b.2
   . rw[ZG h2]
     walk_at "b"
     refine⟨_,bw _ _,by simp,?_⟩
     rw[bO]
     exact two [a.1] (by rw[if_pos (.inr h2)])
   . rw[ZH h2]
     refine bF ?_
     exact two [] (by rw[if_neg (λ z=>z.elim h h2)])
theorem Ff(c:List (Int×%[|3])):(c.map cD).isEmpty=c.isEmpty:=by cases c<;>rfl
abbrev Pr:=Nat×Nat×List (Int×%[|3])
abbrev CR:=Cell×List Cell
def gG(xs:List CR)(i j:Nat):List Pr:=match xs[i]?,xs[j]? with
 | some a,some b=>if(ssC a b).isEmpty then[]else[(i,j,ssC a b)]
 | _,_=>[]
def fj(xs:List CR)(i k:Nat):List Pr:=(List.range k).flatMap λ t=>gG xs i (i+1+t)
def b8(xs:List CR)(k:Nat):List Pr:=(List.range k).flatMap λ i=>fj xs i (xs.length-(i+1))
theorem Qy{xs:List CR}{a b:CR}(ha:xs[i]? =some a)(hb:xs[j]? =some b):gG xs i j=if(ssC a b).isEmpty then[]else[(i,j,ssC a b)]:=by
 unfold gG;rw[ha,hb]
theorem lQ(xs:List CR)(i k:Nat):fj xs i (k+1)=fj xs i k++gG xs i (i+1+k):=by
 unfold fj;rw[List.range_succ,List.flatMap_append];simp
theorem tW(xs:List CR)(k:Nat):b8 xs (k+1)=b8 xs k++fj xs k (xs.length-(k+1)):=by
 unfold b8;rw[List.range_succ,List.flatMap_append];simp
theorem Ml(xs:List CR)(i j:Nat):(gG xs i j).length≤1:=by
 unfold gG
 split
 . split<;>simp
 . simp
theorem oV(xs:List CR)(i:Nat):∀k,(fj xs i k).length≤k
 | 0=>by simp[fj]
 | k+1=>by rw[lQ,List.length_append];have:=oV xs i k;have:=Ml xs i (i+1+k);omega
theorem vW(xs:List CR):∀k,(b8 xs k).length≤k*xs.length
 | 0=>by simp[b8]
 | k+1=>by
   rw[tW,List.length_append,Nat.succ_mul]
   have:=vW xs k
   have:=oV xs k (xs.length-(k+1))
   omega
inductive IsPr(n:Nat)(J:Store):List D->List Pr->Prop
 | nil:IsPr n J [] []
 | cons{m:Nat}{q:Pr}{ds:List D}{qs:List Pr}(h1:n+1≤m)(h2:J[m-(n+1)]? =some (q.2.2.map cD))(t:IsPr n J ds qs):IsPr n J (.tup [.int (q.1:Int),.int (q.2.1:Int),.loc m]::ds) (q::qs)
theorem IsPr.more{J':Store}{ds:List D}{qs:List Pr}(h:IsPr n J ds qs):IsPr n (J++J') ds qs:=by
 induction h with
 | nil=>exact .nil
 | cons h1 h2 _ ih=>exact .cons h1 (by rw[List.getElem?_append_left (y3.mp h2).1];exact h2) ih
theorem IsPr.snoc{ds:List D}{qs:List Pr}{q:Pr}(h:IsPr n J ds qs)(h1:n+1≤m)(h2:J[m-(n+1)]? =some (q.2.2.map cD)):IsPr n J (ds++[.tup [.int (q.1:Int),.int (q.2.1:Int),.loc m]]) (qs++[q]):=by
 induction h with
 | nil=>exact .cons h1 h2 .nil
 | cons g1 g2 _ ih=>exact .cons g1 g2 ih
theorem IsPr.length{ds:List D}{qs:List Pr}(h:IsPr n J ds qs):ds.length=qs.length:=by
 induction h with
 | nil=>rfl
 | cons _ _ _ ih=>simp[ih]
def Ag:Ct:=λ ds S W=>∃(p:Pg),ds=[dPg p]/\PgB 0 p/\many p.nss≤60/\flat S/\∀its J,IsPr S.length J its (b8 ((bf p).map crs) (bf p).length)->W (.loc S.length) (S++[its]++J)
theorem qI(p:Pg):(aB p.nss).length=(bf p).length:=by
 have:=congrArg List.length (nY p)
 rw[y8,y8]at this
 exact this
theorem Kr(p:Pg):many p.nss=((bf p).length:Int):=by rw[←lD,qI]
theorem Pq{p:Pg}(h60:many p.nss≤60):(bf p).length≤60:=by
 have h2:=Kr p
 omega
theorem Hd(F:Fun Ω.K "pairs" "pairs" nO f fd)(N0:Ω.cd=none)(B:Bi Ω.mg)(Cq20:Cal Ω "cells_of" 5 1 jk)(Cq58:Cal Ω "touched_cells" 1 2 tL):Ok Ω 6 f fd J7 Ag:=by
 refine aA N0 (N:=JD) F (Iu B Cq20 Cq58) %[|9] ?_
 rintro ds S W ⟨p,rfl,hP,h60,hS,hw⟩ hl
 have hN:=Pq h60
 have eC:(aB p.nss).map (dU p)=((bf p).map crs).map dCR:=by rw[nY,List.map_map];rfl
 walk_at "b"
 refine⟨rfl,wD hP h60 hS ?_⟩
 rw[eC]
 have hL:((bf p).map crs).length=(bf p).length:=y8 _
 rw[←hL]at hw hN
 generalize (bf p).map crs=xs at*
 walk_at "b"
 rw[y8]
 refine⟨⟨%[|0],%[|0]⟩,aN ⟨λ i Γ' S'=>∃o3 o4 o5 its J,Γ'=[some (dPg p),some (.lst (xs.map dCR)),%[|18],o3,o4,o5]/\S'=S++[its]++J/\IsPr S.length J its (b8 xs i),⟨_,_,_,[],[],rfl,by simp,.nil⟩,?_,?_⟩⟩
 . rintro i e Γ' S' he ⟨o3,o4,o5,its,J,rfl,rfl,hp⟩
   obtain⟨hi,rfl⟩:=aJ he
   have e2:(0:Int)+(i:Int)=(i:Int):=%[|0]
   rw[e2]
   have hi':i<xs.length:=%[|0]
   have ax:atI (xs.map dCR) ((i:Nat):Int)=some (dCR xs[i]):=dm (by rw[x5,y4 hi'];rfl)
   walk_at "b"
   rw[y8]
   refine⟨⟨%[|0],%[|0]⟩,aN ⟨λ k Γ' S'=>∃o4 o5 its J,Γ'=[some (dPg p),some (.lst (xs.map dCR)),%[|18],some (.int (i:Int)),o4,o5]/\S'=S++[its]++J/\IsPr S.length J its (b8 xs i++fj xs i k),⟨_,_,its,J,rfl,rfl,by unfold fj;simpa using hp⟩,?_,?_⟩⟩
   . rintro k e Γ' S' he ⟨o4,o5,its,J,rfl,rfl,hp⟩
     obtain⟨hk,rfl⟩:=aJ he
     have e3:((i:Int)+1)+(k:Int)=((i+1+k:Nat):Int):=%[|0]
     rw[e3]
     have hj:i+1+k<xs.length:=%[|0]
     have aj:atI (xs.map dCR) ((i+1+k:Nat):Int)=some (dCR xs[i+1+k]):=dm (by rw[x5,y4 hj];rfl)
     have ePr:=Qy (y4 hi') (y4 hj)
     walk_at "b"
     refine⟨_,ax,?_⟩
     walk_at "b"
     refine⟨_,aj,?_⟩
     walk_at "b"
     refine⟨rfl,xs[i],xs[i+1+k],rfl,?_⟩
     have eL:S++[its]++J++[(tch xs[i] xs[i+1+k]).map aO]++[(ssC xs[i] xs[i+1+k]).map cD]=S++[its]++(J++[(tch xs[i] xs[i+1+k]).map aO,(ssC xs[i] xs[i+1+k]).map cD]):=by simp
     rw[eL]
     have nm:(S++[its]++J).length+1=S.length+1+(J.length+1):=by simp;omega
     rw[nm]
     generalize hc:ssC xs[i] xs[i+1+k]=c at*
     generalize (tch xs[i] xs[i+1+k]).map aO=tl at*
     have hcl:c.length≤2:=by rw[←hc];exact RL _ _
     have hget:(S++[its]++(J++[tl,c.map cD]))[S.length+1+(J.length+1)]? =some (c.map cD):=by
      rw[List.getElem?_append_right (by simp)]
      rw[show S.length+1+(J.length+1)-(S++[its]).length=J.length+1 from by simp]
      rw[List.getElem?_append_right %[|0]]
      simp
     walk_at "b"
     refine⟨c.map cD,by simp only[vw];rw[hget],.inr ⟨_,rfl,hget⟩,by rw[y8];omega,?_⟩
     have hmore:IsPr S.length (J++[tl,c.map cD]) its (b8 xs i++fj xs i k):=hp.more
     by_cases hz:c.isEmpty=true
     . have e5:(!(c.map cD).isEmpty)=false:=by rw[Ff,hz];rfl
       rw[e5]
       refine bF ?_
       exact⟨_,_,its,_,rfl,rfl,by rw[lQ,ePr,if_pos hz,List.append_nil];exact hmore⟩
     . have e5:(!(c.map cD).isEmpty)=true:=by rw[Ff,show c.isEmpty=false from by cases h9:c.isEmpty with | false=>rfl | true=>exact absurd h9 hz];rfl
       rw[e5]
       walk_at "b"
       have hil:its.length≤4000:=by
        have:=hp.length
        rw[List.length_append]at this
        have a1:=vW xs i
        have a2:=oV xs i k
        have a3:i*xs.length≤60*60:=Nat.mul_le_mul %[|0] hN
        omega
       refine⟨its,uo rfl,%[|0],?_⟩
       rw[Es rfl]
       refine⟨_,_,_,_,rfl,rfl,?_⟩
       rw[lQ,ePr,if_neg hz,←List.append_assoc]
       refine IsPr.snoc (q:=(i,i+1+k,c)) hmore %[|0] ?_
       rw[show S.length+1+(J.length+1)-(S.length+1)=J.length+1 from %[|0]]
       rw[List.getElem?_append_right %[|0]]
       simp
   . rintro Γ' S' ⟨o4,o5,its,J,rfl,rfl,hp⟩
     refine⟨_,_,_,its,J,rfl,rfl,?_⟩
     rw[tW]
     rw[ak]at hp
     rw[show(((xs.length:Nat):Int)-((i:Int)+1)).toNat=xs.length-(i+1)from %[|0]]at hp
     exact hp
 . rintro Γ' S' ⟨o3,o4,o5,its,J,rfl,rfl,hp⟩
   rw[ak,Int.toNat_natCast]at hp
   exact hw its J hp
theorem iw{a b:Str}{W:Bool->%[|5]}(w:W (a==b) S):aP .Eq (.str a) (.str b) S W:=by unfold aP;exact⟨⟨rfl,rfl,by simp[vw,deep]⟩,w⟩
def jh(x:D)(w:Str):Bool:=match x with
 | .str y=>y==w
 | _=>false
def uh:D->Bool
 | .int n=>decide (1≤n)&&decide (n≤99)
 | _=>false
def fB(d:Int)(x:D):Bool:=match x with
 | .tup [a,f]=>jh a "form"&&aY f d
 | .tup [a,f,z]=>jh a "block"&&(aY f d&&uh z)
 | _=>false
def fQ(d:Int)(x:D):Bool:=aM x 1 9&&(parts x).all (fB d)
def uK(d t:Int)(x:D):Bool:=aM x t t&&(parts x).all (fQ d)
def Jp:Ct:=λ ds S W=>∃x w,ds=[x,.str w]/\W (.bl (jh x w)) S
def K6:Ct:=λ ds S W=>∃x,ds=[x]/\W (.bl (uh x)) S
def K1:Ct:=λ ds S W=>∃x d,ds=[x,.int d]/\d≤1000/\W (.bl (fB d x)) S
def Gg:Ct:=λ ds S W=>∃x d,ds=[x,.int d]/\d≤1000/\W (.bl (fQ d x)) S
def Tu:Ct:=λ ds S W=>∃x ls es,ds=[x,.tup [.tup ls,.tup es]]/\ls.length≤1000/\es.length≤1000/\W (.bl (uK (ls.length:Int) (es.length:Int) x)) S
theorem zq(F:Fun Ω.K "is_word" "is_word" jN f fd)(N0:Ω.cd=none)(B:Bi Ω.mg):Ok Ω 1 f fd Do Jp:=by
 refine aA N0 (N:=DX) F (Dv B) %[|9] ?_
 rintro ds S W ⟨x,w,rfl,hw⟩ hl
 walk_at "b"
 cases x with
 | str y=>
   refine⟨λ _=>?_,λ c=>tf c⟩
   walk_at "n"
   exact iw hw
 | _=>exact⟨λ c=>ff c,λ _=>hw⟩
theorem yW(F:Fun Ω.K "is_size" "is_size" jo f fd)(N0:Ω.cd=none)(B:Bi Ω.mg)(Cq44:Cal Ω "is_whole" 1 1 gQ):Ok Ω 2 f fd Eg K6:=by
 refine aA N0 (N:=Cr) F (Dp B Cq44) %[|9] ?_
 rintro ds S W ⟨x,rfl,hw⟩ hl
 walk_at "b"
 refine⟨rfl,x,rfl,?_⟩
 cases x with
 | int n=>
   refine⟨λ _=>?_,λ c=>tf c⟩
   walk_at "b"
   have e:uh (.int n)=(decide (1≤n)&&decide (n≤99)):=rfl
   rw[e]at hw
   refine⟨λ h=>by rw[h]at hw;exact hw,λ h=>?_⟩
   rw[h]at hw
   walk_at "b"
   exact hw
 | _=>exact⟨λ c=>ff c,λ _=>hw⟩
theorem yQ(F:Fun Ω.K "is_line" "is_line" jH f fd)(N0:Ω.cd=none)(Cq43:Cal Ω "is_tuple_of" 1 3 cJ)(Cq28:Cal Ω "is_form" 2 2 nU)(Cq46:Cal Ω "is_word" 1 2 Jp)(Cq40:Cal Ω "is_size" 2 1 K6):Ok Ω 3 f fd Dh K1:=by
 refine aA N0 (N:=Cz) F (Dt Cq43 Cq28 Cq46 Cq40) %[|9] ?_
 rintro ds S W ⟨x,d,rfl,hd,hw⟩ hl
 walk_at "b"
 refine⟨rfl,_,_,_,rfl,?_⟩
 cases h2:aM x 2 2 with
 | true=>
   obtain⟨ds,rfl,l1,l2⟩:=aR h2
   match ds,l1,l2,hw with
   | [a,f],_,_,hw=>
     have e:fB d (.tup [a,f])=(jh a "form"&&aY f d):=rfl
     rw[e]at hw
     walk_at "b"
     refine⟨rfl,_,_,rfl,?_⟩
     refine⟨λ h=>?_,λ h=>by rw[h]at hw;exact hw⟩
     rw[h]at hw
     walk_at "b"
     exact⟨rfl,_,_,rfl,hd,hw⟩
   | [],l1,_,_=>simp at l1
   | [_],l1,_,_=>simp at l1
   | _::_::_::es,_,l2,_=>simp at l2;omega
 | false=>
   walk_at "b"
   refine⟨rfl,_,_,_,rfl,?_⟩
   cases h3:aM x 3 3 with
   | true=>
     obtain⟨ds,rfl,l1,l2⟩:=aR h3
     match ds,l1,l2,hw with
     | [a,f,z],_,_,hw=>
       have e:fB d (.tup [a,f,z])=(jh a "block"&&(aY f d&&uh z)):=rfl
       rw[e]at hw
       walk_at "b"
       refine⟨rfl,_,_,rfl,?_⟩
       refine⟨λ h=>?_,λ h=>by rw[h]at hw;exact hw⟩
       rw[h]at hw
       walk_at "b"
       refine⟨rfl,_,_,rfl,hd,?_⟩
       refine⟨λ h=>?_,λ h=>by rw[h]at hw;exact hw⟩
       rw[h]at hw
       walk_at "b"
       exact⟨rfl,_,rfl,hw⟩
     | [],l1,_,_=>simp at l1
     | [_],l1,_,_=>simp at l1
     | [_,_],l1,_,_=>simp at l1
     | _::_::_::_::es,_,l2,_=>simp at l2;omega
   | false=>
     have e:fB d x=false:=by
      cases x with
      | tup ds=>
        match ds,h2,h3 with
        | [],_,_=>rfl
        | [_],_,_=>rfl
        | [_,_],h2,_=>exact tf h2
        | [_,_,_],_,h3=>exact tf h3
        | _::_::_::_::_,_,_=>rfl
      | _=>rfl
     rw[e]at hw
     walk_at "b"
     exact hw
theorem wN(F:Fun Ω.K "is_lines" "is_lines" iW f fd)(N0:Ω.cd=none)(B:Bi Ω.mg)(Cq43:Cal Ω "is_tuple_of" 1 3 cJ)(Cq29:Cal Ω "is_line" 3 2 K1):Ok Ω 4 f fd BL Gg:=by
 refine aA N0 (N:=Bq) F (Am B Cq43 Cq29) %[|9] ?_
 rintro ds S W ⟨x,d,rfl,hd,hw⟩ hl
 walk_at "b"
 refine⟨rfl,_,_,_,rfl,?_⟩
 unfold fQ at hw
 refine⟨λ h=>?_,λ h=>by rw[h]at hw;exact hw⟩
 rw[h]at hw
 obtain⟨ds,rfl,l1,l2⟩:=aR h
 walk_at "b"
 refine cL (λ x=>.bl (fB d x)) %[|0] ?_ (b7 hw)
 intro i e he Q hq
 walk_at "b"
 exact⟨rfl,_,_,rfl,hd,hq⟩
theorem pY(F:Fun Ω.K "is_nest_plan" "is_nest_plan" eE f fd)(N0:Ω.cd=none)(B:Bi Ω.mg)(Cq43:Cal Ω "is_tuple_of" 1 3 cJ)(Cq30:Cal Ω "is_lines" 4 2 Gg):Ok Ω 5 f fd rA Tu:=by
 refine aA N0 (N:=rD) F (rn B Cq43 Cq30) %[|9] ?_
 rintro ds S W ⟨x,ls,es,rfl,hl1,hl2,hw⟩ hl
 walk_at "b"
 refine⟨rfl,_,_,_,rfl,?_⟩
 unfold uK at hw
 refine⟨λ h=>?_,λ h=>by rw[h]at hw;exact hw⟩
 rw[h]at hw
 obtain⟨ds,rfl,l1,l2⟩:=aR h
 walk_at "b"
 refine cL (λ x=>.bl (fQ (ls.length:Int) x)) %[|0] ?_ (b7 hw)
 intro i e he Q hq
 walk_at "b"
 exact⟨rfl,_,_,rfl,%[|0],hq⟩
inductive Ln where
 | fm(f:%[|3]) | bk(f:%[|3])(z:Int)
def dN(f:%[|3]):D:=.tup (f.map .int)
def dLn:Ln->D
 | .fm f=>.tup [.str "form",dN f]
 | .bk f z=>.tup [.str "block",dN f,.int z]
def dLs(ls:List Ln):D:=.tup (ls.map dLn)
def dDs(ds:List (List Ln)):D:=.tup (ds.map dLs)
abbrev Pn:=List (List (List Ln))
def dPn(p:Pn):D:=.tup (p.map dDs)
abbrev Nd:=List D×List D
def dNd(n:Nd):D:=.tup [.tup n.1,.tup n.2]
def dPr(w:D)(nss:List Nd):D:=.tup [w,.tup (nss.map dNd)]
def gF(d:Nat):Ln->Prop
 | .fm f=>f.length=d+1
 | .bk f z=>f.length=d+1/\1≤z/\z≤99
def LsOk(d m:Nat)(ls:List Ln):Prop:=ls.length=m/\∀l∈ls,gF d l
def Nds(nss:List Nd):Prop:=1≤nss.length/\nss.length≤3/\∀n∈nss,n.1.length≤3/\1≤n.2.length/\n.2.length≤4
def UW(n:Nd)(m:Nat)(ds:List (List Ln)):Prop:=ds.length=n.2.length/\∀ls∈ds,LsOk n.1.length m ls
def cZ(nss:List Nd)(m:Nat)(p:Pn):Prop:=p.length=nss.length/\(1≤m/\m≤9)/\∀(i:Nat)(n:Nd)(ds:List (List Ln)),nss[i]? =some n->p[i]? =some ds->UW n m ds
theorem allB{α:Type}{f:α->D}{q:D->Bool}{l:List α}(h:∀a∈l,q (f a)=true):(l.map f).all q=true:=by
 rw[List.all_eq_true]
 intro x hx
 obtain⟨a,ha,rfl⟩:=ZO.mp hx
 exact h a ha
theorem LR{α:Type}{f:α->D}{l:List α}{b:Int}(h1:a≤(l.length:Int))(h2:(l.length:Int)≤b):aM (.tup (l.map f)) a b=true:=by
 show(decide _&&decide _)=true
 rw[y8,ZG h1,ZG h2];rfl
theorem P0{f:%[|3]}(h:f.length=d+1):aY (dN f) (d:Int)=true:=by
 show(decide _&&(f.map D.int).all whole)=true
 rw[ZG (by rw[y8];omega),allB λ _ _=>rfl];rfl
theorem Wv{l:Ln}(h:gF d l):fB (d:Int) (dLn l)=true:=by
 cases l with
 | fm f=>show(true&&aY (dN f) d)=true;rw[P0 h];rfl
 | bk f z=>
   show(true&&(aY (dN f) d&&(decide _&&decide _)))=true
   rw[P0 h.1,ZG h.2.1,ZG h.2.2];rfl
theorem U4{ls:List Ln}(h:LsOk d m ls)(h1:1≤m)(h9:m≤9):fQ (d:Int) (dLs ls)=true:=by
 show(aM (.tup (ls.map dLn)) 1 9&&(ls.map dLn).all (fB d))=true
 rw[LR (by have:=h.1;omega) (by have:=h.1;omega),allB λ l hl=>Wv (h.2 l hl)];rfl
theorem npB{n:Nd}{ds:List (List Ln)}(h:UW n m ds)(h1:1≤m)(h9:m≤9):uK (n.1.length:Int) (n.2.length:Int) (dDs ds)=true:=by
 show(aM (.tup (ds.map dLs)) n.2.length n.2.length&&(ds.map dLs).all (fQ n.1.length))=true
 rw[LR (by have:=h.1;omega) (by have:=h.1;omega),allB λ l hl=>U4 (h.2 l hl) h1 h9];rfl
def aU(gp:List (List (List D))):%[|3]:=gp.flatMap λ ds=>ds.map λ ls=>(ls.length:Int)
def gD(gp:List (List (List D))):D:=.tup (gp.map λ ds=>.tup (ds.map .tup))
theorem jg(ns:%[|3]):aa (ns.map D.int)=true:=by
 induction ns with
 | nil=>rfl
 | cons y ys ih=>simp only[List.map_cons,aa,ih,Bool.and_true];rfl
def Jo:Ct:=λ ds S W=>∃gp,ds=[gD gp]/\gp.length≤1000/\(∀ds∈gp,ds.length≤1000)/\flat S/\hand W ((aU gp).map .int) S
theorem j4(F:Fun Ω.K "numbers_of_lines" "numbers_of_lines" cI f fd)(N0:Ω.cd=none)(B:Bi Ω.mg):Ok Ω 1 f fd lu Jo:=by
 refine aA N0 (N:=lA) F (Bl.frz (km B)) %[|9] ?_
 rintro ds S W ⟨gp,rfl,h1,h2,hS,hw⟩ hl
 have hlen:∀i,i≤gp.length->(aU (gp.take i)).length≤i*1000:=by
  intro i
  induction i with
  | zero=>intro _;simp[aU]
  | succ i ih=>
    intro hi
    have eg:=y4 (l:=gp) (i:=i) %[|0]
    have:=h2 _ (List.getElem_mem (l:=gp) (n:=i) %[|0])
    have e:aU (gp.take (i+1))=aU (gp.take i)++gp[i].map λ ls=>(ls.length:Int):=by unfold aU;rw[aV eg,List.flatMap_append];simp
    rw[e,List.length_append,y8]
    have:=ih %[|0]
    omega
 walk_at "b"
 refine aN ⟨λ i Γ' T=>(∃o2,Γ'=[some (gD gp),%[|18],o2])/\T=S++[(aU (gp.take i)).map .int],⟨⟨_,rfl⟩,rfl⟩,?_,?_⟩
 . rintro i e Γ' T he ⟨⟨o2,rfl⟩,rfl⟩
   obtain⟨ds,hd,rfl⟩:=bK he
   have hi:=(y3.mp hd).1
   have l1:=hlen i %[|0]
   have l2:=h2 ds (y6 hd)
   walk_at "b"
   refine dM (λ ls=>.int (ls.length:Int)) %[|0] ?_ ?_
   . intro j ls hj Q hq
     walk_at "b"
     exact hq
   refine⟨_,_,bw _ _,rfl,by rw[y8,y8];omega,?_⟩
   refine⟨⟨_,rfl⟩,?_⟩
   rw[bO]
   have e:aU (gp.take (i+1))=aU (gp.take i)++ds.map λ ls=>(ls.length:Int):=by unfold aU;rw[aV hd,List.flatMap_append];simp
   rw[e,List.map_append,List.map_map];rfl
 . rintro Γ' T ⟨⟨o2,rfl⟩,rfl⟩
   rw[y8,List.take_length]
   exact qL hw (jg _) hS
theorem Wn(p:Pn):dPn p=gD (p.map λ ds=>ds.map λ ls=>ls.map dLn):=by
 show D.tup (p.map dDs)=D.tup ((p.map λ ds=>ds.map λ ls=>ls.map dLn).map λ ds=>D.tup (ds.map D.tup))
 rw[List.map_map]
 congr 1
 apply List.map_congr_left
 intro ds _
 show D.tup (ds.map dLs)=D.tup ((ds.map λ ls=>ls.map dLn).map D.tup)
 rw[List.map_map];rfl
theorem zB{c:Int}:∀{ns:%[|3]},(∀n∈ns,n=c)->ns=List.replicate ns.length c
 | [],_=>rfl
 | n::ns,h=>by rw[List.length_cons,List.replicate_succ,←zB λ m hm=>h m (x8 _ hm),h n v3]
theorem cZ.nums{nss:List Nd}{p:Pn}(hn:Nds nss)(h:cZ nss m p):unl (aU (p.map λ ds=>ds.map λ ls=>ls.map dLn))=1/\(aU (p.map λ ds=>ds.map λ ls=>ls.map dLn)).length≤12/\p.length≤3/\∀ds∈p,1≤ds.length/\ds.length≤4/\∀ls∈ds,ls.length=m:=by
 obtain⟨h1,h2,h3⟩:=h
 obtain⟨n1,n2,n3⟩:=hn
 have hd:∀ds∈p,1≤ds.length/\ds.length≤4/\∀ls∈ds,ls.length=m:=λ ds hds=>by
  obtain⟨i,hi⟩:=ZR hds
  have hl:=(y3.mp hi).1
  have eg:=y4 (l:=nss) (i:=i) %[|0]
  obtain⟨a,b⟩:=h3 i _ ds eg hi
  have:=n3 _ (List.getElem_mem (l:=nss) (n:=i) %[|0])
  exact⟨%[|0],%[|0],λ ls hls=>(b ls hls).1⟩
 have key:∀q:Pn,(∀ds∈q,1≤ds.length/\ds.length≤4/\∀ls∈ds,ls.length=m)->(∀x∈aU (q.map λ ds=>ds.map λ ls=>ls.map dLn),x=(m:Int))/\q.length≤(aU (q.map λ ds=>ds.map λ ls=>ls.map dLn)).length/\(aU (q.map λ ds=>ds.map λ ls=>ls.map dLn)).length≤4*q.length:=by
  intro q
  induction q with
  | nil=>intro _;exact⟨λ x hx=>(by cases hx),x6 _,x6 _⟩
  | cons ds q ih=>
    intro hq
    obtain⟨a,b,c⟩:=hq ds v3
    obtain⟨i1,i2,i3⟩:=ih λ x hx=>hq x (x8 _ hx)
    have e:aU ((ds::q).map λ ds=>ds.map λ ls=>ls.map dLn)=(ds.map λ ls=>((ls.map dLn).length:Int))++aU (q.map λ ds=>ds.map λ ls=>ls.map dLn):=by
     unfold aU
     rw[List.map_cons,List.flatMap_cons,List.map_map];rfl
    rw[e,List.length_append,y8,List.length_cons]
    refine⟨λ x hx=>?_,%[|0],%[|0]⟩
    rcases ZK.mp hx with hx | hx
    . obtain⟨ls,hls,rfl⟩:=ZO.mp hx
      rw[y8,c ls hls]
    . exact i1 x hx
 obtain⟨k1,k2,k3⟩:=key p hd
 refine⟨?_,%[|0],%[|0],hd⟩
 have e:=zB k1
 obtain⟨j,hj⟩:∃j,(aU (p.map λ ds=>ds.map λ ls=>ls.map dLn)).length=j+1:=⟨(aU (p.map λ ds=>ds.map λ ls=>ls.map dLn)).length-1,%[|0]⟩
 rw[hj]at e
 rw[e]
 exact Px j
def npZ(d:D):Bool:=match d with
 | .tup [y,.tup [.tup ls,.tup es]]=>uK (ls.length:Int) (es.length:Int) y
 | _=>false
def gOf(x:D):List (List (List D)):=(parts x).map λ y=>(parts y).map parts
def yK(nss:List Nd)(x:D):List D:=List.zipWith (λ x y=>D.tup [x,y]) (parts x) (nss.map dNd)
def aW(nss:List Nd)(x:D):Bool:=aM x (nss.length:Int) (nss.length:Int)&&((yK nss x).all npZ&&decide ((unl (aU (gOf x)):Int)=1))
theorem encM{α:Type}{f:α->D}{P:α->Prop}:∀{ys:List D},(∀y∈ys,∃a,y=f a/\P a)->∃as:List α,ys=as.map f/\∀a∈as,P a
 | [],_=>⟨[],rfl,λ a h=>nomatch h⟩
 | y::ys,h=>by
   obtain⟨a,rfl,pa⟩:=h y v3
   obtain⟨as,rfl,ps⟩:=encM λ z hz=>h z (x8 _ hz)
   refine⟨a::as,rfl,λ b hb=>?_⟩
   rcases ZJ.mp hb with rfl | hb
   . exact pa
   . exact ps b hb
theorem Fd(h:aY x (d:Int)=true):∃f,x=dN f/\f.length=d+1:=by
 cases x with
 | tup ds=>
   obtain⟨h1,h2⟩:=az h
   have h1:=ZF h1
   obtain⟨f,rfl,_⟩:=encM (f:=D.int) (P:=λ _=>True) (ys:=ds) λ y hy=>by
    have:=List.all_eq_true.mp h2 y hy
    cases y with
    | int n=>exact⟨n,rfl,trivial⟩
    | _=>exact ff this
   exact⟨f,rfl,by rw[y8]at h1;omega⟩
 | _=>exact ff h
theorem En{w:Str}(h:jh x w=true):x=.str w:=by
 cases x with
 | str y=>exact congrArg D.str (ZI h)
 | _=>exact ff h
theorem QF(h:fB (d:Int) x=true):∃l,x=dLn l/\gF d l:=by
 cases x with
 | tup ds=>
   match ds,h with
   | [a,f],h=>
     obtain⟨h1,h2⟩:=az (show(jh a "form"&&aY f d)=true from h)
     obtain⟨f,rfl,hf⟩:=Fd h2
     rw[En h1]
     exact⟨.fm f,rfl,hf⟩
   | [a,f,z],h=>
     obtain⟨h1,h2⟩:=az (show(jh a "block"&&(aY f d&&uh z))=true from h)
     obtain⟨h2,h3⟩:=az h2
     obtain⟨f,rfl,hf⟩:=Fd h2
     rw[En h1]
     cases z with
     | int z=>
       obtain⟨h4,h5⟩:=az h3
       exact⟨.bk f z,rfl,hf,ZF h4,ZF h5⟩
     | _=>exact ff h3
   | [],h=>exact ff h
   | [_],h=>exact ff h
   | _::_::_::_::_,h=>exact ff h
 | _=>exact ff h
theorem Nj(h:fQ (d:Int) x=true):∃ls,x=dLs ls/\(1≤ls.length/\ls.length≤9)/\∀l∈ls,gF d l:=by
 obtain⟨h1,h2⟩:=az h
 obtain⟨ds,rfl,l1,l2⟩:=aR h1
 obtain⟨ls,rfl,hl⟩:=encM (ys:=ds) λ y hy=>QF (List.all_eq_true.mp h2 y hy)
 rw[y8]at l1 l2
 exact⟨ls,rfl,⟨%[|0],%[|0]⟩,hl⟩
theorem W7{t:Nat}(h:uK (d:Int) (t:Int) x=true):∃es,x=dDs es/\es.length=t/\∀ls∈es,(1≤ls.length/\ls.length≤9)/\∀l∈ls,gF d l:=by
 obtain⟨h1,h2⟩:=az h
 obtain⟨ds,rfl,l1,l2⟩:=aR h1
 obtain⟨ls,rfl,hl⟩:=encM (ys:=ds) λ y hy=>Nj (List.all_eq_true.mp h2 y hy)
 rw[y8]at l1 l2
 exact⟨ls,rfl,%[|0],hl⟩
theorem BK:∀{nss:List Nd}{xs:List D},xs.length=nss.length->(List.zipWith (λ x y=>D.tup [x,y]) xs (nss.map dNd)).all npZ=true->
 ∃p:Pn,xs=p.map dDs/\∀(i:Nat)(n:Nd)(es:List (List Ln)),nss[i]? =some n->p[i]? =some es->es.length=n.2.length/\∀ls∈es,(1≤ls.length/\ls.length≤9)/\∀l∈ls,gF n.1.length l
 | [],[],_,_=>⟨[],rfl,λ i n es h _=>by simp at h⟩
 | [],_::_,hl,_=>by simp at hl
 | _::_,[],hl,_=>by simp at hl
 | n::nss,x::xs,hl,h=>by
   obtain⟨h1,h2⟩:=az (show(uK (n.1.length:Int) (n.2.length:Int) x&&(List.zipWith (λ x y=>D.tup [x,y]) xs (nss.map dNd)).all npZ)=true from h)
   obtain⟨es,rfl,e1,e2⟩:=W7 h1
   obtain⟨p,rfl,hp⟩:=BK (by simpa using hl) h2
   refine⟨es::p,rfl,λ i m fs hm hf=>?_⟩
   cases i with
   | zero=>simp at hm hf;subst hm hf;exact⟨e1,e2⟩
   | succ i=>simp at hm hf;exact hp i m fs hm hf
theorem R4{ns:%[|3]}(h:unl ns=1):∃c,∀n∈ns,n=c:=by
 unfold unl at h
 obtain⟨c,hc⟩:=List.length_eq_one_iff.mp h
 refine⟨c,λ n hn=>?_⟩
 obtain⟨i,hi⟩:=ZR hn
 have hl:=(y3.mp hi).1
 have e:=PyProof.Rows.firstMet_any (λ i=>ns.getD i 0) ns.length n
 rw[hc]at e
 have:((List.range ns.length).map λ i=>ns.getD i 0).any (· ==n)=true:=by
  rw[List.any_eq_true]
  exact⟨n,ZO.mpr ⟨i,List.mem_range.mpr hl,by simp[List.getD,hi]⟩,by simp⟩
 rw[this]at e
 exact(by simpa using e.symm:c=n).symm
theorem vA(p:Pn):gOf (dPn p)=p.map λ ds=>ds.map λ ls=>ls.map dLn:=by
 show(p.map dDs).map _=_
 rw[List.map_map]
 apply List.map_congr_left
 intro ds _
 show(ds.map dLs).map parts=_
 rw[List.map_map]
 apply List.map_congr_left
 intro ls _
 rfl
theorem FQ{nss:List Nd}(hn:Nds nss)(h:aW nss x=true):∃m p,x=dPn p/\cZ nss m p:=by
 obtain⟨h1,h2,h3⟩:=bV h
 obtain⟨xs,rfl,l1,l2⟩:=aR h1
 have hl:xs.length=nss.length:=%[|0]
 obtain⟨p,rfl,hp⟩:=BK hl h2
 have h3:=ZF h3
 have eg:=vA p
 rw[show D.tup (p.map dDs)=dPn p from rfl,eg]at h3
 obtain⟨c,hc⟩:=R4 (ns:=aU (p.map λ ds=>ds.map λ ls=>ls.map dLn)) %[|0]
 rw[y8]at hl
 have hlen:∀ds∈p,∀ls∈ds,(ls.length:Int)=c:=λ ds hds ls hls=>by
  refine hc _ ?_
  unfold aU
  rw[List.mem_flatMap]
  exact⟨_,ZO.mpr ⟨ds,hds,rfl⟩,ZO.mpr ⟨ls.map dLn,ZO.mpr ⟨ls,hls,rfl⟩,by rw[y8]⟩⟩
 have n1:=hn.1
 have g0:=y4 (l:=nss) (i:=0) %[|0]
 have p0:=y4 (l:=p) (i:=0) %[|0]
 obtain⟨q1,q2⟩:=hp 0 _ _ g0 p0
 have d1:=(hn.2.2 _ (List.getElem_mem (l:=nss) (n:=0) %[|0])).2.1
 have hm:=List.getElem_mem (l:=p[0]'%[|0]) (n:=0) %[|0]
 have b:=(q2 _ hm).1
 have cm:=hlen _ (List.getElem_mem (l:=p) (n:=0) %[|0]) _ hm
 refine⟨c.toNat,p,rfl,hl,⟨%[|0],%[|0]⟩,λ i n es hi he=>?_⟩
 obtain⟨r1,r2⟩:=hp i n es hi he
 refine⟨r1,λ ls hls=>⟨?_,(r2 ls hls).2⟩⟩
 have:=hlen es (y6 he) ls hls
 omega
theorem uL{nss:List Nd}{p:Pn}(hn:Nds nss)(hp:cZ nss m p):aW nss (dPn p)=true:=by
 obtain⟨h1,_,_,_⟩:=hp.nums hn
 have e1:aM (dPn p) (nss.length:Int) (nss.length:Int)=true:=LR (by have:=hp.1;omega) (by have:=hp.1;omega)
 have e2:(yK nss (dPn p)).all npZ=true:=by
  rw[List.all_eq_true]
  intro d hd
  obtain⟨i,hi⟩:=ZR hd
  unfold yK at hi
  rw[List.getElem?_zipWith,x5,show(parts (dPn p))=p.map dDs from rfl,x5]at hi
  cases g1:p[i]? with
  | none=>rw[g1]at hi;cases hi
  | some ds=>
    cases g2:nss[i]? with
    | none=>rw[g1,g2]at hi;cases hi
    | some n=>
      rw[g1,g2]at hi
      cases hi
      exact npB (hp.2.2 i n ds g2 g1) hp.2.1.1 hp.2.1.2
 unfold aW
 rw[e1,e2,vA,h1];rfl
def wI:Ct:=λ ds S W=>∃w nss x,ds=[dPr w nss,x]/\Nds nss/\flat S/\W (.bl (aW nss x)) S
theorem zQ(F:Fun Ω.K "is_plan" "is_plan" jC f fd)(N0:Ω.cd=none)(B:Bi Ω.mg)(Cq43:Cal Ω "is_tuple_of" 1 3 cJ)(Cq34:Cal Ω "is_nest_plan" 5 2 Tu)(Cq52:Cal Ω "numbers_of_lines" 1 1 Jo):Ok Ω 6 f fd Ec wI:=by
 refine aA N0 (N:=Dz) F (CV B Cq43 Cq34 Cq52) %[|9] ?_
 rintro ds S W ⟨w,nss,x,rfl,hn,hS,hw⟩ hl
 have n3:=hn.2.1
 walk_at "b"
 refine⟨rfl,_,_,_,rfl,?_⟩
 rw[y8]
 cases h1:aM x (nss.length:Int) (nss.length:Int)with
 | false=>
   have e:aW nss x=false:=by unfold aW;rw[h1];rfl
   rw[e]at hw
   walk_at "b"
   exact hw
 | true =>
   obtain⟨xs,rfl,l1,l2⟩:=aR h1
   walk_at "b"
   refine cL (λ d=>.bl (npZ d)) (by rw[List.length_zipWith,y8];omega) ?_ ?_
   . intro i d hd Q hq
     rw[List.getElem?_zipWith,x5]at hd
     cases g1:xs[i]? with
     | none=>rw[g1]at hd;cases hd
     | some y=>
       cases g2:nss[i]? with
       | none=>rw[g1,g2]at hd;cases hd
       | some n=>
         rw[g1,g2]at hd
         cases hd
         have hnn:=hn.2.2 n (y6 g2)
         walk_at "b"
         refine⟨rfl,?_⟩
         walk_at "b"
         exact⟨rfl,_,n.1,n.2,rfl,%[|0],%[|0],hq⟩
   refine⟨(List.zipWith (λ x y=>D.tup [x,y]) xs (nss.map dNd)).map npZ,by rw[List.map_map];rfl,?_⟩
   rw[show((List.zipWith (λ x y=>D.tup [x,y]) xs (nss.map dNd)).map npZ).all id=(List.zipWith (λ x y=>D.tup [x,y]) xs (nss.map dNd)).all npZ from by rw[List.all_map];rfl]
   cases h2:(List.zipWith (λ x y=>D.tup [x,y]) xs (nss.map dNd)).all npZ with
   | false=>
     have e:aW nss (.tup xs)=false:=by
      unfold aW
      rw[show yK nss (.tup xs)=List.zipWith (λ x y=>D.tup [x,y]) xs (nss.map dNd)from rfl,h2,Bool.false_and,Bool.and_false]
     rw[e]at hw
     walk_at "b"
     exact hw
   | true=>
     obtain⟨p,rfl,hp⟩:=BK %[|0] h2
     have e:aW nss (.tup (p.map dDs))=decide ((unl (aU (p.map λ ds=>ds.map λ ls=>ls.map dLn)):Int)=1):=by
      unfold aW
      rw[show yK nss (.tup (p.map dDs))=List.zipWith (λ x y=>D.tup [x,y]) (p.map dDs) (nss.map dNd)from rfl,h2,h1,show D.tup (p.map dDs)=dPn p from rfl,vA];rfl
     rw[e]at hw
     rw[y8]at l1 l2
     have hz:∀ds∈p,ds.length≤4:=λ ds hd=>by
      obtain⟨i,hi⟩:=ZR hd
      have hil:=(y3.mp hi).1
      have gi:=y4 (l:=nss) (i:=i) %[|0]
      have:=(hp i _ _ gi hi).1
      have:=(hn.2.2 _ (List.getElem_mem (l:=nss) (n:=i) %[|0])).2.2
      omega
     have hnl:(aU (p.map λ ds=>ds.map λ ls=>ls.map dLn)).length≤4*p.length:=by
      clear hw e h2 h1 l1 l2 hp hl
      induction p with
      | nil=>exact x6 _
      | cons ds q ih=>
        have:=ih λ x hx=>hz x (x8 _ hx)
        have:=hz ds v3
        have e:aU ((ds::q).map λ ds=>ds.map λ ls=>ls.map dLn)=(ds.map λ ls=>((ls.map dLn).length:Int))++aU (q.map λ ds=>ds.map λ ls=>ls.map dLn):=by
         unfold aU
         rw[List.map_cons,List.flatMap_cons,List.map_map];rfl
        rw[e,List.length_append,y8,List.length_cons]
        omega
     walk_at "b"
     refine⟨rfl,_,by rw[←Wn];rfl,by rw[y8];omega,λ ds hd=>?_,hS,.inl ?_⟩
     . obtain⟨es,he,rfl⟩:=ZO.mp hd
       rw[y8]
       have:=hz es he
       omega
     . refine⟨_,rfl,by unfold scanBound;omega,?_⟩
       walk_at "b"
       exact hw
theorem kI{α:Type}{f:α->D}(h:∀a,au (f a)=true):∀l:List α,aa (l.map f)=true
 | []=>rfl
 | a::l=>by simp only[List.map_cons,aa,h,kI h l,Bool.and_true]
theorem v5(l:Ln):au (dLn l)=true:=by
 cases l with
 | fm f=>
   have e:au (dN f)=true:=jg f
   show aa [D.str "form",dN f]=true
   simp only[aa,e,Bool.and_true];rfl
 | bk f z=>
   have e:au (dN f)=true:=jg f
   show aa [D.str "block",dN f,D.int z]=true
   simp only[aa,e,Bool.and_true];rfl
theorem nQ(ls:List Ln):au (dLs ls)=true:=kI v5 ls
theorem wA(ds:List (List Ln)):au (dDs ds)=true:=kI nQ ds
theorem Ja(p:Pn):au (dPn p)=true:=kI wA p
structure Pl(nss:List Nd)(m:Nat)(p:Pn)(S:Store):Prop where
 n:Nds nss
 p:cZ nss m p
 f:flat S
theorem Pl.first{nss:List Nd}{p:Pn}(h:Pl nss m p S):∃es ls,p[0]? =some es/\es[0]? =some ls/\ls.length=m:=by
 obtain⟨_,_,h3,h4⟩:=h.p.nums h.n
 have hp:=h.p.1
 have hn:=h.n.1
 have hl:0<p.length:=%[|0]
 have g1:=y4 hl
 obtain⟨a,_,c⟩:=h4 _ (List.getElem_mem hl)
 have hl2:0<(p[0]).length:=%[|0]
 exact⟨_,_,g1,y4 hl2,c _ (List.getElem_mem hl2)⟩
theorem aX{α:Type}{f:α->D}{xs:List α}{x:α}(h:xs[i]? =some x):atI (xs.map f) (i:Int)=some (f x):=dm (by rw[x5,h];rfl)
def Qo:Ct:=λ ds S W=>∃nss m p,ds=[dPn p]/\Pl nss m p S/\W (.int m) S
theorem kJ(F:Fun Ω.K "number_of_lines" "number_of_lines" cM f fd)(N0:Ω.cd=none)(B:Bi Ω.mg):Ok Ω 1 f fd mU Qo:=by
 refine aA N0 (N:=mC) F (mz B) %[|9] ?_
 rintro ds S W ⟨nss,m,p,rfl,h,hw⟩ hl
 obtain⟨es,ls,g1,g2,g3⟩:=h.first
 walk_at "b"
 refine⟨_,aX (i:=0) g1,?_⟩
 walk_at "b"
 refine⟨_,aX (i:=0) g2,?_⟩
 walk_at "b"
 rw[y8,g3]
 exact hw
def Jm:XCt:=λ ds S W WE=>∃w nss x,ds=[dPr w nss,x]/\Nds nss/\flat S/\(aW nss x=false->WE "NoPlan" S)/\(∀m p,x=dPn p->cZ nss m p->W .non S)
theorem mZ(F:Fun Ω.K "refuse_no_plan" "refuse_no_plan" cT f fd)(N0:Ω.cd=none)(E:ExF Ω.mg Ω.K XL XT)(Cq37:Cal Ω "is_plan" 6 2 wI):OkX Ω 7 f fd m7 Jm:=by
 refine yx N0 (N:=nJ) F (oJ E Cq37) %[|9] ?_
 rintro ds S W WE ⟨w,nss,x,rfl,hn,hS,h1,h2⟩ hl
 walk_at "b"
 refine⟨rfl,w,nss,x,rfl,hn,hS,?_⟩
 cases h:aW nss x with
 | false=>
   walk_at "b"
   exact h1 h
 | true=>
   obtain⟨m,p,e,hok⟩:=FQ hn h
   walk_at "b"
   exact h2 m p e hok
def atF:%[|3]->%[|3]->Int
 | [],_=>0
 | x::fs,cs=>comesTo x fs cs
def qX(cs:%[|3]):Ln->Int
 | .fm f=>atF f cs
 | .bk f z=>atF f cs/z
def lK(cs:%[|3])(ls:List Ln):%[|3]:=ls.map (qX cs)
def fU(p:Pn)(s:Stp):%[|3]:=lK s.2.1 ((p.getD s.1 []).getD s.2.2 [])
def nd(n:Ns):Nd:=(n.lps.map dL,n.dds.map dDd)
theorem Uq(p:Pg):dPg p=dPr (dWs p.ws) (p.nss.map nd):=by
 show D.tup [dWs p.ws,.tup (p.nss.map dNs)]=D.tup [dWs p.ws,.tup ((p.nss.map nd).map dNd)]
 rw[List.map_map];rfl
def PP:Ct:=λ ds S W=>∃(l:Ln) (cs:%[|3]) (d:Nat),ds=[dLn l,dC cs]/\gF d l/\d≤10/\C64 cs/\W (.int (qX cs l)) S
theorem oN(F:Fun Ω.K "line_comes_to" "line_comes_to" dH f fd)(N0:Ω.cd=none)(Cq22:Cal Ω "comes_to" 1 2 fM):Ok Ω 2 f fd qb PP:=by
 refine aA N0 (N:=pQ) F (qd Cq22) %[|9] ?_
 rintro ds S W ⟨l,cs,d,rfl,hl',hd,hc,hw⟩ hl
 cases l with
 | fm f=>
   have hf:f.length=d+1:=hl'
   cases f with
   | nil=>simp at hf
   | cons x f=>
     rw[List.length_cons]at hf
     walk_at "b"
     refine⟨rfl,x,f,cs,rfl,%[|0],hc,?_⟩
     walk_at "b"
     refine iw ?_
     walk_at "b"
     exact hw
 | bk f z=>
   obtain⟨hf,z1,z2⟩:=hl'
   cases f with
   | nil=>simp at hf
   | cons x f=>
     rw[List.length_cons]at hf
     walk_at "b"
     refine⟨rfl,x,f,cs,rfl,%[|0],hc,?_⟩
     walk_at "b"
     refine iw ?_
     walk_at "b"
     exact hw
def Ga:Ct:=λ ds S W=>∃(p:Pn) (s:Stp) (es:List (List Ln)) (ls:List Ln) (d m:Nat),ds=[dPn p,dSt s]/\p[s.1]? =some es/\es[s.2.2]? =some ls/\LsOk d m ls/\d≤10/\m≤1000/\C64 s.2.1/\W (dN (fU p s)) S
theorem CP(F:Fun Ω.K "key_of" "key_of" lU f fd)(N0:Ω.cd=none)(B:Bi Ω.mg)(Cq49:Cal Ω "line_comes_to" 2 2 PP):Ok Ω 3 f fd GP Ga:=by
 refine aA N0 (N:=Ig) F (GQ B Cq49) %[|9] ?_
 rintro ds S W ⟨p,⟨i,cs,j⟩,es,ls,d,m,rfl,he,hs,hok,hd,hm,hc,hw⟩ hl
 have e:fU p (i,cs,j)=lK cs ls:=by
  show lK cs ((p.getD i []).getD j [])=_
  rw[show p.getD i []=es from by rw[List.getD,he];rfl,show es.getD j []=ls from by rw[List.getD,hs];rfl]
 rw[e]at hw
 walk_at "b"
 refine⟨_,aX he,?_⟩
 walk_at "b"
 refine⟨_,aX hs,?_⟩
 walk_at "b"
 refine dM (λ l=>.int (qX cs l)) (by have:=hok.1;omega) ?_ ?_
 . intro q l hq Q hQ
   walk_at "b"
   exact⟨rfl,l,cs,d,rfl,hok.2 l (y6 hq),hd,hc,hQ⟩
 walk_at "b"
 have e2:dN (lK cs ls)=.tup (ls.map λ l=>.int (qX cs l)):=by unfold dN lK;rw[List.map_map];rfl
 rw[e2]at hw
 exact hw
theorem zG{α:Type}(f:Nat->Ns->List α)(g:Ns->Int)(h:∀i n,((f i n).length:Int)=g n):∀(nss:List Ns)(k:Nat),(((nss.mapIdx λ i n=>f (k+i) n).flatten).length:Int)=(nss.map g).sum
 | [],k=>rfl
 | n::nss,k=>by
   have ih:=zG f g h nss (k+1)
   rw[List.mapIdx_cons,List.flatten_cons,List.length_append,List.map_cons,List.sum_cons,Int.natCast_add,h,←ih]
   have e:(nss.mapIdx λ i n=>f (k+(i+1)) n)=nss.mapIdx λ i n=>f (k+1+i) n:=by
    congr 1;funext i n;rw[show k+(i+1)=k+1+i from %[|0]]
   rw[e]
theorem DN(i:Nat)(n:Ns):((bQ i n).length:Int)=((cnt n.lps).length:Int)*(n.dds.length:Int):=by
 have:∀l:List %[|3],((l.flatMap λ cs=>(List.range n.dds.length).map λ s=>(i,cs,s)).length)=l.length*n.dds.length:=by
  intro l
  induction l with
  | nil=>simp
  | cons c l ih=>rw[List.flatMap_cons,List.length_append,ih,y8,List.length_range,List.length_cons,Nat.succ_mul];omega
 unfold bQ
 rw[this,Int.natCast_mul]
theorem Em(nss:List Ns):((aB nss).length:Int)=many nss:=by
 have:=zG bQ (λ n=>((cnt n.lps).length:Int)*(n.dds.length:Int)) DN nss 0
 unfold aB many
 rw[←this]
 have e:(λ i n=>bQ (0+i) n)=bQ:=by funext i n;rw[Nat.zero_add]
 rw[e]
structure PgS(p:Pg):Prop where
 n1:1≤p.nss.length
 n3:p.nss.length≤3
 ns:∀n∈p.nss,Lps n.lps/\1≤n.dds.length/\n.dds.length≤4
 few:many p.nss≤60
theorem PgS.len{p:Pg}(h:PgS p):(aB p.nss).length≤60:=by
 have:=Em p.nss
 have:=h.few
 omega
theorem PgS.steps{p:Pg}(h:PgS p){S:Store}{W:WD}(hS:flat S)(w:hand W ((aB p.nss).map dSt) S):gR [dPg p] S W:=by
 refine⟨p,rfl,by have:=h.n3;omega,λ n hn=>?_,Nat.le_trans h.len %[|2],hS,w⟩
 obtain⟨a,b,c⟩:=h.ns n hn
 exact⟨a.1,a.fits,%[|0]⟩
theorem PgS.c64{p:Pg}(h:PgS p){s:Stp}(hs:s∈aB p.nss):C64 s.2.1:=by
 obtain⟨n,hn,hc,_⟩:=ph hs
 obtain⟨a,_⟩:=h.ns n (y6 hn)
 have:=tu a n.lps.length (x6 _) s.2.1 (by rw[List.take_length];exact hc)
 intro c hcc
 have:=this.2 c hcc
 have:=Lf n.lps.length
 omega
theorem gJ{pg:Pg}{p:Pn}(h:PgS pg)(hp:cZ (pg.nss.map nd) m p){s:Stp}(hs:s∈aB pg.nss):∃n es ls,pg.nss[s.1]? =some n/\n.lps.length≤3/\s.2.2<n.dds.length/\p[s.1]? =some es/\es.length=n.dds.length/\es[s.2.2]? =some ls/\LsOk n.lps.length m ls:=by
 obtain⟨n,hn,hc,hd⟩:=ph hs
 have hl:=(y3.mp hn).1
 have hpl:=hp.1
 rw[y8]at hpl
 have e1:=y4 (l:=p) (i:=s.1) %[|0]
 have hD:=hp.2.2 s.1 (nd n) _ (by rw[x5,hn];rfl) e1
 have hdl:(p[s.1]'%[|0]).length=n.dds.length:=by rw[hD.1];show(n.dds.map dDd).length=_;rw[y8]
 have e2:=y4 (l:=p[s.1]'%[|0]) (i:=s.2.2) %[|0]
 have hL:=hD.2 _ (y6 e2)
 rw[show(nd n).1.length=n.lps.length from y8 ..]at hL
 exact⟨n,_,_,hn,(h.ns n (y6 hn)).1.2.1,hd,e1,hdl,e2,hL⟩
def Hr(pg:Pg)(p:Pn):List D:=(aB pg.nss).map λ s=>dN (fU p s)
def Fg:XCt:=λ ds S W WE=>∃pg x,ds=[dPg pg,x]/\PgS pg/\flat S/\(aW (pg.nss.map nd) x=false->WE "NoPlan" S)/\(∀m p,x=dPn p->cZ (pg.nss.map nd) m p->W (.lst (Hr pg p)) S)
theorem PgS.nds{p:Pg}(h:PgS p):Nds (p.nss.map nd):=by
 refine⟨by rw[y8];exact h.n1,by rw[y8];exact h.n3,λ x hx=>?_⟩
 obtain⟨n,hn,rfl⟩:=ZO.mp hx
 obtain⟨a,b,c⟩:=h.ns n hn
 exact⟨by show(n.lps.map dL).length≤3;rw[y8];exact a.2.1,by show 1≤(n.dds.map dDd).length;rw[y8];exact b,by show(n.dds.map dDd).length≤4;rw[y8];exact c⟩
theorem JB(F:Fun Ω.K "keys" "keys" rG f fd)(N0:Ω.cd=none)(E:ExF Ω.mg Ω.K XL XT)(Cq57:Cal Ω "steps_of" 4 1 gR)(Cq56:cC Ω "refuse_no_plan" 7 2 Jm)(Cq47:Cal Ω "key_of" 3 2 Ga):OkX Ω 8 f fd Ou Fg:=by
 refine yx N0 (N:=Mf) F (PN E Cq57 Cq56 Cq47) %[|9] ?_
 rintro ds S W WE ⟨pg,x,rfl,hg,hS,h1,h2⟩ hl
 walk_at "b"
 refine⟨rfl,dWs pg.ws,_,x,by rw[Uq],hg.nds,hS,h1,λ m p e hok=>?_⟩
 subst e
 have hP:Pl (pg.nss.map nd) m p S:=⟨hg.nds,hok,hS⟩
 walk_at "b"
 refine⟨rfl,hg.steps hP.f (.inl ?_)⟩
 have m9:=hok.2.1.2
 have hlen:=hg.len
 refine dM (λ s=>dN (fU p s)) %[|0] ?_ ?_
 . intro q s hq Q hQ
   have hs:=y6 hq
   obtain⟨n,es,ls,_,h3,_,e1,_,e2,hL⟩:=gJ hg hok hs
   walk_at "b"
   exact⟨rfl,p,s,es,ls,n.lps.length,m,rfl,e1,e2,hL,%[|0],%[|0],hg.c64 hs,hQ⟩
 exact h2 m p rfl hok
def Qd:XCt:=λ ds S W WE=>∃nss m p,∃a:Int,ds=[dPn p,.int a]/\Pl nss m p S/\((0≤a/\a<(m:Int))->W .non S)/\(¬(0≤a/\a<(m:Int))->WE "NoTurn" S)
theorem my(F:Fun Ω.K "refuse_no_line" "refuse_no_line" cU f fd)(N0:Ω.cd=none)(E:ExF Ω.mg Ω.K XL XT)(Cq50:Cal Ω "number_of_lines" 1 1 Qo):OkX Ω 2 f fd oX Qd:=by
 refine yx N0 (N:=oA) F (m8 E Cq50) %[|9] ?_
 rintro ds S W WE ⟨nss,m,p,a,rfl,hP,h1,h2⟩ hl
 walk_at "b"
 refine⟨λ c=>⟨λ _=>h2 λ z=>absurd z.1 (of_decide_eq_false c),λ z=>tf z⟩,λ c=>?_⟩
 have c:=ZF c
 walk_at "b"
 refine⟨rfl,nss,m,p,rfl,hP,?_⟩
 walk_at "b"
 by_cases h:a<(m:Int)
 . rw[ZG h]
   exact⟨λ z=>ff z,λ _=>h1 ⟨c,h⟩⟩
 . rw[ZH h]
   exact⟨λ _=>h2 λ z=>h z.2,λ z=>tf z⟩
def dW(kz:List %[|3])(a:Nat)(i j:Nat):Bool:=decide ((kz.getD i []).take a=(kz.getD j []).take a)&& !decide ((kz.getD i []).getD a 0=(kz.getD j []).getD a 0)
def lg(kz:List %[|3])(a:Nat)(prs:List Pr):Option (Nat×Nat):=(prs.find? λ q=>dW kz a q.1 q.2.1).map λ q=>(q.1,q.2.1)
def oD:Option (Nat×Nat)->D
 | none=>.non
 | some (i,j)=>.tup [.int (i:Int),.int (j:Int)]
def kzP(pg:Pg)(p:Pn):List %[|3]:=(aB pg.nss).map (fU p)
theorem Fi(l:%[|3]):cX (l.map D.int)=true:=by
 induction l with
 | nil=>rfl
 | cons x l ih=>simp only[List.map_cons,cX,ih,Bool.and_true];rfl
theorem RT(l:%[|3]):bj (l.map D.int)≤1:=by
 induction l with
 | nil=>simp[bj]
 | cons x l ih=>
   simp only[List.map_cons,bj,deep]
   omega
theorem IsPr.item{ds:List D}{qs:List Pr}(h:IsPr n J ds qs):∀(i:Nat)(d:D),ds[i]? =some d->∃q m',qs[i]? =some q/\d=.tup [.int (q.1:Int),.int (q.2.1:Int),.loc m']:=by
 induction h with
 | nil=>intro i d h;simp at h
 | @cons m' q ds qs g1 g2 t ih=>
   intro i d h
   cases i with
   | zero=>cases h;exact⟨q,m',rfl,rfl⟩
   | succ i=>
     obtain⟨q',m2,e1,e2⟩:=ih i d (by simpa using h)
     exact⟨q',m2,by simpa using e1,e2⟩
theorem Mg{xs ys:%[|3]}{W:Bool->%[|5]}(w:W (decide (xs=ys)) S):aP .Eq (.tup (xs.map D.int)) (.tup (ys.map D.int)) S W:=by
 unfold aP
 show z6 S (.tup (xs.map D.int)) (.tup (ys.map D.int))/\W (eqD (.tup (xs.map D.int)) (.tup (ys.map D.int))) S
 refine⟨⟨Fi xs,Fi ys,?_⟩,?_⟩
 . have:=RT xs
   show bj (xs.map D.int)+1≤50
   omega
 . show W (cz (xs.map D.int) (ys.map D.int)) S
   rw[oW]
   exact w
def Hs:XCt:=λ ds S W WE=>∃pg x,∃a:Int,ds=[dPg pg,x,.int a]/\PgB 0 pg/\PgS pg/\many pg.nss≤60/\flat S/\(aW (pg.nss.map nd) x=false->WE "NoPlan" S)/\∀m p,x=dPn p->cZ (pg.nss.map nd) m p->(¬(0≤a/\a<(m:Int))->WE "NoTurn" S)/\∀b:Nat,a=(b:Int)->b<m->W (oD (lg (kzP pg p) b (b8 ((bf pg).map crs) (bf pg).length))) S
theorem yP(F:Fun Ω.K "barring" "barring" jy f fd)(N0:Ω.cd=none)(E:ExF Ω.mg Ω.K XL XT)(Cq53:Cal Ω "pairs" 6 1 Ag)(Cq48:cC Ω "keys" 8 2 Fg)(Cq55:cC Ω "refuse_no_line" 2 2 Qd):OkX Ω 9 f fd Eh Hs:=by
 refine yx N0 (N:=Cu) F (Dm E Cq53 Cq48 Cq55) %[|9] ?_
 rintro ds S W WE ⟨pg,x,a,rfl,hB,hg,h60,hS,h1,h2⟩ hl
 walk_at "b"
 refine⟨rfl,pg,x,rfl,hg,hS,h1,λ m p e hok=>?_⟩
 subst e
 obtain⟨h3,h4⟩:=h2 m p rfl hok
 have hP:Pl (pg.nss.map nd) m p S:=⟨hg.nds,hok,hS⟩
 walk_at "b"
 refine⟨rfl,_,m,p,a,rfl,hP,λ ha=>?_,h3⟩
 obtain⟨b,rfl⟩:=Int.eq_ofNat_of_zero_le ha.1
 have h4:=h4 b rfl %[|0]
 walk_at "b"
 refine⟨rfl,pg,rfl,hB,h60,hS,λ its J hI=>?_⟩
 walk_at "b"
 have hkz:Hr pg p=(kzP pg p).map dN:=by unfold Hr kzP;rw[List.map_map];rfl
 rw[hkz]
 have hIl:=hI.length
 have hst:(aB pg.nss).length=(bf pg).length:=qI pg
 have hkl:(kzP pg p).length=(bf pg).length:=by unfold kzP;rw[y8];exact hst
 generalize hpr:b8 ((bf pg).map crs) (bf pg).length=prs at*
 have rng:∀q∈prs,q.1<(kzP pg p).length/\q.2.1<(kzP pg p).length:=λ q hq=>by
  rw[←hpr]at hq
  obtain⟨i,hi,h⟩:=List.mem_flatMap.mp hq
  obtain⟨t,ht,h⟩:=List.mem_flatMap.mp h
  have hi:=List.mem_range.mp hi
  have ht:=List.mem_range.mp ht
  unfold gG at h
  split at h
  . split at h
    . cases h
    . rw[List.mem_singleton]at h
      rw[h,hkl]
      rw[y8]at ht
      exact⟨hi,by show i+1+t<_;omega⟩
  . cases h
 have at0:(S++[its]++J)[S.length]? =some its:=uo rfl
 have done:∀d,d=oD (lg (kzP pg p) b prs)->au d=true->Drp S.length W d (S++[its]++J):=λ d e hd=>.inr ⟨[its]++J,S,by rw[List.append_assoc],x6 _,hd,hS,by rw[e];exact h4⟩
 have itm:=hI.item
 refine⟨its,at0,Fw ⟨λ i Γ' T=>(∃o4 o5 o6 o7 o8,Γ'=[some (dPg pg),some (dPn p),some (.int (b:Int)),some (.lst ((kzP pg p).map dN)),o4,o5,o6,o7,o8])/\T=S++[its]++J/\(prs.take i).find? (λ q=>dW (kzP pg p) b q.1 q.2.1)=none,⟨⟨_,_,_,_,_,rfl⟩,rfl,rfl⟩,?_,?_,?_⟩⟩
 . rintro i Γ' T ⟨_,rfl,_⟩
   exact at0
 . rintro i d Γ' T hd ⟨⟨o4,o5,o6,o7,o8,rfl⟩,rfl,hno⟩
   obtain⟨q,m',hq,rfl⟩:=itm i d hd
   obtain⟨r1,r2⟩:=rng q (y6 hq)
   have k1:=y4 r1
   have k2:=y4 r2
   have e1:(kzP pg p).getD q.1 []=(kzP pg p)[q.1]:=by rw[List.getD,k1];rfl
   have e2:(kzP pg p).getD q.2.1 []=(kzP pg p)[q.2.1]:=by rw[List.getD,k2];rfl
   walk_at "b"
   refine⟨rfl,?_⟩
   walk_at "b"
   refine⟨_,aX k1,?_⟩
   walk_at "b"
   refine⟨_,aX k2,?_⟩
   walk_at "b"
   have hb:∀u∈kzP pg p,b<u.length:=λ u hu=>by
    unfold kzP at hu
    obtain⟨s,hs,rfl⟩:=ZO.mp hu
    obtain⟨n,es,ls,_,_,_,g1,_,g2,hL⟩:=gJ hg hok hs
    unfold fU lK
    rw[y8,show p.getD s.1 []=es from by rw[List.getD,g1];rfl,show es.getD s.2.2 []=ls from by rw[List.getD,g2];rfl,hL.1]
    omega
   rw[gf %[|0],gf %[|0],Int.toNat_natCast,←List.map_take,←List.map_take]
   have b1:=hb _ (List.getElem_mem r1)
   have b2:=hb _ (List.getElem_mem r2)
   have j1:=y4 b1
   have j2:=y4 b2
   have d1:(kzP pg p)[q.1].getD b 0=(kzP pg p)[q.1][b]:=by rw[List.getD,j1];rfl
   have d2:(kzP pg p)[q.2.1].getD b 0=(kzP pg p)[q.2.1][b]:=by rw[List.getD,j2];rfl
   have hbar:dW (kzP pg p) b q.1 q.2.1=(decide ((kzP pg p)[q.1].take b=(kzP pg p)[q.2.1].take b)&& !decide ((kzP pg p)[q.1][b]=(kzP pg p)[q.2.1][b])):=by
    unfold dW
    rw[e1,e2,d1,d2]
   have nxt:dW (kzP pg p) b q.1 q.2.1=false->(prs.take (i+1)).find? (λ q=>dW (kzP pg p) b q.1 q.2.1)=none:=λ h=>by
    rw[aV hq,List.find?_append,hno,Option.none_or,List.find?_cons,h]
    rfl
   have fnd:dW (kzP pg p) b q.1 q.2.1=true->lg (kzP pg p) b prs=some (q.1,q.2.1):=λ h=>by
    unfold lg
    conv=>lhs;rw[←List.take_append_drop i prs]
    have hd:prs.drop i=q::prs.drop (i+1):=by
     obtain⟨g1,g2⟩:=y3.mp hq
     rw[List.drop_eq_getElem_cons g1,g2]
    rw[List.find?_append,hno,Option.none_or,hd,List.find?_cons,h]
    rfl
   generalize (kzP pg p)[q.1]=u at*
   generalize (kzP pg p)[q.2.1]=v at*
   refine Mg ⟨λ c=>?_,λ c=>?_⟩
   . have c:=ZF c
     walk_at "b"
     refine⟨_,aX j1,?_⟩
     walk_at "b"
     refine⟨_,aX j2,?_⟩
     walk_at "b"
     refine⟨λ z=>?_,λ z=>?_⟩
     . have hy:dW (kzP pg p) b q.1 q.2.1=true:=by rw[hbar,ZG c,z];rfl
       walk_at "b"
       exact done _ (by rw[fnd hy];rfl) rfl
     . have hy:dW (kzP pg p) b q.1 q.2.1=false:=by rw[hbar,z,Bool.and_false]
       walk_at "b"
       exact⟨⟨_,_,_,_,_,rfl⟩,rfl,nxt hy⟩
   . have hy:dW (kzP pg p) b q.1 q.2.1=false:=by rw[hbar,c,Bool.false_and]
     refine⟨λ z=>ff z,λ _=>?_⟩
     walk_at "b"
     exact⟨⟨_,_,_,_,_,rfl⟩,rfl,nxt hy⟩
 . rintro Γ' T ⟨⟨o4,o5,o6,o7,o8,rfl⟩,rfl,hno⟩
   rw[hIl,List.take_length]at hno
   walk_at "b"
   refine done _ ?_ rfl
   unfold lg
   rw[hno]
   rfl
def Jq:Ct:=λ ds S W=>∃(l:Ln) (cs:%[|3]) (d:Nat),ds=[dLn l,dC cs]/\gF d l/\d≤10/\C64 cs/\W (.int (qX cs l)) S
theorem J1(F:Fun Ω.K "_law_came" "_law_came" qT f fd)(N0:Ω.cd=none)(Cq16:Cal Ω "_law_value" 1 2 fM):Ok Ω 2 f fd NP Jq:=by
 refine aA N0 (N:=NB) F (N8 Cq16) %[|9] ?_
 rintro ds S W ⟨l,cs,d,rfl,hl',hd,hc,hw⟩ hl
 cases l with
 | fm f=>
   have hf:f.length=d+1:=hl'
   cases f with
   | nil=>simp at hf
   | cons x f=>
     rw[List.length_cons]at hf
     walk_at "b"
     refine iw ?_
     walk_at "b"
     exact⟨rfl,x,f,cs,rfl,%[|0],hc,hw⟩
 | bk f z=>
   obtain⟨hf,z1,z2⟩:=hl'
   cases f with
   | nil=>simp at hf
   | cons x f=>
     rw[List.length_cons]at hf
     walk_at "b"
     refine iw ?_
     walk_at "b"
     refine⟨rfl,x,f,cs,rfl,%[|0],hc,?_⟩
     walk_at "b"
     exact hw
def zN:Ct:=λ ds S W=>∃a b:Cell×List Cell,ds=[dCR a,dCR b]/\a.2.length≤1000/\b.2.length≤1000/\W (.bl (jL a b)) S
theorem Im(F:Fun Ω.K "_law_touch" "_law_touch" oK f fd)(N0:Ω.cd=none):Ok Ω 1 f fd Kl zN:=by
 refine aA N0 (N:=Jf) F (JC) %[|9] ?_
 rintro ds S W ⟨a,b,rfl,ha,hb,hw⟩ hl
 unfold jL at hw
 walk_at "b"
 refine cell_eq ⟨λ c=>?_,λ c=>?_⟩
 . rw[c]at hw
   exact hw
 . rw[c]at hw
   walk_at "b"
   refine cell_in ⟨λ c2=>?_,λ c2=>?_⟩
   . rw[c2]at hw
     exact hw
   . rw[c2]at hw
     walk_at "b"
     refine cell_in ?_
     exact hw
def tN(xs:List CR)(a b:Nat):Bool:=match xs[a]?,xs[b]? with
 | some x,some y=>jL x y
 | _,_=>false
theorem Wx{xs:List CR}{a:Nat}{x y:CR}(ha:xs[a]? =some x)(hb:xs[b]? =some y):tN xs a b=jL x y:=by unfold tN;rw[ha,hb]
def dq(a k:Nat):List (Nat×Nat):=(List.range k).map λ t=>(a,a+1+t)
def cH(n i:Nat):List (Nat×Nat):=(List.range i).flatMap λ a=>dq a (n-(a+1))
theorem lL(a k:Nat):dq a (k+1)=dq a k++[(a,a+1+k)]:=by unfold dq;rw[List.range_succ,List.map_append];rfl
theorem lH(n i:Nat):cH n (i+1)=cH n i++dq i (n-(i+1)):=by unfold cH;rw[List.range_succ,List.flatMap_append];simp
def dI(xs:List CR)(kz:List %[|3])(a:Nat)(q:Nat×Nat):Bool:=dW kz a q.1 q.2&&tN xs q.1 q.2
def Ey:Ct:=λ ds S W=>∃(xs:List CR) (kz:List %[|3]) (a k m:Nat),ds=[.lst (xs.map dCR),.loc k,.int (a:Int)]/\S[k]? =some (kz.map dN)/\kz.length=xs.length/\xs.length≤60/\(∀u∈kz,u.length=m)/\a<m/\(∀x∈xs,x.2.length≤1000)/\W (oD ((cH xs.length xs.length).find? (dI xs kz a))) S
def DuI(xs:List CR)(kz:List %[|3])(a k:Nat)(S:Store)(i:Nat)(Γ':Gam)(T:Store):Prop:=(∃o3 o4,Γ'=[some (.lst (xs.map dCR)),some (.loc k),some (.int (a:Int)),o3,o4])/\T=S/\(cH xs.length i).find? (dI xs kz a)=none
def DuJ(xs:List CR)(kz:List %[|3])(a k:Nat)(T:Store)(i t:Nat)(Γ':Gam)(T':Store):Prop:=(∃o4,Γ'=[some (.lst (xs.map dCR)),some (.loc k),some (.int (a:Int)),some (.int (i:Int)),o4])/\T'=T/\(cH xs.length i++dq i t).find? (dI xs kz a)=none
theorem M4 (F:Fun Ω.K "_law_due" "_law_due" uA f fd)(N0:Ω.cd=none)(B:Bi Ω.mg)(Cq15:Cal Ω "_law_touch" 1 2 zN):Ok Ω 2 f fd QW Ey:=by
 refine aA N0 (N:=Ri) F (RV B Cq15) %[|9] ?_
 rintro ds S W ⟨xs,kz,a,k,m,rfl,hk,hkl,h60,hm,ha,hx,hw⟩ hl
 walk_at "b"
 rw[y8]
 refine⟨⟨%[|0],%[|0]⟩,aN ⟨DuI xs kz a k S,⟨⟨_,_,rfl⟩,rfl,rfl⟩,?_,?_⟩⟩
 . rintro i e Γ' T he ⟨⟨o3,o4,rfl⟩,rfl,hno⟩
   obtain⟨hi,rfl⟩:=aJ he
   have e2:(0:Int)+(i:Int)=(i:Int):=%[|0]
   rw[e2]
   have hi':i<xs.length:=%[|0]
   walk_at "b"
   rw[y8]
   refine⟨⟨%[|0],%[|0]⟩,aN ⟨DuJ xs kz a k T i,⟨⟨_,rfl⟩,rfl,by unfold dq;simpa using hno⟩,?_,?_⟩⟩
   . rintro t e Γ' T' he ⟨⟨o4,rfl⟩,rfl,hno⟩
     obtain⟨ht,rfl⟩:=aJ he
     have e3:((i:Int)+1)+(t:Int)=((i+1+t:Nat):Int):=%[|0]
     rw[e3]
     have hj':i+1+t<xs.length:=%[|0]
     have k1:=y4 (l:=kz) (i:=i) %[|0]
     have k2:=y4 (l:=kz) (i:=i+1+t) %[|0]
     have x1:=y4 hi'
     have x2:=y4 hj'
     have m1:=hm _ (y6 k1)
     have m2:=hm _ (y6 k2)
     walk_at "b"
     refine⟨_,_,hk,aX k1,?_⟩
     walk_at "b"
     refine⟨_,_,hk,aX k2,?_⟩
     walk_at "b"
     have j1:=y4 (l:=kz[i]'%[|0]) (i:=a) %[|0]
     have j2:=y4 (l:=kz[i+1+t]'%[|0]) (i:=a) %[|0]
     have ctk:∀l:%[|3],cutD (l.map D.int) none (some (a:Int))=(l.take a).map D.int:=λ l=>by rw[gf %[|0],Int.toNat_natCast,List.map_take]
     rw[ctk,ctk]
     have hbar:dI xs kz a (i,i+1+t)=((decide ((kz[i]'%[|0]).take a=(kz[i+1+t]'%[|0]).take a)&& !decide ((kz[i]'%[|0])[a]'%[|0]=(kz[i+1+t]'%[|0])[a]'%[|0]))&&jL xs[i] xs[i+1+t]):=by
      have e1:kz.getD i []=kz[i]'%[|0]:=by rw[List.getD,k1];rfl
      have e2:kz.getD (i+1+t) []=kz[i+1+t]'%[|0]:=by rw[List.getD,k2];rfl
      have d1:(kz[i]'%[|0]).getD a 0=(kz[i]'%[|0])[a]'%[|0]:=by rw[List.getD,j1];rfl
      have d2:(kz[i+1+t]'%[|0]).getD a 0=(kz[i+1+t]'%[|0])[a]'%[|0]:=by rw[List.getD,j2];rfl
      show(dW kz a i (i+1+t)&&tN xs i (i+1+t))=_
      unfold dW
      rw[e1,e2,d1,d2,Wx x1 x2]
     have hx1:=hx _ (y6 x1)
     have hx2:=hx _ (y6 x2)
     have nxt:dI xs kz a (i,i+1+t)=false->(cH xs.length i++dq i (t+1)).find? (dI xs kz a)=none:=λ h=>by
      rw[lL,←List.append_assoc,List.find?_append,hno,Option.none_or,List.find?_cons,h]
      rfl
     have fnd:dI xs kz a (i,i+1+t)=true->(cH xs.length xs.length).find? (dI xs kz a)=some (i,i+1+t):=λ h=>by
      have split:∃more,cH xs.length xs.length=cH xs.length i++dq i t++(i,i+1+t)::more:=by
       have s1:∀n i j,i≤j->∃more,cH n j=cH n i++more:=λ n i j hij=>by
        induction j with
        | zero => obtain rfl:i=0:=%[|0]
                  exact⟨[],by simp⟩
        | succ j ih=>
          by_cases c:i=j+1
          . subst c;exact⟨[],by simp⟩
          . obtain⟨more,e⟩:=ih %[|0]
            exact⟨more++dq j (n-(j+1)),by rw[lH,e,List.append_assoc]⟩
       have s2:∀a t k,t≤k->∃more,dq a k=dq a t++more:=λ a t k htk=>by
        induction k with
        | zero => obtain rfl:t=0:=%[|0]
                  exact⟨[],by simp⟩
        | succ k ih=>
          by_cases c:t=k+1
          . subst c;exact⟨[],by simp⟩
          . obtain⟨more,e⟩:=ih %[|0]
            exact⟨more++[(a,a+1+k)],by rw[lL,e,List.append_assoc]⟩
       obtain⟨m1,g1⟩:=s1 xs.length (i+1) xs.length %[|0]
       obtain⟨m2,g2⟩:=s2 i (t+1) (xs.length-(i+1)) %[|0]
       refine⟨m2++m1,?_⟩
       rw[g1,lH,g2,lL]
       simp only[List.append_assoc,List.cons_append,List.nil_append]
      obtain⟨more,e⟩:=split
      rw[e,List.find?_append,hno,Option.none_or,List.find?_cons,h]
     refine Mg ⟨λ c=>?_,λ c=>?_⟩
     . have c':=ZF c
       walk_at "b"
       refine⟨_,_,hk,aX k1,?_⟩
       walk_at "b"
       refine⟨_,aX j1,?_⟩
       walk_at "b"
       refine⟨_,_,hk,aX k2,?_⟩
       walk_at "b"
       refine⟨_,aX j2,?_⟩
       walk_at "b"
       refine⟨λ z=>?_,λ z=>?_⟩
       . walk_at "b"
         refine⟨_,aX x1,?_⟩
         walk_at "b"
         refine⟨_,aX x2,?_⟩
         walk_at "b"
         refine⟨rfl,_,_,rfl,hx1,hx2,?_⟩
         rw[c,z,Bool.true_and,Bool.true_and]at hbar
         walk_at "b"
         refine⟨λ y=>?_,λ y=>?_⟩
         . rw[y]at hbar
           rw[fnd hbar]at hw
           walk_at "b"
           exact hw
         . rw[y]at hbar
           walk_at "b"
           exact⟨⟨_,rfl⟩,rfl,nxt hbar⟩
       . rw[c,z,Bool.true_and,Bool.false_and]at hbar
         walk_at "b"
         exact⟨⟨_,rfl⟩,rfl,nxt hbar⟩
     . rw[c,Bool.false_and,Bool.false_and]at hbar
       refine⟨λ z=>ff z,λ _=>?_⟩
       walk_at "b"
       exact⟨⟨_,rfl⟩,rfl,nxt hbar⟩
   . rintro Γ' T' ⟨⟨o4,rfl⟩,rfl,hno⟩
     rw[ak]at hno
     walk_at "b"
     refine⟨⟨_,_,rfl⟩,rfl,?_⟩
     rw[lH]
     rw[show((xs.length:Int)-((i:Int)+1)).toNat=xs.length-(i+1) by omega]at hno
     exact hno
 . rintro Γ' T ⟨⟨o3,o4,rfl⟩,rfl,hno⟩
   rw[ak,Int.toNat_natCast]at hno
   rw[hno]at hw
   walk_at "b"
   exact hw
theorem Ba{α:Type}{f:α->D}(h:∀a b,f a=f b->a=b):∀l l':List α,l.map f=l'.map f->l=l'
 | [],[],_=>rfl
 | [],_::_,e=>by cases e
 | _::_,[],e=>by cases e
 | a::l,b::l',e=>by
   have e:=List.cons.inj e
   rw[h a b e.1,Ba h l l' e.2]
theorem KN(f g:%[|3])(h:dN f=dN g):f=g:=Ba (λ a b e=>D.int.inj e) _ _ (D.tup.inj h)
theorem RG(l l':Ln)(h:dLn l=dLn l'):l=l':=by
 cases l with
 | fm f=>
   cases l' with
   | fm g=>have:=D.tup.inj h;rw[KN f g (by simpa using this)]
   | bk g z=>have:=congrArg List.length (D.tup.inj h);simp at this
 | bk f z=>
   cases l' with
   | fm g=>have:=congrArg List.length (D.tup.inj h);simp at this
   | bk g z'=>
     have:=D.tup.inj h
     simp at this
     rw[KN f g this.1,this.2]
theorem Ez{p q:Pn}(h:dPn p=dPn q):p=q:=Ba (f:=dDs) (λ a b e=>Ba (f:=dLs) (λ a b e=>Ba RG _ _ (D.tup.inj e)) _ _ (D.tup.inj e)) _ _ (D.tup.inj h)
theorem Jr{nss:List Nd}{m':Nat}{p:Pn}(hn:Nds nss)(h:cZ nss m p)(h':cZ nss m' p):m=m':=by
 have f:flat []:=λ l h=>nomatch h
 obtain⟨es,ls,g1,g2,g3⟩:=(show Pl nss m p []from⟨hn,h,f⟩).first
 obtain⟨es',ls',g1',g2',g3'⟩:=(show Pl nss m' p []from⟨hn,h',f⟩).first
 rw[g1]at g1'
 cases g1'
 rw[g2]at g2'
 cases g2'
 omega
def zP(pg:Pg):List Pr:=b8 ((bf pg).map crs) (bf pg).length
def lw:Ct:=λ ds S W=>∃pg x,∃a:Int,∃w:Str,ds=[dPg pg,x,.int a]/\PgB 0 pg/\PgS pg/\many pg.nss≤60/\flat S/\((aW (pg.nss.map nd) x=false/\w="plan")∨∃m p,x=dPn p/\cZ (pg.nss.map nd) m p/\¬(0≤a/\a<(m:Int))/\w="turn")/\W (.str w) S
theorem Jh(F:Fun Ω.K "_law_word" "_law_word" rF f fd)(N0:Ω.cd=none)(B:Bi Ω.mg)(E:ExF Ω.mg Ω.K XL XT)(Cq18:cC Ω "barring" 9 3 Hs):Ok Ω 10 f fd Oz lw:=by
 refine Wl N0 (N:=Ly) F (Nr B E Cq18) %[|9] ?_
 rintro ds S W ⟨pg,x,a,w,rfl,hB,hg,h60,hS,h,hw⟩ hl
 walk_at "b"
 refine⟨rfl,pg,x,a,rfl,hB,hg,h60,hS,λ z=>?_,λ m p e hok=>?_⟩
 . rcases h with⟨_,rfl⟩ | ⟨m,p,rfl,hok,_⟩
   . exact⟨%[|2],_,rfl,hw⟩
   . rw[uL hg.nds hok]at z
     cases z
 . subst e
   rcases h with⟨h,_⟩ | ⟨m',p',e,hok',hno,rfl⟩
   . rw[uL hg.nds hok]at h
     cases h
   . obtain rfl:=Ez e
     obtain rfl:=Jr hg.nds hok hok'
     refine⟨λ _=>⟨%[|2],_,rfl,hw⟩,λ b e hb=>absurd ⟨%[|0],%[|0]⟩ hno⟩
def Jx:Ct:=λ ds S W=>∃pg m p,∃b:Nat,ds=[dPg pg,dPn p,.int (b:Int),oD (lg (kzP pg p) b (zP pg))]/\PgB 0 pg/\PgS pg/\many pg.nss≤60/\flat S/\cZ (pg.nss.map nd) m p/\b<m/\W (.bl true) S
theorem Ld(F:Fun Ω.K "_law_says" "_law_says" rM f fd)(N0:Ω.cd=none)(B:Bi Ω.mg)(Cq18:cC Ω "barring" 9 3 Hs):Ok Ω 10 f fd Py Jx:=by
 refine aA N0 (N:=Mr) F (Nt B Cq18) %[|9] ?_
 rintro ds S W ⟨pg,m,p,b,rfl,hB,hg,h60,hS,hok,hb,hw⟩ hl
 walk_at "b"
 refine⟨rfl,pg,dPn p,(b:Int),rfl,hB,hg,h60,hS,λ z=>?_,λ m' p' e hok'=>?_⟩
 . rw[uL hg.nds hok]at z
   cases z
 obtain rfl:=Ez e
 obtain rfl:=Jr hg.nds hok hok'
 refine⟨λ z=>z ⟨%[|0],%[|0]⟩,λ b' e' hb'=>?_⟩
 obtain rfl:b=b':=%[|0]
 rw[show b8 ((bf pg).map crs) (bf pg).length=zP pg from rfl]
 cases e:lg (kzP pg p) b (zP pg)with
 | none=>
   walk_at "b"
   exact hw
 | some q=>
   obtain⟨i,j⟩:=q
   walk_at "b"
   show aP .Eq (.tup ([(i:Int),(j:Int)].map D.int)) (.tup ([(i:Int),(j:Int)].map D.int)) S _
   refine Mg ?_
   rw[ZG rfl]
   exact hw
theorem yt(n:Nat):DL.upTo 0 n=(List.range n).map λ(i:Nat)=>D.int (i:Int):=by
 rw[Wk]
 unfold RF.upI
 rw[List.map_map]
 refine List.map_congr_left λ i _=>?_
 show D.int (0+(i:Int))=_
 rw[Int.zero_add]
theorem K9(n:Nat):(List.replicate n [D.int 0]).flatten=(List.replicate n (0:Int)).map D.int:=by
 induction n with
 | zero=>rfl
 | succ m ih=>simp[List.replicate_succ,ih]
def cfm(k d:Nat):%[|3]:=0::(List.range d).map λ(a:Nat)=>if k=a then 1 else 0
def zer(n:Int)(d:Nat):%[|3]:=n::List.replicate d 0
def oU(n d q:Nat):List %[|3]:=zer n d::(List.range q).map λ(k:Nat)=>cfm k d
def eY(n d s:Nat):List %[|3]:=oU n d 3++[zer s d]
def Ue:Ct:=λ ds S W=>∃d n s:Nat,ds=[.int d,.int n,.int s]/\d≤10/\flat S/\W (.lst ((eY n d s).map dN)) S
theorem sG(F:Fun Ω.K "_law_known_lines" "_law_known_lines" eZ f fd)(N0:Ω.cd=none)(B:Bi Ω.mg):Ok Ω 1 f fd sJ Ue:=by
 refine aA N0 (N:=t6) F (Bl.drp (um B)) %[|9] ?_
 rintro ds S W ⟨d,n,s,rfl,hd,hS,hw⟩ hl
 walk_at "b"
 refine⟨⟨%[|0],%[|0]⟩,by rw[Int.toNat_natCast];show 1*_≤_;omega,?_⟩
 rw[Int.toNat_natCast,K9]
 walk_at "b"
 refine⟨⟨%[|2],%[|2]⟩,?_⟩
 rw[yt]
 refine aN ⟨λ q Γ' T=>∃o4,T=S++[(oU n d q).map dN]/\Γ'=[some (.int (d:Int)),some (.int (n:Int)),some (.int (s:Int)),%[|18],o4],⟨_,rfl,rfl⟩,?_,?_⟩
 . rintro q e Γ' T he ⟨o7,rfl,rfl⟩
   obtain⟨q',hq',rfl⟩:=bK he
   have hql:q<3:=by simpa using(y3.mp hq').1
   obtain rfl:q'=q:=by rw[show Int.toNat 3=3 from rfl,List.getElem?_range hql]at hq';exact(Option.some.inj hq').symm
   walk_at "b"
   refine⟨⟨%[|0],%[|0]⟩,?_⟩
   rw[Int.toNat_natCast,yt]
   refine dM (λ(a:Nat)=>D.int (if q'=a then 1 else 0)) (by simp;omega) ?_ ?_
   . intro r a hr Q hQ
     walk_at "b"
     by_cases c:q'=a
     . rw[if_pos c]at hQ;rw[ZG %[|0]];exact hQ
     . rw[if_neg c]at hQ;rw[ZH %[|0]];exact hQ
   walk_at "b"
   refine⟨_,_,rfl,rfl,by simp;omega,?_⟩
   walk_at "b"
   refine⟨_,bw _ _,by rw[y8];unfold oU;simp;omega,?_⟩
   rw[bO]
   refine⟨_,?_,rfl⟩
   congr 2
   have ec:[D.int 0]++(List.range d).map (λ(a:Nat)=>D.int (if q'=a then 1 else 0))=(cfm q' d).map D.int:=by unfold cfm;rw[List.map_cons,List.map_map];rfl
   rw[ec]
   unfold oU
   rw[List.range_succ,List.map_append,←List.cons_append,List.map_append]
   rfl
 . rintro Γ' T ⟨o7,rfl,rfl⟩
   rw[y8,List.length_range]
   walk_at "b"
   refine⟨⟨%[|0],%[|0]⟩,by rw[Int.toNat_natCast];show 1*_≤_;omega,?_⟩
   rw[Int.toNat_natCast,K9]
   walk_at "b"
   refine⟨_,_,by show(S++[_])[S.length]? =_;exact bw _ _,rfl,by rw[y8];unfold oU;simp,?_⟩
   have e:(oU n d (Int.toNat 3)).map dN++[D.tup ([D.int (s:Int)]++List.map D.int (List.replicate d 0))]=(eY n d s).map dN:=by
    unfold eY
    rw[List.map_append]
    rfl
   rw[e]
   exact .inr ⟨_,S,rfl,x6 _,kI (f:=dN) (λ f=>jg f) _,hS,hw⟩
def Er:Ct:=λ ds S W=>∃k d b:Nat,ds=[.loc k,.int (d:Int)]/\aD S k b/\b≤100000/\d≤3/\∀l S',gF d l->aH S k S'->aD S' k (b+10)->W (dLn l) S'
theorem tU(F:Fun Ω.K "_law_drawn_line" "_law_drawn_line" fO f fd)(N0:Ω.cd=none)(B:Bi Ω.mg)(Cq8:Cal Ω "_law_next" 2 2 cu):Ok Ω 3 f fd uF Er:=by
 refine aA N0 (N:=uU) F (vm B Cq8) %[|9] ?_
 rintro ds S W ⟨k,d,b,rfl,hp,hb,hd,hw⟩ hl
 walk_at "b"
 refine bx hp %[|0] %[|2] %[|2] λ v S1 v0 v1 u1 p1=>?_
 walk_at "b"
 refine⟨⟨%[|0],%[|0]⟩,eQ (λ y=>∃n:Int,y=.int n/\(-2≤n/\n≤2)) (λ j T=>aH S k T/\aD T k (b+1+j)) (by rw[ak];omega) ⟨u1,p1⟩ ?_ ?_⟩
 . rintro j dd T hd' ⟨u,p⟩ R hR
   have hj:=(aJ hd').1
   walk_at "b"
   refine bx p %[|0] %[|2] %[|2] λ w S2 w0 w1 u2 p2=>?_
   walk_at "b"
   exact hR _ _ ⟨_,rfl,%[|0],%[|0]⟩ ⟨u.trans u2,p2⟩
 rintro ys S2 hyl hys ⟨u2,p2⟩
 obtain⟨fs,rfl,_⟩:=dg hys
 rw[ak,y8]at hyl
 rw[ak]at p2
 have p2:=p2.mono (b':=b+4) %[|0]
 walk_at "b"
 refine⟨_,_,rfl,rfl,by rw[y8];show 1+_≤_;omega,?_⟩
 walk_at "b"
 refine bx p2 %[|0] %[|2] %[|2] λ w S3 w0 w1 u3 p3=>?_
 have u3:=u2.trans u3
 walk_at "b"
 refine⟨λ c=>?_,λ c=>?_⟩
 . walk_at "b"
   refine bx p3 %[|0] %[|2] %[|2] λ z S4 z0 z1 u4 p4=>?_
   have u4:=u3.trans u4
   have out:∀y:Int,1≤y->y≤99->W (.tup [.str "block",.tup ([.int (v-2)]++fs.map D.int),.int y]) S4:=λ y y1 y9=>hw (.bk ((v-2)::fs) y) S4 ⟨by simp[hyl],y1,y9⟩ u4 (p4.mono %[|0])
   rcases(show z=0∨z=1∨z=2∨z=3 by omega)with rfl | rfl | rfl | rfl
   . refine⟨_,rfl,?_⟩
     walk_at "b"
     exact out 1 %[|2] %[|2]
   . refine⟨_,rfl,?_⟩
     walk_at "b"
     exact out 2 %[|2] %[|2]
   . refine⟨_,rfl,?_⟩
     walk_at "b"
     exact out 3 %[|2] %[|2]
   . refine⟨_,rfl,?_⟩
     walk_at "b"
     exact out 99 %[|2] %[|2]
 . walk_at "b"
   exact hw (.fm ((v-2)::fs)) S3 (by show(_::fs).length=_;simp[hyl]) u3 (p3.mono %[|0])
def X5(d m nd':Nat)(es:List (List Ln)):Prop:=es.length=nd'/\∀ls∈es,LsOk d m ls
def yE:Ct:=λ ds S W=>∃(k b:Nat) (pg:Pg),ds=[.loc k,dPg pg]/\aD S k b/\b≤10000/\PgS pg/\flat S/\∀m p S',cZ (pg.nss.map nd) m p->aH S k S'->aD S' k (b+2000)->flat S'->W (dPn p) S'
def PlI(S:Store)(k b:Nat)(pg:Pg)(m:Nat)(wh sg:%[|3])(i:Nat)(Γ':Gam)(T:Store):Prop:=∃S' p J o6 o7 o8 o9 o10 o11 o12,T=S'++([List.map dDs p]++J)/\aH S k S'/\aD S' k (b+20+i*360)/\p.length=i/\(∀(j:Nat)(n:Ns)(es:List (List Ln)),pg.nss[j]? =some n->p[j]? =some es->X5 n.lps.length m n.dds.length es)/\flat J/\Γ'=[some (.loc k),some (dPg pg),some (.int (m:Int)),some (.lst (wh.map .int)),some (.lst (sg.map .int)),%[|18],o6,o7,o8,o9,o10,o11,o12]
def DlI(S:Store)(k b:Nat)(pg:Pg)(m:Nat)(wh sg:%[|3])(i:Nat)(p:Pn)(J:Store)(n:Ns)(j:Nat)(Γ':Gam)(T:Store):Prop:=∃S' es K o9 o10 o11 o12,T=S'++([List.map dDs p]++J++[List.map dLs es]++K)/\aH S k S'/\aD S' k (b+20+i*360+j*90)/\es.length=j/\(∀ls∈es,LsOk n.lps.length m ls)/\flat K/\Γ'=[some (.loc k),some (dPg pg),some (.int (m:Int)),some (.lst (wh.map .int)),some (.lst (sg.map .int)),%[|18],some (.int (i:Int)),some (dNs n),some (.loc (S.length+1+J.length)),o9,o10,o11,o12]
def LlI(S:Store)(k b:Nat)(pg:Pg)(m:Nat)(wh sg:%[|3])(i:Nat)(R:Store)(n:Ns)(dl:D)(j:Nat)(kn:D)(q:Nat)(Γ':Gam)(T:Store):Prop:=∃S' ls o12,T=S'++(R++[List.map dLn ls])/\aH S k S'/\aD S' k (b+20+i*360+j*90+q*10)/\ls.length=q/\(∀l∈ls,gF n.lps.length l)/\Γ'=[some (.loc k),some (dPg pg),some (.int (m:Int)),some (.lst (wh.map .int)),some (.lst (sg.map .int)),%[|18],some (.int (i:Int)),some (dNs n),some dl,some (.int (j:Int)),some (.loc (S.length+R.length)),some kn,o12]
theorem Jz (F :Fun Ω.K "_law_plan" "_law_plan" sr f fd)(N0:Ω.cd=none)(B:Bi Ω.mg)(Cq8:Cal Ω "_law_next" 2 2 cu)(Cq6:Cal Ω "_law_known_lines" 1 3 Ue)(Cq4:Cal Ω "_law_drawn_line" 3 2 Er):Ok Ω 4 f fd MK yE:=by
 refine aA N0 (N:=LK) F (Bl.drp (NK B Cq8 Cq6 Cq4)) %[|9] ?_
 rintro ds S W ⟨k,b,pg,rfl,hp,hb,hg,hS,hw⟩ hl
 have h3:=hg.n3
 walk_at "b"
 refine bx hp %[|0] %[|2] %[|2] λ v S1 v0 v1 u1 p1=>?_
 have start : ∀m:Nat,1≤m->m≤9->(ug B Cq8 Cq6 Cq4).wp [some (.loc k),some (dPg pg),some (.int (m:Int)),none,none,none,none,none,none,none,none,none,none] S1 {nx:=λ _ S1=>W .non S1,rt:=Drp S.length W}:=by
  intro m m1 m9
  walk_at "b"
  refine⟨⟨%[|0],%[|0]⟩,eQ (λ y=>∃n:Int,y=.int n/\(0≤n/\n≤6)) (λ j T=>aH S k T/\aD T k (b+1+j)) (by rw[ak];omega) ⟨u1,p1⟩ ?_ ?_⟩
  . rintro j dd T hd' ⟨u,p⟩ R hR
    have hj:=(aJ hd').1
    walk_at "b"
    refine bx p %[|0] %[|2] %[|2] λ w S2 w0 w1 u2 p2=>?_
    exact hR _ _ ⟨_,rfl,%[|0],%[|0]⟩ ⟨u.trans u2,p2⟩
  rintro ys S2 hyl hys ⟨u2,p2⟩
  obtain⟨wh,rfl,hwh⟩:=dg hys
  rw[ak,y8,Int.toNat_natCast]at hyl
  rw[ak,Int.toNat_natCast]at p2
  walk_at "b"
  refine⟨⟨%[|0],%[|0]⟩,eQ (λ y=>∃n:Int,y=.int n/\(-1≤n/\n≤1)) (λ j T=>aH S k T/\aD T k (b+1+m+j)) (by rw[ak];omega) ⟨u2,p2⟩ ?_ ?_⟩
  . rintro j dd T hd' ⟨u,p⟩ R hR
    have hj:=(aJ hd').1
    walk_at "b"
    refine bx p %[|0] %[|2] %[|2] λ w S3 w0 w1 u3 p3=>?_
    have u3:=u.trans u3
    rcases(show w=0∨w=1∨w=2 by omega)with rfl | rfl | rfl
    . exact⟨_,rfl,hR _ _ ⟨_,rfl,%[|2],%[|2]⟩ ⟨u3,p3⟩⟩
    . exact⟨_,rfl,hR _ _ ⟨_,rfl,%[|2],%[|2]⟩ ⟨u3,p3⟩⟩
    . exact⟨_,rfl,hR _ _ ⟨_,rfl,%[|2],%[|2]⟩ ⟨u3,p3⟩⟩
  rintro ys S3 hyl3 hys ⟨u3,p3⟩
  obtain⟨sg,rfl,hsg⟩:=dg hys
  rw[ak,y8,Int.toNat_natCast]at hyl3
  rw[ak,Int.toNat_natCast]at p3
  have p3:=p3.mono (b':=b+20) %[|0]
  have l3:=u3.len
  walk_at "b"
  rw[l3]
  refine aN ⟨PlI S k b pg m wh sg,⟨S3,[],[],_,_,_,_,_,_,_,by simp,u3,p3,rfl,(λ j n es _ h=>by simp at h),(λ l h=>nomatch h),rfl⟩,?_,?_⟩
  . rintro i e Γ' T he ⟨S4,p,J,o6,o7,o8,o9,o10,o11,o12,rfl,u4,p4,hpl,hpn,hJ,rfl⟩
    obtain⟨dn,hdn,rfl⟩:=FJ he
    obtain⟨n,hn,rfl⟩:=bK hdn
    have hil:=(y3.mp hn).1
    obtain⟨hL,d1,d4⟩:=hg.ns n (y6 hn)
    have dl:=hL.2.1
    have l4:=u4.len
    suffices body:∀Wf:DL.Fin,(∀G T,PlI S k b pg m wh sg (i+1) G T->Wf.nx G T)->(qy B Cq8 Cq6 Cq4).wp [some (.loc k),some (dPg pg),some (.int (m:Int)),some (.lst (wh.map .int)),some (.lst (sg.map .int)),%[|18],some (.int (i:Int)),some (dNs n),o8,o9,o10,o11,o12] (S4++([p.map dDs]++J)) Wf by
     refine⟨rfl,?_⟩
     simp only[setAll,List.set_cons_succ,List.set_cons_zero]
     exact body _ λ G T h=>h
    intro Wf hnx
    walk_at "b"
    rw[y8]
    refine⟨⟨%[|0],%[|0]⟩,?_⟩
    have eL:(S4++([p.map dDs]++J)).length=S.length+1+J.length:=by rw[List.length_append,List.length_append,l4];simp;omega
    rw[Int.toNat_natCast,yt,eL]
    refine aN ⟨DlI S k b pg m wh sg i p J n,⟨S4,[],[],_,_,_,_,by simp,u4,p4,rfl,(λ ls h=>nomatch h),(λ l h=>nomatch h),rfl⟩,?_,?_⟩
    . rintro j e Γ' T he ⟨S5,es,K,o9,o10,o11,o12,rfl,u5,p5,hel,hes,hK,rfl⟩
      obtain⟨j',hj',rfl⟩:=bK he
      have hjl:j<n.dds.length:=by simpa using(y3.mp hj').1
      obtain rfl:j'=j:=by rw[List.getElem?_range hjl]at hj';exact(Option.some.inj hj').symm
      have l5:=u5.len
      suffices body:∀Wg:DL.Fin,(∀G T,DlI S k b pg m wh sg i p J n (j'+1) G T->Wg.nx G T)->(qt B Cq8 Cq6 Cq4).wp [some (.loc k),some (dPg pg),some (.int (m:Int)),some (.lst (wh.map .int)),some (.lst (sg.map .int)),%[|18],some (.int (i:Int)),some (dNs n),some (.loc (S.length+1+J.length)),some (.int (j':Int)),o10,o11,o12] (S5++([p.map dDs]++J++[es.map dLs]++K)) Wg by
       refine yu ?_
       simp only[List.set_cons_succ,List.set_cons_zero]
       exact body _ λ G T h=>h
      intro Wg hng
      generalize hR:[p.map dDs]++J++[es.map dLs]++K=R
      have fR:flat R:=by
       rw[←hR]
       intro l h
       rcases ZK.mp h with h | h
       . rcases ZK.mp h with h | h
         . rcases ZK.mp h with h | h
           . rw[ZL.mp h];exact kI wA p
           . exact hJ l h
         . rw[ZL.mp h];exact kI nQ es
       . exact hK l h
      have eR:(S5++R).length=S.length+R.length:=by rw[List.length_append,l5]
      walk_at "b"
      rw[eR]
      rw[y8]
      refine⟨rfl,n.lps.length,i,j',rfl,%[|0],?_,?_⟩
      . intro l h
        rcases ZK.mp h with h | h
        . rcases ZK.mp h with h | h
          . exact u5.flat hS l h
          . exact fR l h
        . rw[ZL.mp h];rfl
      walk_at "b"
      refine⟨⟨%[|0],%[|0]⟩,?_⟩
      rw[Int.toNat_natCast,yt]
      refine aN ⟨LlI S k b pg m wh sg i R n (.loc (S.length+1+J.length)) j' (.lst ((eY i n.lps.length j').map dN)),⟨S5,[],_,by rw[List.append_assoc];rfl,u5,p5,rfl,(λ l h=>nomatch h),rfl⟩,?_,?_⟩
      . rintro q e Γ' T he ⟨S6,ls,o12,rfl,u6,p6,hll,hlk,rfl⟩
        obtain⟨q',hq',rfl⟩:=bK he
        have hql:q<m:=by simpa using(y3.mp hq').1
        obtain rfl:q'=q:=by rw[List.getElem?_range hql]at hq';exact(Option.some.inj hq').symm
        have l6:=u6.len
        have hwq:=y4 (l:=wh) (i:=q') %[|0]
        have hw0:=hwh _ (y6 hwq)
        have hsq:=y4 (l:=sg) (i:=q') %[|0]
        have hs0:=hsg _ (y6 hsq)
        generalize wh[q']'%[|0]=wv at hwq hw0
        generalize sg[q']'%[|0]=sv at hsq hs0
        walk_at "b"
        have fin:∀(S7:Store)(l:Ln),gF n.lps.length l->aH S k S7->aD S7 k (b+20+i*360+j'*90+q'*10+10)->∃ds,(S7++(R++[ls.map dLn]))[S.length+R.length]? =some ds/\ds.length<1000000/\LlI S k b pg m wh sg i R n (.loc (S.length+1+J.length)) j' (.lst ((eY i n.lps.length j').map dN)) (q'+1) [some (.loc k),some (dPg pg),some (.int (m:Int)),some (.lst (wh.map .int)),some (.lst (sg.map .int)),%[|18],some (.int (i:Int)),some (dNs n),some (.loc (S.length+1+J.length)),some (.int (j':Int)),some (.loc (S.length+R.length)),some (.lst ((eY i n.lps.length j').map dN)),some (.int (q':Int))] ((S7++(R++[ls.map dLn])).set (S.length+R.length) (ds++[dLn l])):=by
         intro S7 l hok u7 p7
         have l7:=u7.len
         refine⟨ls.map dLn,by rw[List.getElem?_append_right %[|0],show S.length+R.length-S7.length=R.length by omega];exact bw _ _,by rw[y8];omega,?_⟩
         rw[List.set_append_right _ _ %[|0],show S.length+R.length-S7.length=R.length by omega,bO]
         refine⟨S7,ls++[l],_,by rw[List.map_append];rfl,u7,p7.mono %[|0],by rw[List.length_append,hll];rfl,λ x hx=>?_,rfl⟩
         rcases ZK.mp hx with hx | hx
         . exact hlk x hx
         . rw[ZL.mp hx];exact hok
        have kl:∀g∈eY i n.lps.length j',g.length=n.lps.length+1:=λ g hg=>by
         simp only[eY,oU,List.mem_append,List.mem_cons,List.mem_map,List.not_mem_nil,or_false]at hg
         rcases hg with(rfl | ⟨q,_,rfl⟩) | rfl
         . simp[zer]
         . simp[cfm]
         . simp[zer]
        have ol:(eY i n.lps.length j').length=5:=by simp[eY,oU]
        refine⟨_,aX hwq,?_⟩
        walk_at "b"
        refine⟨λ c=>?_,λ c=>?_⟩
        . have c:=ZF c
          obtain⟨wn,rfl⟩:=Int.eq_ofNat_of_zero_le hw0.1
          have hk:=y4 (l:=eY i n.lps.length j') (i:=wn) %[|0]
          have kl':=kl _ (y6 hk)
          generalize (eY i n.lps.length j')[wn]'%[|0]=g at hk kl'
          walk_at "b"
          refine⟨_,aX hwq,?_⟩
          walk_at "b"
          refine⟨_,aX hk,?_⟩
          walk_at "b"
          refine dM (λ x=>D.int (sv*x)) %[|0] ?_ ?_
          . intro r x hr Q hQ
            walk_at "b"
            refine⟨_,aX hsq,?_⟩
            walk_at "b"
            exact hQ
          walk_at "b"
          have e2:D.tup [.str "form",.tup (g.map λ x=>D.int (sv*x))]=dLn (.fm (g.map λ x=>sv*x)):=by
           show _=D.tup [.str "form",.tup ((g.map λ x=>sv*x).map D.int)]
           rw[List.map_map]
           rfl
          rw[e2]
          exact fin S6 _ (by show(g.map _).length=_;rw[y8];exact kl') u6 (p6.mono %[|0])
        . have c:=of_decide_eq_false c
          walk_at "b"
          refine⟨_,aX hwq,?_⟩
          walk_at "b"
          refine⟨λ c2=>?_,λ c2=>?_⟩
          . have hk:=y4 (l:=eY i n.lps.length j') (i:=1+q' % 3) %[|0]
            have kl':=kl _ (y6 hk)
            generalize (eY i n.lps.length j')[1+q' % 3]'%[|0]=g at hk kl'
            have e1:(1:Int)+(q':Int) % 3=((1+q' % 3:Nat):Int):=%[|0]
            walk_at "b"
            rw[e1]
            refine⟨_,aX hk,?_⟩
            walk_at "b"
            rcases(show q' % 2=0∨q' % 2=1 by omega)with z | z
            . rw[show(q':Int) % 2=0 by omega]
              refine⟨_,rfl,?_⟩
              walk_at "b"
              exact fin S6 (.bk g 2) ⟨kl',%[|2],%[|2]⟩ u6 (p6.mono %[|0])
            . rw[show(q':Int) % 2=1 by omega]
              refine⟨_,rfl,?_⟩
              walk_at "b"
              exact fin S6 (.bk g 3) ⟨kl',%[|2],%[|2]⟩ u6 (p6.mono %[|0])
          . walk_at "b"
            rw[y8]
            refine⟨rfl,k,n.lps.length,_,rfl,p6.app _,%[|0],%[|0],λ l T hok u7 p7=>?_⟩
            obtain⟨S7,rfl,u7,p7⟩:=u7.split p6 p7
            walk_at "b"
            exact fin S7 l hok (u6.trans u7) (p7.mono %[|0])
      . rintro Γ' T ⟨S6,ls,o12,rfl,u6,p6,hll,hlk,rfl⟩
        rw[y8,List.length_range]at hll p6
        have l6:=u6.len
        walk_at "b"
        have og:∀(A X:Store)(x:Nat),A.length=S.length->(A++X)[S.length+x]? =X[x]?:=λ A X x hA=>by rw[List.getElem?_append_right %[|0],show S.length+x-A.length=x by omega]
        have os:∀(A X:Store)(x:Nat)(l:List D),A.length=S.length->(A++X).set (S.length+x) l=A++X.set x l:=λ A X x l hA=>by rw[List.set_append_right _ _ %[|0],show S.length+x-A.length=x by omega]
        refine⟨ls.map dLn,by rw[og _ _ _ l6];exact bw _ _,?_⟩
        have eX:R++[ls.map dLn]=([p.map dDs]++J)++[es.map dLs]++(K++[ls.map dLn]):=by rw[←hR];simp only[List.append_assoc]
        have eJ:1+J.length=([p.map dDs]++J).length:=by simp;omega
        rw[eX,Nat.add_assoc]
        refine⟨es.map dLs,by rw[og _ _ _ l6];exact uo eJ,by rw[y8];omega,?_⟩
        rw[os _ _ _ _ l6,Es eJ]
        refine hng _ _ ⟨S6,es++[ls],K++[ls.map dLn],_,_,_,_,by rw[List.map_append];simp only[List.append_assoc];rfl,u6,p6.mono %[|0],by rw[List.length_append,hel];rfl,λ x hx=>?_,?_,by rw[Nat.add_assoc]⟩
        . rcases ZK.mp hx with hx | hx
          . exact hes x hx
          . rw[ZL.mp hx];exact⟨hll,hlk⟩
        . intro l h
          rcases ZK.mp h with h | h
          . exact hK l h
          . rw[ZL.mp h];exact kI v5 ls
    . rintro Γ' T ⟨S5,es,K,o9,o10,o11,o12,rfl,u5,p5,hel,hes,hK,rfl⟩
      rw[y8,List.length_range]at hel p5
      have l5:=u5.len
      have og:∀(A X:Store)(x:Nat),A.length=S.length->(A++X)[S.length+x]? =X[x]?:=λ A X x hA=>by rw[List.getElem?_append_right %[|0],show S.length+x-A.length=x by omega]
      have eJ:1+J.length=([p.map dDs]++J).length:=by simp;omega
      walk_at "b"
      rw[Nat.add_assoc]
      refine⟨es.map dLs,by rw[og _ _ _ l5];exact uo eJ,?_⟩
      have eX:[p.map dDs]++J++[es.map dLs]++K=[p.map dDs]++(J++[es.map dLs]++K):=by simp only[List.append_assoc]
      rw[eX]
      have g0:(S5++([p.map dDs]++(J++[es.map dLs]++K)))[S.length]? =some (p.map dDs):=og S5 _ 0 l5
      refine⟨p.map dDs,g0,by rw[y8];omega,?_⟩
      rw[show S.length=S5.length from l5.symm,List.set_append_right _ _ (x6 _),Nat.sub_self,l5]
      refine hnx _ _ ⟨S5,p++[es],J++[es.map dLs]++K,_,_,_,_,_,_,_,by rw[List.map_append];rfl,u5,p5.mono %[|0],by rw[List.length_append,hpl];rfl,λ j2 n2 es2 hj h2=>?_,?_,rfl⟩
      . by_cases c:j2<p.length
        . rw[List.getElem?_append_left c]at h2
          exact hpn j2 n2 es2 hj h2
        . rw[List.getElem?_append_right %[|0]]at h2
          have c2:j2-p.length=0:=by
           have:=(y3.mp h2).1
           simp at this
           omega
          rw[c2]at h2
          cases h2
          have ej:j2=i:=%[|0]
          subst ej
          rw[hn]at hj
          cases hj
          exact⟨hel,hes⟩
      . intro l h
        rcases ZK.mp h with h | h
        . rcases ZK.mp h with h | h
          . exact hJ l h
          . rw[ZL.mp h];exact kI nQ es
        . exact hK l h
  . rintro Γ' T ⟨S4,p,J,o6,o7,o8,o9,o10,o11,o12,rfl,u4,p4,hpl,hpn,hJ,rfl⟩
    rw[List.length_mapIdx,y8]at hpl p4
    have l4:=u4.len
    have g0:(S4++([p.map dDs]++J))[S.length]? =some (p.map dDs):=by
     rw[List.getElem?_append_right %[|0],show S.length-S4.length=0 by omega];rfl
    have ok:cZ (pg.nss.map nd) m p:=by
     refine⟨by rw[y8];exact hpl,⟨m1,m9⟩,λ j x es hj he=>?_⟩
     obtain⟨n,hn,rfl⟩:=bK hj
     obtain⟨q1,q2⟩:=hpn j n es hn he
     exact⟨by rw[q1];exact(y8 ..).symm,λ ls hls=>by
      have:=q2 ls hls
      rw[show(nd n).1.length=n.lps.length from y8 ..]
      exact this⟩
    walk_at "b"
    refine⟨_,g0,?_⟩
    exact .inr ⟨[p.map dDs]++J,S4,rfl,%[|0],Ja p,u4.flat hS,hw m p S4 ok u4 (p4.mono %[|0]) (u4.flat hS)⟩
 have v8:v=0∨v=1∨v=2∨v=3∨v=4∨v=5∨v=6∨v=7:=%[|0]
 rcases v8 with rfl | rfl | rfl | rfl | rfl | rfl | rfl | rfl
 . exact⟨_,rfl,start 5 %[|2] %[|2]⟩
 . exact⟨_,rfl,start 5 %[|2] %[|2]⟩
 . exact⟨_,rfl,start 5 %[|2] %[|2]⟩
 . exact⟨_,rfl,start 1 %[|2] %[|2]⟩
 . exact⟨_,rfl,start 2 %[|2] %[|2]⟩
 . exact⟨_,rfl,start 4 %[|2] %[|2]⟩
 . exact⟨_,rfl,start 7 %[|2] %[|2]⟩
 . exact⟨_,rfl,start 9 %[|2] %[|2]⟩
theorem Kw(a b:CR):(ssC a b).isEmpty= !jL a b:=by
 rw[←Qt,Bool.not_not,←Rt]
 exact Ng (tch a b)
theorem Ir(xs:List CR)(i j:Nat):(tN xs i j=true->∃c,gG xs i j=[(i,j,c)])/\(tN xs i j=false->gG xs i j=[]):=by
 unfold tN gG
 cases xs[i]? with
 | none=>exact⟨λ h=>(by cases h),λ _=>rfl⟩
 | some a=>
   cases xs[j]? with
   | none=>exact⟨λ h=>(by cases h),λ _=>rfl⟩
   | some b=>
     refine⟨λ h=>?_,λ h=>?_⟩
     . have h:jL a b=true:=h
       exact⟨ssC a b,by show(if _ then _ else _)=_;rw[Kw,h];rfl⟩
     . have h:jL a b=false:=h
       show(if _ then _ else _)=_
       rw[Kw,h];rfl
theorem Gd(xs:List CR)(kz:List %[|3])(a:Nat):∀L:List (Nat×Nat),(((L.flatMap λ q=>gG xs q.1 q.2).find? λ r=>dW kz a r.1 r.2.1).map λ r=>(r.1,r.2.1))=L.find? (dI xs kz a)
 | []=>rfl
 | q ::L=>by
   have ih:=Gd xs kz a L
   rw[List.flatMap_cons,List.find?_append,List.find?_cons]
   cases h:tN xs q.1 q.2 with
   | false=>
     rw[(Ir xs q.1 q.2).2 h,List.find?_nil,Option.none_or]
     have e:dI xs kz a q=false:=by unfold dI;rw[h,Bool.and_false]
     rw[e]
     exact ih
   | true=>
     obtain⟨c,hc⟩:=(Ir xs q.1 q.2).1 h
     rw[hc,List.find?_cons,List.find?_nil]
     cases hb:dW kz a q.1 q.2 with
     | true=>
       have e:dI xs kz a q=true:=by unfold dI;rw[h,hb];rfl
       rw[e]
       rfl
     | false=>
       have e:dI xs kz a q=false:=by unfold dI;rw[hb,Bool.false_and]
       rw[e]
       show Option.map _ (Option.or none _)=_
       rw[Option.none_or]
       exact ih
theorem W0(xs:List CR):b8 xs xs.length=(cH xs.length xs.length).flatMap λ q=>gG xs q.1 q.2:=by
 unfold b8 cH
 rw[List.flatMap_assoc]
 congr 1
 funext i
 unfold fj dq
 rw[List.flatMap_map]
theorem Rh(xs:List CR)(kz:List %[|3])(a:Nat):(cH xs.length xs.length).find? (dI xs kz a)=lg kz a (b8 xs xs.length):=by
 unfold lg
 rw[W0,Gd]
theorem rR{α:Type}(l:List α)(i:Nat)(y:α)(h:i<l.length):(l.take i++[y]++l.drop (i+1))[i]? =some y/\∀j,j≠i->(l.take i++[y]++l.drop (i+1))[j]? =l[j]?:=by
 have ht:(l.take i).length=i:=by rw[List.length_take];omega
 refine⟨by rw[List.append_assoc,List.getElem?_append_right %[|0],ht,Nat.sub_self];rfl,λ j hj=>?_⟩
 rw[List.append_assoc]
 by_cases c:j<i
 . rw[List.getElem?_append_left %[|0],List.getElem?_take,if_pos c]
 . rw[List.getElem?_append_right %[|0],ht,List.getElem?_append_right (by simp;omega),List.getElem?_drop]
   congr 1
   simp
   omega
theorem iU{α:Type}{f:α->D}{l:List α}{d:D}(h:(l.map f)[i]? =some d):∃a,l[i]? =some a/\f a=d:=by
 obtain⟨a,h1,h2⟩:=bK h
 exact⟨a,h1,h2.symm⟩
def spD(p:Pn)(ni:Nat)(es:List (List Ln))(di:Nat)(y:D):D:=.tup ((p.map dDs).take ni++[.tup ((es.map dLs).take di++[y]++(es.map dLs).drop (di+1))]++(p.map dDs).drop (ni+1))
theorem Wy{nss:List Nd}{ni di:Nat}{p:Pn}{es:List (List Ln)}(hn:Nds nss)(hok:cZ nss m p)(h2:p[ni]? =some es)(hd:di<es.length)(y:D)
 (bad:∀d m' ls',y=dLs ls'->LsOk d m' ls'->nss[ni]?.map (λ n=>n.1.length)=some d->1≤m'->(m'=m∨(p.length=1/\es.length=1))->False):aW nss (spD p ni es di y)=false:=by
 cases h:aW nss (spD p ni es di y)with
 | false=>rfl
 | true =>
   exfalso
   obtain⟨m',p',e,hok'⟩:=FQ hn h
   have hni:=(y3.mp h2).1
   have e':=D.tup.inj e
   obtain⟨a1,a2⟩:=rR (p.map dDs) ni (.tup ((es.map dLs).take di++[y]++(es.map dLs).drop (di+1))) (by rw[y8];exact hni)
   rw[e']at a1
   obtain⟨es',g1,g2⟩:=iU a1
   have g2:=D.tup.inj g2
   obtain⟨b1,b2⟩:=rR (es.map dLs) di y (by rw[y8];exact hd)
   rw[←g2]at b1
   obtain⟨ls',k1,k2⟩:=iU b1
   have hl:=hok'.1
   have hl0:=hok.1
   have hN:=y4 (l:=nss) (i:=ni) %[|0]
   have hD:=hok'.2.2 ni _ es' hN g1
   have hD0:=hok.2.2 ni _ es hN h2
   refine bad _ m' ls' k2.symm (hD.2 ls' (y6 k1)) (by rw[hN];rfl) hok'.2.1.1 ?_
   have len:∀{l l':List Ln},dLs l=dLs l'->l.length=l'.length:=λ h=>by
    have:=congrArg List.length (D.tup.inj h)
    rw[y8,y8]at this
    exact this
   by_cases c:es.length=1
   . by_cases c2:p.length=1
     . exact .inr ⟨c2,c⟩
     . left
       obtain⟨nj,j1,j2⟩:∃nj,nj<p.length/\nj≠ni:=by
        by_cases z:ni=0
        . exact⟨1,%[|0],%[|0]⟩
        . exact⟨0,%[|0],λ q=>z q.symm⟩
       have q1:=a2 nj j2
       rw[e']at q1
       have pj:=y4 j1
       rw[x5 (l:=p),pj]at q1
       obtain⟨ej,r1,r2⟩:=iU q1
       have hNj:=y4 (l:=nss) (i:=nj) %[|0]
       have D1:=hok'.2.2 nj _ ej hNj r1
       have D2:=hok.2.2 nj _ _ hNj pj
       have t1:=(hn.2.2 _ (y6 hNj)).2.1
       have r2:=D.tup.inj r2
       have s1:=y4 (l:=ej) (i:=0) (by rw[D1.1];omega)
       have s2:=y4 (l:=p[nj]) (i:=0) (by rw[D2.1];omega)
       have:=congrArg (λ l:List D=>l[0]?) r2
       simp only[x5,s1,s2,Option.map_some]at this
       have:=len (Option.some.inj this)
       rw[(D1.2 _ (y6 s1)).1,(D2.2 _ (y6 s2)).1]at this
       exact this
   . left
     obtain⟨dj,j1,j2⟩:∃dj,dj<es.length/\dj≠di:=by
      by_cases z:di=0
      . exact⟨1,%[|0],%[|0]⟩
      . exact⟨0,%[|0],λ q=>z q.symm⟩
     have q1:=b2 dj j2
     rw[←g2]at q1
     have pj:=y4 j1
     rw[x5 (l:=es),pj]at q1
     obtain⟨lj,r1,r2⟩:=iU q1
     have:=len r2
     rw[(hD.2 lj (y6 r1)).1,(hD0.2 _ (y6 pj)).1]at this
     exact this
def Fq:Ct:=λ ds S W=>∃(k b:Nat) (nss:List Nd) (m:Nat) (p:Pn),ds=[.loc k,dPn p]/\aD S k b/\b≤100000/\Nds nss/\cZ nss m p/\∀x S',aW nss x=false->aH S k S'->aD S' k (b+4)->W x S'
theorem Bw(F:Fun Ω.K "_law_spoiled" "_law_spoiled" jt f fd)(N0:Ω.cd=none)(B:Bi Ω.mg)(Cq8:Cal Ω "_law_next" 2 2 cu):Ok Ω 3 f fd Dk Fq:=by
 refine aA N0 (N:=qz) F (Dj B Cq8) %[|9] ?_
 rintro ds S W ⟨k,b,nss,m,p,rfl,hp,hb,hn,hok,hw⟩ hl
 have hΓ:List.map some [D.loc k,dPn p]++List.replicate (qz.length-[D.loc k,dPn p].length) none=[some (.loc k),some (dPn p),none,none,none,none,none,none,none,none,none]:=rfl
 rw[hΓ]
 have hpl:=hok.1
 have n1:=hn.1
 have n3:=hn.2.1
 have m9:=hok.2.1
 walk_at "b"
 refine bx hp %[|0] %[|2] %[|2] λ way S1 w0 w1 u1 p1=>?_
 walk_at "b"
 rw[y8]
 refine bx p1 %[|0] %[|0] %[|0] λ nv S2 nv0 nv1 u2 p2=>?_
 have u2:=u1.trans u2
 obtain⟨ni,rfl⟩:=Int.eq_ofNat_of_zero_le nv0
 have g1:=y4 (l:=p) (i:=ni) %[|0]
 have gN:=y4 (l:=nss) (i:=ni) %[|0]
 have hD:=hok.2.2 ni _ _ gN g1
 have t4:=hn.2.2 _ (y6 gN)
 generalize hnn:nss[ni]'%[|0]=nn at gN hD t4
 generalize p[ni]'%[|0]=es at g1 hD
 have hel:=hD.1
 walk_at "b"
 refine⟨_,aX g1,?_⟩
 walk_at "b"
 rw[y8]
 refine bx p2 %[|0] %[|0] %[|0] λ dv S3 dv0 dv1 u3 p3=>?_
 have u3:=u2.trans u3
 obtain⟨di,rfl⟩:=Int.eq_ofNat_of_zero_le dv0
 have g2:=y4 (l:=es) (i:=di) %[|0]
 have hL:=hD.2 _ (y6 g2)
 generalize es[di]'%[|0]=ls at g2 hL
 have hll:=hL.1
 walk_at "b"
 refine⟨_,aX g1,?_⟩
 walk_at "b"
 refine⟨_,aX g2,?_⟩
 walk_at "b"
 rw[y8,hll]
 refine bx p3 %[|0] %[|0] %[|0] λ av S4 av0 av1 u4 p4=>?_
 have u4:=u3.trans u4
 obtain⟨ai,rfl⟩:=Int.eq_ofNat_of_zero_le av0
 have g3:=y4 (l:=ls) (i:=ai) %[|0]
 have hlk:=hL.2 _ (y6 g3)
 generalize ls[ai]'%[|0]=l at g3 hlk
 walk_at "b"
 refine⟨_,aX g3,?_⟩
 obtain⟨w,f,ec,hf⟩:∃w f,cutD (match dLn l with | .tup xs=>xs | _=>[]) none (some 2)=[.str w,dN f]/\f.length=nn.1.length+1:=by
  cases l with
  | fm f=>exact⟨"form",f,by rw[gf %[|2]];rfl,hlk⟩
  | bk f z=>exact⟨"block",f,by rw[gf %[|2]];rfl,hlk.1⟩
 have eT:dLn l=.tup (match dLn l with | .tup xs=>xs | _=>[]):=by cases l<;>rfl
 rw[eT]
 walk_at "b"
 rw[ec]
 refine⟨rfl,?_⟩
 walk_at "b"
 have ct:∀ds:List D,cutD ds none (some (ai:Int))=ds.take ai:=λ ds=>by rw[gf %[|0],Int.toNat_natCast]
 have cf1:∀ds:List D,cutD ds (some ((ai:Int)+1)) none=ds.drop (ai+1):=λ ds=>by rw[lN %[|0]];rfl
 have c1:∀ds:List D,cutD ds (some 1) none=ds.drop 1:=λ ds=>by rw[lN %[|2]];rfl
 have k1:=Gu (ls.map dLn) none (some (ai:Int))
 have k2:=Gu (ls.map dLn) (some ((ai:Int)+1)) none
 rw[y8]at k1 k2
 have l1:Nat.ble ((cutD (ls.map dLn) none (some (ai:Int))).length+1) 1000000=true:=Nat.ble_eq_true_of_le %[|0]
 have l2:∀X:D,Nat.ble ((cutD (ls.map dLn) none (some (ai:Int))++[X]).length+(cutD (ls.map dLn) (some ((ai:Int)+1)) none).length) 1000000=true:=λ X=>Nat.ble_eq_true_of_le (by rw[List.length_append];show _+1+_≤_;omega)
 clear k1 k2
 have g0:=y4 (l:=ls) (i:=0) %[|0]
 generalize ls[0]'%[|0]=l0 at g0
 have fin:∀(Ys:List D)(y:D),atI Ys way=some y->(∀m' ls',y=dLs ls'->LsOk nn.1.length m' ls'->1≤m'->(way<2->m'=m)->False)->(dh B Cq8).wp [some (.loc k),some (dPn p),some (.int way),some (.int (ni:Int)),some (.int (di:Int)),some (dLs ls),some (.int (ai:Int)),some (.str w),some (dN f),some (.lst Ys),none] S4 %[|25]:=by
  intro Ys y hy hbad
  have cd:∀ds:List D,cutD ds none (some (di:Int))=ds.take di:=λ ds=>by rw[gf %[|0],Int.toNat_natCast]
  have cd1:∀ds:List D,cutD ds (some ((di:Int)+1)) none=ds.drop (di+1):=λ ds=>by rw[lN %[|0]];rfl
  have cn:∀ds:List D,cutD ds none (some (ni:Int))=ds.take ni:=λ ds=>by rw[gf %[|0],Int.toNat_natCast]
  have cn1:∀ds:List D,cutD ds (some ((ni:Int)+1)) none=ds.drop (ni+1):=λ ds=>by rw[lN %[|0]];rfl
  have last:(way<2->¬(p.length=1/\es.length=1))->W (spD p ni es di y) S4:=λ hs=>hw _ S4 (Wy hn hok g1 %[|0] y λ d m' ls' e1 e2 e3 e4 e5=>by
   rw[gN]at e3
   have e3:nn.1.length=d:=Option.some.inj e3
   subst e3
   refine hbad m' ls' e1 e2 e4 λ c=>?_
   rcases e5 with e5 | e5
   . exact e5
   . exact absurd e5 (hs c)) u4 p4
  walk_at "b"
  refine⟨_,aX g1,?_⟩
  walk_at "b"
  refine⟨_,hy,?_⟩
  walk_at "b"
  rw[cd]
  refine⟨by rw[List.length_take];simp;omega,?_⟩
  walk_at "b"
  refine⟨_,aX g1,?_⟩
  walk_at "b"
  rw[cd1]
  refine⟨by rw[List.length_append,List.length_take,List.length_drop];simp;omega,?_⟩
  have gp:=y4 (l:=p) (i:=0) %[|0]
  have wl:(W (spD p ni es di y) S4)->(j6 B Cq8).wp [some (.loc k),some (dPn p),some (.int way),some (.int (ni:Int)),some (.int (di:Int)),some (dLs ls),some (.int (ai:Int)),some (.str w),some (dN f),some (.lst Ys),some (.tup ((es.map dLs).take di++[y]++(es.map dLs).drop (di+1)))] S4 %[|25]:=λ h=>by
   walk_at "b"
   rw[cn]
   refine⟨by rw[List.length_take];simp;omega,?_⟩
   walk_at "b"
   rw[cn1]
   refine⟨by rw[List.length_append,List.length_take,List.length_drop];simp;omega,?_⟩
   exact h
  have dbl:W (.tup (p.map dDs++p.map dDs)) S4:=hw _ S4 (by
   unfold aW
   have e:aM (.tup (p.map dDs++p.map dDs)) (nss.length:Int) (nss.length:Int)=false:=by
    show(decide _&&decide _)=false
    rw[List.length_append,y8,Bool.and_eq_false_iff]
    right
    exact ZH %[|0]
   rw[e];rfl) u4 p4
  walk_at "b"
  refine⟨λ c=>?_,λ c=>?_⟩
  . have c:=ZF c
    walk_at "b"
    rw[y8]
    refine⟨λ c2=>?_,λ c2=>⟨λ z=>ff z,λ _=>wl (last λ _ z=>absurd (show(p.length:Int)=1 by omega) (of_decide_eq_false c2))⟩⟩
    have c2:=ZF c2
    obtain rfl:ni=0:=%[|0]
    walk_at "b"
    refine⟨_,aX (i:=0) g1,?_⟩
    walk_at "b"
    rw[y8]
    refine⟨λ c3=>?_,λ c3=>wl (last λ _ z=>absurd (show(es.length:Int)=1 by omega) (of_decide_eq_false c3))⟩
    walk_at "b"
    exact dbl
  . exact⟨λ z=>ff z,λ _=>wl (last λ z=>absurd z (of_decide_eq_false c))⟩
 have mid:∀(X:D)(m':Nat)(ls':List Ln),D.tup (cutD (ls.map dLn) none (some (ai:Int))++[X]++cutD (ls.map dLn) (some ((ai:Int)+1)) none)=dLs ls'->LsOk nn.1.length m' ls'->∃l',dLn l'=X/\gF nn.1.length l':=λ X m' ls' e hls=>by
  rw[ct,cf1]at e
  have e':=D.tup.inj e
  obtain⟨a1,_⟩:=rR (ls.map dLn) ai X (by rw[y8];omega)
  rw[e']at a1
  obtain⟨l',g,q⟩:=iU a1
  exact⟨l',q,hls.2 l' (y6 g)⟩
 have len:∀(A:List D)(m':Nat)(ls':List Ln),D.tup A=dLs ls'->LsOk nn.1.length m' ls'->A.length=m':=λ A m' ls' e hls=>by
  have:=congrArg List.length (D.tup.inj e)
  rw[y8,hls.1]at this
  exact this
 have h10:∀A:List D,Nat.ble A.length 100=true->(dh B Cq8).wp [some (.loc k),some (dPn p),some (.int way),some (.int (ni:Int)),some (.int (di:Int)),some (dLs ls),some (.int (ai:Int)),some (.str w),some (dN f),some (.lst (A++[(.tup (cutD (ls.map dLn) none (some (ai:Int))++[.tup [.str "form",dN f,.int 1]]++cutD (ls.map dLn) (some ((ai:Int)+1)) none))])),none] S4 %[|25]->(fW B Cq8).wp [some (.loc k),some (dPn p),some (.int way),some (.int (ni:Int)),some (.int (di:Int)),some (dLs ls),some (.int (ai:Int)),some (.str w),some (dN f),some (.lst A),none] S4 %[|25]:=by
  intro A hA h
  walk_at "b"
  refine⟨Nat.le_of_ble_eq_true l1,?_⟩
  walk_at "b"
  refine⟨Nat.le_of_ble_eq_true (l2 _),?_⟩
  walk_at "b"
  simp only[List.set_cons_succ,List.set_cons_zero]
  exact⟨by have:=Nat.le_of_ble_eq_true hA;simp only[List.length_cons,List.length_nil];omega,h⟩
 have h9:∀A:List D,Nat.ble A.length 100=true->(fW B Cq8).wp [some (.loc k),some (dPn p),some (.int way),some (.int (ni:Int)),some (.int (di:Int)),some (dLs ls),some (.int (ai:Int)),some (.str w),some (dN f),some (.lst (A++[(.tup (cutD (ls.map dLn) none (some (ai:Int))++[.tup [.str "Form",dN f]]++cutD (ls.map dLn) (some ((ai:Int)+1)) none)),.tup []])),none] S4 %[|25]->(gC B Cq8).wp [some (.loc k),some (dPn p),some (.int way),some (.int (ni:Int)),some (.int (di:Int)),some (dLs ls),some (.int (ai:Int)),some (.str w),some (dN f),some (.lst A),none] S4 %[|25]:=by
  intro A hA h
  walk_at "b"
  refine⟨Nat.le_of_ble_eq_true l1,?_⟩
  walk_at "b"
  refine⟨Nat.le_of_ble_eq_true (l2 _),?_⟩
  walk_at "b"
  simp only[List.set_cons_succ,List.set_cons_zero]
  exact⟨by have:=Nat.le_of_ble_eq_true hA;simp only[List.length_cons,List.length_nil];omega,h⟩
 have h8:∀A:List D,Nat.ble A.length 100=true->(gC B Cq8).wp [some (.loc k),some (dPn p),some (.int way),some (.int (ni:Int)),some (.int (di:Int)),some (dLs ls),some (.int (ai:Int)),some (.str w),some (dN f),some (.lst (A++[(.tup (cutD (ls.map dLn) none (some (ai:Int))++[.tup [.str "block",dN f,.int 100]]++cutD (ls.map dLn) (some ((ai:Int)+1)) none)),.lst (ls.map dLn)])),none] S4 %[|25]->(gw B Cq8).wp [some (.loc k),some (dPn p),some (.int way),some (.int (ni:Int)),some (.int (di:Int)),some (dLs ls),some (.int (ai:Int)),some (.str w),some (dN f),some (.lst A),none] S4 %[|25]:=by
  intro A hA h
  walk_at "b"
  refine⟨Nat.le_of_ble_eq_true l1,?_⟩
  walk_at "b"
  refine⟨Nat.le_of_ble_eq_true (l2 _),?_⟩
  walk_at "b"
  simp only[List.set_cons_succ,List.set_cons_zero]
  exact⟨by have:=Nat.le_of_ble_eq_true hA;simp only[List.length_cons,List.length_nil];omega,h⟩
 have h7:∀A:List D,Nat.ble A.length 100=true->(gw B Cq8).wp [some (.loc k),some (dPn p),some (.int way),some (.int (ni:Int)),some (.int (di:Int)),some (dLs ls),some (.int (ai:Int)),some (.str w),some (dN f),some (.lst (A++[(.tup (cutD (ls.map dLn) none (some (ai:Int))++[.tup [.str "block",dN f,.int 0]]++cutD (ls.map dLn) (some ((ai:Int)+1)) none))])),none] S4 %[|25]->(lZ B Cq8).wp [some (.loc k),some (dPn p),some (.int way),some (.int (ni:Int)),some (.int (di:Int)),some (dLs ls),some (.int (ai:Int)),some (.str w),some (dN f),some (.lst A),none] S4 %[|25]:=by
  intro A hA h
  walk_at "b"
  refine⟨Nat.le_of_ble_eq_true l1,?_⟩
  walk_at "b"
  refine⟨Nat.le_of_ble_eq_true (l2 _),?_⟩
  walk_at "b"
  simp only[List.set_cons_succ,List.set_cons_zero]
  exact⟨by have:=Nat.le_of_ble_eq_true hA;simp only[List.length_cons,List.length_nil];omega,h⟩
 have key:(dh B Cq8).wp [some (.loc k),some (dPn p),some (.int way),some (.int (ni:Int)),some (.int (di:Int)),some (dLs ls),some (.int (ai:Int)),some (.str w),some (dN f),some (.lst ((((([(.tup (ls.map dLn++[dLn l0])),(.tup (cutD (ls.map dLn) (some 1) none)),(.tup (cutD (ls.map dLn) none (some (ai:Int))++[.tup [.str "form",.tup (f.map D.int++[.int 0])]]++cutD (ls.map dLn) (some ((ai:Int)+1)) none))]:List D)++[(.tup (cutD (ls.map dLn) none (some (ai:Int))++[.tup [.str "block",dN f,.int 0]]++cutD (ls.map dLn) (some ((ai:Int)+1)) none))])++[(.tup (cutD (ls.map dLn) none (some (ai:Int))++[.tup [.str "block",dN f,.int 100]]++cutD (ls.map dLn) (some ((ai:Int)+1)) none)),(.lst (ls.map dLn))])++[(.tup (cutD (ls.map dLn) none (some (ai:Int))++[.tup [.str "Form",dN f]]++cutD (ls.map dLn) (some ((ai:Int)+1)) none)),.tup []])++[(.tup (cutD (ls.map dLn) none (some (ai:Int))++[.tup [.str "form",dN f,.int 1]]++cutD (ls.map dLn) (some ((ai:Int)+1)) none))])),none] S4 %[|25]:=by
  have w9:way=0∨way=1∨way=2∨way=3∨way=4∨way=5∨way=6∨way=7∨way=8:=%[|0]
  rcases w9 with rfl | rfl | rfl | rfl | rfl | rfl | rfl | rfl | rfl
  . exact fin _ (.tup (ls.map dLn++[dLn l0])) rfl λ m' ls' e1 e2 e3 e4=>by
     have h1:=len _ m' ls' e1 e2
     have h2:=e4 %[|2]
     simp only[List.length_append,y8,List.length_drop,List.length_cons,List.length_nil]at h1
     omega
  . exact fin _ (.tup (cutD (ls.map dLn) (some 1) none)) rfl λ m' ls' e1 e2 e3 e4=>by
     have h1:=len _ m' ls' e1 e2
     have h2:=e4 %[|2]
     rw[c1]at h1
     simp only[List.length_append,y8,List.length_drop,List.length_cons,List.length_nil]at h1
     omega
  . exact fin _ (.tup (cutD (ls.map dLn) none (some (ai:Int))++[.tup [.str "form",.tup (f.map D.int++[.int 0])]]++cutD (ls.map dLn) (some ((ai:Int)+1)) none)) rfl λ m' ls' e1 e2 e3 e4=>by
     obtain⟨l',q,hq⟩:=mid _ m' ls' e1 e2
     cases l' with
     | fm g=>
       have hq:g.length=nn.1.length+1:=hq
       have:=congrArg List.length (D.tup.inj (List.cons.inj (List.cons.inj (D.tup.inj q)).2).1)
       simp at this
       omega
     | bk g z=>exact nomatch (List.cons.inj (List.cons.inj (D.tup.inj q)).2).2
  . exact fin _ (.tup (cutD (ls.map dLn) none (some (ai:Int))++[.tup [.str "block",dN f,.int 0]]++cutD (ls.map dLn) (some ((ai:Int)+1)) none)) rfl λ m' ls' e1 e2 e3 e4=>by
     obtain⟨l',q,hq⟩:=mid _ m' ls' e1 e2
     cases l' with
     | fm g=>exact nomatch (List.cons.inj (List.cons.inj (D.tup.inj q)).2).2
     | bk g z=>
       have:=D.int.inj (List.cons.inj (List.cons.inj (List.cons.inj (D.tup.inj q)).2).2).1
       have:=hq.2.1
       omega
  . exact fin _ (.tup (cutD (ls.map dLn) none (some (ai:Int))++[.tup [.str "block",dN f,.int 100]]++cutD (ls.map dLn) (some ((ai:Int)+1)) none)) rfl λ m' ls' e1 e2 e3 e4=>by
     obtain⟨l',q,hq⟩:=mid _ m' ls' e1 e2
     cases l' with
     | fm g=>exact nomatch (List.cons.inj (List.cons.inj (D.tup.inj q)).2).2
     | bk g z=>
       have:=D.int.inj (List.cons.inj (List.cons.inj (List.cons.inj (D.tup.inj q)).2).2).1
       have:=hq.2.2
       omega
  . exact fin _ (.lst (ls.map dLn)) rfl λ m' ls' e1 e2 e3 e4=>by
     exact D.noConfusion e1
  . exact fin _ (.tup (cutD (ls.map dLn) none (some (ai:Int))++[.tup [.str "Form",dN f]]++cutD (ls.map dLn) (some ((ai:Int)+1)) none)) rfl λ m' ls' e1 e2 e3 e4=>by
     obtain⟨l',q,hq⟩:=mid _ m' ls' e1 e2
     cases l' with
     | fm g=>exact absurd (D.str.inj (List.cons.inj (D.tup.inj q)).1) %[|2]
     | bk g z=>exact nomatch (List.cons.inj (List.cons.inj (D.tup.inj q)).2).2
  . exact fin _ (.tup []) rfl λ m' ls' e1 e2 e3 e4=>by
     have:=len _ m' ls' e1 e2
     simp at this
     omega
  . exact fin _ (.tup (cutD (ls.map dLn) none (some (ai:Int))++[.tup [.str "form",dN f,.int 1]]++cutD (ls.map dLn) (some ((ai:Int)+1)) none)) rfl λ m' ls' e1 e2 e3 e4=>by
     obtain⟨l',q,hq⟩:=mid _ m' ls' e1 e2
     cases l' with
     | fm g=>exact nomatch (List.cons.inj (List.cons.inj (D.tup.inj q)).2).2
     | bk g z=>exact absurd (D.str.inj (List.cons.inj (D.tup.inj q)).1) %[|2]
 refine⟨_,aX (i:=0) g0,?_⟩
 walk_at "b"
 refine⟨Nat.le_of_ble_eq_true l1,?_⟩
 walk_at "b"
 refine⟨Nat.le_of_ble_eq_true (l2 _),?_⟩
 walk_at "n"
 refine⟨by simp,?_⟩
 simp only[List.set_cons_succ,List.set_cons_zero,setAll]
 refine h7 _ ?_ ?_
 . simp only[List.length_append,List.length_cons,List.length_nil];rfl
 refine h8 _ ?_ ?_
 . simp only[List.length_append,List.length_cons,List.length_nil];rfl
 refine h9 _ ?_ ?_
 . simp only[List.length_append,List.length_cons,List.length_nil];rfl
 refine h10 _ ?_ ?_
 . simp only[List.length_append,List.length_cons,List.length_nil];rfl
 exact key
theorem Tw{p:Pg}(h:PgB 0 p)(h60:many p.nss≤60):PgS p:=⟨h.2.1,h.2.2.1,λ n hn=>⟨(h.2.2.2 n hn).1,(h.2.2.2 n hn).2.1,(h.2.2.2 n hn).2.2.1⟩,h60⟩
theorem CN(kz:List %[|3]):aa (kz.map dN)=true:=by
 induction kz with
 | nil=>rfl
 | cons a kz ih=>
   have h:au (dN a)=true:=fX a
   simp only[List.map_cons,aa,ih,h,Bool.and_true]
theorem PL{p:Pg}(hP:PgB m p):∀z∈bf p,z.1.rds.length≤1000:=by
 intro z hm
 obtain⟨n,hn,hm⟩:=List.mem_flatMap.mp hm
 obtain⟨cs,_,hm⟩:=List.mem_flatMap.mp hm
 obtain⟨x,hx,hm⟩:=ZO.mp hm
 rw[←hm]
 exact((hP.deeds n hn).2 x hx).2.1
theorem Fe{p:Pn}{s:Stp}{es:List (List Ln)}{ls:List Ln}(he:p[s.1]? =some es)(hs:es[s.2.2]? =some ls):fU p s=lK s.2.1 ls:=by
 unfold fU
 rw[show p.getD s.1 []=es from by rw[List.getD,he];rfl,show es.getD s.2.2 []=ls from by rw[List.getD,hs];rfl]
def LwA(ns:%[|3])(pg:Pg)(p:Pn)(S2:Store)(i:Nat)(Γ':Gam)(T:Store):Prop:=∃o6 o7 o8,Γ'=[some (.lst (ns.map D.int)),some (.loc 0),some (dPg pg),some (dPn p),some (.lst (((bf pg).map crs).map dCR)),some (.loc S2.length),o6,o7,o8,none,none,none]/\T=S2++[(((aB pg.nss).take i).map (fU p)).map dN]
def LwB(ns:%[|3])(pg:Pg)(p:Pn)(m l:Nat)(S2:Store)(_i:Nat)(Γ':Gam)(T:Store):Prop:=∃o6 o7 o8 o10,Γ'=[some (.lst (ns.map D.int)),some (.loc 0),some (dPg pg),some (dPn p),some (.lst (((bf pg).map crs).map dCR)),some (.loc l),o6,o7,o8,some (.int (m:Int)),o10,none]/\T=S2++[(kzP pg p).map dN]
theorem U6(F:Fun Ω.K "law" "law" kO f fd)(N0:Ω.cd=none)(B:Bi Ω.mg)(Cq57:Cal Ω "steps_of" 4 1 gR)(Cq20:Cal Ω "cells_of" 5 1 jk)(Cq8:Cal Ω "_law_next" 2 2 cu)(Cq9:Cal Ω "_law_pen" 2 1 K4)(Cq12:Cal Ω "_law_program" 11 1 Fp)(Cq11:Cal Ω "_law_plan" 4 2 yE)(Cq14:Cal Ω "_law_spoiled" 3 2 Fq)(Cq0:Cal Ω "_law_came" 2 2 Jq)(Cq5:Cal Ω "_law_due" 2 3 Ey)(Cq17:Cal Ω "_law_word" 10 3 lw)(Cq13:Cal Ω "_law_says" 10 4 Jx):Ok Ω 12 f fd Qj pG:=by
 refine aA N0 (N:=V6) F (WK B Cq57 Cq20 Cq8 Cq9 Cq12 Cq11 Cq14 Cq0 Cq5 Cq17 Cq13) %[|9] ?_
 rintro ds S W ⟨ns,rfl,hlen,hw,rfl⟩ hl
 walk_at "b"
 refine⟨rfl,ns,rfl,λ c d=>?_⟩
 have hS:flat ([]++[iZ ns 0 c d]):=λ l hl=>by rw[ZL.mp hl];exact qG ..
 have p0:aD ([]++[iZ ns 0 c d]) 0 0:=⟨ns,0,c,d,rfl,%[|2],%[|2]⟩
 generalize ([]++[iZ ns 0 c d]:Store)=S at hS p0 ⊢
 walk_at "b"
 refine⟨rfl,0,0,rfl,p0,%[|2],hS,λ pg S1 hP h60 u1 p1=>?_⟩
 have hg:=Tw hP h60
 have f1:=u1.flat hS
 walk_at "b"
 refine⟨rfl,0,1000,pg,rfl,p1,%[|2],hg,f1,λ m p S2 hok u2 p2 f2=>?_⟩
 have m9:=hok.2.1
 have eC:(aB pg.nss).map (dU pg)=((bf pg).map crs).map dCR:=by rw[nY,List.map_map];rfl
 have hXL:((bf pg).map crs).length=(bf pg).length:=y8 _
 walk_at "b"
 refine⟨rfl,wD hP h60 f2 ?_⟩
 rw[eC]
 walk_at "b"
 refine⟨rfl,Lk hP h60 ?_ (.inl ?_)⟩
 . intro l hl
   rcases ZK.mp hl with hl | hl
   . exact f2 l hl
   . rw[ZL.mp hl];rfl
 have hl60:=hg.len
 have hkl:(kzP pg p).length=((bf pg).map crs).length:=by
  unfold kzP
  rw[y8,hXL,←y8 (f:=dU pg),eC,y8,hXL]
 have hkm:∀u∈kzP pg p,u.length=m:=λ u hu=>by
  obtain⟨s,hs,rfl⟩:=ZO.mp hu
  obtain⟨n,es,ls,_,h3,_,e1,_,e2,hL⟩:=gJ hg hok hs
  rw[Fe e1 e2]
  unfold lK
  rw[y8]
  exact hL.1
 have hx:∀x∈(bf pg).map crs,x.2.length≤1000:=λ x hx=>by
  obtain⟨z,hz,rfl⟩:=ZO.mp hx
  show(z.1.rds.map _).length≤1000
  rw[y8]
  exact PL hP z hz
 refine aN ⟨LwA ns pg p S2,⟨_,_,_,rfl,rfl⟩,?_,?_⟩
 . rintro i e Γ' T he ⟨o6,o7,o8,rfl,rfl⟩
   obtain⟨s,hs,rfl⟩:=bK he
   have hm:=y6 hs
   have hi:=(y3.mp hs).1
   obtain⟨n,es,ls,_,h3,_,e1,_,e2,hL⟩:=gJ hg hok hm
   have c64:=hg.c64 hm
   have ek:=Fe e1 e2
   have et:(((aB pg.nss).take i).map (fU p)).map dN++[dN (fU p s)]=(((aB pg.nss).take (i+1)).map (fU p)).map dN:=by
    rw[aV hs,List.map_append,List.map_append];rfl
   obtain⟨i',cs,j'⟩:=s
   refine⟨rfl,?_⟩
   walk_at "b"
   refine⟨_,aX e1,?_⟩
   walk_at "b"
   refine⟨_,aX e2,?_⟩
   walk_at "b"
   refine dM (λ l=>.int (qX cs l)) (by have:=hL.1;omega) ?_ ?_
   . intro q l hq Q hQ
     walk_at "b"
     exact⟨rfl,l,cs,n.lps.length,rfl,hL.2 l (y6 hq),%[|0],c64,hQ⟩
   walk_at "b"
   have e2:dN (fU p (i',cs,j'))=.tup (ls.map λ l=>.int (qX cs l)):=by rw[ek];unfold dN lK;rw[List.map_map];rfl
   rw[←e2]
   refine⟨_,at1 rfl,by simp;omega,?_⟩
   rw[Ms rfl,et]
   exact⟨_,_,_,rfl,rfl⟩
 rintro Γ' T ⟨o6,o7,o8,rfl,rfl⟩
 rw[y8,List.take_length]
 obtain⟨es,ls,g1,g2,g3⟩:=(show Pl (pg.nss.map nd) m p S2 from⟨hg.nds,hok,f2⟩).first
 have fT:∀S',flat S'->flat (S'++[(kzP pg p).map dN]):=λ S' h l hl=>by
  rcases ZK.mp hl with hl | hl
  . exact h l hl
  . rw[ZL.mp hl];exact CN _
 walk_at "b"
 refine⟨_,aX (i:=0) g1,?_⟩
 walk_at "b"
 refine⟨_,aX (i:=0) g2,?_⟩
 walk_at "b"
 rw[y8,g3]
 refine⟨⟨%[|0],%[|0]⟩,aN ⟨LwB ns pg p m S2.length S2,⟨_,_,_,_,rfl,rfl⟩,?_,?_⟩⟩
 . rintro i e Γ' T he ⟨o6,o7,o8,o10,rfl,rfl⟩
   obtain⟨hi,rfl⟩:=aJ he
   rw[show(0:Int)+(i:Int)=(i:Int)from %[|0]]
   refine yu ?_
   simp only[List.set_cons_succ,List.set_cons_zero]
   walk_at "b"
   refine⟨rfl,(bf pg).map crs,kzP pg p,i,S2.length,m,rfl,at1 rfl,hkl,by rw[←hkl];unfold kzP;rw[y8];omega,hkm,%[|0],hx,?_⟩
   rw[Rh,show b8 ((bf pg).map crs) ((bf pg).map crs).length=zP pg from by unfold zP;rw[y8]]
   walk_at "b"
   refine⟨rfl,pg,m,p,i,rfl,hP,hg,h60,fT _ f2,hok,%[|0],?_⟩
   walk_at "b"
   exact⟨_,_,_,_,rfl,rfl⟩
 rintro Γ' T ⟨o6,o7,o8,o10,rfl,rfl⟩
 walk_at "b"
 refine bD p2 %[|0] %[|2] %[|2] λ v S3 v0 v1 u3 p3=>?_
 have f3:=fT _ (u3.flat f2)
 have bad:∀a:Int,¬(0≤a/\a<(m:Int))->∀{W':WD},W' (.str "turn") (S3++[(kzP pg p).map dN])->lw [dPg pg,dPn p,.int a] (S3++[(kzP pg p).map dN]) W':=λ a h W' w=>⟨pg,dPn p,a,"turn",rfl,hP,hg,h60,f3,.inr ⟨m,p,rfl,hok,h,rfl⟩,w⟩
 walk_at "b"
 refine aN ⟨LwB ns pg p m S2.length S3,⟨_,_,_,_,rfl,rfl⟩,?_,?_⟩
 . rintro i e Γ' T he ⟨o6,o7,o8,o10,rfl,rfl⟩
   obtain⟨a,rfl,ha⟩:∃a:Int,e=.int a/\¬(0≤a/\a<(m:Int)):=by
    match i,he with
    | 0,he=>cases he;exact⟨_,rfl,%[|0]⟩
    | 1,he=>cases he;exact⟨_,rfl,%[|0]⟩
    | 2,he=>cases he;exact⟨_,rfl,%[|0]⟩
    | 3,he=>cases he;exact⟨_,rfl,λ h=>absurd h.1 %[|2]⟩
    | i+4,he=>cases he
   refine yu ?_
   simp only[List.set_cons_succ,List.set_cons_zero]
   walk_at "b"
   refine⟨rfl,bad a ha ?_⟩
   walk_at "b"
   refine RX rfl %[|2] ?_
   walk_at "b"
   exact⟨_,_,_,_,rfl,rfl⟩
 rintro Γ' T ⟨o6,o7,o8,o10,rfl,rfl⟩
 walk_at "b"
 refine⟨rfl,0,_,pg.nss.map nd,m,p,rfl,p3.app _,%[|0],hg.nds,hok,λ x S4 hx' u4 p4=>?_⟩
 have f4:=u4.flat f3
 have two:∀(a:Int){W':WD},W' (.str "plan") S4->lw [dPg pg,x,.int a] S4 W':=λ a W' w=>⟨pg,x,a,"plan",rfl,hP,hg,h60,f4,.inl ⟨hx',rfl⟩,w⟩
 walk_at "b"
 refine⟨rfl,two _ ?_⟩
 walk_at "b"
 refine iw ?_
 walk_at "b"
 refine⟨rfl,two _ ?_⟩
 walk_at "b"
 refine iw ?_
 walk_at "b"
 exact hw _
end K44
namespace K44
open PySem PySem.Spec L2 DL RF XE
open PyProof.Rows
variable {Ω : Wd} {f : Addr} {fd : FuncData}
theorem by1{G:%[|7]->Prop}(h:∀a0:Value,G [a0])(us:%[|7])(e:us.length=1):G us:=by
 obtain⟨a0,us,rfl⟩:=List.exists_cons_of_length_eq_add_one e
 replace e:=Nat.succ.inj e
 obtain rfl:=List.eq_nil_of_length_eq_zero e
 exact h a0
theorem by2{G:%[|7]->Prop}(h:∀a0 a1:Value,G [a0,a1])(us:%[|7])(e:us.length=2):G us:=by
 obtain⟨a0,us,rfl⟩:=List.exists_cons_of_length_eq_add_one e
 replace e:=Nat.succ.inj e
 obtain⟨a1,us,rfl⟩:=List.exists_cons_of_length_eq_add_one e
 replace e:=Nat.succ.inj e
 obtain rfl:=List.eq_nil_of_length_eq_zero e
 exact h a0 a1
theorem by3{G:%[|7]->Prop}(h:∀a0 a1 a2:Value,G [a0,a1,a2])(us:%[|7])(e:us.length=3):G us:=by
 obtain⟨a0,us,rfl⟩:=List.exists_cons_of_length_eq_add_one e
 replace e:=Nat.succ.inj e
 obtain⟨a1,us,rfl⟩:=List.exists_cons_of_length_eq_add_one e
 replace e:=Nat.succ.inj e
 obtain⟨a2,us,rfl⟩:=List.exists_cons_of_length_eq_add_one e
 replace e:=Nat.succ.inj e
 obtain rfl:=List.eq_nil_of_length_eq_zero e
 exact h a0 a1 a2
theorem by4{G:%[|7]->Prop}(h:∀a0 a1 a2 a3:Value,G [a0,a1,a2,a3])(us:%[|7])(e:us.length=4):G us:=by
 obtain⟨a0,us,rfl⟩:=List.exists_cons_of_length_eq_add_one e
 replace e:=Nat.succ.inj e
 obtain⟨a1,us,rfl⟩:=List.exists_cons_of_length_eq_add_one e
 replace e:=Nat.succ.inj e
 obtain⟨a2,us,rfl⟩:=List.exists_cons_of_length_eq_add_one e
 replace e:=Nat.succ.inj e
 obtain⟨a3,us,rfl⟩:=List.exists_cons_of_length_eq_add_one e
 replace e:=Nat.succ.inj e
 obtain rfl:=List.eq_nil_of_length_eq_zero e
 exact h a0 a1 a2 a3
def FI(K:PySem.W.Frag)(x:Str)(t:Stmt):Prop:=∃(f:Addr) (oc:Value) (od:Option Addr) (kV dc pm:Value) (an:Option Addr) (cd ct:Value) (sl:Array %[|27]),PySem.W.nsIn K mainGlobals x=some (some (.ref f))/\K.lookup f=some ⟨oc,od,.func (PySem.W.fnOf x x (fL t) (bM t) (aq t) .none kV dc pm an cd ct),sl⟩/\PySem.W.codeIn K cd x=true/\PySem.W.keepIn K (.ref f)=true
theorem FI.mk{K:PySem.W.Frag}{x:Str}{t:Stmt}{f:Addr}{oc:Value}{od:Option Addr}{kV dc pm:Value}{an:Option Addr}{cd ct:Value}{sl:Array %[|27]}(a:PySem.W.nsIn K mainGlobals x=some (some (.ref f)))(l:K.lookup f=some ⟨oc,od,.func (PySem.W.fnOf x x (fL t) (bM t) (aq t) .none kV dc pm an cd ct),sl⟩)(c:PySem.W.codeIn K cd x=true)(k:PySem.W.keepIn K (.ref f)=true):FI K x t:=⟨f,oc,od,kV,dc,pm,an,cd,ct,sl,a,l,c,k⟩
abbrev FU(Ω:Wd)(x:Str)(t:Stmt):Prop:=∃f fd,Fun Ω.K x x t f fd/\Ω.mg x=some (.ref f)
theorem FI.use{Ω:Wd}{h:Heap}{x:Str}{t:Stmt}(X:Ω.K.In h)(G:h.Ns mainGlobals Ω.mg)(q:FI Ω.K x t):FU Ω x t:=by
 obtain⟨f,oc,od,kV,dc,pm,an,cd,ct,sl,a,l,c,k⟩:=q
 exact⟨f,_,JF (st:=t) l c k,PySem.W.mg_of X G a⟩
theorem U8{Ω:Wd}(B:Bi Ω.mg)(E:ExF Ω.mg Ω.K XL XT)
(u0:FU Ω "comes_to" il)
(u1:FU Ω "with_next_count" cN)
(u2:FU Ω "counts_of" gA)
(u3:FU Ω "steps_of" ir)
(u4:FU Ω "deed_of" jM)
(u5:FU Ω "cell_at" jl)
(u6:FU Ω "cells_of_step" dD)
(u7:FU Ω "cells_of" iD)
(u8:FU Ω "_law_cell" rK)
(u9:FU Ω "_law_next" rN)
(u10:FU Ω "_law_pen" uW)
(u11:FU Ω "is_whole" iG)
(u12:FU Ω "is_tuple_of" eV)
(u13:FU Ω "is_widths" gB)
(u14:FU Ω "is_form" jJ)
(u15:FU Ω "is_bound" iK)
(u16:FU Ω "is_loop" ju)
(u17:FU Ω "is_loops" iJ)
(u18:FU Ω "has_few_figures" cP)
(u19:FU Ω "is_start" gZ)
(u20:FU Ω "is_place_form" dG)
(u21:FU Ω "is_table_with_place" bW)
(u22:FU Ω "is_read" jr)
(u23:FU Ω "is_reads" iY)
(u24:FU Ω "is_deed" jw)
(u25:FU Ω "is_nest" jx)
(u26:FU Ω "is_nests" iQ)
(u27:FU Ω "number_of_steps" cO)
(u28:FU Ω "program_of" fV)
(u29:FU Ω "_law_loops" oM)
(u30:FU Ω "_law_value" oh)
(u31:FU Ω "_law_count" nD)
(u32:FU Ω "_law_place" oG)
(u33:FU Ω "_law_deed" rO)
(u34:FU Ω "_law_program" jz)
(u35:FU Ω "_law_known_lines" eZ)
(u36:FU Ω "_law_drawn_line" fO)
(u37:FU Ω "_law_plan" sr)
(u38:FU Ω "_law_spoiled" jt)
(u39:FU Ω "_law_came" qT)
(u40:FU Ω "_law_touch" oK)
(u41:FU Ω "_law_due" uA)
(u42:FU Ω "touched_cells" dz)
(u43:FU Ω "pairs" nO)
(u44:FU Ω "is_word" jN)
(u45:FU Ω "is_size" jo)
(u46:FU Ω "is_line" jH)
(u47:FU Ω "is_lines" iW)
(u48:FU Ω "is_nest_plan" eE)
(u49:FU Ω "numbers_of_lines" cI)
(u50:FU Ω "is_plan" jC)
(u51:FU Ω "refuse_no_plan" cT)
(u52:FU Ω "line_comes_to" dH)
(u53:FU Ω "key_of" lU)
(u54:FU Ω "keys" rG)
(u55:FU Ω "number_of_lines" cM)
(u56:FU Ω "refuse_no_line" cU)
(u57:FU Ω "barring" jy)
(u58:FU Ω "_law_word" rF)
(u59:FU Ω "_law_says" rM)
{f:Addr}{fd:FuncData}(F:Fun Ω.K "law" "law" kO f fd)(N0:Ω.cd=none):Ok Ω 12 f fd Qj pG:=by
 obtain⟨_,_,F0,g0⟩:=u0
 have Cq22:=callee F0 (wO F0 N0 B) g0 %[|20]
 obtain⟨_,_,F0,g0⟩:=u1
 have Cq59:=callee F0 (lR F0 N0 B Cq22) g0 (F0.binds λ _ _ _ _ _ _=>by3 λ _ _ _=>rfl)
 obtain⟨_,_,F0,g0⟩:=u2
 have Cq23:=callee F0 (vz F0 N0 Cq59) g0 (F0.binds λ _ _ _ _ _ _=>by1 λ _=>rfl)
 obtain⟨_,_,F0,g0⟩:=u3
 have Cq57:=callee F0 (wM F0 N0 B Cq23) g0 (F0.binds λ _ _ _ _ _ _=>by1 λ _=>rfl)
 obtain⟨_,_,F0,g0⟩:=u4
 have Cq24:=callee F0 (Ci F0 N0) g0 %[|20]
 obtain⟨_,_,F0,g0⟩:=u5
 have Cq19:=callee F0 (Aa F0 N0 B Cq22) g0 (F0.binds λ _ _ _ _ _ _=>by3 λ _ _ _=>rfl)
 obtain⟨_,_,F0,g0⟩:=u6
 have Cq21:=callee F0 (nR F0 N0 Cq24 Cq19) g0 %[|20]
 obtain⟨_,_,F0,g0⟩:=u7
 have Cq20:=callee F0 (yd F0 N0 Cq57 Cq21) g0 (F0.binds λ _ _ _ _ _ _=>by1 λ _=>rfl)
 obtain⟨_,_,F0,g0⟩:=u8
 have Cq1:=callee F0 (Kc F0 N0 B) g0 %[|20]
 obtain⟨_,_,F0,g0⟩:=u9
 have Cq8:=callee F0 (Le F0 N0 Cq1) g0 %[|20]
 obtain⟨_,_,F0,g0⟩:=u10
 have Cq9:=callee F0 (MP F0 N0 Cq1) g0 (F0.binds λ _ _ _ _ _ _=>by1 λ _=>rfl)
 obtain⟨_,_,F0,g0⟩:=u11
 have Cq44:=callee F0 (yp F0 N0 B) g0 (F0.binds λ _ _ _ _ _ _=>by1 λ _=>rfl)
 obtain⟨_,_,F0,g0⟩:=u12
 have Cq43:=callee F0 (rm F0 N0 B) g0 (F0.binds λ _ _ _ _ _ _=>by3 λ _ _ _=>rfl)
 obtain⟨_,_,F0,g0⟩:=u13
 have Cq45:=callee F0 (uP F0 N0 B Cq44 Cq43) g0 (F0.binds λ _ _ _ _ _ _=>by1 λ _=>rfl)
 obtain⟨_,_,F0,g0⟩:=u14
 have Cq28:=callee F0 (z7 F0 N0 B Cq44 Cq43) g0 %[|20]
 obtain⟨_,_,F0,g0⟩:=u15
 have Cq26:=callee F0 (xY F0 N0 B Cq28) g0 %[|20]
 obtain⟨_,_,F0,g0⟩:=u16
 have Cq31:=callee F0 (Bd F0 N0 Cq43 Cq26) g0 %[|20]
 obtain⟨_,_,F0,g0⟩:=u17
 have Cq32:=callee F0 (yg F0 N0 B Cq43 Cq31) g0 (F0.binds λ _ _ _ _ _ _=>by1 λ _=>rfl)
 obtain⟨_,_,F0,g0⟩:=u18
 have Cq25:=callee F0 (kh F0 N0 B) g0 (F0.binds λ _ _ _ _ _ _=>by1 λ _=>rfl)
 obtain⟨_,_,F0,g0⟩:=u19
 have Cq41:=callee F0 (wU F0 N0 B Cq28 Cq25) g0 %[|20]
 obtain⟨_,_,F0,g0⟩:=u20
 have Cq36:=callee F0 (nu F0 N0 B Cq28) g0 %[|20]
 obtain⟨_,_,F0,g0⟩:=u21
 have Cq42:=callee F0 (iT F0 N0 B Cq44 Cq43 Cq36) g0 (F0.binds λ _ _ _ _ _ _=>by4 λ _ _ _ _=>rfl)
 obtain⟨_,_,F0,g0⟩:=u22
 have Cq38:=callee F0 (za F0 N0 Cq44 Cq43 Cq25 Cq42) g0 (F0.binds λ _ _ _ _ _ _=>by3 λ _ _ _=>rfl)
 obtain⟨_,_,F0,g0⟩:=u23
 have Cq39:=callee F0 (xK F0 N0 B Cq43 Cq38) g0 (F0.binds λ _ _ _ _ _ _=>by3 λ _ _ _=>rfl)
 obtain⟨_,_,F0,g0⟩:=u24
 have Cq27:=callee F0 (Av F0 N0 Cq43 Cq41 Cq42 Cq39) g0 (F0.binds λ _ _ _ _ _ _=>by3 λ _ _ _=>rfl)
 obtain⟨_,_,F0,g0⟩:=u25
 have Cq33:=callee F0 (Cg F0 N0 B Cq43 Cq32 Cq27) g0 %[|20]
 obtain⟨_,_,F0,g0⟩:=u26
 have Cq35:=callee F0 (xR F0 N0 B Cq43 Cq33) g0 %[|20]
 obtain⟨_,_,F0,g0⟩:=u27
 have Cq51:=callee F0 (j9 F0 N0 B Cq23) g0 (F0.binds λ _ _ _ _ _ _=>by1 λ _=>rfl)
 obtain⟨_,_,F0,g0⟩:=u28
 have Cq54:=callee F0 (sO F0 N0 B Cq45 Cq35 Cq51) g0 %[|20]
 obtain⟨_,_,F0,g0⟩:=u29
 have Cq7:=callee F0 (G8 F0 N0 B Cq8) g0 (F0.binds λ _ _ _ _ _ _=>by1 λ _=>rfl)
 obtain⟨_,_,F0,g0⟩:=u30
 have Cq16:=callee F0 (G9 F0 N0 B) g0 %[|20]
 obtain⟨_,_,F0,g0⟩:=u31
 have Cq2:=callee F0 (Ij F0 N0 B Cq16) g0 (F0.binds λ _ _ _ _ _ _=>by1 λ _=>rfl)
 obtain⟨_,_,F0,g0⟩:=u32
 have Cq10:=callee F0 (G6 F0 N0 B Cq8) g0 (F0.binds λ _ _ _ _ _ _=>by3 λ _ _ _=>rfl)
 obtain⟨_,_,F0,g0⟩:=u33
 have Cq3:=callee F0 (JH F0 N0 B Cq8 Cq10) g0 (F0.binds λ _ _ _ _ _ _=>by3 λ _ _ _=>rfl)
 obtain⟨_,_,F0,g0⟩:=u34
 have Cq12:=callee F0 (zU F0 N0 B Cq54 Cq8 Cq7 Cq2 Cq3) g0 (F0.binds λ _ _ _ _ _ _=>by1 λ _=>rfl)
 obtain⟨_,_,F0,g0⟩:=u35
 have Cq6:=callee F0 (sG F0 N0 B) g0 (F0.binds λ _ _ _ _ _ _=>by3 λ _ _ _=>rfl)
 obtain⟨_,_,F0,g0⟩:=u36
 have Cq4:=callee F0 (tU F0 N0 B Cq8) g0 %[|20]
 obtain⟨_,_,F0,g0⟩:=u37
 have Cq11:=callee F0 (Jz F0 N0 B Cq8 Cq6 Cq4) g0 %[|20]
 obtain⟨_,_,F0,g0⟩:=u38
 have Cq14:=callee F0 (Bw F0 N0 B Cq8) g0 %[|20]
 obtain⟨_,_,F0,g0⟩:=u39
 have Cq0:=callee F0 (J1 F0 N0 Cq16) g0 %[|20]
 obtain⟨_,_,F0,g0⟩:=u40
 have Cq15:=callee F0 (Im F0 N0) g0 %[|20]
 obtain⟨_,_,F0,g0⟩:=u41
 have Cq5:=callee F0 (M4 F0 N0 B Cq15) g0 (F0.binds λ _ _ _ _ _ _=>by3 λ _ _ _=>rfl)
 obtain⟨_,_,F0,g0⟩:=u42
 have Cq58:=callee F0 (nq F0 N0 B) g0 %[|20]
 obtain⟨_,_,F0,g0⟩:=u43
 have Cq53:=callee F0 (Hd F0 N0 B Cq20 Cq58) g0 (F0.binds λ _ _ _ _ _ _=>by1 λ _=>rfl)
 obtain⟨_,_,F0,g0⟩:=u44
 have Cq46:=callee F0 (zq F0 N0 B) g0 %[|20]
 obtain⟨_,_,F0,g0⟩:=u45
 have Cq40:=callee F0 (yW F0 N0 B Cq44) g0 (F0.binds λ _ _ _ _ _ _=>by1 λ _=>rfl)
 obtain⟨_,_,F0,g0⟩:=u46
 have Cq29:=callee F0 (yQ F0 N0 Cq43 Cq28 Cq46 Cq40) g0 %[|20]
 obtain⟨_,_,F0,g0⟩:=u47
 have Cq30:=callee F0 (wN F0 N0 B Cq43 Cq29) g0 %[|20]
 obtain⟨_,_,F0,g0⟩:=u48
 have Cq34:=callee F0 (pY F0 N0 B Cq43 Cq30) g0 %[|20]
 obtain⟨_,_,F0,g0⟩:=u49
 have Cq52:=callee F0 (j4 F0 N0 B) g0 (F0.binds λ _ _ _ _ _ _=>by1 λ _=>rfl)
 obtain⟨_,_,F0,g0⟩:=u50
 have Cq37:=callee F0 (zQ F0 N0 B Cq43 Cq34 Cq52) g0 %[|20]
 obtain⟨_,_,F0,g0⟩:=u51
 have Cq56:=pP F0 (mZ F0 N0 E Cq37) g0 %[|20]
 obtain⟨_,_,F0,g0⟩:=u52
 have Cq49:=callee F0 (oN F0 N0 Cq22) g0 %[|20]
 obtain⟨_,_,F0,g0⟩:=u53
 have Cq47:=callee F0 (CP F0 N0 B Cq49) g0 %[|20]
 obtain⟨_,_,F0,g0⟩:=u54
 have Cq48:=pP F0 (JB F0 N0 E Cq57 Cq56 Cq47) g0 %[|20]
 obtain⟨_,_,F0,g0⟩:=u55
 have Cq50:=callee F0 (kJ F0 N0 B) g0 (F0.binds λ _ _ _ _ _ _=>by1 λ _=>rfl)
 obtain⟨_,_,F0,g0⟩:=u56
 have Cq55:=pP F0 (my F0 N0 E Cq50) g0 %[|20]
 obtain⟨_,_,F0,g0⟩:=u57
 have Cq18:=pP F0 (yP F0 N0 E Cq53 Cq48 Cq55) g0 (F0.binds λ _ _ _ _ _ _=>by3 λ _ _ _=>rfl)
 obtain⟨_,_,F0,g0⟩:=u58
 have Cq17:=callee F0 (Jh F0 N0 B E Cq18) g0 (F0.binds λ _ _ _ _ _ _=>by3 λ _ _ _=>rfl)
 obtain⟨_,_,F0,g0⟩:=u59
 have Cq13:=callee F0 (Ld F0 N0 B Cq18) g0 (F0.binds λ _ _ _ _ _ _=>by4 λ _ _ _ _=>rfl)
 exact U6 F N0 B Cq57 Cq20 Cq8 Cq9 Cq12 Cq11 Cq14 Cq0 Cq5 Cq17 Cq13
theorem all_mk{l:PySem.W.OpenLaw}{w:World}{K:PySem.W.Frag}{h:Heap}{mg:%[|15]}{fa:Addr}(X:K.In h)(G:h.Ns mainGlobals mg)(hfa:mg "law"=some (.ref fa))(q:FI K "law" kO)
(q0:FI K "comes_to" il)
(q1:FI K "with_next_count" cN)
(q2:FI K "counts_of" gA)
(q3:FI K "steps_of" ir)
(q4:FI K "deed_of" jM)
(q5:FI K "cell_at" jl)
(q6:FI K "cells_of_step" dD)
(q7:FI K "cells_of" iD)
(q8:FI K "_law_cell" rK)
(q9:FI K "_law_next" rN)
(q10:FI K "_law_pen" uW)
(q11:FI K "is_whole" iG)
(q12:FI K "is_tuple_of" eV)
(q13:FI K "is_widths" gB)
(q14:FI K "is_form" jJ)
(q15:FI K "is_bound" iK)
(q16:FI K "is_loop" ju)
(q17:FI K "is_loops" iJ)
(q18:FI K "has_few_figures" cP)
(q19:FI K "is_start" gZ)
(q20:FI K "is_place_form" dG)
(q21:FI K "is_table_with_place" bW)
(q22:FI K "is_read" jr)
(q23:FI K "is_reads" iY)
(q24:FI K "is_deed" jw)
(q25:FI K "is_nest" jx)
(q26:FI K "is_nests" iQ)
(q27:FI K "number_of_steps" cO)
(q28:FI K "program_of" fV)
(q29:FI K "_law_loops" oM)
(q30:FI K "_law_value" oh)
(q31:FI K "_law_count" nD)
(q32:FI K "_law_place" oG)
(q33:FI K "_law_deed" rO)
(q34:FI K "_law_program" jz)
(q35:FI K "_law_known_lines" eZ)
(q36:FI K "_law_drawn_line" fO)
(q37:FI K "_law_plan" sr)
(q38:FI K "_law_spoiled" jt)
(q39:FI K "_law_came" qT)
(q40:FI K "_law_touch" oK)
(q41:FI K "_law_due" uA)
(q42:FI K "touched_cells" dz)
(q43:FI K "pairs" nO)
(q44:FI K "is_word" jN)
(q45:FI K "is_size" jo)
(q46:FI K "is_line" jH)
(q47:FI K "is_lines" iW)
(q48:FI K "is_nest_plan" eE)
(q49:FI K "numbers_of_lines" cI)
(q50:FI K "is_plan" jC)
(q51:FI K "refuse_no_plan" cT)
(q52:FI K "line_comes_to" dH)
(q53:FI K "key_of" lU)
(q54:FI K "keys" rG)
(q55:FI K "number_of_lines" cM)
(q56:FI K "refuse_no_line" cU)
(q57:FI K "barring" jy)
(q58:FI K "_law_word" rF)
(q59:FI K "_law_says" rM)
 {t_GREATEST_SIZE:Tok}(z_GREATEST_SIZE:PySem.W.nsIn K mainGlobals "GREATEST_SIZE"=some (some (.int 99 t_GREATEST_SIZE)))
 {t_MOST_LINES:Tok}(z_MOST_LINES:PySem.W.nsIn K mainGlobals "MOST_LINES"=some (some (.int 9 t_MOST_LINES)))
 {t_MOST_STEPS:Tok}(z_MOST_STEPS:PySem.W.nsIn K mainGlobals "MOST_STEPS"=some (some (.int 60 t_MOST_STEPS)))
 (z_abs:PySem.W.nsIn K mainGlobals "abs"=some none)
 (z_all:PySem.W.nsIn K mainGlobals "all"=some none)
 (z_bool:PySem.W.nsIn K mainGlobals "bool"=some none)
 (z_enumerate:PySem.W.nsIn K mainGlobals "enumerate"=some none)
 (z_int:PySem.W.nsIn K mainGlobals "int"=some none)
 (z_isinstance:PySem.W.nsIn K mainGlobals "isinstance"=some none)
 (z_len:PySem.W.nsIn K mainGlobals "len"=some none)
 (z_list:PySem.W.nsIn K mainGlobals "list"=some none)
 (z_max:PySem.W.nsIn K mainGlobals "max"=some none)
 (z_min:PySem.W.nsIn K mainGlobals "min"=some none)
 (z_range:PySem.W.nsIn K mainGlobals "range"=some none)
 (z_set:PySem.W.nsIn K mainGlobals "set"=some none)
 (z_sorted:PySem.W.nsIn K mainGlobals "sorted"=some none)
 (z_str:PySem.W.nsIn K mainGlobals "str"=some none)
 (z_sum:PySem.W.nsIn K mainGlobals "sum"=some none)
 (z_tuple:PySem.W.nsIn K mainGlobals "tuple"=some none)
 (z_zip:PySem.W.nsIn K mainGlobals "zip"=some none)
 (z_ex:XL.all (Pb K XT)=true)
 :∃fd:FuncData,(∀(s:Shared)(v:Value),BindsTo s fd ⟨[v],[]⟩ [("_law_script",v)])/\∀base:Heap,K.In base->base.Ns mainGlobals mg->FnOk l.prog w K mg base CX0 12 fa fd ["_law_script"] (spC K 1 pG):=by
 obtain⟨f,oc,od,kV,dc,pm,an,cd,ct,sl,a,l',c,k⟩:=q
 have e:=hfa.symm.trans (PySem.W.mg_of X G a)
 cases e
 refine⟨PySem.W.fnOf "law" "law" (fL kO) (bM kO) (aq kO) .none kV dc pm an cd ct,λ s v=>.of_eq rfl,λ base _ _=>?_⟩
 have B:Bi mg:=⟨⟨_,PySem.W.mg_of X G z_GREATEST_SIZE⟩,⟨_,PySem.W.mg_of X G z_MOST_LINES⟩,⟨_,PySem.W.mg_of X G z_MOST_STEPS⟩,PySem.W.mg_none_of X G z_abs,PySem.W.mg_none_of X G z_all,PySem.W.mg_none_of X G z_bool,PySem.W.mg_none_of X G z_enumerate,PySem.W.mg_none_of X G z_int,PySem.W.mg_none_of X G z_isinstance,PySem.W.mg_none_of X G z_len,PySem.W.mg_none_of X G z_list,PySem.W.mg_none_of X G z_max,PySem.W.mg_none_of X G z_min,PySem.W.mg_none_of X G z_range,PySem.W.mg_none_of X G z_set,PySem.W.mg_none_of X G z_sorted,PySem.W.mg_none_of X G z_str,PySem.W.mg_none_of X G z_sum,PySem.W.mg_none_of X G z_tuple,PySem.W.mg_none_of X G z_zip⟩
 have E:ExF mg K XL XT:=TX X G z_ex
 exact U8 (Ω:=⟨_,w,K,mg,base,none⟩) B E (q0.use X G) (q1.use X G) (q2.use X G) (q3.use X G) (q4.use X G) (q5.use X G) (q6.use X G) (q7.use X G) (q8.use X G) (q9.use X G) (q10.use X G) (q11.use X G) (q12.use X G) (q13.use X G) (q14.use X G) (q15.use X G) (q16.use X G) (q17.use X G) (q18.use X G) (q19.use X G) (q20.use X G) (q21.use X G) (q22.use X G) (q23.use X G) (q24.use X G) (q25.use X G) (q26.use X G) (q27.use X G) (q28.use X G) (q29.use X G) (q30.use X G) (q31.use X G) (q32.use X G) (q33.use X G) (q34.use X G) (q35.use X G) (q36.use X G) (q37.use X G) (q38.use X G) (q39.use X G) (q40.use X G) (q41.use X G) (q42.use X G) (q43.use X G) (q44.use X G) (q45.use X G) (q46.use X G) (q47.use X G) (q48.use X G) (q49.use X G) (q50.use X G) (q51.use X G) (q52.use X G) (q53.use X G) (q54.use X G) (q55.use X G) (q56.use X G) (q57.use X G) (q58.use X G) (q59.use X G) (JF (st:=kO) l' c k) rfl
end K44
local macro_rules|`(universe $[$x]*)=>do return Lean.mkNullNode (←x.mapM fun i=>do
 let n:=Lean.mkIdent (.mkSimple s!"tw{i.getId.toString.toList.tail.foldl (fun a c=>a*62+c.toNat-if c.isDigit then 48 else if c.isUpper then 55 else 61) 0}")
 `(def $n:ident:=()))
namespace PySem.W.Fast
universe u22pEvCRa6Xr uC4NeP1gcdzK u9d5EVWCHyn7 uC1KmFw9ofUp uBnGqKqe2RVe uEHJmnJgRaAW uCWIHIJqB6L8 uHMjZAvXsyS4 uGJnUUYQPXik u59bP61lNSYf uGsmM1qu7Vnt u3VvecVdzPWO u13TMb1dGCiC u8doVRDrJrwE u1g1UBPJOuMN uFOha9CFqsBT uBY7X0fZdFee uCTdAlh6VTeh umUoNOmo7oP uA2aIX8bvySq uBqcMNCwqIed uIBpNt7qIAbS uEDd14FgdHEP uIJPDiQglHml uKcgRk0M12AE uKNSc6xK7cjE uAhSuJbDLBd5 uIm090c0OcMP u8ZE3W9aamsT u5kVowimuEKJ u6aI2Sp5JB0q uLqxruZUBLT6 uH5NzHD8xvQe uCkHcCkzMq3n u9Uur7Rs3FKy u8duDtfsZoIp uAvGXNaFcRbc u96nYHmpgZxq u2Ul3QSrWfOh uFxmFufnH5NA uDVxIDkv3wOk uFP1OlV19Hrh u7pEACGgk441 uCbHVKbR5u4a uGBlFqQu5fbL u6UAI7IOnIRi uDJWCYi137Hm u6bbE7bwPhi7 uFtv6eJE3yVl uJftNeiAljb7 uC8EqNOMk8ZU uL9x7bT0w5vp uBByxf331uxq u3xM4BeB0n2O uKNNVRzyNcl3 uJybXLAJNnkm uHPBZoIkQbBq uFDdqFu5MH0n uAlUStKgmFYQ uKk9XCoqxERT uDMnrTkmpHHH uJt5mXQlMn53 u4osOajiX9IO u7vms7p8tfAn uJe1S4ZQSApG uC01OBMqhrSu uJ0DMvm0R6mn uAibHBdRyL17 uLdLeL7rNuJ7 u5ZhcZjovltw uE32qNyd7O1M uBM4KFBasmrK uFIY6tRFj2Nd uADfgye3Jhuv u2Xijj2e4aIa uDxlnd202kMS u2WZzqF2cWJN u3HkAf28fhtx uFLSOrLgwB6x uKPJzairhacH uK8cBYgC7Ht7 u83jnT5Syq1n u8zoXTBQkGLO u1iSQZEfyAyG uJx7qe5T95RR uIch5HCR93mW uA2jsjqZkhUt u2U5Q7TwuLQY uFkp91xLbeEE uCJKsywtWfpw u118rn6mLOvX uKNQ4uLrbnqm uFRx8d2tEdka u98oe9EmriBk uAYYazN61b1x uBunUyDotdPa uKeStVifmnY8 uIW3vNjHKLDm uI7VNT8AufOc u5fS4XiFh4SE u14j0pXoa8Dk uBhqDw5SQky9 uLIEgahCKZ1P uErDtCiXnP3v u6AeaOMy87wn uGbYEKfY8AqW uLsY6FBScGoi ufInbIvoDFT uB5v6WN5mFTn u2aTueuuDknG uF0WZ1y5V8fV uGAKQsXzIsHv uJED2b2yAJcP uJ1k54nT3Pr2 u8S8ReL6h6n u1q9yTHKZWMk uLjm2KOSRW9u uVs16EB5XRB u6Qe8UslJYdM uGec6j95Jgbc uEoiwNdeSlhf uQgK5zKkyPS u4ZxgL2t95K4 u3e4UUclZyuM u1SUjzXTFnju uCnV31HZMTLD u9XXKRZIcHBD u5OKH3AFj3Za uDvtUbMTUEVx u4cXb0JAoHUq u9KgPMnkq6v1 u45H1NxtMoac uJjyiH30hi0j uHRaeCYmqRPc uAPVCZdut9EK uIJUTOCIhrak u5gogzYbJGeC u8Qjw64BMITI uHQA2oZfJ4ko u71l4M7TLNJD u8StGrAegAye u8vy8rzrbIHp u5LMLtiTkn0U u3N0zNM5sm3t u6ySLqXBZ8cm uBHbml7FGoFO uAwBNJct6D4P u9hEbWWLgbxS uCz8sNsqoZ5D uJD0FaPcFhnI u9U1oPGVcnIn uK1nRU09vnrR u70wt3pckf2g u4kL1LvHKOzW uK1Pxv68D3ov u5sPTVBNMS7l uAlheWnoAu1h u1HkXNRTCMYl uBI27Cdg41jt uJBBJyWoiArC uDOFkXplXrH6 u92rIwB4n1Bp u1olSC77IeAV uIPlGJUD1o3E u6o4jBT5Wmr0 uCITsAezwjVB u7LJFWGLBFif u31kOYjIq9jK uIE94RADKiJH uAhHzEgKHFR6 uL9frw5ikUtZ uIqZILIfeiSY uGRhR2iT0EPF u2UOUuLvRGi u9rIlAhyL850 uIPn94eF2wi0 uKgcP6EcaMJ4 uJPgl4fWA9Hm uzaryRJoGPH uLuWqlAC50T0 uL9isodul9GB u3TORz3GeIOA u5GE89jVip2h u5buTL1i7wi7 uAw538PaQslC uG1AkZS4VWbN u9PwUiy5J7EX u7RwG54TLCbm u9jdoqCqWtlO uCW3jbYmrmmV uCkLGMHtbSw2 uJa3OOssGgci u6kBUCu59LWS uGBNZhov4cNM u1pq9h2TNT7S uCEAi9S1puf9 uFAgqLsTBsiu uAwecOIFiLG4 u2QGJJbxqvXO u8CGBjXC9Spc u4Bd2wGiNODr u852TALrWW9A u5nC3ja3t51D u4aiU63FYHyI u1n4tW8f3kth uIh6EqN4UY3L uFwsCBaQGz5l u4he439RbPoj u1coq8o2SNcp uAnN18daDJ5z u4XnQ9qWeiPx u7WhFsWbmuoO u6URU4s3cXY6 uAh1976fwqZU uJ08hr6d5QHL u4rOsaRxcOT4 u5mY8ilPaV6n uFenKdBrTyTy uGXc6sf5R3iL uGss5wf4TgaT u6PLEQoQcikx uJYpzgO6gfjo u56HGUsXy95w uJtgRg2hQzHT u9gsNmWyLJDa u4Ma4q8ZNXJe u6jW50DjRfrl u8RldQVJMLer uEVNNgHrvZis uIh6tc281V8E u4q3BTvDT49o u7muDUMu4paW uF1ZhWCnGfuS ueiHkd4RtyE uFAYeQlK8ajE uGzS93cVgHE1 u4kqaZoiXa7r uCCiGdfUGDeR uE1rDkB9aLbu uk57d8iF1gf uimRzpZiuW1 u7dIyGJ4i6Mk uGljhOYCoLgh u9mmIaSZALTg u9H2O25fxdG9 u4h18OgRvoXM uCHXiDIdbtpC uBAIv37VQbmn uFPYB1VCLQiu u6aUM2EaP7B0 uDyaN1KQyJWR ux4qneR9RpE uJND3BvQGfDV u3LbueXvjAJ2 uEoJu0vZ7TrU uBHpB6Dt13w2 uGSPDM9Fq0vI uKHw2b4lLZmQ uHuXGvlRHixJ u2k4LcvNEoR5 u9xGxfwKTqxa uJLT6kkPwXW5 u3AiRQamcWnB u7rOSK1LreXk u9wuqvLf4vjy u6SdazCxXIFg u8OVH9YoPoq3 uH8aRDo3Wmgv u1jsFIpXAxpr u1Tr4cb4iBkL uHrdhf46xf3K u8JQ6XeDSdoW uGaLRlOVN6OG uDEEPpVduVe8 uFBOgTKZHFlH uECCt41GIesl uBZnFzdCLRRj u8LfKUpigpF u196Xl4sJfZS u6JbnwI2OZ0G u3FuupZHaKMt uE0KRnaXhXA uCBQ0TPONhxX uHZ6G0dofJkI uC5XZpvfsdV8 uDdkH2rJO4CR uJYvRPEVxapK uF5kZ1kZ19Ar uBLOj9cxTw5V u2ZVInaCViLY uGUMQqk6IqBC uCqjNsVUdWme uJu4h19ChRjt uLLivbVFexLo u7LHsKNhooUa uIB74qXPdshL uIZjG3fEXO4L u5i8bsae5S5M u2PICSgvjeL2 u8QhigZzU39g uE6iWfZUvwom u5iWWXuYw9vw uJhdXdx3wPNR u8MsZrIeDvrl u3lH5DRi7rGw uFi5M6Tu6iYI u1n1JkgG7uwT uAmbBVbi7EVN uAK9I0u90IAo uzEQzglbDFX uCeH0R8KpFXM uJD8k0W7R50a uJSqXERDVlY7 u981zVMM6m75 u6976f3icydh uQmUzOCDQFF u2EAZrOoK84d uAeLraSnWu09 uG8QmM5B7SW8 u2aXi1fma58x u7qEyJWGOZCT u7rlcXpmxKpT u35EPaOnGeNN uHenjUa03ZnS uJTXv3nDz8P2 uG71XujiX3ku uBtnXChvzssv u10Jm3Qn8ja1 u4o2yjPTb2Uc u3kMcVxZM23t u6tTZsTcPI9B uLvgP4rL3e6 uIj8zx9SxICL uGXXGMv61rNE u3GjFSgGevIF uBZa1nUV8vPA uF5dQcvtMo5j uFgWO3UrFAKh uFvQR1N0TdLw u5oTJWfuD7H0 uC3rMRd3fT7y u3n6mDopFrgT u48FrT6Vp0hL uEOQ8oG4EZKx uG78c0qaQERH utp3r8QdtJp u5g5l1qXqoCw umAhCZTPOXd u5hzqdoKcXfn uBJMDXhM4KCe uEe0XB21DuQl uDhPuZZhgWcu uG83zDna0S6D uCThp8SQvAin uDO46RmqDMum u6K807kRGG1t uJ0UCv4Xvsem uKJG2LUsjWO5 uL3dH88ba4qc uLok8ir1Txya u7LTQ8gdO2Iq u71M9KvQFiXP uJkIb3UtOS2z uLUwmQBnEjVZ uF5eUOW1m4MI uLFnOpdPztiA uyEexaY41GB uENjMWHXLEl6 uAPSqn0YfrCz u5e0PjbZZmL6 uIgev9gLE7Sb uEPcScdiEw0b uA4C7uDlX7ol uK6xUtxCzgln uKR6vBit6Ebs u5ULf0Mp0kcT uF0HfYOXiQvP u8X5KqX0uLMD u9BPEfQhJJIV uHEqiSKDAb3P u5Mr3mhd0Zfy u9C5ZnLOp8OE uFavt1MfwVmB uBBzJNUfKR16 u15oiLVXhfrz uKGVK8Xhqeh9 uJZnWog8fzEd u3iq43JUOZOs uBQ0e82wkuT5 u6elKXW4pS7a u1MizXygZp9t uLukFAMVD0ms ubst8sYs4L8 uERXgLEU0TbR uIdsxwPAEMy uGqu7hsAFuEa u1kAMYMx506B uBuHFXN0q5DC uKgkLmMztCGJ u8cV26Iw1Jke uG6kpXtJSKzV ucYcsvB0rtL uFpckE0pOLuR uIV9NLZrEgkD uFbyWHl32QHV uJvSoDAvo3x5 uGubERWJg4EE uFUZmXt90BfF uEvQ9LCfv4Yq u10rRY9OvCmn uLfr5GJLreuE u5K4xOEmkzmJ uB5sQkvpU3qq uJQ0mF1JiwPA uI3u9nvJrHK2 u1Yr1lmPv9gx u6W0rgaTlabB uKZJRxsPRSP4 uBFQS0xC69TY uJ8iCxiCYqa2 uIdhFO3gAYpD uAioXOTNOj7s u9CdpgJz9eNc ux6ncpmkrje u6JejlEw93Gz u9qkUSr3lR0Z uA3dkecoMCIu u7SOMhsyq8Mg u1zQYaPPNp1C u4TtH5kfnDZE uGOpmyY7VmMg u4DCWbcfcV5g uDfbA1mwr5y1 u4iqObTswRqO uFueqbPsWuLT uCN3x7U6mBol u8cG8SgzNgYd uPvPIBfYDyu uJpPLm7iizDF uFiUi7XrnmRL u2TVnm4WVhG9 u669dF1Kvj4K u9AbThuxSfsm u5JNeyyroyYw uCpmHhzejiEP u8eKWIbFY54r u4soMUs2JZxY uDElFqWKcRJd u6tvrvthHGKl uiYT7MuAc17 uD5mcTgALWFb u9i6SicVyEYE uAAy40UBKNZk uEIXyJsfLbYj uHVPYI0YwHED uGyWiSgr6dm3 uFR7Cc1l1b9n u8YOSpWmFbJT u5yfAJhfXvc8 uFqefrlmFW6s u87BXK8i2Vy7 u7k9d0zOUDhM u4do9IZkFGTE uJVhs5lcOi7u u9LdK8EhQYeA u8aqSHEgsgRP uCoaQmb7mWtS uCHdcmSG68Nt uFtlCp3Kx4Sf u1twHuESHHUH uBN2GUQqzYUm ue29JZK9ffL uLaQObYlkX69
end PySem.W.Fast
open PySem PySem.W PyProof.Rows
set_option maxRecDepth 100000 in
set_option maxHeartbeats 0 in
theorem PySem.Challenge.cw_nestturn_k44_lines_that_are_free_holds : PySem.Challenge.rw_nestturn_k44_lines_that_are_free.Holds := by
 w_on; o_law; k_head; (case hw => w_witness2)
 k_fill
 refine RF.walk (l := PySem.Challenge.rw_nestturn_k44_lines_that_are_free) (lev := 12) (x := "_law_script") rfl rfl ⟨rfl, %[|2], %[|2]⟩ (λ w h Y => by first | exact PySem.W.kIn_of Y | exact PySem.W.km_in_of Y) ?F
 case F =>
  intro w mg fa h KX G hmg
  refine' K44.all_mk KX G hmg ?_ ?_ ?_ ?_ ?_ ?_ ?_ ?_ ?_ ?_ ?_ ?_ ?_ ?_ ?_ ?_ ?_ ?_ ?_ ?_ ?_ ?_ ?_ ?_ ?_ ?_ ?_ ?_ ?_ ?_ ?_ ?_ ?_ ?_ ?_ ?_ ?_ ?_ ?_ ?_ ?_ ?_ ?_ ?_ ?_ ?_ ?_ ?_ ?_ ?_ ?_ ?_ ?_ ?_ ?_ ?_ ?_ ?_ ?_ ?_ ?_ ?_ ?_ ?_ ?_ ?_ ?_ ?_ ?_ ?_ ?_ ?_ ?_ ?_ ?_ ?_ ?_ ?_ ?_ ?_ ?_ ?z
  (case z => kernel_rfl!)
  all_goals try first | (refine' K44.FI.mk ?a ?l ?c ?k; (case a => k_is); (case l => k_is); (case c => k_is); (case k => k_is)) | (show _ = _; k_is)
