import PyProof.Rows.All
import Wide.All
import OpenK.AllK
import Wide.FinOn
import Lean
import PyProof.EqAt
import PyProof.EqKinds
import PyProof.TupleCall
import KE.KEqDict
import PyProof.ZipIter
import PyProof.ListMulAny
import KE.KTryMore
import PyProof.NsDelKeeps
import KE.KUnpack
import KE.KRevIter
import PyProof.DictUpdate
import PyProof.ListRange
import PyProof.Rows.CallKwBuiltin
import PyProof.WalkInts
import KE.KSortTup
import KE.KLam
import KE.KNestM
import PyProof.CollectIter
import OpenK.KMake
import KE.KDictList
import PySem.Challenge.RW_nestturn_k18_whole_neighbours_change_pla
set_option bootstrap.genMatcherCode false
set_option compiler.extract_closed false
set_option genSizeOfSpec false
set_option genSizeOf false
def ZA:=@PySem.wpAny_bind
def ZB:=@PySem.wpAny_pure
def ZC:=@PySem.Heap.get?_push_of_some
def ZD:=@PySem.Heap.get?_push_size
def ZE:=@PySem.Heap.lt_size
def ZF:=@of_decide_eq_true
def ZG:=@decide_eq_true
def ZH:=@decide_eq_false
def ZI:=@eq_of_beq
def ZJ:=@List.mem_cons
def ZK:=@List.mem_append
def ZL:=@List.mem_singleton
def ZO:=@List.mem_map
def ZP:=@PySem.wpAny_call_entry
def ZQ:=@PySem.wpAny_holding
def ZR:=@List.getElem?_of_mem
theorem fE{α:Prop}(h:false=true):α:=(Bool.false_ne_true h).elim
noncomputable section
set_option Elab.async false
set_option linter.all false
set_option hygiene false
local macro_rules
| `(%[|0]) => `(by omega)
| `(%[|1]) => `(List Int)
| `(%[|2]) => `(List Str)
| `(%[|3]) => `(by decide)
| `(%[|4]) => `(Store->Prop)
| `(%[|5]) => `(Inv X pins σ H s)
| `(%[|6]) => `(model X.prog X.w)
| `(%[|7]) => `(Value->%[|8])
local macro_rules
| `(%[|8]) => `(Shared->Prop)
set_option hygiene true
def z0:=@List.getElem?_eq_some_iff
def y3:=@List.getElem?_eq_getElem
def y4:=@List.mem_of_getElem?
def y6:=@Bool.false_ne_true
def y7:=@List.length_map
def y8:=@List.getElem?_map
def y9:=@Nat.le_refl
def x3:=@List.mem_cons_of_mem
def x4:=@List.size_toArray
def x5:=@List.mem_cons_self
def x6:=@List.length_append
def x8:=@List.getElem?_append_left
def x9:=@Nat.lt_of_lt_of_le
def w9:=@Nat.ne_of_lt
def v3:=@List.map_append
set_option bootstrap.genMatcherCode false
set_option maxRecDepth 100000
local macro_rules | `(tactic| omega) => `(tactic| first | with_reducible assumption | with_reducible exact Int.natCast_nonneg _ | with_reducible exact Nat.le_trans (by assumption) (by decide) | with_reducible exact Int.le_trans (by decide) (Int.natCast_nonneg _) | with_reducible exact Int.lt_of_le_of_lt (Int.ofNat_le.mpr (by assumption)) (by decide) | lia)
local macro_rules|`(def $i:declId $s:optDeclSig $v:declVal)=>`(noncomputable def $i:declId $s:optDeclSig $v:declVal)
local macro_rules|`(abbrev $i:declId $s:optDeclSig $v:declVal)=>`(noncomputable abbrev $i:declId $s:optDeclSig $v:declVal)
namespace L2
open PySem PySem.Spec PyProof.Rows
abbrev Key:=Sum Int Str
def m7:Key->Value->Bool
 | .inl k,v=>Value.isInt k v
 | .inr x,v=>Value.isStrOf x v
def V9(w:World):Key->Int
 | .inl k=>hashInt k
 | .inr x=>hashStr w x
theorem bG:∀{k:Key}{v:Value},m7 k v=true->(∃i t,k=Sum.inl i/\v=Value.int i t)∨(∃x t,k=Sum.inr x/\v=Value.str x t)
 | .inl i,v,h=>by
   obtain⟨t,e⟩:=Value.isInt_shape (k:=i) (v:=v) h
   exact .inl ⟨i,t,rfl,e⟩
 | .inr x,v,h=>by
   obtain⟨t,e⟩:=Value.isStrOf_shape (x:=x) (v:=v) h
   exact .inr ⟨x,t,rfl,e⟩
theorem Jm(i:Int)(t:Tok):m7 (.inl i) (.int i t)=true:=by simp[m7,Value.isInt]
theorem IK(x:Str)(t:Tok):m7 (.inr x) (.str x t)=true:=by simp[m7,Value.isStrOf]
theorem RK(a b:Int):decide ((Sum.inl a:Key)=Sum.inl b)=(a==b):=by
 by_cases e:a=b
 . subst e;simp
 . have h:¬(Sum.inl a:Key)=Sum.inl b:=λ q=>e (Sum.inl.inj q)
   rw[ZH h]
   exact(beq_eq_false_iff_ne.mpr e).symm
theorem Ry(a b:Str):decide ((Sum.inr a:Key)=Sum.inr b)=decide (a=b):=by
 by_cases e:a=b
 . subst e;simp
 . have h:¬(Sum.inr a:Key)=Sum.inr b:=λ q=>e (Sum.inr.inj q)
   rw[ZH h,ZH e]
theorem Ss(a:Int)(b:Str):decide ((Sum.inl a:Key)=Sum.inr b)=false:=ZH (λ q=>nomatch q)
theorem Ud(a:Str)(b:Int):decide ((Sum.inr a:Key)=Sum.inl b)=false:=ZH (λ q=>nomatch q)
def bz(prog:Program)(w:World):PySem.KeyKind prog w Key where
 is:=m7
 hash:=V9 w
 inj:=λ v a b ha hb=>by
  rcases bG ha with⟨i,t,rfl,rfl⟩ | ⟨x,t,rfl,rfl⟩
  . rcases bG hb with⟨j,u,rfl,e⟩ | ⟨y,u,rfl,e⟩
    . injection e with e1 _;rw[e1]
    . exact nomatch e
  . rcases bG hb with⟨j,u,rfl,e⟩ | ⟨y,u,rfl,e⟩
    . exact nomatch e
    . injection e with e1 _;rw[e1]
 byValue:=λ k v h=>by
  rcases bG h with⟨i,t,rfl,rfl⟩ | ⟨x,t,rfl,rfl⟩<;>rfl
 pyHash:=λ hv h=>by
  rcases bG hv with⟨i,t,rfl,rfl⟩ | ⟨x,t,rfl,rfl⟩
  . exact wpAny_pyHash_int h
  . exact wpAny_pyHash_str h
 eqBool:=λ hu hv h=>by
  rcases bG hu with⟨i,t,rfl,rfl⟩ | ⟨x,t,rfl,rfl⟩
  . rcases bG hv with⟨j,u,rfl,rfl⟩ | ⟨y,u,rfl,rfl⟩
    . rw[RK]at h;exact wpAny_eqBool_int h
    . rw[Ss]at h;exact SeqAt.EqAt.int_str i t y u _ _ _ _ h
  . rcases bG hv with⟨j,u,rfl,rfl⟩ | ⟨y,u,rfl,rfl⟩
    . rw[Ud]at h;exact SeqAt.EqAt.str_int x t j u _ _ _ _ h
    . rw[Ry]at h;exact wpAny_eqBool_str h
 «strs»:=λ k x t v h=>by
  rcases bG h with⟨i,u,rfl,e⟩ | ⟨y,u,rfl,e⟩
  . exact nomatch e
  . injection e with e1 _
    subst e1
    cases v<;>rfl
theorem Bs(prog:Program)(w:World)(i:Int)(t:Tok):(bz prog w).is (.inl i) (.int i t)=true:=Jm i t
theorem Cm(prog:Program)(w:World)(x:Str)(t:Tok):(bz prog w).is (.inr x) (.str x t)=true:=IK x t
variable {b : Addr}
inductive V where
 | non | bl(b:Bool) | int(i:Int) | str(x:Str) | byt(b:Array UInt8) | flt(b:UInt64) | ref(a:Addr) | ty(n:String)
 deriving DecidableEq
def RelV:V->Value->Prop
 | .non,u=>u=Value.none
 | .bl b,u=>u=Value.bool b
 | .int i,u=>∃t,u=Value.int i t
 | .str x,u=>∃t,u=Value.str x t
 | .byt b,u=>∃t,u=Value.bytes b t
 | .flt b,u=>∃t,u=Value.float b t
 | .ref a,u=>u=Value.ref a
 | .ty n,u=>u=Value.type n
abbrev Vals:List V->List Value->Prop:=Paired RelV
theorem Vals.length{xs:List V}{us:List Value}(r:Vals xs us):xs.length=us.length:=Paired.length r
theorem Vals.get:∀{xs:List V}{us:List Value}{i:Nat}{x:V},Vals xs us->xs[i]? =some x->∃u,us[i]? =some u/\RelV x u
 | _,_,_,_,.nil,e=>by simp at e
 | _,_,0,_,.cons r _,e=>by simp at e;subst e;exact⟨_,rfl,r⟩
 | _,_,i+1,x,.cons _ t,e=>by
   obtain⟨u,h1,h2⟩:=Vals.get (i:=i) (x:=x) t (by simpa using e)
   exact⟨u,by simpa using h1,h2⟩
theorem Vals.set{x:V}{u:Value}(r:RelV x u):∀{xs:List V}{us:List Value}(i:Nat),Vals xs us->Vals (xs.set i x) (us.set i u)
 | _,_,_,.nil=>.nil
 | _,_,0,.cons _ t=>.cons r t
 | _,_,i+1,.cons q t=>.cons q (Vals.set r i t)
theorem Vals.append:∀{xs ys:List V}{us ws:List Value},Vals xs us->Vals ys ws->Vals (xs++ys) (us++ws)
 | _,_,_,_,.nil,s=>s
 | _,_,_,_,.cons r t,s=>.cons r (Vals.append t s)
theorem Vals.take:∀{xs:List V}{us:List Value}(n:Nat),Vals xs us->Vals (xs.take n) (us.take n)
 | _,_,0,_=>.nil
 | _,_,_+1,.nil=>.nil
 | _,_,n+1,.cons r t=>.cons r (Vals.take n t)
theorem Vals.drop:∀{xs:List V}{us:List Value}(n:Nat),Vals xs us->Vals (xs.drop n) (us.drop n)
 | _,_,0,r=>r
 | _,_,_+1,.nil=>.nil
 | _,_,n+1,.cons _ t=>Vals.drop n t
def Q9:Option V->Option Value->Prop
 | some v,some u=>RelV v u
 | none,none=>True
 | _,_=>False
def KV{κ:Type}:List (κ×V)->List (κ×Value)->Prop:=Paired λ(p:κ×V) (q:κ×Value)=>p.1=q.1/\RelV p.2 q.2
def kV:Key->V
 | .inl i=>.int i
 | .inr x=>.str x
inductive HO where
 /-- a list -/
 | lst(xs:List V)
 /-- a tuple (never changes) -/
 | tup(xs:List V)
 /-- a dict whose keys are ints and texts; one whose keys are tuples of ints and texts (the empty one is both) -/
 | dK(kvs:List (Key×V)) | dT(kvs:List (List Key×V))
 /-- a set of ints: its members, its size -/
 | set(S:Int->Bool)(n:Nat)
 /-- an instance of the class at C, its dict at dx, its attributes -/
 | ins(C dx:Addr)(fs:List (Str×V))
 /-- the dict of the instance at x -/
 | own(x:Addr)
 /-- the dict of an exception -/
 | xd(fs:List (Str×V))
 /-- a bound method, f of x -/
 | met(f x:Addr)
 /-- a range object lo, lo + 1, .. below hi -/
 | rng(lo hi:Int)
 /-- a thing that is known to the object (the script; a dict while a loop walks it): read, never written while it is so -/
 | frz(o:Obj)(u:HO)
 /-- a code object's table -/
 | tbl(ps:Array Value)
 /-- any other thing, by what is true of its one object (a def of one's own: SetO a S n := HO.ext λ h => ..) -/
 | ext(φ:Heap->Prop)
abbrev Hp:=Addr->Option HO
def upd(H:Hp)(a:Addr)(o:HO):Hp:=λ b=>if b=a then some o else H b
theorem aH{H:Hp}{a:Addr}{o:HO}:upd H a o a=some o:=by unfold upd;rw[if_pos rfl]
theorem ao{H:Hp}{a:Addr}{o:HO}(h:b≠a):upd H a o b=H b:=by unfold upd;rw[if_neg h]
theorem aB{H:Hp}{a:Addr}{o:HO}(h:H a=some o)(h':H b=none):a≠b:=by
 intro e;subst e;rw[h]at h';cases h'
section
variable (P : Program) (w : World)
def aK(H:Hp)(h:Heap)(a:Addr):HO->Prop
 | .lst xs=>xs.length≤sizeLine/\∃(its:List Value) (n:Nat),Vals xs its/\h.get? a=some {cls:=.type "list",data:=.seq its.toArray n}
 | .tup xs=>xs.length≤sizeLine/\∃its:List Value,Vals xs its/\IsTup h a its.toArray
 | .dK kvs=>kvs.length≤sizeLine/\(a==sysModules)=false/\∃vs,KV kvs vs/\h.DictOf (bz P w) a vs
 | .dT kvs=>kvs.length≤sizeLine/\(a==sysModules)=false/\∃xs:List (List Key×Addr×Value),
  Paired (λ(p:List Key×V) (q:List Key×Addr×Value)=>p.1=q.1/\H q.2.1=some (.tup (p.1.map kV))/\RelV p.2 q.2.2) kvs xs/\
  ∃o es ep,h.get? a=some o/\o.ExactDict/\o.data=.dict es ep/\es.toList=xs.map (entryOfKey (tupleKind (bz P w)))/\(xs.map (·.1)).Nodup
 | .set S n=>h.SetOf (intKind P w) a S n
 | .ins C dx fs=>H dx=some (.own a)/\fs.length≤1000/\dx≠a/\h.get? a=some (PySem.W.instObj C dx)/\
  ∃mA,h.Ns1 dx mA/\(∀f,Q9 (fs.lookup f) (mA f))/\PySem.Within mA (fs.map (·.1))
 | .own _=>∃o,h.get? a=some o
 | .xd fs=>∃mA,h.Ns1 a mA/\∀f,Q9 (fs.lookup f) (mA f)
 | .rng lo hi=>∃t u v,h.get? a=some {cls:=.type "range",data:=.fields #[.int lo t,.int hi u,.int 1 v]}
 | .frz o u=>h.get? a=some o/\aK H h a u
 | .tbl ps=>h.get? a=some {cls:=.none,data:=.fields ps}
 | .met f x=>h.get? a=some (PySem.W.methodObj (.ref f) (.ref x))
 | .ext φ=>φ h/\(∃o,h.get? a=some o)/\∀h1 h2:Heap,φ h1->(∀o,h1.get? a=some o->h2.get? a=some o)->φ h2
def HOk(H:Hp)(h:Heap):Prop:=∀a o,H a=some o->aK P w H h a o
end
section
variable {P : Program} {w : World} {H H' : Hp} {h h' : Heap} {a : Addr} {o : HO}
theorem aK.lt(x:aK P w H h a o):a<h.objs.size:=by
 cases o with
 | lst xs=>obtain⟨_,_,_,_,e⟩:=x;exact ZE e
 | tup xs=>obtain⟨_,_,_,p⟩:=x;exact p.lt
 | dK kvs=>obtain⟨_,_,_,_,o,_,_,e,_⟩:=x;exact ZE e
 | dT kvs=>obtain⟨_,_,_,_,o,_,_,e,_⟩:=x;exact ZE e
 | set S n=>obtain⟨o,_,_,_,e,_⟩:=x;exact ZE e
 | ins C dx fs=>obtain⟨_,_,_,e,_⟩:=x;exact ZE e
 | own y=>obtain⟨_,e⟩:=x;exact ZE e
 | xd fs=>obtain⟨_,⟨_,_,_,e,_⟩,_⟩:=x;exact ZE e
 | rng lo hi=>obtain⟨_,_,_,e⟩:=x;exact ZE e
 | frz ob u=>obtain⟨e,_⟩:=x;exact ZE e
 | tbl ps=>exact ZE (show h.get? a=some _ from x)
 | met f y=>exact ZE (show h.get? a=some _ from x)
 | ext φ=>obtain⟨_,⟨_,e⟩,_⟩:=x;exact ZE e
theorem Paired.mapP{α β:Type}{F G:α->β->Prop}:∀{l₁:List α}{l₂:List β},Paired F l₁ l₂->(∀a b,F a b->G a b)->Paired G l₁ l₂
 | _,_,.nil,_=>.nil
 | _,_,.cons r t,f=>.cons (f _ _ r) (Paired.mapP t f)
theorem aK.stay(x:aK P w H h a o)(k:∀b u,(b=a∨H b=some (.own a))->h.get? b=some u->h'.get? b=some u)
 (ho:∀b,H b=some (.own a)->H' b=some (.own a))(ht:∀b xs,H b=some (.tup xs)->H' b=some (.tup xs)):aK P w H' h' a o:=by
 induction o with
 | lst xs=>obtain⟨z,its,n,r,e⟩:=x;exact⟨z,its,n,r,k _ _ (.inl rfl) e⟩
 | tup xs=>obtain⟨z,its,r,ob,e,c⟩:=x;exact⟨z,its,r,ob,k _ _ (.inl rfl) e,c⟩
 | dK kvs=>obtain⟨z,y,vs,r,ob,es,ep,e,c⟩:=x;exact⟨z,y,vs,r,ob,es,ep,k _ _ (.inl rfl) e,c⟩
 | dT kvs=>
   obtain⟨z,y,xs,r,ob,es,ep,e,c⟩:=x
   exact⟨z,y,xs,Paired.mapP r λ p q z=>⟨z.1,ht _ _ z.2.1,z.2.2⟩,ob,es,ep,k _ _ (.inl rfl) e,c⟩
 | set S n=>obtain⟨ob,es,ep,t,e,c⟩:=x;exact⟨ob,es,ep,t,k _ _ (.inl rfl) e,c⟩
 | ins C dx fs=>
   obtain⟨d,z,ne,e,mA,⟨od,es,ep,e2,c⟩,r⟩:=x
   exact⟨ho _ d,z,ne,k _ _ (.inl rfl) e,mA,⟨od,es,ep,k _ _ (.inr d) e2,c⟩,r⟩
 | own y=>obtain⟨ob,e⟩:=x;exact⟨ob,k _ _ (.inl rfl) e⟩
 | xd fs=>obtain⟨mA,⟨od,es,ep,e,c⟩,r⟩:=x;exact⟨mA,⟨od,es,ep,k _ _ (.inl rfl) e,c⟩,r⟩
 | rng lo hi=>obtain⟨t,u,v,e⟩:=x;exact⟨t,u,v,k _ _ (.inl rfl) e⟩
 | frz ob u ih=>obtain⟨e,q⟩:=x;exact⟨k _ _ (.inl rfl) e,ih q⟩
 | tbl ps=>
   have e:h.get? a=some {cls:=.none,data:=.fields ps}:=x
   show h'.get? a=some {cls:=.none,data:=.fields ps}
   exact k a _ (.inl rfl) e
 | met f y=>
   have e:h.get? a=some (PySem.W.methodObj (.ref f) (.ref y)):=x
   show h'.get? a=some (PySem.W.methodObj (.ref f) (.ref y))
   exact k a _ (.inl rfl) e
 | ext φ=>obtain⟨p,⟨o,e⟩,st⟩:=x;exact⟨st _ _ p λ o q=>k _ _ (.inl rfl) q,⟨o,k _ _ (.inl rfl) e⟩,st⟩
theorem HOk.lt(x:HOk P w H h)(e:H a=some o):a<h.objs.size:=(x a o e).lt
theorem HOk.fresh(x:HOk P w H h)(e:h.objs.size≤a):H a=none:=by
 cases q:H a with
 | none=>rfl
 | some u=>exact absurd (x9 (x.lt q) e) (Nat.lt_irrefl _)
theorem HOk.kept(x:HOk P w H h)(k:∀b u,h.get? b=some u->h'.get? b=some u):HOk P w H h':=λ a o e=>
 (x a o e).stay (λ b u _ q=>k b u q) (λ _ q=>q) λ _ _ q=>q
theorem HOk.laid(x:HOk P w H h)(k:∀b u,h.get? b=some u->h'.get? b=some u)(hp:h.objs.size≤a)(new:aK P w (upd H a o) h' a o):HOk P w (upd H a o) h':=λ b u e=>by
 have hn:=x.fresh hp
 by_cases hb:b=a
 . subst hb;rw[aH]at e;cases e;exact new
 . rw[ao hb]at e
   exact(x b u e).stay (λ c v _ q=>k c v q) (λ c q=>by rw[ao (aB q hn)];exact q) λ c xs q=>by rw[ao (aB q hn)];exact q
end
def Rd(H:Hp)(a:Addr)(u:HO):Prop:=H a=some u∨∃o,H a=some (.frz o u)
theorem Rd.ok{P:Program}{w:World}{H:Hp}{h:Heap}{a:Addr}{u:HO}(r:Rd H a u)(x:HOk P w H h):aK P w H h a u:=by
 rcases r with r | ⟨o,r⟩
 . exact x a u r
 . obtain⟨_,q⟩:=x a _ r
   exact q
def Mut:Option HO->Prop
 | some (.lst _)=>True
 | some (.dK _)=>True
 | some (.dT _)=>True
 | some (.set _ _)=>True
 | some (.ins _ _ _)=>True
 | some (.ext _)=>True
 | _=>False
section
variable {P : Program} {w : World} {H : Hp} {h h' : Heap} {x e : Addr} {o' : HO}
theorem HOk.write(ok:HOk P w H h)(mu:Mut (H x))(he:e=x∨H e=some (.own x))(k:∀b u,b≠e->h.get? b=some u->h'.get? b=some u)(heo:∃u,h'.get? e=some u)
 (new:aK P w (upd H x o') h' x o'):HOk P w (upd H x o') h':=λ b u q=>by
 have nown:∀c y,H c=some (.own y)->c≠x:=λ c y r z=>by subst z;rw[r]at mu;exact mu
 have ntup:∀c xs,H c=some (.tup xs)->c≠x:=λ c xs r z=>by subst z;rw[r]at mu;exact mu
 by_cases hb:b=x
 . subst hb;rw[aH]at q;cases q;exact new
 . rw [ao hb]at q
   by_cases hbe:b=e
   . have q':H b=some (.own x):=by
      rcases he with z | z
      . exact absurd (hbe.trans z) hb
      . rw[hbe];exact z
     rw[q]at q';cases q'
     obtain⟨v,hv⟩:=heo
     exact⟨v,by rw[hbe];exact hv⟩
   . refine(ok b u q).stay (λ c v hc r=>k c v ?_ r) (λ c r=>by rw[ao (nown c b r)];exact r) λ c xs r=>by rw[ao (ntup c xs r)];exact r
     rcases hc with rfl | hc
     . exact hbe
     . rintro rfl
       rcases he with z | z
       . exact nown c b hc z
       . rw[hc]at z;cases z;exact hb rfl
end
structure Un(fs ex:List Addr)(H H':Hp)(h h':Heap):Prop where
 keep:∀b o,h.get? b=some o->H b=none->b∉fs->b∉ex->h'.get? b=some o
 slot:∀b o,h.get? b=some o->H b=none->b∈fs->b∉ex->∃sl,h'.get? b=some {o with slots:=sl}
 free:∀b o,h.get? b=some o->H b=none->b∉ex->H' b=none
 there:∀b o,h.get? b=some o->b∉ex->∃o',h'.get? b=some o'
 tups:∀b xs,H b=some (.tup xs)->H' b=some (.tup xs)
 frzs:∀b o u,H b=some (.frz o u)->H' b=some (.frz o u)
 tbls:∀b ps,H b=some (.tbl ps)->∃more,H' b=some (.tbl (ps++more))
section
variable {fs fs' ex ex' : List Addr} {H H1 H2 : Hp} {h h1 h2 h' : Heap} {a x e : Addr} {o : HO}
theorem Un.any(u:Un fs ex H H1 h h1){b:Addr}{ob:Obj}(q:h.get? b=some ob)(n:H b=none)(hx:b∉ex):∃sl,h1.get? b=some {ob with slots:=sl}:=by
 by_cases hb:b∈fs
 . exact u.slot b ob q n hb hx
 . exact⟨ob.slots,u.keep b ob q n hb hx⟩
theorem Un.kept(k:∀b u,h.get? b=some u->h'.get? b=some u):Un fs ex H H h h':=
 ⟨λ b ob q _ _ _=>k b ob q,λ b ob q _ _ _=>⟨ob.slots,k b ob q⟩,λ _ _ _ n _=>n,λ b ob q _=>⟨ob,k b ob q⟩,λ _ _ q=>q,λ _ _ _ q=>q,λ _ ps q=>⟨#[],by rw[q];simp⟩⟩
theorem Un.refl:Un fs ex H H h h:=Un.kept λ _ _ q=>q
theorem Un.laid(k:∀b u,h.get? b=some u->h'.get? b=some u)(hp:h.objs.size≤a)(hn:H a=none):Un fs ex H (upd H a o) h h' where
 keep:=λ b u q _ _ _=>k b u q
 slot:=λ b u q _ _ _=>⟨u.slots,k b u q⟩
 free:=λ b u q n _=>by rw[ao (w9 (x9 (ZE q) hp))];exact n
 there:=λ b u q _=>⟨u,k b u q⟩
 tups:=λ b xs q=>by rw[ao (aB q hn)];exact q
 frzs:=λ b u xs q=>by rw[ao (aB q hn)];exact q
 tbls:=λ b ps q=>⟨#[],by rw[ao (aB q hn),q];simp⟩
theorem Un.write(mu:Mut (H x))(he:e=x∨H e=some (.own x))(k:∀b u,b≠e->h.get? b=some u->h'.get? b=some u)(heo:∃u,h'.get? e=some u):Un fs ex H (upd H x o) h h':=by
 have hx:∀b,H b=none->b≠x:=λ b n z=>by subst z;rw[n]at mu;exact mu
 have hb:∀b,H b=none->b≠e:=λ b n z=>by
  subst z
  rcases he with r | r
  . exact hx b n r
  . rw[n]at r;cases r
 have hm:∀b u,H b=some u->¬Mut (some u)->b≠x:=λ b u q nm z=>by subst z;rw[q]at mu;exact nm mu
 refine⟨λ b u q n _ _=>k b u (hb b n) q,λ b u q n _ _=>⟨u.slots,k b u (hb b n) q⟩,λ b u q n _=>by rw[ao (hx b n)];exact n,λ b u q _=>?_,
  λ b xs q=>by rw[ao (hm b _ q λ z=>z)];exact q,λ b u xs q=>by rw[ao (hm b _ q λ z=>z)];exact q,λ b ps q=>⟨#[],by rw[ao (hm b _ q λ z=>z),q];simp⟩⟩
 by_cases hbe:b=e
 . subst hbe;exact heo
 . exact⟨u,k b u hbe q⟩
end
def trk(h:Heap)(H:Hp):List Addr:=(List.range h.objs.size).filter λ a=>(H a).isSome
def jM(h:Heap)(H:Hp):Heap:=PySem.W.hideAll h (trk h H)
theorem G7(h:Heap)(H:Hp):(jM h H).objs.size=h.objs.size:=PySem.W.hideAll_size _ _
theorem M4{h:Heap}{H:Hp}{o:Obj}(e:h.get? b=some o)(n:H b=none):(jM h H).get? b=some o:=
 PySem.W.hideAll_get _ e λ hm=>by
  have q:(H b).isSome=true:=(List.mem_filter.mp hm).2
  rw[n]at q;simp at q
theorem Pk{h:Heap}{H:Hp}{o:Obj}(e:(jM h H).get? b=some o):h.get? b=some o/\H b=none:=by
 have e':h.get? b=some o:=PySem.W.of_hideAll (trk h H) e
 refine⟨e',?_⟩
 cases q:H b with
 | none=>rfl
 | some x=>
   have hm:b∈trk h H:=List.mem_filter.mpr ⟨List.mem_range.mpr (ZE e'),by simp[q]⟩
   have z:(jM h H).get? b=none:=PySem.W.hideAll_none (trk h H) hm
   rw[z]at e;cases e
end L2
namespace L2
open PySem PySem.Spec PyProof.Rows
variable {t' : Nat}
structure Mod(K:PySem.W.Frag)(mg:Str->Option Value)(base:Heap):Prop where
 kin:K.In base
 glob:base.Ns mainGlobals mg
 blt:∃mb,base.Ns builtinsNs mb/\∀x:Str,x≠"__name__"->mb x=bootBuiltins x
 nolimit:base.NoLimit
set_option genInjectivity false in
structure Cx where
 prog:Program
 w:World
 K:PySem.W.Frag
 mg:Str->Option Value
 base:Heap
 A:Around
 N:%[|2]
 s₀:Shared
 H₀:Hp
 env:Env
 outer:List Env
 stack:List Env
 ex:List Addr
 fn:Str->Bool
 calm:Bool
 pn:List (Addr×Obj)
 xe:%[|7]
def frs(l:List Env):List Addr:=l.filterMap (·.frame)
abbrev Cx.fs(X:Cx):List Addr:=frs X.outer
def Vis(sc:Scope)(x:Str):Prop:=sc.names.lookup x=some .local∨sc.names.lookup x=some .cell∨sc.names.lookup x=some .free
def Loc(sc:Scope)(x:Str):Prop:=sc.names.lookup x=some .local∨sc.names.lookup x=some .cell
def Look(env:Env)(h:Heap)(m:Str->Option Value)(x:Str)(u:Value):Prop:=
 (env.kindOf x=some .local/\m x=some u)∨((env.kindOf x=some .cell∨env.kindOf x=some .free)/\∃c,env.cells.lookup x=some c/\h.IsCell c (some u))
structure Cx.Ok(X:Cx):Prop where
 mod:Mod X.K X.mg X.base
 kind:X.env.scope.kind=.function
 glob:X.env.globals=mainGlobals
 blt:X.env.builtins=builtinsNs
 above:X.s₀.heap.objs.size≤X.env.locals
 inj:∀x y c,X.env.cells.lookup x=some c->X.env.cells.lookup y=some c->x=y
 has:∀x,(X.env.kindOf x=some .cell∨X.env.kindOf x=some .free)->∃c,X.env.cells.lookup x=some c
 cab:∀x c,X.fn x=true->X.env.cells.lookup x=some c->X.s₀.heap.objs.size≤c
 hd:X.calm=true->X.A.handled=none
 frames:X.A.frames=some X.stack
 stk:X.stack=X.outer∨(X.stack=X.env::X.outer/\X.env.frame=some X.env.locals)
 exf:∀b∈X.ex,b≠X.env.locals/\∀x c,X.env.cells.lookup x=some c->c≠b
 bs:∀b o,X.base.get? b=some o->X.s₀.heap.get? b=some o/\X.H₀ b=none
 bsz:X.base.objs.size≤X.s₀.heap.objs.size
 noex:∀b o,X.base.get? b=some o->b∉X.ex
 exfs:∀b∈X.ex,b∉X.fs
 funs:X.s₀.heap.FunFrames X.base X.outer
 frf:∀b∈X.fs,X.H₀ b=none
structure Inv(X:Cx)(pins:List (Addr×Obj))(σ:List (Option V))(H:Hp)(s:Shared):Prop where
 ok:X.Ok
 os:s.os=X.s₀.os
 bare:AllBare s.gens
 base:Un X.fs X.ex X.H₀ H X.s₀.heap s.heap
 loc:∃m,s.heap.Ns X.env.locals m/\∀(i:Nat)(x:Str)(v:V),X.N[i]? =some x->σ[i]? =some (some v)->Vis X.env.scope x->∃u,RelV v u/\Look X.env s.heap m x u
 cell:∀x c,X.env.cells.lookup x=some c->∃v,s.heap.IsCell c v
 free:H X.env.locals=none
 freeC:∀x c,X.env.cells.lookup x=some c->H c=none
 pin:∀p∈X.pn++pins,s.heap.get? p.1=some p.2/\H p.1=none/\p.1≠X.env.locals/\p.1∉X.fs/\∀v,p.2.data≠.cell v
 hok:HOk X.prog X.w H s.heap
 len:σ.length=X.N.length
section
variable {X : Cx} {pins : List (Addr × Obj)} {σ : List (Option V)} {H H' : Hp} {s : Shared} {h' : Heap}
theorem Cx.Ok.nofr(ok:X.Ok){b:Addr}{o:Obj}(e:X.base.get? b=some o):b∉X.fs:=λ hb=>by
 have:=(ok.funs.mem hb).1
 rw[e]at this;cases this
theorem Inv.bs(I:%[|5]):∀b o,X.base.get? b=some o->s.heap.get? b=some o/\H b=none:=λ b o e=>
 ⟨I.base.keep b o (I.ok.bs b o e).1 (I.ok.bs b o e).2 (I.ok.nofr e) (I.ok.noex b o e),I.base.free b o (I.ok.bs b o e).1 (I.ok.bs b o e).2 (I.ok.noex b o e)⟩
theorem Inv.bk(I:%[|5]):∀b o,X.base.get? b=some o->s.heap.get? b=some o:=λ b o e=>(I.bs b o e).1
theorem Inv.mod(I:%[|5]):Mod X.K X.mg X.base:=I.ok.mod
theorem Inv.kIn(I:%[|5]):X.K.In s.heap:=I.ok.mod.kin.keeps I.bk
theorem Inv.lt(I:%[|5]):X.env.locals<s.heap.objs.size:=let ⟨_,hn,_⟩:=I.loc;hn.lt
theorem Inv.sz(I:%[|5]):X.s₀.heap.objs.size≤s.heap.objs.size:=Nat.le_trans I.ok.above (Nat.le_of_lt I.lt)
theorem Inv.nofs(I:%[|5]){a:Addr}(h:s.heap.objs.size≤a):a∉X.fs:=λ hb=>by
 obtain⟨_,o,ho,_⟩:=I.ok.funs.mem hb
 exact absurd (x9 (ZE ho) (Nat.le_trans I.sz h)) (Nat.lt_irrefl _)
theorem Inv.cne(I:%[|5]):∀x c,X.env.cells.lookup x=some c->c≠X.env.locals:=λ x c e z=>by
 obtain⟨v,o,ho,hd⟩:=I.cell x c e
 obtain⟨m,⟨o',es,ep,ho',hd',_⟩,_⟩:=I.loc
 rw[z,ho']at ho;cases ho;rw[hd']at hd;cases hd
theorem Inv.funs(I:%[|5]):s.heap.FunFrames X.base X.outer:=by
 have all:∀(l:List Env),(∀b∈frs l,b∈X.fs)->X.s₀.heap.FunFrames X.base l->s.heap.FunFrames X.base l:=by
  intro l
  induction l with
  | nil=>intro _ _;trivial
  | cons env r ih=>
    intro hs hl
    obtain⟨hk,⟨L,o,hf,hn,ho,hd⟩,hr⟩:=hl
    have hL:L∈X.fs:=hs L (by unfold frs;rw[List.filterMap_cons,hf];exact x5)
    obtain⟨sl,e⟩:=I.base.slot L o ho (I.ok.frf L hL) hL λ z=>I.ok.exfs L z hL
    exact⟨hk,⟨L,_,hf,hn,e,hd⟩,ih (λ b hb=>hs b (by unfold frs;rw[List.filterMap_cons,hf];exact x3 _ hb)) hr⟩
 exact all X.outer (λ _ hb=>hb) I.ok.funs
theorem Inv.stack(I:%[|5]):s.heap.FunFrames X.base X.stack:=by
 rcases I.ok.stk with e | ⟨e,hf⟩
 . rw[e];exact I.funs
 . rw[e]
   obtain⟨m,hn,_⟩:=I.loc
   refine .cons (by rw[I.ok.kind];decide) hf hn ?_ I.funs
   exact Heap.get?_none_of_le (Nat.le_trans I.ok.bsz I.ok.above)
theorem Inv.stkSub(I:%[|5]):∀b∈frs X.stack,b∈X.env.locals::X.fs:=λ b hb=>by
 rcases I.ok.stk with e | ⟨e,hf⟩
 . rw[e]at hb;exact x3 _ hb
 . rw[e]at hb
   unfold frs at hb
   rw[List.filterMap_cons,hf]at hb
   exact hb
theorem Inv.stkFree(I:%[|5]):∀b∈frs X.stack,H b=none:=λ b hb=>by
 rcases ZJ.mp (I.stkSub b hb)with e | hb
 . rw[e];exact I.free
 . obtain⟨_,o,ho,_⟩:=I.ok.funs.mem hb
   exact I.base.free b o ho (I.ok.frf b hb) λ z=>I.ok.exfs b z hb
theorem Inv.step{g':Array GenState}{d':Drawn}{ch:List Addr}(I:%[|5])
 (hch:∀b∈ch,(b∈X.ex∨X.s₀.heap.objs.size≤b)/\b≠X.env.locals/\(∀x c,X.env.cells.lookup x=some c->c≠b)/\∀p∈X.pn++pins,p.1≠b)
 (keep:∀b o,b≠X.env.locals->b∉X.fs->b∉ch->s.heap.get? b=some o->H b=none->h'.get? b=some o)
 (slot:∀b o,b≠X.env.locals->b∈X.fs->b∉ch->s.heap.get? b=some o->H b=none->∃sl,h'.get? b=some {o with slots:=sl})(free:∀b o,b∉ch->s.heap.get? b=some o->H b=none->H' b=none)
 (there:∀b o,b∉ch->s.heap.get? b=some o->∃o',h'.get? b=some o')
 (tups:∀b xs,H b=some (.tup xs)->H' b=some (.tup xs))(frzs:∀b o u,H b=some (.frz o u)->H' b=some (.frz o u))(tbls:∀b ps,H b=some (.tbl ps)->∃more,H' b=some (.tbl (ps++more)))
 (ns:∀m,s.heap.Ns X.env.locals m->h'.Ns X.env.locals m)(hok:HOk X.prog X.w H' h')(hg:AllBare g'):
 Inv X pins σ H' {s with heap:=h',gens:=g',drawn:=d',toks:=t'}:=by
 have neL:∀b o,X.s₀.heap.get? b=some o->b≠X.env.locals:=λ b o e=>w9 (x9 (ZE e) I.ok.above)
 have neC:∀b o,X.s₀.heap.get? b=some o->b∉X.ex->b∉ch:=λ b o e hx hb=>by
  rcases(hch b hb).1 with z | z
  . exact hx z
  . exact absurd (x9 (ZE e) z) (Nat.lt_irrefl _)
 have cellK:∀x c,X.env.cells.lookup x=some c->∀v,s.heap.IsCell c v->h'.IsCell c v:=λ x c e v ⟨o,ho,hd⟩=>by
  have nch:c∉ch:=λ z=>(hch c z).2.2.1 x c e rfl
  by_cases hc:c∈X.fs
  . obtain⟨sl,q⟩:=slot c o (I.cne x c e) hc nch ho (I.freeC x c e)
    exact⟨_,q,hd⟩
  . exact⟨o,keep c o (I.cne x c e) hc nch ho (I.freeC x c e),hd⟩
 refine⟨I.ok,I.os,hg,⟨λ b o e n hb hx=>?_,λ b o e n hb hx=>?_,λ b o e n hx=>?_,λ b o e hx=>?_,λ b xs e=>tups b xs (I.base.tups b xs e),λ b o xs e=>frzs b o xs (I.base.frzs b o xs e),λ b ps e=>?_⟩,?_,λ x c e=>?_,?_,λ x c e=>?_,λ p hp=>?_,hok,I.len⟩
 . exact keep b o (neL b o e) hb (neC b o e hx) (I.base.keep b o e n hb hx) (I.base.free b o e n hx)
 . obtain⟨sl,e1⟩:=I.base.slot b o e n hb hx
   obtain⟨sl',e2⟩:=slot b _ (neL b o e) hb (neC b o e hx) e1 (I.base.free b o e n hx)
   exact⟨sl',e2⟩
 . obtain⟨o',e1⟩:=I.base.there b o e hx
   exact free b o' (neC b o e hx) e1 (I.base.free b o e n hx)
 . obtain⟨o',e1⟩:=I.base.there b o e hx
   exact there b o' (neC b o e hx) e1
 . obtain⟨m1,e1⟩:=I.base.tbls b ps e
   obtain⟨m2,e2⟩:=tbls b _ e1
   exact⟨m1++m2,by rw[e2,Array.append_assoc]⟩
 . obtain⟨m,hn,hl⟩:=I.loc
   refine⟨m,ns m hn,λ i x v e1 e2 e3=>?_⟩
   obtain⟨u,r,l⟩:=hl i x v e1 e2 e3
   refine⟨u,r,?_⟩
   rcases l with l | ⟨k,c,e,z⟩
   . exact .inl l
   . exact .inr ⟨k,c,e,cellK x c e _ z⟩
 . obtain⟨v,z⟩:=I.cell x c e
   exact⟨v,cellK x c e v z⟩
 . obtain⟨m,⟨o,_,_,ho,_⟩,_⟩:=I.loc
   exact free _ o (λ z=>(hch _ z).2.1 rfl) ho I.free
 . obtain⟨v,o,ho,hd⟩:=I.cell x c e
   exact free c o (λ z=>(hch c z).2.2.1 x c e rfl) ho (I.freeC x c e)
 . obtain⟨e,n,ne,nf,d⟩:=I.pin p hp
   have nch:p.1∉ch:=λ z=>(hch p.1 z).2.2.2 p hp rfl
   exact⟨keep p.1 p.2 ne nf nch e n,free p.1 p.2 nch e n,ne,nf,d⟩
theorem Inv.un(I:%[|5])(u:Un X.fs [] H H' s.heap h')(hok:HOk X.prog X.w H' h'):Inv X pins σ H' {s with heap:=h',toks:=t'}:=by
 obtain⟨m,⟨o,es,ep,ho,r⟩,_⟩:=id I.loc
 obtain⟨sl,hL⟩:=u.any ho I.free (by simp)
 exact I.step (g':=s.gens) (d':=s.drawn) (ch:=[]) (λ _ z=>nomatch z) (λ b o _ hb _ e n=>u.keep b o e n hb (by simp)) (λ b o _ hb _ e n=>u.slot b o e n hb (by simp)) (λ b o _ e n=>u.free b o e n (by simp)) (λ b o _ e=>u.there b o e (by simp)) u.tups u.frzs u.tbls (λ m' hm=>by
  obtain⟨o',es',ep',ho',r'⟩:=hm
  rw[ho]at ho';cases ho'
  exact⟨_,es',ep',hL,r'⟩) hok I.bare
theorem Inv.call{g':Array GenState}{d':Drawn}{ch:List Addr}(I:%[|5])(u:Un (frs X.stack) ch H H' s.heap h')(hok:HOk X.prog X.w H' h')(hg:AllBare g')
 (hch:∀b∈ch,(b∈X.ex∨X.s₀.heap.objs.size≤b)/\b≠X.env.locals/\(∀x c,X.env.cells.lookup x=some c->c≠b)/\∀p∈X.pn++pins,p.1≠b):
 Inv X pins σ H' {s with heap:=h',gens:=g',drawn:=d',toks:=t'}:=by
 obtain⟨m,⟨o,es,ep,ho,r⟩,_⟩:=id I.loc
 obtain⟨sl,hL⟩:=u.any ho I.free λ z=>(hch _ z).2.1 rfl
 exact I.step (ch:=ch) hch (λ b o hL hb hc e n=>u.keep b o e n (λ z=>(ZJ.mp (I.stkSub b z)).elim hL hb) hc) (λ b o _ _ hc e n=>u.any e n hc) (λ b o hc e n=>u.free b o e n hc) (λ b o hc e=>u.there b o e hc) u.tups u.frzs u.tbls (λ m' hm=>by
  obtain⟨o',es',ep',ho',r'⟩:=hm
  rw[ho]at ho';cases ho'
  exact⟨_,es',ep',hL,r'⟩) hok hg
theorem Inv.turned{it:Addr}(I:%[|5])(k:∀b o,b≠it->s.heap.get? b=some o->h'.get? b=some o)(hn:H it=none)(hL:it≠X.env.locals)
 (h1:it∈X.ex∨X.s₀.heap.objs.size≤it)(h2:∀x c,X.env.cells.lookup x=some c->c≠it)(h3:∀p∈X.pn++pins,p.1≠it):Inv X pins σ H {s with heap:=h',toks:=t'}:=by
 have nit:∀b u,H b=some u->b≠it:=λ b u e z=>by rw[z,hn]at e;cases e
 refine I.step (g':=s.gens) (d':=s.drawn) (ch:=[it]) (λ b hb=>?_) (λ b o _ _ hc e _=>k b o (λ z=>hc (by simp[z])) e) (λ b o _ _ hc e _=>⟨o.slots,k b o (λ z=>hc (by simp[z])) e⟩) (λ _ _ _ _ n=>n)
  (λ b o hc e=>⟨o,k b o (λ z=>hc (by simp[z])) e⟩) (λ _ _ e=>e) (λ _ _ _ e=>e) (λ b ps e=>⟨#[],by rw[e];simp⟩) (λ m hm=>?_) (λ b u e=>?_) I.bare
 . have e:b=it:=by simpa using hb
   subst e
   exact⟨h1,hL,h2,h3⟩
 . obtain⟨o,es,ep,ho,r⟩:=hm
   exact⟨o,es,ep,k _ o (Ne.symm hL) ho,r⟩
 . refine(I.hok b u e).stay (λ c v hc q=>k c v ?_ q) (λ _ q=>q) λ _ _ q=>q
   rcases hc with z | z
   . rw[z];exact nit b u e
   . exact nit c _ z
theorem Inv.tok(I:%[|5])(t:Nat):Inv X pins σ H {s with toks:=t}:=I.un (h':=s.heap) (t':=t) Un.refl I.hok
theorem Inv.kept(I:%[|5])(k:∀b u,s.heap.get? b=some u->h'.get? b=some u):Inv X pins σ H {s with heap:=h',toks:=t'}:=I.un (Un.kept k) (I.hok.kept k)
theorem Inv.laid{a:Addr}{o:HO}(I:%[|5])(k:∀b u,s.heap.get? b=some u->h'.get? b=some u)(hp:s.heap.objs.size≤a)(new:aK X.prog X.w (upd H a o) h' a o):
 Inv X pins σ (upd H a o) {s with heap:=h',toks:=t'}:=I.un (Un.laid k hp (I.hok.fresh hp)) (I.hok.laid k hp new)
theorem Inv.write{x e:Addr}{o:HO}(I:%[|5])(mu:Mut (H x))(he:e=x∨H e=some (.own x))(k:∀b u,b≠e->s.heap.get? b=some u->h'.get? b=some u)(heo:∃u,h'.get? e=some u)
 (new:aK X.prog X.w (upd H x o) h' x o):Inv X pins σ (upd H x o) {s with heap:=h',toks:=t'}:=I.un (Un.write mu he k heo) (I.hok.write mu he k heo new)
theorem Inv.pins_of{pins':List (Addr×Obj)}(I:%[|5])(h:∀p∈pins',s.heap.get? p.1=some p.2/\H p.1=none/\p.1≠X.env.locals/\p.1∉X.fs/\∀v,p.2.data≠.cell v):Inv X pins' σ H s:=
 ⟨I.ok,I.os,I.bare,I.base,I.loc,I.cell,I.free,I.freeC,λ p hp=>(ZK.mp hp).elim (λ z=>I.pin p (List.mem_append_left _ z)) (h p),I.hok,I.len⟩
theorem wK{N:%[|2]}(hN:N.Nodup){i j:Nat}{x:Str}(a:N[i]? =some x)(b:N[j]? =some x):i=j:=by
 obtain⟨h1,e1⟩:=z0.mp a
 obtain⟨h2,e2⟩:=z0.mp b
 exact(List.getElem_inj hN).mp (e1.trans e2.symm)
theorem uF{M:Model}{A:Around}{E:%[|7]}{i:Nat}{x:Str}{v:V}{u:Value}{Q:Unit->%[|8]}(I:%[|5])(hN:X.N.Nodup)(hi:X.N[i]? =some x)(hx:Loc X.env.scope x)(r:RelV v u)
 (h:∀s',Inv X pins (σ.set i (some v)) H s'->(∃a,Heap.SameBut a s.heap s'.heap/\(a=X.env.locals∨X.env.cells.lookup x=some a))->Q () s')(hf:X.fn x=true∨X.env.scope.names.lookup x=some .local:=by first | exact .inl rfl | exact .inr rfl | assumption):wpAny M A (storeName X.env x u) Q E s:=by
 obtain⟨m,hn,hl⟩:=id I.loc
 have hcls:(X.env.scope.kind==.class||(X.env.scope.kind==.module&&X.env.locals !=X.env.globals))=false:=by rw[I.ok.kind];rfl
 have hiσ:i<σ.length:=by rw[I.len];exact(z0.mp hi).1
 have cne:=I.cne
 have tracked:∀{a:Addr}{h':Heap},(∃o,s.heap.get? a=some o/\H a=none)->Heap.SameBut a s.heap h'->HOk X.prog X.w H h':=λ{a h'} ha hs b ob e=>by
  obtain⟨_,_,hfree⟩:=ha
  refine(I.hok b ob e).stay (λ c w' hc q=>(hs.2 c ?_).trans q) (λ _ q=>q) λ _ _ q=>q
  rintro rfl
  rcases hc with rfl | hc
  . rw[hfree]at e;cases e
  . rw[hfree]at hc;cases hc
 rcases hx with hk | hk
 . refine wpAny_storeName_local hk hn (λ h' hn' hs=>?_) hcls
   obtain⟨oL,_,_,hoL,_⟩:=id hn
   refine h _ ⟨I.ok,I.os,I.bare,⟨λ b o e n hb hx=>?_,λ b o e n hb hx=>?_,I.base.free,λ b o e hx=>?_,I.base.tups,I.base.frzs,I.base.tbls⟩,⟨_,hn',λ j y v' e1 e2 e3=>?_⟩,λ y c e=>?_,I.free,I.freeC,λ p hp=>?_,tracked ⟨oL,hoL,I.free⟩ hs,by simpa using I.len⟩ ⟨_,hs,.inl rfl⟩
   . exact(hs.2 b (w9 (x9 (ZE e) I.ok.above))).trans (I.base.keep b o e n hb hx)
   . obtain⟨sl,e1⟩:=I.base.slot b o e n hb hx
     exact⟨sl,(hs.2 b (w9 (x9 (ZE e) I.ok.above))).trans e1⟩
   . obtain⟨o',e1⟩:=I.base.there b o e hx
     exact⟨o',(hs.2 b (w9 (x9 (ZE e) I.ok.above))).trans e1⟩
   . by_cases hj:j=i
     . subst hj
       rw[hi]at e1;cases e1
       rw[List.getElem?_set_self hiσ]at e2
       cases e2
       exact⟨u,r,.inl ⟨hk,by simp⟩⟩
     . rw[List.getElem?_set_ne (Ne.symm hj)]at e2
       obtain⟨u',r',q⟩:=hl j y v' e1 e2 e3
       refine⟨u',r',?_⟩
       rcases q with⟨k,e⟩ | ⟨k,c,e,z⟩
       . refine .inl ⟨k,?_⟩
         have:y≠x:=λ e=>hj (wK hN e1 (e▸hi))
         simp[this,e]
       . exact .inr ⟨k,c,e,z.sameBut hs (cne y c e)⟩
   . obtain⟨w',z⟩:=I.cell y c e
     exact⟨w',z.sameBut hs (cne y c e)⟩
   . obtain⟨e,n,ne,nf,d⟩:=I.pin p hp
     exact⟨(hs.2 p.1 ne).trans e,n,ne,nf,d⟩
 . have hfn:X.fn x=true:=by
    rcases hf with z | z
    . exact z
    . rw[z]at hk;cases hk
   obtain⟨c,hc⟩:=I.ok.has x (.inl hk)
   obtain⟨w',z⟩:=I.cell x c hc
   refine wpAny_storeName_cell I.ok.kind hk hc z (λ h' hc' hs=>?_)
   obtain⟨oc,hoc,hocd⟩:=id z
   refine h {s with heap:=h'} ⟨I.ok,I.os,I.bare,⟨λ b o e n hb hx=>?_,λ b o e n hb hx=>?_,I.base.free,λ b o e hx=>?_,I.base.tups,I.base.frzs,I.base.tbls⟩,⟨m,hn.sameBut hs (Ne.symm (cne x c hc)),λ j y v' e1 e2 e3=>?_⟩,λ y c' e=>?_,I.free,I.freeC,λ p hp=>?_,tracked ⟨oc,hoc,I.freeC x c hc⟩ hs,by simpa using I.len⟩ ⟨c,hs,.inr hc⟩
   . exact(hs.2 b (w9 (x9 (ZE e) (I.ok.cab x c hfn hc)))).trans (I.base.keep b o e n hb hx)
   . obtain⟨sl,e1⟩:=I.base.slot b o e n hb hx
     exact⟨sl,(hs.2 b (w9 (x9 (ZE e) (I.ok.cab x c hfn hc)))).trans e1⟩
   . obtain⟨o',e1⟩:=I.base.there b o e hx
     exact⟨o',(hs.2 b (w9 (x9 (ZE e) (I.ok.cab x c hfn hc)))).trans e1⟩
   . by_cases hj:j=i
     . subst hj
       rw[hi]at e1;cases e1
       rw[List.getElem?_set_self hiσ]at e2
       cases e2
       exact⟨u,r,.inr ⟨.inl hk,c,hc,hc'⟩⟩
     . rw[List.getElem?_set_ne (Ne.symm hj)]at e2
       obtain⟨u',r',q⟩:=hl j y v' e1 e2 e3
       refine⟨u',r',?_⟩
       rcases q with q | ⟨k,c',e,z'⟩
       . exact .inl q
       . refine .inr ⟨k,c',e,z'.sameBut hs ?_⟩
         rintro rfl
         exact hj (wK hN e1 (I.ok.inj _ _ _ e hc▸hi))
   . by_cases hcc:c'=c
     . subst hcc;exact⟨_,hc'⟩
     . obtain⟨w2,z2⟩:=I.cell y c' e
       exact⟨w2,z2.sameBut hs hcc⟩
   . obtain⟨e,n,ne,nf,d⟩:=I.pin p hp
     refine⟨(hs.2 p.1 ?_).trans e,n,ne,nf,d⟩
     intro q
     rw[q,hoc]at e
     have q':oc=p.2:=Option.some.inj e
     exact d w' (by rw[←q'];exact hocd)
theorem gh{M:Model}{A:Around}{E:%[|7]}{i:Nat}{x:Str}{v:V}{u:Value}{Q:Unit->%[|8]}(I:%[|5])(hN:X.N.Nodup)(hi:X.N[i]? =some x)(hx:Loc X.env.scope x)(r:RelV v u)
 (h:∀s',Inv X pins (σ.set i (some v)) H s'->Q () s')(hf:X.fn x=true∨X.env.scope.names.lookup x=some .local:=by first | exact .inl rfl | exact .inr rfl | assumption):wpAny M A (storeName X.env x u) Q E s:=
 uF I hN hi hx r (λ s' I' _=>h s' I') hf
theorem Inv.call'{s':Shared}{ch:List Addr}(I:%[|5])(ho:s'.os=s.os)(u:Un (frs X.stack) ch H H' s.heap s'.heap)(hok:HOk X.prog X.w H' s'.heap)(hg:AllBare s'.gens)
 (hch:∀b∈ch,(b∈X.ex∨X.s₀.heap.objs.size≤b)/\b≠X.env.locals/\(∀x c,X.env.cells.lookup x=some c->c≠b)/\∀p∈X.pn++pins,p.1≠b):Inv X pins σ H' s':=by
 obtain⟨h',g',d',t',o'⟩:=s'
 have e:o'=s.os:=ho
 subst e
 exact I.call (g':=g') (t':=t') (d':=d') u hok hg hch
end
abbrev XK:=Value->Option Addr->Hp->Prop
abbrev St:=List (Option V)
abbrev VK:=V->Hp->Prop
abbrev TE:=St->Hp->VK->Prop
abbrev TT:=St->Hp->(Bool->Hp->Prop)->Prop
abbrev TA:=St->Hp->(List V->Hp->Prop)->Prop
structure Ends where
 nx:St->Hp->Prop
 rt:VK
 bk:St->Hp->Prop:=λ _ _=>False
 ct:St->Hp->Prop:=λ _ _=>False
abbrev TS:=Ends->St->Hp->Prop
def EP(X:Cx)(pins:List (Addr×Obj))(σ:St)(Q:VK)(u:Value)(s':Shared):Prop:=∃v H',Inv X pins σ H' s'/\RelV v u/\Q v H'
def TP(X:Cx)(pins:List (Addr×Obj))(σ:St)(Q:Bool->Hp->Prop)(b:Bool)(s':Shared):Prop:=∃H',Inv X pins σ H' s'/\Q b H'
def AP(X:Cx)(pins:List (Addr×Obj))(σ:St)(Q:List V->Hp->Prop)(us:List Value)(s':Shared):Prop:=∃vs H',Inv X pins σ H' s'/\Vals vs us/\Q vs H'
def SP(X:Cx)(pins:List (Addr×Obj))(D:Ends)(f:Flow)(s':Shared):Prop:=
 match f with
 | .next=>∃σ' H',Inv X pins σ' H' s'/\D.nx σ' H'
 | .brk=>∃σ' H',Inv X pins σ' H' s'/\D.bk σ' H'
 | .cont=>∃σ' H',Inv X pins σ' H' s'/\D.ct σ' H'
 | .ret u=>∃v σ' H',Inv X pins σ' H' s'/\RelV v u/\D.rt v H'
def PE(X:Cx)(e:Expr)(t:TE):Prop:=
 ∀(pins:List (Addr×Obj))(s:Shared)(σ:St)(H:Hp)(Q:VK),%[|5]->t σ H Q->wpAny %[|6] X.A (eval e X.env) (EP X pins σ Q) X.xe s
def PA(X:Cx)(es:List Expr)(t:TA):Prop:=
 ∀(pos:Pos)(pins:List (Addr×Obj))(s:Shared)(σ:St)(H:Hp)(Q:List V->Hp->Prop),%[|5]->t σ H Q->wpAny %[|6] X.A (spliced (backTo pos (starEach es X.env))) (AP X pins σ Q) X.xe s
def PS(X:Cx)(st:Stmt)(t:TS):Prop:=
 ∀(pins:List (Addr×Obj))(s:Shared)(σ:St)(H:Hp)(D:Ends),%[|5]->t D σ H->wpAny %[|6] X.A (exec st X.env) (SP X pins D) X.xe s
def PSs(X:Cx)(st:List Stmt)(t:TS):Prop:=
 ∀(pins:List (Addr×Obj))(s:Shared)(σ:St)(H:Hp)(D:Ends),%[|5]->t D σ H->wpAny %[|6] X.A (execs st X.env) (SP X pins D) X.xe s
theorem thn{α:Type}{t:Sem α}{Q Q':α->%[|8]}{M:Model}{A:Around}{E:%[|7]}{s:Shared}(h:wpAny M A t Q E s)(hQ:∀a s,Q a s->Q' a s):wpAny M A t Q' E s:=wpAny_mono h hQ λ _ _ x=>x
end L2
namespace L2
open PySem PySem.Spec PyProof.Rows
variable {x : Str} {u : Value}
section
variable {X : Cx}
def V0(i:Nat):TE:=λ σ H Q=>∃v,σ[i]? =some (some v)/\Q v H
def tC(v:V):TE:=λ _ H Q=>Q v H
theorem QW{i:Nat}{pos:Pos}(hN:X.N[i]? =some x)(hv:Vis X.env.scope x)(hd:(x==("__debug__":Str))=false:=by decide)(hcd:(x==("__classdict__":Str))=false:=by decide):PE X (.Name x pos) (V0 i):=by
 intro pins s σ H Q I h
 obtain⟨v,e,h⟩:=h
 obtain⟨m,hn,hl⟩:=I.loc
 obtain⟨u,r,l⟩:=hl i x v hN e hv
 have fin:EP X pins σ Q u s:=⟨v,H,I,r,h⟩
 rcases l with⟨hk,hm⟩ | ⟨hk,c,hc,hcell⟩
 . exact wpAny_Name (wpAny_loadName_local I.ok.kind hk hn hm fin) hd
 . rcases hk with hk | hk
   . exact wpAny_Name (wpAny_loadName_cell I.ok.kind hk hc hcell fin) hd
   . exact wpAny_Name (wpAny_loadName_free I.ok.kind hk hc hcell fin hcd) hd
theorem Ue{i j pos}:PE X (.Constant (.int i) j pos) (tC (.int i)):=λ _ _ _ H _ I h=>wpAny_Constant_int ⟨.int i,H,I.tok _,⟨_,rfl⟩,h⟩
theorem Vl{b j pos}:PE X (.Constant (.bool b) j pos) (tC (.bl b)):=λ _ _ _ H _ I h=>Constant_bool ⟨.bl b,H,I,rfl,h⟩
theorem RP{j pos}:PE X (.Constant .none j pos) (tC .non):=λ _ _ _ H _ I h=>Constant_none ⟨.non,H,I,rfl,h⟩
def Gl(X:Cx)(x:Str):Prop:=X.env.kindOf x=some .globalImplicit
theorem Di{E:%[|7]}{pins:List (Addr×Obj)}{s:Shared}{σ:St}{H:Hp}{pos:Pos}{Q:%[|7]}(I:%[|5])(hg:Gl X x)(hm:X.mg x=some u)(h:Q u s)
 (hd:(x==("__debug__":Str))=false:=by decide):wpAny %[|6] X.A (eval (.Name x pos) X.env) Q E s:=
 Calls.Name_function_global I.ok.kind hg (Calls.loadGlobal_global (by rw[I.ok.glob];exact I.mod.glob.keeps I.bk) hm h) hd
theorem cz{E:%[|7]}{pins:List (Addr×Obj)}{s:Shared}{σ:St}{H:Hp}{pos:Pos}{Q:%[|7]}(I:%[|5])(hg:Gl X x)(hm:X.mg x=none)(hv:bootBuiltins x=some u)(h:Q u s)
 (hn:x≠"__name__":=by decide)(hd:(x==("__debug__":Str))=false:=by decide):wpAny %[|6] X.A (eval (.Name x pos) X.env) Q E s:=by
 obtain⟨mb,h1,h2⟩:=I.mod.blt
 exact Calls.Name_function_global I.ok.kind hg (Calls.loadGlobal_builtin (by rw[I.ok.glob];exact I.mod.glob.keeps I.bk) hm (by rw[I.ok.blt];exact h1.keeps I.bk) ((h2 x hn).trans hv) h) hd
theorem Qf{v:V}{pos:Pos}(hg:Gl X x)(hm:X.mg x=some u)(r:RelV v u)(hd:(x==("__debug__":Str))=false:=by decide):PE X (.Name x pos) (tC v):=
 λ _ _ _ H _ I h=>Di I hg hm ⟨v,H,I,r,h⟩ hd
theorem QD{v:V}{pos:Pos}(hg:Gl X x)(hm:X.mg x=none)(hv:bootBuiltins x=some u)(r:RelV v u)(hn:x≠"__name__":=by decide)(hd:(x==("__debug__":Str))=false:=by decide):PE X (.Name x pos) (tC v):=
 λ _ _ _ H _ I h=>cz I hg hm hv ⟨v,H,I,r,h⟩ hn hd
variable {a b : Expr} {ta tb : TE} {pos : Pos}
variable {tA tB' : TT} {rest : List Expr}
end
end L2
namespace L2
open PySem PySem.Spec PyProof.Rows
variable {K : PySem.W.Frag} {tg : Expr}
def SqL(K:PySem.W.Frag)(H:Hp)(a:Addr)(xs:List V):Prop:=
 Rd H a (.lst xs)∨
  ∃(o:Obj) (its:Array Value) (n:Nat),K.lookup a=some o/\o.cls=.type "list"/\o.dict=none/\o.data=.seq its n/\its.size≤sizeLine/\Vals xs its.toList
def SqT(K:PySem.W.Frag)(H:Hp)(a:Addr)(xs:List V):Prop:=
 Rd H a (.tup xs)∨
  ∃(o:Obj) (its:Array Value) (n:Nat),K.lookup a=some o/\o.cls=.type "tuple"/\o.data=.seq its n/\its.size≤sizeLine/\Vals xs its.toList
def VG:Value->Option V
 | .none=>some .non
 | .bool b=>some (.bl b)
 | .int i _=>some (.int i)
 | .str x _=>some (.str x)
 | .bytes b _=>some (.byt b)
 | .float b _=>some (.flt b)
 | .ref a=>some (.ref a)
 | .type n=>some (.ty n)
 | _=>none
theorem RelV.abs{x:V}{u:Value}(r:RelV x u):VG u=some x:=by
 cases x with
 | non=>cases r;rfl
 | bl _=>cases r;rfl
 | int _=>obtain⟨t,rfl⟩:=r;rfl
 | str _=>obtain⟨t,rfl⟩:=r;rfl
 | byt _=>obtain⟨t,rfl⟩:=r;rfl
 | flt _=>obtain⟨t,rfl⟩:=r;rfl
 | ref _=>cases r;rfl
 | ty _=>cases r;rfl
theorem RelV.inj{x y:V}{u:Value}(r:RelV x u)(q:RelV y u):x=y:=Option.some.inj (r.abs.symm.trans q.abs)
theorem Vals.inj:∀{xs ys:List V}{us:List Value},Vals xs us->Vals ys us->xs=ys
 | _,_,_,.nil,.nil=>rfl
 | _,_,_,.cons r t,.cons r' t'=>by rw[r.inj r',Vals.inj t t']
section
variable {X : Cx} {pins : List (Addr × Obj)} {σ : St} {H : Hp} {s : Shared} {a : Addr} {xs ys : List V}
theorem SqL.of(h:H a=some (.lst xs)):SqL K H a xs:=.inl (.inl h)
theorem Inv.list(I:%[|5])(h:SqL X.K H a xs):∃its:List Value,Vals xs its/\PlainL s.heap a its.toArray/\xs.length≤sizeLine:=by
 rcases h with h | ⟨o,its,n,hk,hc,hd,hs,hz,r⟩
 . obtain⟨z,its,n,r,e⟩:=h.ok I.hok
   exact⟨its,r,⟨_,n,e,rfl,rfl,rfl⟩,z⟩
 . refine⟨its.toList,r,⟨o,n,I.kIn a o hk,hc,hd,by simpa using hs⟩,?_⟩
   have e:=r.length
   simp only[Array.length_toList]at e
   omega
theorem Inv.tuple(I:%[|5])(h:SqT X.K H a xs):∃its:List Value,Vals xs its/\IsTup s.heap a its.toArray/\xs.length≤sizeLine:=by
 rcases h with h | ⟨o,its,n,hk,hc,hs,hz,r⟩
 . obtain⟨z,its,r,p⟩:=h.ok I.hok
   exact⟨its,r,p,z⟩
 . refine⟨its.toList,r,⟨o,I.kIn a o hk,hc,n,by simpa using hs⟩,?_⟩
   have e:=r.length
   simp only[Array.length_toList]at e
   omega
theorem Inv.list_inj(I:%[|5])(h:SqL X.K H a xs)(h':SqL X.K H a ys):xs=ys:=by
 obtain⟨its,r,⟨o,n,e,_,_,d⟩,_⟩:=I.list h
 obtain⟨its',r',⟨o',n',e',_,_,d'⟩,_⟩:=I.list h'
 rw[e]at e';cases e'
 rw[d]at d'
 injection d' with d1 _
 have:its=its':=by simpa using congrArg Array.toList d1
 subst this
 exact r.inj r'
theorem Inv.tuple_inj(I:%[|5])(h:SqT X.K H a xs)(h':SqT X.K H a ys):xs=ys:=by
 obtain⟨its,r,⟨o,e,_,n,d⟩,_⟩:=I.tuple h
 obtain⟨its',r',⟨o',e',_,n',d'⟩,_⟩:=I.tuple h'
 rw[e]at e';cases e'
 rw[d]at d'
 injection d' with d1 _
 have:its=its':=by simpa using congrArg Array.toList d1
 subst this
 exact r.inj r'
end
abbrev Cx.wish(X:Cx)(E:%[|7]):Cx:={X with xe:=E}
abbrev Cx.nox(X:Cx):Cx:=X.wish λ _ _=>False
theorem Cx.Ok.wish{X:Cx}(ok:X.Ok)(E:%[|7]):(X.wish E).Ok:=
 ⟨ok.mod,ok.kind,ok.glob,ok.blt,ok.above,ok.inj,ok.has,ok.cab,ok.hd,ok.frames,ok.stk,ok.exf,ok.bs,ok.bsz,ok.noex,ok.exfs,ok.funs,ok.frf⟩
theorem Cx.Ok.unwish{X:Cx}{E:%[|7]}(ok:(X.wish E).Ok):X.Ok:=
 ⟨ok.mod,ok.kind,ok.glob,ok.blt,ok.above,ok.inj,ok.has,ok.cab,ok.hd,ok.frames,ok.stk,ok.exf,ok.bs,ok.bsz,ok.noex,ok.exfs,ok.funs,ok.frf⟩
section
variable {X : Cx} {pins : List (Addr × Obj)} {σ : St} {H : Hp} {s : Shared} {E : Value -> Shared -> Prop}
theorem Inv.wish(I:%[|5])(E:%[|7]):Inv (X.wish E) pins σ H s:=⟨I.ok.wish E,I.os,I.bare,I.base,I.loc,I.cell,I.free,I.freeC,I.pin,I.hok,I.len⟩
theorem Inv.unwish(I:Inv (X.wish E) pins σ H s):%[|5]:=⟨I.ok.unwish,I.os,I.bare,I.base,I.loc,I.cell,I.free,I.freeC,I.pin,I.hok,I.len⟩
theorem SP.unwish{D:Ends}{f:Flow}{s':Shared}(h:SP (X.wish E) pins D f s'):SP X pins D f s':=by
 cases f with
 | next=>obtain⟨σ',H',I,q⟩:=h;exact⟨σ',H',I.unwish,q⟩
 | brk=>obtain⟨σ',H',I,q⟩:=h;exact⟨σ',H',I.unwish,q⟩
 | cont=>obtain⟨σ',H',I,q⟩:=h;exact⟨σ',H',I.unwish,q⟩
 | ret u=>obtain⟨v,σ',H',I,r,q⟩:=h;exact⟨v,σ',H',I.unwish,r,q⟩
theorem PSs.nox{st:List Stmt}{t:TS}(h:PSs X.nox st t):PSs X st t:=λ pins s σ H D I hw=>
 wpAny_mono (h pins s σ H D (I.wish _) hw) (λ _ _ q=>q.unwish) λ _ _ z=>False.elim z
end
section
variable {X : Cx} {st : Stmt} {rest : List Stmt} {t u : TS} {e : Expr} {te : TE} {pos : Pos}
theorem Inv.quiet{pins:List (Addr×Obj)}{σ:St}{H:Hp}{s:Shared}(I:%[|5]):interactive X.env=false:=by simp[interactive,I.ok.kind]
end
abbrev TG:=V->St->Hp->(St->Hp->Prop)->Prop
def PG(X:Cx)(target:Expr)(t:TG):Prop:=
 ∀ (pins:List (Addr×Obj))(s:Shared)(σ:St)(H:Hp)(v:V)(u:Value)(Q:St->Hp->Prop),%[|5]->RelV v u->t v σ H Q->
   wpAny %[|6] X.A (assign target X.env u) (λ _ s'=>∃σ' H',Inv X pins σ' H' s'/\Q σ' H') X.xe s
abbrev Vy:=V->V->V->Hp->(Hp->Prop)->Prop
def V7(X:Cx)(t:Vy):Prop:=
 ∀ (pins:List (Addr×Obj))(s:Shared)(σ:St)(H:Hp)(o i v:V)(ov iv u:Value)(Q:Hp->Prop),%[|5]->RelV o ov->RelV i iv->RelV v u->t o i v H Q->
   wpAny %[|6] X.A (setItem ov iv u) (λ _ s'=>∃H',Inv X pins σ H' s'/\Q H') X.xe s
abbrev TIp:=V->V->Hp->VK->Prop
def PIp(X:Cx)(op:Operator)(t:TIp):Prop:=
 ∀ (pins:List (Addr×Obj))(s:Shared)(σ:St)(H:Hp)(x y:V)(v u:Value)(Q:VK),%[|5]->RelV x v->RelV y u->t x y H Q->
   wpAny %[|6] X.A (inplaceOp op v u) (EP X pins σ Q) X.xe s
section
variable {X : Cx} {pos : Pos}
def VV(i j:Nat)(ta:TA):TS:=λ D σ H=>ta σ H λ vs H1=>∃v w,vs=[v,w]/\D.nx ((σ.set i (some v)).set j (some w)) H1
theorem RG{i j:Nat}{x y:Str}{a b:Expr}{ta:TA}{px py pt:Pos}{kt k2 pt2}(hc:X.calm=true)(hN:X.N.Nodup)(hi:X.N[i]? =some x)(hj:X.N[j]? =some y)(hij:i≠j)
 (hx:X.env.scope.names.lookup x=some .local)(hy:X.env.scope.names.lookup y=some .local)(ha:PA X [a,b] ta)
 (hw:swappedStores [.Tuple [.Name x px,.Name y py] kt pt] (.Tuple [a,b] k2 pt2) X.env=pure (some [x,y]))
 (hs:swapsWithSole [.Tuple [.Name x px,.Name y py] kt pt] (.Tuple [a,b] k2 pt2) pos.line X.env=pure false:=by rfl):
 PS X (.Assign [.Tuple [.Name x px,.Name y py] kt pt] (.Tuple [a,b] k2 pt2) pos) (VV i j ta):=by
 intro pins s σ H D I h
 rw[exec_Assign_arm]
 refine ZA (wpAny_standAt ?_)
 rw[hs]
 refine ZA (ZB ?_)
 rw[if_neg %[|3]]
 refine ZA (Tuple_ (thn (ha _ pins s σ H _ I h) λ us s1 ⟨vs,H1,I1,r1,q1⟩=>?_))
 obtain⟨v,w,e1,q1⟩:=q1
 subst e1
 obtain⟨u1,u2,rfl,rv,rw'⟩:∃u1 u2,us=[u1,u2]/\RelV v u1/\RelV w u2:=by
  cases r1 with
  | cons p q=>
    cases q with
    | cons p' q'=>
      cases q'
      exact⟨_,_,rfl,p,p'⟩
 refine wpAny_newObj_type ?_ (by show 2≤sizeLine;decide)
 have I2:Inv X pins σ H1 {s1 with heap:=s1.heap.push {cls:=.type "tuple",data:=.seq [u1,u2].toArray}}:=I1.kept (t':=s1.toks) λ b o e=>ZC _ e
 rw[hw]
 refine ZA (ZB ?_)
 show wpAny %[|6] X.A (do rule "assign.swapped-stores";let items ←unpackItems (.ref s1.heap.objs.size) 2 none;assignInOrder [λ v=>bindName X.env y v,λ v=>bindName X.env x v] items.reverse;pure Flow.next) _ _ _
 refine ZA (wpAny_rule (ZA (unpackItems_tuple (items:=#[u1,u2]) (I.ok.hd hc) (IsTup.new s1.heap _) λ h' hx'=>?_)))
 have I3:=I2.kept (h':=h') (t':=s1.toks) λ b o e=>hx' b o (w9 (ZE e)) e
 show wpAny _ _ (assignInOrder [λ v=>bindName X.env y v,λ v=>bindName X.env x v] [u2,u1]>>=λ _=>pure Flow.next) _ _ _
 refine ZA (assignInOrder_cons (wpAny_bindName (gh I3 hN hj (.inl hy) rw' (λ s2 I4=>?_) (.inr hy))))
 refine assignInOrder_cons (wpAny_bindName (gh I4 hN hi (.inl hx) rv (λ s3 I5=>assignInOrder_nil (ZB ?_)) (.inr hx)))
 rw[List.set_comm _ _ (Ne.symm hij)]at I5
 exact⟨_,H1,I5,q1⟩
def V2(i:Nat)(te:TE)(ti:TIp):TS:=λ D σ H=>∃x,σ[i]? =some (some x)/\te σ H λ y H1=>ti x y H1 λ z H2=>D.nx (σ.set i (some z)) H2
theorem yG{i:Nat}{x:Str}{e:Expr}{te:TE}{op:Operator}{ti:TIp}{pos':Pos}(hN:X.N.Nodup)(hi:X.N[i]? =some x)(hx:Loc X.env.scope x)(he:PE X e te)(ho:PIp X op ti)(hf:X.fn x=true∨X.env.scope.names.lookup x=some .local:=by first | exact .inl rfl | exact .inr rfl | assumption):
 PS X (.AugAssign (.Name x pos') op e pos) (V2 i te ti):=by
 intro pins s σ H D I h
 obtain⟨v,e1,h⟩:=h
 obtain⟨m,hn,hl⟩:=I.loc
 have vis:Vis X.env.scope x:=by rcases hx with k | k;exact .inl k;exact .inr (.inl k)
 obtain⟨u,r,l⟩:=hl i x v hi e1 vis
 refine wpAny_AugAssign_Name ?_
 have go:wpAny %[|6] X.A (eval e X.env) (λ w s₂=>wpAny %[|6] X.A (inplaceOp op u w) (λ r s₃=>wpAny %[|6] X.A (storeName X.env x r) (λ _=>SP X pins D .next) X.xe s₃) X.xe s₂) X.xe s:=by
  refine thn (he pins s σ H _ I h) λ w s1 ⟨y,H1,I1,r1,q1⟩=>?_
  refine thn (ho pins s1 σ H1 v y u w _ I1 r r1 q1) λ z s2 ⟨zv,H2,I2,r2,q2⟩=>?_
  exact gh I2 hN hi hx r2 (λ s3 I3=>⟨_,H2,I3,q2⟩) hf
 rcases l with⟨hk,hm⟩ | ⟨hk,c,hc,hcell⟩
 . exact wpAny_loadName_local I.ok.kind hk hn hm go
 . rcases hk with hk | hk
   . exact wpAny_loadName_cell I.ok.kind hk hc hcell go
   . rcases hx with k | k
     . have:X.env.scope.names.lookup x=some .free:=hk
       rw[k]at this;cases this
     . have:X.env.scope.names.lookup x=some .free:=hk
       rw[k]at this;cases this
end
structure It where
 go:Nat->Hp->Prop
 yld:Nat->Hp->V->Hp->Prop
 stop:Nat->Hp->Prop
def eQ(X:Cx)(pins:List (Addr×Obj))(H:Hp)(b:Addr):Prop:=
 H b=none/\b≠X.env.locals/\b∉X.fs/\(b∈X.ex∨X.s₀.heap.objs.size≤b)/\(∀x c,X.env.cells.lookup x=some c->c≠b)/\∀p∈X.pn++pins,p.1≠b
theorem Inv.fpOk{X:Cx}{pins:List (Addr×Obj)}{σ:St}{H H':Hp}{s:Shared}{b:Addr}(I:%[|5])(hb:s.heap.objs.size≤b)(hn:H' b=none):eQ X pins H' b:=by
 refine⟨hn,Nat.ne_of_gt (x9 I.lt hb),I.nofs hb,.inr (Nat.le_trans I.sz hb),λ x c e z=>?_,λ p hp z=>?_⟩
 . obtain⟨v,q⟩:=I.cell x c e
   exact absurd (x9 q.lt (by rw[z];exact hb)) (Nat.lt_irrefl _)
 . exact absurd (x9 (ZE (I.pin p hp).1) (by rw[z];exact hb)) (Nat.lt_irrefl _)
structure Turn(P:Program)(w:World)(K:PySem.W.Frag)(tg:Expr)(J:It)(fp:List Addr)(it:Addr)(tn:Nat->Heap->Prop):Prop where
 mem:it∈fp
 obj:∀i h,tn i h->∀b∈fp,∃o,h.get? b=some o/\∀v,o.data≠.cell v
 keep:∀i h h',tn i h->(∀b∈fp,∀o,h.get? b=some o->h'.get? b=some o)->tn i h'
 item:∀(X:Cx),X.prog=P->X.w=w->X.K=K->X.calm=true->∀(i:Nat)(pins:List (Addr×Obj))(s:Shared)(σ:St)(H:Hp)(E:%[|7]),%[|5]->(∀b∈fp,eQ X pins H b)->tn i s.heap->J.go i H->
  wpAny (model P w) X.A (pyNext (.ref it)) (λ r s1=>∃u,r=some u/\
   wpAny (model P w) X.A (letOwnedTupleGo tg (.ref it) u) (λ _ s2=>∃x H',Inv X pins σ H' s2/\RelV x u/\J.yld i H x H'/\tn (i+1) s2.heap/\∀b∈fp,H' b=none) E s1) E s
 done:∀(X:Cx),X.prog=P->X.w=w->X.K=K->X.calm=true->∀(i:Nat)(pins:List (Addr×Obj))(s:Shared)(σ:St)(H:Hp)(E:%[|7]),%[|5]->(∀b∈fp,eQ X pins H b)->tn i s.heap->J.stop i H->
  wpAny (model P w) X.A (pyNext (.ref it)) (λ r s1=>r=none/\Inv X pins σ H s1) E s
 self:∀(A:Around)(i:Nat)(s:Shared)(Q:%[|7])(E:%[|7]),tn i s.heap->Q (.ref it) s->wpAny (model P w) A (pyIter (.ref it)) Q E s
abbrev TI:=St->Hp->(It->Hp->Prop)->Prop
def PIE(X:Cx)(pins:List (Addr×Obj))(σ:St)(tg:Expr)(R:It->Hp->Prop)(itv:Value)(s2:Shared):Prop:=
 ∃(it:Addr) (fp:List Addr) (tn:Nat->Heap->Prop) (J:It) (H':Hp),itv=.ref it/\Inv X pins σ H' s2/\Turn X.prog X.w X.K tg J fp it tn/\tn 0 s2.heap/\(∀b∈fp,eQ X pins H' b)/\R J H'
def PI(X:Cx)(tg iter:Expr)(wi:TI):Prop:=
 ∀ (pins:List (Addr×Obj))(s:Shared)(σ:St)(H:Hp)(R:It->Hp->Prop),%[|5]->wi σ H R->
   wpAny %[|6] X.A (eval iter X.env) (λ v s1=>wpAny %[|6] X.A (pyIter v) (PIE X pins σ tg R) X.xe s1) X.xe s
theorem Gq{M:Model}{A:Around}{E:%[|7]}{s:Shared}{it:Addr}{u:Value}{o:Obj}{n:String}{vs:Array Value}{Q:Unit->%[|8]}(ho:s.heap.get? it=some o)(hc:o.cls=.type n)(hd:o.data=.fields vs)
 (hn:["enumerate","zip","dict_itemiterator","dict_reverseitemiterator","odict_iterator","itertools.zip_longest","itertools.pairwise"].contains n=false)(hQ:Q () s):wpAny M A (letOwnedTupleGo tg (.ref it) u) Q E s:=by
 unfold letOwnedTupleGo
 cases tg<;>first
  | exact ZB hQ
  | (cases u<;>first
   | exact ZB hQ
   | (refine ZA (wpAny_load ho ?_)
      rw[hc,hd]
      show wpAny M A (if(["enumerate","zip","dict_itemiterator","dict_reverseitemiterator","odict_iterator","itertools.zip_longest","itertools.pairwise"].contains n&&vs[0]? ==some (rawInt _))=true then _ else _) Q E s
      rw[if_neg (by intro h;rw[hn,Bool.false_and]at h;cases h)]
      exact ZB hQ))
def Itl(K:PySem.W.Frag)(a:Addr):It:=
 ⟨λ i H=>∃xs x,SqL K H a xs/\xs[i]? =some x,λ i H x H'=>H'=H/\∀xs,SqL K H a xs->xs[i]? =some x,λ i H=>∃xs,SqL K H a xs/\xs.length≤i⟩
def Itt(K:PySem.W.Frag)(a:Addr):It:=
 ⟨λ i H=>∃xs x,SqT K H a xs/\xs[i]? =some x,λ i H x H'=>H'=H/\∀xs,SqT K H a xs->xs[i]? =some x,λ i H=>∃xs,SqT K H a xs/\xs.length≤i⟩
def Itr(lo:Int)(n:Nat):It:=⟨λ i _=>i<n,λ i H x H'=>H'=H/\x=.int (lo+i),λ i _=>n≤i⟩
theorem mJ{P:Program}{w:World}(a it:Addr):Turn P w K tg (Itl K a) [it] it (λ i h=>h.IsListIter it a i) where
 mem:=by simp
 obj:=λ i h st b hb=>by
  have e:b=it:=by simpa using hb
  subst e
  obtain⟨o,e,c,d⟩:=st
  exact⟨o,e,λ v z=>by rw[d]at z;cases z⟩
 keep:=λ i h h' st k=>st.at λ o e=>k it (by simp) o e
 item:=by
  intro X hP hw hK hc i pins s σ H E I hf st hg
  subst hP hw hK
  obtain⟨xs,x,hq,hx⟩:=hg
  obtain⟨its,rv,p,hz⟩:=I.list hq
  obtain⟨u,hu,ru⟩:=rv.get hx
  obtain⟨f0,f1,f2,f3,f4,f5⟩:=hf it (by simp)
  refine wpAny_pyNext_list_item st p.isList (x:=u) (by simpa using hu) λ h' st' sb=>?_
  have I1:Inv X pins σ H {s with heap:=h'}:=I.turned (t':=s.toks) (λ b o hb e=>(sb.2 b hb).trans e) f0 f1 f3 f4 f5
  obtain⟨o,e,c,d⟩:=id st'
  exact⟨u,rfl,Gq (s:={s with heap:=h'}) e c d %[|3] ⟨x,H,I1,ru,⟨rfl,λ ys hy=>by rw[I.list_inj hy hq];exact hx⟩,st',λ b hb=>(hf b hb).1⟩⟩
 done:=by
  intro X hP hw hK hc i pins s σ H E I hf st hg
  subst hP hw hK
  obtain⟨xs,hq,hx⟩:=hg
  obtain⟨its,rv,p,hz⟩:=I.list hq
  obtain⟨f0,f1,f2,f3,f4,f5⟩:=hf it (by simp)
  have hl:=rv.length
  exact wpAny_pyNext_list_end (I.ok.hd hc) st p.isList (by simp;omega) λ h' eb=>⟨rfl,I.turned (t':=s.toks) (λ b o hb e=>eb b o hb e) f0 f1 f3 f4 f5⟩
 self:=λ _ _ _ _ _ st h=>wpAny_pyIter_listiter st h
theorem rm{P:Program}{w:World}(a it:Addr):Turn P w K tg (Itt K a) [it] it (λ i h=>h.IsTupleIter it a i) where
 mem:=by simp
 obj:=λ i h st b hb=>by
  have e:b=it:=by simpa using hb
  subst e
  obtain⟨o,e,c,d⟩:=st
  exact⟨o,e,λ v z=>by rw[d]at z;cases z⟩
 keep:=λ i h h' st k=>st.at λ o e=>k it (by simp) o e
 item:=by
  intro X hP hw hK hc i pins s σ H E I hf st hg
  subst hP hw hK
  obtain⟨xs,x,hq,hx⟩:=hg
  obtain⟨its,rv,p,hz⟩:=I.tuple hq
  obtain⟨u,hu,ru⟩:=rv.get hx
  obtain⟨f0,f1,f2,f3,f4,f5⟩:=hf it (by simp)
  refine wpAny_pyNext_tuple_item st (show s.heap.IsTuple a its.toArray from p) (x:=u) (by simpa using hu) λ h' st' sb=>?_
  have I1:Inv X pins σ H {s with heap:=h'}:=I.turned (t':=s.toks) (λ b o hb e=>(sb.2 b hb).trans e) f0 f1 f3 f4 f5
  obtain⟨o,e,c,d⟩:=id st'
  exact⟨u,rfl,Gq (s:={s with heap:=h'}) e c d %[|3] ⟨x,H,I1,ru,⟨rfl,λ ys hy=>by rw[I.tuple_inj hy hq];exact hx⟩,st',λ b hb=>(hf b hb).1⟩⟩
 done:=by
  intro X hP hw hK hc i pins s σ H E I hf st hg
  subst hP hw hK
  obtain⟨xs,hq,hx⟩:=hg
  obtain⟨its,rv,p,hz⟩:=I.tuple hq
  obtain⟨f0,f1,f2,f3,f4,f5⟩:=hf it (by simp)
  have hl:=rv.length
  exact wpAny_pyNext_tuple_end (I.ok.hd hc) st (show s.heap.IsTuple a its.toArray from p) (by simp;omega) λ h' eb=>⟨rfl,I.turned (t':=s.toks) (λ b o hb e=>eb b o hb e) f0 f1 f3 f4 f5⟩
 self:=λ _ _ _ _ _ st h=>wpAny_pyIter_tupleiter st h
theorem Gj{P:Program}{w:World}(it:Addr)(lo:Int)(n:Nat):Turn P w K tg (Itr lo n) [it] it (λ i h=>IsRangeIter h it (lo+(i:Nat)*1) ((n:Int)-(i:Nat)) 1) where
 mem:=by simp
 obj:=λ i h st b hb=>by
  have e:b=it:=by simpa using hb
  subst e
  exact⟨_,st,λ v z=>by
   have z':Data.fields _=Data.cell v:=z
   cases z'⟩
 keep:=λ i h h' st k=>k it (by simp) _ st
 item:=by
  intro X hP hw hK hc i pins s σ H E I hf st hg
  subst hP hw hK
  obtain⟨f0,f1,f2,f3,f4,f5⟩:=hf it (by simp)
  have W:=Walks.range (prog:=X.prog) (w:=X.w) (I.ok.hd hc) it lo 1 n
  refine W.item i s _ _ hg st λ v h' tk hv st' kk=>?_
  obtain⟨t,rfl⟩:=hv
  have I1:Inv X pins σ H {s with heap:=h',toks:=tk}:=I.turned (λ b o hb e=>kk b o (by simpa using hb) e) f0 f1 f3 f4 f5
  refine⟨_,rfl,Gq (s:={s with heap:=h',toks:=tk}) (n:="range_iterator") st' rfl rfl %[|3] ⟨.int (lo+i),H,I1,⟨t,?_⟩,⟨rfl,rfl⟩,st',λ b hb=>(hf b hb).1⟩⟩
  rw[Int.mul_one]
 done:=by
  intro X hP hw hK hc i pins s σ H E I hf st hg
  subst hP hw hK
  obtain⟨f0,f1,f2,f3,f4,f5⟩:=hf it (by simp)
  exact wpAny_pyNext_range_end (I.ok.hd hc) st (by have:n≤i:=hg;omega) λ h' eb=>⟨rfl,I.turned (t':=s.toks) (λ b o hb e=>eb b o hb e) f0 f1 f3 f4 f5⟩
 self:=λ _ _ _ _ _ st h=>wpAny_pyIter_rangeiter st h
end L2
namespace L2
open PySem PySem.Spec PyProof.Rows
section
variable {X : Cx} {tg : Expr}
theorem wJ{pins:List (Addr×Obj)}{σ:St}{H:Hp}{s:Shared}{R:It->Hp->Prop}{E:%[|7]}{lo hi:Int}{t u v:Tok}{tk:Nat}(I:%[|5])(h1: -(2 ^ 62)≤lo)(h2:lo<2 ^ 62)(h3: -(2 ^ 62)≤hi)(h4:hi<2 ^ 62)
 (q:R (Itr lo (hi-lo).toNat) H):wpAny %[|6] X.A (pyIter (.ref s.heap.objs.size)) (PIE X pins σ tg R) E {s with heap:=s.heap.push {cls:=.type "range",data:=.fields #[.int lo t,.int hi u,.int 1 v]},toks:=tk}:=by
 refine wpAny_pyIter_range (IsRange.new ..) (small_one h1 h2 h3 h4) ?_
 have I1:Inv X pins σ H {s with heap:=s.heap.push {cls:=.type "range",data:=.fields #[.int lo t,.int hi u,.int 1 v]},toks:=tk}:=I.kept λ b o e=>ZC _ e
 refine⟨(s.heap.push {cls:=.type "range",data:=.fields #[.int lo t,.int hi u,.int 1 v]}).objs.size,[(s.heap.push {cls:=.type "range",data:=.fields #[.int lo t,.int hi u,.int 1 v]}).objs.size],_,_,H,rfl,
  I1.kept (t':=tk) λ b o e=>ZC _ e,Gj _ lo (hi-lo).toNat,?_,λ b hb=>?_,q⟩
 . have e1:lo+((0:Nat):Int)*1=lo:=by simp
   have e2:(((hi-lo).toNat:Nat):Int)-((0:Nat):Int)=Builtin.Range.rangeSize lo hi 1:=by rw[rangeSize_one];split<;>omega
   show IsRangeIter _ _ (lo+((0:Nat):Int)*1) ((((hi-lo).toNat:Nat):Int)-((0:Nat):Int)) 1
   rw[e1,e2]
   exact ZD _ rfl
 . have e:b=(s.heap.push {cls:=.type "range",data:=.fields #[.int lo t,.int hi u,.int 1 v]}).objs.size:=by simpa using hb
   subst e
   exact I1.fpOk (y9 _) (I1.hok.fresh (y9 _))
def Ul(ta:TA):TI:=λ σ H R=>ta σ H λ vs H1=>∃j:Int,vs=[.int j]/\ -(2 ^ 62)≤j/\j<2 ^ 62/\R (Itr 0 j.toNat) H1
def UG(ta:TA):TI:=λ σ H R=>ta σ H λ vs H1=>∃i j:Int,vs=[.int i,.int j]/\(-(2 ^ 62)≤i/\i<2 ^ 62/\ -(2 ^ 62)≤j/\j<2 ^ 62)/\R (Itr i (j-i).toNat) H1
theorem JH{a:Expr}{ta:TA}{p pos:Pos}(hg:Gl X "range")(hm:X.mg "range"=none)(ha:PA X [a] ta)(hs:starEach [a] X.env=[(false,eval a X.env)]:=by rfl):PI X tg (.Call (.Name "range" p) [a] [] pos) (Ul ta):=by
 intro pins s σ H R I h
 refine Call_ (cz I hg hm boot_range (PyProof.Rows.callWith_type1 (thn (ha pos pins s σ H _ I h) λ us s1 ⟨vs,H1,I1,r1,q1⟩=>?_) hs rfl))
 obtain⟨j,e,q1,q2,q⟩:=q1
 subst e
 cases r1 with
 | cons r rr=>
   cases rr
   obtain⟨t,rfl⟩:=r
   exact call_range_1 (wJ I1 %[|0] %[|0] q1 q2 (by simpa using q))
theorem Iw{a b:Expr}{ta:TA}{p pos:Pos}(hg:Gl X "range")(hm:X.mg "range"=none)(ha:PA X [a,b] ta)(hs:starEach [a,b] X.env=[(false,eval a X.env),(false,eval b X.env)]:=by rfl)(hs2:starEach [b] X.env=[(false,eval b X.env)]:=by rfl):
 PI X tg (.Call (.Name "range" p) [a,b] [] pos) (UG ta):=by
 intro pins s σ H R I h
 refine Call_ (cz I hg hm boot_range (PyProof.Rows.callWith_type1 (thn (ha pos pins s σ H _ I h) λ us s1 ⟨vs,H1,I1,r1,q1⟩=>?_) (by rw[hs,hs2]) (by rw[hs2];rfl)))
 obtain⟨i,j,e,⟨q1,q2,q3,q4⟩,q⟩:=q1
 subst e
 cases r1 with
 | cons r rr=>
   cases rr with
   | cons r' rr=>
     cases rr
     obtain⟨t,rfl⟩:=r
     obtain⟨t',rfl⟩:=r'
     exact call_range_2 (wJ I1 q1 q2 q3 q4 q)
def VF(wi:TI)(g:TG)(tb:TS):TS:=λ D σ H=>wi σ H λ J H1=>∃W:Nat->Nat->St->Hp->Prop,(∃m,W 0 m σ H1)/\∀i m σ H,W i m σ H->
 (J.stop i H/\D.nx σ H)∨(J.go i H/\∃N:St->Hp->Prop,(∀σ' H',N σ' H'->∃m',m'<m/\W (i+1) m' σ' H')/\∀x H',J.yld i H x H'->g x σ H' λ σ2 H2=>tb {D with nx:=N,ct:=N,bk:=D.nx} σ2 H2)
def mD(fp:List Addr)(h:Heap):List (Addr×Obj):=fp.filterMap λ b=>(h.get? b).map λ o=>(b,o)
theorem fX{fp:List Addr}{h:Heap}{b:Addr}{o:Obj}(hb:b∈fp)(e:h.get? b=some o):(b,o)∈mD fp h:=List.mem_filterMap.mpr ⟨b,hb,by rw[e];rfl⟩
theorem Iv{fp:List Addr}{h:Heap}{p:Addr×Obj}(hp:p∈mD fp h):p.1∈fp/\h.get? p.1=some p.2:=by
 obtain⟨b,hb,e⟩:=List.mem_filterMap.mp hp
 cases q:h.get? b with
 | none=>rw[q]at e;cases e
 | some o=>
   rw[q]at e
   have e':(b,o)=p:=Option.some.inj e
   subst e'
   exact⟨hb,q⟩
theorem Inv.pinned{pins:List (Addr×Obj)}{σ:St}{H:Hp}{s:Shared}{fp:List Addr}(I:%[|5])(hf:∀b∈fp,eQ X pins H b)(ho:∀b∈fp,∃o,s.heap.get? b=some o/\∀v,o.data≠.cell v):Inv X (pins++mD fp s.heap) σ H s:=
 I.pins_of λ p hp=>(ZK.mp hp).elim (λ z=>I.pin p (List.mem_append_right _ z)) λ z=>by
  obtain⟨hb,e⟩:=Iv z
  obtain⟨f0,f1,f2,_⟩:=hf p.1 hb
  obtain⟨o,e',d⟩:=ho p.1 hb
  rw[e]at e';cases e'
  exact⟨e,f0,f1,f2,d⟩
theorem Inv.unpinned{pins pl:List (Addr×Obj)}{σ:St}{H:Hp}{s:Shared}(I:Inv X (pins++pl) σ H s):%[|5]:=I.pins_of λ p hp=>I.pin p (List.mem_append_right _ (List.mem_append_left _ hp))
theorem IV{iter:Expr}{body:List Stmt}{wi:TI}{g:TG}{tb:TS}{pos:Pos}(hp:PassesOwn %[|6] X.A X.env X.xe)(hc:X.calm=true)(hi:PI X tg iter wi)(hg:PG X tg g)(hb:PSs X body tb)
 (hs:∀x,foldedSetIterable iter X.env x=pure x:=by intro _;rfl):PS X (.For tg iter body [] pos) (VF wi g tb):=by
 intro pins s σ H D I h
 refine wpAny_For (thn (hi pins s σ H _ I h) λ v s1 h1=>thn h1 λ itv s2 h2=>?_) hs
 obtain⟨it,fp,tn,J,H2,e,I2,T,st2,f2,W,⟨m0,w0⟩,turn⟩:=h2
 subst e
 have stat:∀{H':Hp},(∀b∈fp,H' b=none)->∀b∈fp,eQ X pins H' b:=λ hn b hb=>⟨hn b hb,(f2 b hb).2⟩
 refine codeAny_forLoop_any (λ n s'=>∃i σ' H',Inv X pins σ' H' s'/\tn i s'.heap/\(∀b∈fp,H' b=none)/\W i n σ' H') ?_ m0 ⟨0,σ,H2,I2,st2,λ b hb=>(f2 b hb).1,w0⟩
 rintro n s3 ⟨i,σ3,H3,I3,st3,fr3,w3⟩
 rcases turn i n σ3 H3 w3 with⟨stop,qn⟩ | ⟨go,N,hN,step⟩
 . refine wpAny_passesOwn hp (thn (T.done X rfl rfl rfl hc i pins s3 σ3 H3 X.xe I3 (stat fr3) st3 stop) λ r s4 ⟨hr,I4⟩=>?_)
   subst hr
   exact wpAny_execs_nil ⟨σ3,H3,I4,qn⟩
 . refine wpAny_passesOwn hp (thn (T.item X rfl rfl rfl hc i pins s3 σ3 H3 X.xe I3 (stat fr3) st3 go) λ r s4 ⟨u,hr,h4⟩=>?_)
   subst hr
   refine wpAny_passesOwn hp (thn h4 λ _ s5 ⟨x,H5,I5,r5,y5,st5,fr5⟩=>?_)
   have I5':=I5.pinned (stat fr5) (T.obj _ _ st5)
   refine wpAny_passesOwn hp (thn (hg _ s5 σ3 H5 x u _ I5' r5 (step x H5 y5)) λ _ s6 ⟨σ6,H6,I6,q6⟩=>?_)
   refine wpAny_passesOwn hp (thn (hb _ s6 σ6 H6 _ I6 q6) λ f s7 q7=>?_)
   have again:∀{σ7:St}{H7:Hp},Inv X (pins++mD fp s5.heap) σ7 H7 s7->N σ7 H7->∃m,m<n/\∃i σ' H',Inv X pins σ' H' s7/\tn i s7.heap/\(∀b∈fp,H' b=none)/\W i m σ' H':=λ{σ7 H7} I7 n7=>by
    obtain⟨m',hm,w7⟩:=hN σ7 H7 n7
    refine⟨m',hm,i+1,σ7,H7,I7.unpinned,T.keep _ _ _ st5 λ b hb o e=>(I7.pin (b,o) (List.mem_append_right _ (List.mem_append_right _ (fX hb e)))).1,λ b hb=>?_,w7⟩
    obtain⟨o,e,d⟩:=T.obj _ _ st5 b hb
    exact(I7.pin (b,o) (List.mem_append_right _ (List.mem_append_right _ (fX hb e)))).2.1
   cases f with
   | next=>obtain⟨σ7,H7,I7,n7⟩:=q7;exact again I7 n7
   | cont=>obtain⟨σ7,H7,I7,n7⟩:=q7;exact again I7 n7
   | brk=>obtain⟨σ7,H7,I7,q7⟩:=q7;exact⟨σ7,H7,I7.unpinned,q7⟩
   | ret v=>obtain⟨x7,σ7,H7,I7,r7,q7⟩:=q7;exact⟨x7,σ7,H7,I7.unpinned,r7,q7⟩
end
abbrev R2:=V->V->Hp->VK->Prop
def OpR(X:Cx)(f:Value->Value->Sem Value)(r:R2):Prop:=
 ∀ (pins:List (Addr×Obj))(s:Shared)(σ:St)(H:Hp)(x y:V)(v u:Value)(Q:VK),%[|5]->RelV x v->RelV y u->r x y H Q->
   wpAny %[|6] X.A (f v u) (EP X pins σ Q) X.xe s
def UnR(X:Cx)(f:Value->Sem Value)(r:V->Hp->VK->Prop):Prop:=
 ∀ (pins:List (Addr×Obj))(s:Shared)(σ:St)(H:Hp)(x:V)(v:Value)(Q:VK),%[|5]->RelV x v->r x H Q->
   wpAny %[|6] X.A (f v) (EP X pins σ Q) X.xe s
def fV(X:Cx)(f:Value)(r:List V->Hp->VK->Prop):Prop:=
 ∀ (pins:List (Addr×Obj))(s:Shared)(σ:St)(H:Hp)(xs:List V)(us:List Value)(Q:VK),%[|5]->Vals xs us->r xs H Q->
   wpAny %[|6] X.A (call f us) (EP X pins σ Q) X.xe s
def rI(C:Int->Int->Prop)(g:Int->Int->V):R2:=λ x y H Q=>∃i j,x=.int i/\y=.int j/\C i j/\Q (g i j) H
def rI0(g:Int->Int->V):R2:=λ x y H Q=>∃i j,x=.int i/\y=.int j/\Q (g i j) H
def rU(g:Int->V):V->Hp->VK->Prop:=λ x H Q=>∃i,x=.int i/\Q (g i) H
section
variable {X : Cx} {a b c : Expr} {ta tb tc : TE} {pos : Pos}
theorem opI{f:Value->Value->Sem Value}{C:Int->Int->Prop}{g:Int->Int->Int}
 (rule:∀(i j:Int)(t u:Tok)(s:Shared)(Q:%[|7])(E:%[|7]),C i j->Q (.int (g i j) s.toks) {s with toks:=s.toks+1}->wpAny %[|6] X.A (f (.int i t) (.int j u)) Q E s):
 OpR X f (rI C λ i j=>.int (g i j)):=by
 intro pins s σ H x y v u Q I rx ry h
 obtain⟨i,j,rfl,rfl,hc,q⟩:=h
 obtain⟨t,rfl⟩:=rx
 obtain⟨t',rfl⟩:=ry
 exact rule i j t t' s _ _ hc ⟨.int (g i j),H,I.tok _,⟨_,rfl⟩,q⟩
theorem GF{f:Value->Value->Sem Value}{g:Int->Int->Int}
 (rule:∀(i j:Int)(t u:Tok)(s:Shared)(Q:%[|7])(E:%[|7]),Q (.int (g i j) s.toks) {s with toks:=s.toks+1}->wpAny %[|6] X.A (f (.int i t) (.int j u)) Q E s):
 OpR X f (rI0 λ i j=>.int (g i j)):=by
 intro pins s σ H x y v u Q I rx ry h
 obtain⟨i,j,rfl,rfl,q⟩:=h
 obtain⟨t,rfl⟩:=rx
 obtain⟨t',rfl⟩:=ry
 exact rule i j t t' s _ _ ⟨.int (g i j),H,I.tok _,⟨_,rfl⟩,q⟩
theorem Fb{f:Value->Value->Sem Value}{g:Int->Int->Bool}
 (rule:∀(i j:Int)(t u:Tok)(s:Shared)(Q:%[|7])(E:%[|7]),Q (.bool (g i j)) s->wpAny %[|6] X.A (f (.int i t) (.int j u)) Q E s):
 OpR X f (rI0 λ i j=>.bl (g i j)):=by
 intro pins s σ H x y v u Q I rx ry h
 obtain⟨i,j,rfl,rfl,q⟩:=h
 obtain⟨t,rfl⟩:=rx
 obtain⟨t',rfl⟩:=ry
 exact rule i j t t' s _ _ ⟨.bl (g i j),H,I,rfl,q⟩
def VD(i j:Int):Prop:=0<j/\j<1073741824
def CPow(i j:Int):Prop:=0≤j/\j≤1000000/\i.natAbs<2 ^ 64
def CMul(i j:Int):Prop:=(-(2 ^ 64)<i/\i<2 ^ 64)∨(-(2 ^ 64)<j/\j<2 ^ 64)
theorem CMul.ok{i j:Int}(h:CMul i j):IntMulOk i j:=by
 rcases h with⟨h1,h2⟩ | ⟨h1,h2⟩
 . exact .of_left (intBits_le_64 h1 h2)
 . exact .of_right (intBits_le_64 h1 h2)
theorem Tf:OpR X (binaryOp .Add) (rI0 λ i j=>.int (i+j)):=GF λ _ _ _ _ _ _ _ q=>add_int q
theorem R6:OpR X (binaryOp .Sub) (rI0 λ i j=>.int (i-j)):=GF λ _ _ _ _ _ _ _ q=>sub_int q
theorem Ra:OpR X (binaryOp .Mult) (rI CMul λ i j=>.int (i*j)):=opI λ _ _ _ _ _ _ _ hc q=>mul_int q hc.ok
theorem Ou:OpR X (binaryOp .FloorDiv) (rI VD λ i j=>.int (i/j)):=opI λ i j _ _ _ _ _ hc q=>by
 have h1:(0:Int)<j:=hc.1
 have h2:j<1073741824:=hc.2
 exact floordiv_int %[|0] (by rw[Int.fdiv_eq_ediv_of_nonneg i %[|0]];exact q) (.inl (PyProof.noPylong_small %[|0]))
theorem Sx:OpR X (binaryOp .Mod) (rI (λ _ j=>0<j) λ i j=>.int (i % j)):=opI λ i j _ _ _ _ _ hc q=>by
 have h1:(0:Int)<j:=hc
 exact mod_int' %[|0] (by rw[Int.fmod_eq_emod_of_nonneg i %[|0]];exact q)
theorem Rm:OpR X (binaryOp .Pow) (rI CPow λ i j=>.int (i ^ j.toNat)):=opI λ _ _ _ _ _ _ _ hc q=>pow_int_small hc.1 hc.2.1 hc.2.2 q
theorem QR:OpR X (inplaceOp .Add) (rI0 λ i j=>.int (i+j)):=GF λ _ _ _ _ _ _ _ q=>iadd_int q
theorem QK:OpR X (inplaceOp .Sub) (rI0 λ i j=>.int (i-j)):=GF λ _ _ _ _ _ _ _ q=>isub_int q
theorem NQ:OpR X (inplaceOp .Mult) (rI CMul λ i j=>.int (i*j)):=opI λ _ _ _ _ _ _ _ hc q=>imul_int q hc.ok
theorem unI{f:Value->Sem Value}{g:Int->Int}
 (rule:∀(i:Int)(t:Tok)(s:Shared)(Q:%[|7])(E:%[|7]),Q (.int (g i) s.toks) {s with toks:=s.toks+1}->wpAny %[|6] X.A (f (.int i t)) Q E s):
 UnR X f (rU λ i=>.int (g i)):=by
 intro pins s σ H x v Q I rx h
 obtain⟨i,rfl,q⟩:=h
 obtain⟨t,rfl⟩:=rx
 exact rule i t s _ _ ⟨.int (g i),H,I.tok _,⟨_,rfl⟩,q⟩
theorem SQ:UnR X (unaryOp .USub) (rU λ i=>.int (-i)):=unI λ _ _ _ _ _ q=>neg_int q
end
def Sg:V->V->Bool
 | .non,.non=>true | .non,.int _=>true | .int _,.non=>true | .non,.bl _=>true | .bl _,.non=>true | .non,.str _=>true | .str _,.non=>true
 | .int _,.int _=>true | .bl _,.bl _=>true | .str _,.str _=>true | .byt _,.byt _=>true
 | .int _,.str _=>true | .str _,.int _=>true | .bl _,.str _=>true | .str _,.bl _=>true
 | _,_=>false
def rEq:R2:=λ x y H Q=>Sg x y=true/\Q (.bl (decide (x=y))) H
def rNe:R2:=λ x y H Q=>Sg x y=true/\Q (.bl (!decide (x=y))) H
theorem mZ{i j:Int}:decide (V.int i=V.int j)=(i==j):=by
 rw[Bool.eq_iff_iff]
 simp
theorem qO{i j:Bool}:decide (V.bl i=V.bl j)=(i==j):=by
 rw[Bool.eq_iff_iff]
 simp
theorem Df{i j:Str}:decide (V.str i=V.str j)=(i==j):=by
 rw[Bool.eq_iff_iff]
 simp
theorem Dv{i j:Array UInt8}:decide (V.byt i=V.byt j)=(i.toList==j.toList):=by
 rw[Bool.eq_iff_iff]
 cases i
 cases j
 simp
section
variable {X : Cx} {a b c : Expr} {ta tb tc : TE} {pos : Pos}
theorem aF{pins:List (Addr×Obj)}{σ:St}{H:Hp}{s:Shared}{Q:VK}{k k':Bool}(I:%[|5])(q:Q (.bl k) H)(e:k=k'):EP X pins σ Q (.bool k') s:=by
 subst e
 exact⟨.bl k,H,I,rfl,q⟩
theorem M7:OpR X (compareOp .Eq) rEq:=by
 intro pins s σ H x y v u Q I rx ry h
 obtain⟨hs,q⟩:=h
 cases x with
 | non=>
   cases rx
   cases y with
   | non=>cases ry;exact PySem.EqNone.eq_none_none (aF I q (by simp))
   | bl j=>cases ry;exact PySem.EqNone.eq_none_bool (aF I q (by simp))
   | int j=>obtain⟨t',rfl⟩:=ry;exact PySem.EqNone.eq_none_int (aF I q (by simp))
   | str j=>obtain⟨t',rfl⟩:=ry;exact PySem.EqNone.eq_none_str (aF I q (by simp))
   | _=>exact absurd (show false=true from hs) y6
 | bl i=>
   cases rx
   cases y with
   | non=>cases ry;exact PySem.EqNone.eq_bool_none (aF I q (by simp))
   | bl j=>cases ry;exact eq_bool (aF I q qO)
   | str j=>obtain⟨t',rfl⟩:=ry;exact PySem.EqMixed.eq_bool_str (aF I q (by simp))
   | _=>exact absurd (show false=true from hs) y6
 | int i=>
   obtain⟨t,rfl⟩:=rx
   cases y with
   | non=>cases ry;exact PySem.EqNone.eq_int_none (aF I q (by simp))
   | int j=>obtain⟨t',rfl⟩:=ry;exact eq_int (aF I q mZ)
   | str j=>obtain⟨t',rfl⟩:=ry;exact PySem.EqMixed.eq_int_str (aF I q (by simp))
   | _=>exact absurd (show false=true from hs) y6
 | str i=>
   obtain⟨t,rfl⟩:=rx
   cases y with
   | non=>cases ry;exact PySem.EqNone.eq_str_none (aF I q (by simp))
   | bl j=>cases ry;exact PySem.EqMixed.eq_str_bool (aF I q (by simp))
   | int j=>obtain⟨t',rfl⟩:=ry;exact PySem.EqMixed.eq_str_int (aF I q (by simp))
   | str j=>obtain⟨t',rfl⟩:=ry;exact eq_str (aF I q Df)
   | _=>exact absurd (show false=true from hs) y6
 | byt i=>
   obtain⟨t,rfl⟩:=rx
   cases y with
   | byt j=>obtain⟨t',rfl⟩:=ry;exact PySem.W.eq_bytes (aF I q Dv)
   | _=>exact absurd (show false=true from hs) y6
 | _=>cases y<;>exact absurd (show false=true from hs) y6
theorem Nh:OpR X (compareOp .NotEq) rNe:=by
 intro pins s σ H x y v u Q I rx ry h
 obtain⟨hs,q⟩:=h
 cases x with
 | non=>
   cases rx
   cases y with
   | non=>cases ry;exact PySem.EqNone.ne_none_none (aF I q (by simp))
   | bl j=>cases ry;exact PySem.EqNone.ne_none_bool (aF I q (by simp))
   | int j=>obtain⟨t',rfl⟩:=ry;exact PySem.EqNone.ne_none_int (aF I q (by simp))
   | str j=>obtain⟨t',rfl⟩:=ry;exact PySem.EqNone.ne_none_str (aF I q (by simp))
   | _=>exact absurd (show false=true from hs) y6
 | bl i=>
   cases rx
   cases y with
   | non=>cases ry;exact PySem.EqNone.ne_bool_none (aF I q (by simp))
   | bl j=>cases ry;exact ne_bool (aF I q (congrArg not qO))
   | str j=>obtain⟨t',rfl⟩:=ry;exact PySem.EqMixed.ne_bool_str (aF I q (by simp))
   | _=>exact absurd (show false=true from hs) y6
 | int i=>
   obtain⟨t,rfl⟩:=rx
   cases y with
   | non=>cases ry;exact PySem.EqNone.ne_int_none (aF I q (by simp))
   | int j=>obtain⟨t',rfl⟩:=ry;exact ne_int (aF I q (congrArg not mZ))
   | str j=>obtain⟨t',rfl⟩:=ry;exact PySem.EqMixed.ne_int_str (aF I q (by simp))
   | _=>exact absurd (show false=true from hs) y6
 | str i=>
   obtain⟨t,rfl⟩:=rx
   cases y with
   | non=>cases ry;exact PySem.EqNone.ne_str_none (aF I q (by simp))
   | bl j=>cases ry;exact PySem.EqMixed.ne_str_bool (aF I q (by simp))
   | int j=>obtain⟨t',rfl⟩:=ry;exact PySem.EqMixed.ne_str_int (aF I q (by simp))
   | str j=>obtain⟨t',rfl⟩:=ry;exact ne_str (aF I q (congrArg not Df))
   | _=>exact absurd (show false=true from hs) y6
 | byt i=>
   obtain⟨t,rfl⟩:=rx
   cases y with
   | byt j=>obtain⟨t',rfl⟩:=ry;exact PySem.W.ne_bytes (aF I q (congrArg not Dv))
   | _=>exact absurd (show false=true from hs) y6
 | _=>cases y<;>exact absurd (show false=true from hs) y6
theorem Vj:OpR X (compareOp .Lt) (rI0 λ i j=>.bl (decide (i<j))):=Fb λ _ _ _ _ _ _ _ q=>lt_int q
theorem Ve:OpR X (compareOp .LtE) (rI0 λ i j=>.bl (decide (i≤j))):=Fb λ _ _ _ _ _ _ _ q=>le_int q
theorem Vu:OpR X (compareOp .Gt) (rI0 λ i j=>.bl (decide (j<i))):=Fb λ _ _ _ _ _ _ _ q=>gt_int q
theorem Uq:OpR X (compareOp .GtE) (rI0 λ i j=>.bl (decide (j≤i))):=Fb λ _ _ _ _ _ _ _ q=>ge_int q
theorem R1:OpR X (compareOp .Is) (λ x y H Q=>y=.non/\Q (.bl (decide (x=.non))) H):=by
 intro pins s σ H x y v u Q I rx ry h
 obtain⟨rfl,q⟩:=h
 cases ry
 refine is_none_gen (aF I q ?_)
 cases x<;>first
  | (cases rx;rfl)
  | (obtain⟨t,rfl⟩:=rx;rfl)
theorem Og:OpR X (compareOp .IsNot) (λ x y H Q=>y=.non/\Q (.bl (!decide (x=.non))) H):=by
 intro pins s σ H x y v u Q I rx ry h
 obtain⟨rfl,q⟩:=h
 cases ry
 refine isnot_none_gen (aF I q ?_)
 cases x<;>first
  | (cases rx;rfl)
  | (obtain⟨t,rfl⟩:=rx;rfl)
theorem qz:(sizeLine:Nat)<2 ^ 63:=by rw[sizeLine_eq];decide
theorem vals1{x:V}{us:List Value}(r:Vals [x] us):∃u,us=[u]/\RelV x u:=by
 cases r with
 | cons r1 r2=>cases r2;exact⟨_,rfl,r1⟩
theorem vals2{x y:V}{us:List Value}(r:Vals [x,y] us):∃u w',us=[u,w']/\RelV x u/\RelV y w':=by
 cases r with
 | cons r1 r2=>
   cases r2 with
   | cons r3 r4=>cases r4;exact⟨_,_,rfl,r1,r3⟩
theorem KQ:fV X (.builtin "abs") (λ xs H Q=>∃i,xs=[.int i]/\Q (.int (if i<0 then-i else i)) H):=by
 intro pins s σ H xs us Q I r h
 obtain⟨i,rfl,q⟩:=h
 obtain⟨u,rfl,t,rfl⟩:=vals1 r
 exact call_abs_int λ u tk=>⟨.int (if i<0 then-i else i),H,I.tok _,⟨_,rfl⟩,q⟩
theorem Ij(hc:X.calm=true):fV X (.builtin "max") (λ xs H Q=>∃i j,xs=[.int i,.int j]/\Q (.int (if j>i then j else i)) H):=by
 intro pins s σ H xs us Q I r h
 obtain⟨i,j,rfl,q⟩:=h
 obtain⟨u,w',rfl,⟨t,rfl⟩,⟨t',rfl⟩⟩:=vals2 r
 refine max_two_ints (I.ok.hd hc) λ h' tk k=>⟨_,H,I.kept k,?_,q⟩
 by_cases hj:j>i
 . rw[if_pos hj,if_pos hj];exact⟨_,rfl⟩
 . rw[if_neg hj,if_neg hj];exact⟨_,rfl⟩
theorem GP(hc:X.calm=true):fV X (.builtin "min") (λ xs H Q=>∃i j,xs=[.int i,.int j]/\Q (.int (if j<i then j else i)) H):=by
 intro pins s σ H xs us Q I r h
 obtain⟨i,j,rfl,q⟩:=h
 obtain⟨u,w',rfl,⟨t,rfl⟩,⟨t',rfl⟩⟩:=vals2 r
 refine min_two_ints (I.ok.hd hc) λ h' tk k=>⟨_,H,I.kept k,?_,q⟩
 by_cases hj:j<i
 . rw[if_pos hj,if_pos hj];exact⟨_,rfl⟩
 . rw[if_neg hj,if_neg hj];exact⟨_,rfl⟩
theorem vf:fV X (.type "int") (λ xs H Q=>(∃i,xs=[.int i]/\Q (.int i) H)∨∃k,xs=[.bl k]/\Q (.int (if k then 1 else 0)) H):=by
 intro pins s σ H xs us Q I r h
 rcases h with⟨i,rfl,q⟩ | ⟨k,rfl,q⟩
 . obtain⟨u,rfl,t,rfl⟩:=vals1 r
   exact call_int_int ⟨.int i,H,I,⟨_,rfl⟩,q⟩
 . obtain⟨u,rfl,r1⟩:=vals1 r
   cases r1
   exact call_int_bool ⟨.int (if k then 1 else 0),H,I.tok _,⟨_,rfl⟩,q⟩
end
structure Room(k:Nat)(A:Around):Prop where
 hd:A.handled=none
 dp:A.depth+3*k+5<recursionLimit
 un:A.units+16*k+200<cLine
theorem Room.mono{j k:Nat}{A:Around}(r:Room k A)(h:j≤k):Room j A:=⟨r.hd,by have:=r.dp;omega,by have:=r.un;omega⟩
theorem Room.deeper{k:Nat}{A:Around}(r:Room (k+1) A)(env:Env):Room k (A.deeper env):=
 ⟨r.hd,by have:=r.dp;show A.depth+1+3*k+5<_;omega,by have:=r.un;show A.units+3+16*k+200<_;omega⟩
theorem Room.depth{k:Nat}{A:Around}(r:Room k A):A.depth<recursionLimit:=by have:=r.dp;omega
def V8:TA:=λ _ H Q=>Q [] H
def Vf(ta:TE)(tr:TA):TA:=λ σ H Q=>ta σ H λ x H1=>tr σ H1 λ xs H2=>Q (x::xs) H2
section
variable {X : Cx} {e : Expr} {es : List Expr} {te : TE} {t : TA} {pos : Pos}
theorem xF:PA X [] V8:=λ _ _ _ _ H Q I h=>Calls.spliced_nil ⟨[],H,I,.nil,h⟩
theorem nH(ha:PE X e te)(hr:PA X es t)(hs:starEach (e::es) X.env=(false,eval e X.env)::starEach es X.env:=by rfl):PA X (e::es) (Vf te t):=by
 intro pos pins s σ H Q I h
 rw[hs]
 show wpAny _ _ (spliced ((false,eval e X.env)::backTo pos (starEach es X.env))) _ _ s
 refine Calls.spliced_cons (thn (ha pins s σ H _ I h) λ u s1 ⟨x,H1,I1,r1,q1⟩=>?_)
 exact thn (hr pos pins s1 σ H1 _ I1 q1) λ us s2 ⟨xs,H2,I2,r2,q2⟩=>⟨x::xs,H2,I2,.cons r1 r2,q2⟩
end
abbrev Sp:=List V->Hp->VK->XK->Prop
abbrev CXT:=List Env->Hp->Shared->XK->%[|7]
structure Env0(P:Program)(w:World)(K:PySem.W.Frag)(mg:Str->Option Value)(base:Heap)(A:Around)(outer:List Env)(s:Shared)(H:Hp):Prop where
 frames:A.frames=some outer
 mod:Mod K mg base
 bs:∀b o,base.get? b=some o->s.heap.get? b=some o/\H b=none
 bsz:base.objs.size≤s.heap.objs.size
 funs:s.heap.FunFrames base outer
 frf:∀b∈frs outer,H b=none
 hok:HOk P w H s.heap
 bare:AllBare s.gens
def CE(outer:List Env)(P:Program)(w:World)(H:Hp)(s:Shared)(Q:VK)(u:Value)(s':Shared):Prop:=
 ∃v H',s'.os=s.os/\AllBare s'.gens/\Un (frs outer) [] H H' s.heap s'.heap/\HOk P w H' s'.heap/\RelV v u/\Q v H'
def CR(CX:CXT)(outer:List Env)(P:Program)(w:World)(H:Hp)(s:Shared)(Q:VK)(E:XK)(r:Result)(s':Shared):Prop:=
 match r with
 | .ok (.ret u)=>CE outer P w H s Q u s'
 | .ok _=>False
 | .error e=>CX outer H s E e s'
structure FnOk(P:Program)(w:World)(K:PySem.W.Frag)(mg:Str->Option Value)(base:Heap)(CX:CXT)(k:Nat)(f:Addr)(fd:FuncData)(ps:%[|2])(sp:Sp):Prop where
 len:∀vs H Q E,sp vs H Q E->vs.length=ps.length
 run:∀(A:Around)(outer:List Env)(s:Shared)(H:Hp)(args:Args)(us:List Value)(vs:List V)(Q:VK)(E:XK),Room k A->Env0 P w K mg base A outer s H->BindsTo s fd args (ps.zip us)->Vals vs us->sp vs H Q E->
  codeAny (model P w) A (.call (.ref f) args) (CR CX outer P w H s Q E) s
section
variable {X : Cx} {pins : List (Addr × Obj)} {σ : St} {H : Hp} {s s' : Shared}
theorem Inv.env0(I:%[|5]):Env0 X.prog X.w X.K X.mg X.base X.A X.stack s H:=
 ⟨I.ok.frames,I.ok.mod,I.bs,Nat.le_trans I.ok.bsz I.sz,I.stack,I.stkFree,I.hok,I.bare⟩
theorem Inv.after{Q:VK}{u:Value}(I:%[|5])(h:CE X.stack X.prog X.w H s Q u s'):EP X pins σ Q u s':=by
 obtain⟨v,H',os,bare,un,hok,r,q⟩:=h
 obtain⟨hh,g,d,t,os'⟩:=s'
 obtain rfl:os'=s.os:=os
 exact⟨v,H',I.call (h':=hh) (g':=g) (d':=d) (t':=t) (ch:=[]) un hok bare (λ b z=>absurd z (by simp)),r,q⟩
end
def Binds(K:PySem.W.Frag)(fd:FuncData)(ps:%[|2])(ds:List Value):Prop:=
 ∀(s:Shared)(us:List Value),K.In s.heap->(us++ds).length=ps.length->BindsTo s fd ⟨us,[]⟩ (ps.zip (us++ds))
theorem Binds.all{K:PySem.W.Frag}{fd:FuncData}{ps:%[|2]}(h:∀us:List Value,us.length=ps.length->bindArgs fd ⟨us,[]⟩=pure (ps.zip us)):Binds K fd ps []:=λ s us _ hl=>by
 rw[List.append_nil]at hl ⊢
 exact .of_eq (h us hl)
def Iz(CX:CXT)(X:Cx)(E:XK):Prop:=∀(pins:List (Addr×Obj))(σ:St)(H:Hp)(s:Shared)(e:Value)(s':Shared),%[|5]->CX X.stack H s E e s'->X.xe e s'
section
variable {X : Cx} {CX : CXT} {k : Nat} {f C : Addr} {fd : FuncData} {ps : %[|2]} {sp : Sp} {dvs : List V} {ds : List Value} {E : XK} {x m : Str} {p pos apos : Pos} {e o : Expr} {es : List Expr} {ta : TE} {t : TA}
theorem Tt{pins:List (Addr×Obj)}{σ:St}{H:Hp}{s:Shared}{Q:VK}{us:List Value}{vs:List V}(F:FnOk X.prog X.w X.K X.mg X.base CX k f fd ps sp)(hr:Room k X.A)(hb:Binds X.K fd ps ds)(hd:Vals dvs ds)(hx:Iz CX X E)
 (I:%[|5])(r:Vals vs us)(h:sp (vs++dvs) H Q E):wpAny %[|6] X.A (call (.ref f) us) (EP X pins σ Q) X.xe s:=by
 have r2:Vals (vs++dvs) (us++ds):=r.append hd
 have hl:(us++ds).length=ps.length:=by rw[←r2.length];exact F.len _ _ _ _ h
 refine wpAny_call (codeAny_mono (F.run X.A X.stack s H ⟨us,[]⟩ (us++ds) (vs++dvs) Q E hr I.env0 (hb s us I.kIn hl) r2 h) λ r s' hq=>?_)
 cases r with
 | error e=>exact hx pins σ H s e s' I hq
 | ok fl=>
   cases fl with
   | ret u=>exact I.after hq
   | next=>exact False.elim hq
   | brk=>exact False.elim hq
   | cont=>exact False.elim hq
end
structure FnScope(N P:%[|2])(sc:Scope):Prop where
 kind:sc.kind=.function
 co:sc.isCoroutine=false
 gen:sc.isGenerator=false
 nd:N.Nodup
 pre:N.take P.length=P
 par:∀x∈P,sc.names.lookup x=some .local∨sc.names.lookup x=some .cell
 nofree:∀y∈sc.names,y.2≠.free
theorem uW{kindOf:Str->Option NameKind}{x:Str}:∀{binds:List (Str×Value)}{m:Str->Option Value},(∀v,(x,v)∉binds)->bindL kindOf binds m x=m x
 | [],_,_=>rfl
 | (n,v)::r,m,h=>by
   unfold bindL
   rw[uW λ w hw=>h w (x3 _ hw)]
   split
   . have:x≠n:=by rintro rfl;exact h v x5
     simp[this]
   . rfl
theorem uz{kindOf:Str->Option NameKind}{x:Str}:∀{binds:List (Str×Value)}{m:Str->Option Value},(∀v,(x,v)∉binds)->bindC kindOf binds m x=m x
 | [],_,_=>rfl
 | (n,v)::r,m,h=>by
   unfold bindC
   rw[uz λ w hw=>h w (x3 _ hw)]
   split
   . rfl
   . have:x≠n:=by rintro rfl;exact h v x5
     simp[this]
theorem uN{kindOf:Str->Option NameKind}{x:Str}{v:Value}:∀{P:%[|2]}{vs:List Value}{i:Nat}{m:Str->Option Value},P.Nodup->P[i]? =some x->vs[i]? =some v->kindOf x=some .local->
 bindL kindOf (P.zip vs) m x=some v
 | [],_,_,_,_,h,_,_=>by simp at h
 | _::_,[],_,_,_,_,h,_=>by simp at h
 | p::P,w::vs,0,m,nd,h1,h2,hk=>by
   simp at h1 h2;subst h1;subst h2
   show bindL kindOf ((p,w)::P.zip vs) m p=_
   unfold bindL
   rw[uW λ v hv=>(List.nodup_cons.mp nd).1 (List.of_mem_zip hv).1,if_pos hk]
   simp
 | p::P,w::vs,i+1,m,nd,h1,h2,hk=>by
   show bindL kindOf ((p,w)::P.zip vs) m x=_
   unfold bindL
   exact uN (i:=i) (List.nodup_cons.mp nd).2 (by simpa using h1) (by simpa using h2) hk
theorem uY{kindOf:Str->Option NameKind}{x:Str}{v:Value}:∀{P:%[|2]}{vs:List Value}{i:Nat}{m:Str->Option Value},P.Nodup->P[i]? =some x->vs[i]? =some v->kindOf x≠some .local->
 bindC kindOf (P.zip vs) m x=some v
 | [],_,_,_,_,h,_,_=>by simp at h
 | _::_,[],_,_,_,_,h,_=>by simp at h
 | p::P,w::vs,0,m,nd,h1,h2,hk=>by
   simp at h1 h2;subst h1;subst h2
   show bindC kindOf ((p,w)::P.zip vs) m p=_
   unfold bindC
   rw[uz λ v hv=>(List.nodup_cons.mp nd).1 (List.of_mem_zip hv).1,if_neg hk]
   simp
 | p::P,w::vs,i+1,m,nd,h1,h2,hk=>by
   show bindC kindOf ((p,w)::P.zip vs) m x=_
   unfold bindC
   exact uY (i:=i) (List.nodup_cons.mp nd).2 (by simpa using h1) (by simpa using h2) hk
def start(N:%[|2])(vs:List V):St:=vs.map some++List.replicate (N.length-vs.length) none
def mQ(CX:CXT)(P:Program)(w:World)(K:PySem.W.Frag)(mg:Str->Option Value)(base:Heap)(N:%[|2])(qual:Str)(scope:Scope)(f:Addr)(cd:Value)(A:Around)(outer:List Env)(s:Shared)(H:Hp)(E:XK):Cx where
 prog:=P
 w:=w
 K:=K
 mg:=mg
 base:=base
 A:=A.deeper (envOfC qual scope s.heap.objs.size f cd)
 N:=N
 s₀:=s
 H₀:=H
 env:=envOfC qual scope s.heap.objs.size f cd
 outer:=outer
 stack:=envOfC qual scope s.heap.objs.size f cd::outer
 ex:=[]
 calm:=true
 fn:=λ _=>true
 pn:=[]
 xe:=λ e s'=>wpAny (model P w) (A.deeper (envOfC qual scope s.heap.objs.size f cd)) (leaving (envOfC qual scope s.heap.objs.size f cd) e) (λ _ s''=>CX outer H s E e s'') (λ e' s''=>CX outer H s E e' s'') s'
theorem xq{sc:Scope}{n:Nat}{x:Str}(h:sc.names.lookup x=some .cell):∃c,(cellsFrom n sc.names []).lookup x=some c:=by
 have q:=PySem.W.cellsFrom_some sc.names n [] (.inl h)
 exact Option.isSome_iff_exists.mp q
theorem Jv{CX:CXT}{P:Program}{w:World}{K:PySem.W.Frag}{mg:Str->Option Value}{base:Heap}{N ps:%[|2]}{qual:Str}{scope:Scope}{f:Addr}{cd:Value}{A:Around}{outer:List Env}{s s1:Shared}{H:Hp}{E:XK}{us:List Value}{vs:List V}
 (S:FnScope N ps scope)(hd:A.handled=none)(e0:Env0 P w K mg base A outer s H)(hl:vs.length=ps.length)(r:Vals vs us)
 (x:InCallC s s.heap.objs.size (bindL (envOfC qual scope s.heap.objs.size f cd).kindOf (ps.zip us) λ _=>none) (cellsFrom (s.heap.objs.size+1) scope.names []) (bindC (envOfC qual scope s.heap.objs.size f cd).kindOf (ps.zip us) λ _=>none) s1):
 Inv (mQ CX P w K mg base N qual scope f cd A outer s H E) [] (start N vs) H s1:=by
 have hpl:ps.length≤N.length:=by have:=congrArg List.length S.pre;rw[List.length_take]at this;omega
 obtain⟨h1,tk,rfl,hk⟩:=x.done
 have noA:∀b:Addr,b∉(mQ CX P w K mg base N qual scope f cd A outer s H E).ex:=λ b z=>absurd (show b∈([]:List Addr)from z) (by simp)
 refine⟨⟨e0.mod,S.kind,rfl,rfl,y9 _,λ y z c h1 h2=>?_,λ y hy=>?_,λ y c _ h=>?_,λ _=>hd,Around.frames_deeper e0.frames,.inr ⟨rfl,rfl⟩,λ b z=>absurd z (noA b),e0.bs,e0.bsz,λ b _ _=>noA b,λ b z=>absurd z (noA b),e0.funs,e0.frf⟩,
  rfl,e0.bare,Un.kept hk,⟨_,x.toInCall.ns,λ i y v h1 h2 h3=>?_⟩,λ y c h=>⟨_,x.cell y c h⟩,e0.hok.fresh (y9 _),λ y c h=>?_,λ p hp=>absurd (show p∈([]:List (Addr×Obj))from hp) (by simp),e0.hok.kept hk,?_⟩
 . exact name_of_addr x.apart (PySem.mem_of_lookup h1) (PySem.mem_of_lookup h2)
 . have hy:scope.names.lookup y=some .cell∨scope.names.lookup y=some .free:=hy
   rcases hy with hy | hy
   . exact xq hy
   . exact absurd rfl (S.nofree _ (PySem.mem_of_lookup hy))
 . exact Nat.le_of_lt (x.above y c (PySem.mem_of_lookup h))
 . have hi:i<vs.length:=by
    unfold start at h2
    by_cases hi:i<vs.length
    . exact hi
    . rw[List.getElem?_append_right (by simpa using hi)]at h2
      rw[List.getElem?_replicate]at h2
      split at h2<;>cases h2
   have ha:vs[i]? =some v:=by
    unfold start at h2
    rw[x8 (by simpa using hi),y8]at h2
    cases e:vs[i]? with
    | none=>rw[e]at h2;cases h2
    | some a=>rw[e]at h2;cases h2;rfl
   obtain⟨u,hu,rv⟩:=r.get ha
   have hp:ps[i]? =some y:=by
    rw[←S.pre,List.getElem?_take_of_lt %[|0]];exact h1
   have ndP:ps.Nodup:=by rw[←S.pre];exact S.nd.sublist (List.take_sublist _ _)
   refine⟨u,rv,?_⟩
   rcases S.par y (y4 hp)with k | k
   . exact .inl ⟨k,uN ndP hp hu k⟩
   . obtain⟨c,e⟩:=xq (n:=s.heap.objs.size+1) k
     refine .inr ⟨.inl k,c,e,?_⟩
     have q:=x.cell y c e
     rw[uY ndP hp hu (by show scope.names.lookup y≠_;rw[k];decide)]at q
     exact q
 . exact e0.hok.fresh (Nat.le_of_lt (x.above y c (PySem.mem_of_lookup h)))
 . unfold start
   show _=N.length
   rw[x6,y7,List.length_replicate]
   omega
theorem U6{CX:CXT}{P:Program}{w:World}{K:PySem.W.Frag}{mg:Str->Option Value}{base:Heap}{k:Nat}{f:Addr}{name qual:Str}{params:Arguments}{body:List Stmt}{scope:Scope}{dV kV doc pm cdv ct oc:Value}{an od:Option Addr}
 {osl:Array (Option Value)}{N ps:%[|2]}{sp:Sp}(lk:K.lookup f=some ⟨oc,od,.func (PySem.W.fnOf name qual params body scope dV kV doc pm an cdv ct),osl⟩)(hcd:PySem.W.codeIn K cdv qual=true)(S:FnScope N ps scope)
 (len:∀vs H Q E,sp vs H Q E->vs.length=ps.length)
 (hbody:∀(A:Around)(outer:List Env)(s:Shared)(H:Hp)(vs:List V)(Q:VK)(E:XK),Room k (A.deeper (envOfC qual scope s.heap.objs.size f cdv))->sp vs H Q E->
  ∃t,PSs (mQ CX P w K mg base N qual scope f cdv A outer s H E) body t/\t {nx:=λ _ H'=>Q .non H',rt:=Q} (start N vs) H):
 FnOk P w K mg base CX (k+1) f (PySem.W.fnOf name qual params body scope dV kV doc pm an cdv ct) ps sp:=by
 refine⟨len,λ A outer s H args us vs Q E hr e0 hb r hsp=>?_⟩
 have hl:=len _ _ _ _ hsp
 have KX:K.In s.heap:=e0.mod.kin.keeps λ b o e=>(e0.bs b o e).1
 have lim:s.heap.NoLimit:=e0.mod.nolimit.keeps λ b o e=>(e0.bs b o e).1
 have hkind:∀y∈ps.zip us,scope.names.lookup y.1=some .local∨(scope.names.lookup y.1=some .cell/\((cellsFrom (s.heap.objs.size+1) scope.names []).lookup y.1).isSome=true):=λ⟨n,v⟩ hy=>by
  rcases S.par n (List.of_mem_zip hy).1 with q | q
  . exact .inl q
  . exact .inr ⟨q,PySem.W.cellsFrom_some _ _ _ (.inl q)⟩
 refine codeAny_call_function hr.depth (KX _ _ lk) rfl S.co S.gen rfl (PySem.W.codeRec_of KX hcd) (hb _ _ _ _ ?_)
 refine wpAny_newFunctionEnv_cells S.kind hkind λ env he s1 x=>?_
 subst he
 refine⟨lim.keeps x.toInCall.keep,codeAny_func ?_⟩
 obtain⟨t,ht,hq⟩:=hbody A outer s H vs Q E (hr.deeper _) hsp
 have I:Inv (mQ CX P w K mg base N qual scope f cdv A outer s H E) [] (start N vs) H s1:=Jv S hr.hd e0 hl r x
 refine wpAny_mono (ht [] s1 (start N vs) H _ I hq) (λ fl s' hs=>?_) λ e s' hs=>hs
 have fin:∀{σ':St}{H':Hp}{v:V}{u:Value},Inv (mQ CX P w K mg base N qual scope f cdv A outer s H E) [] σ' H' s'->RelV v u->Q v H'->CE outer P w H s Q u s':=
  λ{σ' H' v u} J rv q=>⟨v,H',J.os,J.bare,J.base,J.hok,rv,q⟩
 cases fl with
 | ret u=>
   obtain⟨v,σ',H',J,rv,q⟩:=hs
   exact fin J rv q
 | next=>
   obtain⟨σ',H',J,q⟩:=hs
   exact fin (v:=V.non) (u:=Value.none) J rfl q
 | brk=>
   obtain⟨_,_,_,q⟩:=hs
   exact False.elim q
 | cont=>
   obtain⟨_,_,_,q⟩:=hs
   exact False.elim q
section
variable {X : Cx} {x : Str} {p pos : Pos} {e : Expr} {es : List Expr} {t : TA} {id T : String} {r : List V -> Hp -> VK -> Prop}
def tCB(r:List V->Hp->VK->Prop)(t:TA):TE:=λ σ H Q=>t σ H λ vs H1=>r vs H1 Q
theorem KH(hc:fV X (.builtin id) r)(hg:Gl X x)(hm:X.mg x=none)(hv:bootBuiltins x=some (.builtin id))(ha:PA X (e::es) t)(hn:x≠"__name__":=by decide)(hdb:(x==("__debug__":Str))=false:=by decide)
 (he:starEach (e::es) X.env=(false,eval e X.env)::starEach es X.env:=by rfl)(hpl:(backTo pos (starEach es X.env)).any (·.1)=false:=by rfl):PE X (.Call (.Name x p) (e::es) [] pos) (tCB r t):=by
 intro pins s σ H Q I h
 refine wpAny_Call_Name_kw (cz I hg hm hv ?_ hn hdb)
 exact PyProof.Rows.callWith_builtin1 (thn (ha pos pins s σ H _ I h) λ us s1 ⟨vs,H1,I1,r1,q1⟩=>hc pins s1 σ H1 vs us Q I1 r1 q1) he hpl
end
end L2
namespace HT
open PySem PyProof.Rows
section
variable {prog : Program} {w : World} {A : Around} {E : Value -> Shared -> Prop} {s : Shared}
theorem cat_tup{t b:Addr}{vs ws:List Value}{Q:%[|7]}(ht:IsTup s.heap t vs.toArray)(hb:IsTup s.heap b ws.toArray)(hv:vs≠[])
 (h1:ws=[]->Q (.ref t) s)(h2:ws≠[]->Q (.ref s.heap.objs.size) {s with heap:=s.heap.push {cls:=.type "tuple",data:=.seq (vs++ws).toArray}})
 (hsz:vs.length+ws.length≤sizeLine):wpAny (model prog w) A (binaryOp .Add (.ref t) (.ref b)) Q E s:=by
 obtain⟨⟨cls,dd,data,sl⟩,ho,hc,n,hd⟩:=id ht
 obtain⟨⟨cls2,dd2,data2,sl2⟩,ho2,hc2,n2,hd2⟩:=id hb
 simp only at hc hd hc2 hd2
 subst hc hd hc2 hd2
 have e:vs.toArray++ws.toArray=(vs++ws).toArray:=by simp
 by_cases hw:ws=[]
 . exact concat_meets ⟨_,ho,rfl⟩ ⟨_,ho2,rfl⟩ noFill_tuple_add seq_tuple_add PySem.F.slot_tuple_add PySem.F.entry_tuple_add (PySem.F.args_tuple_add_2 _ _)
    (tuple_addW1 t b vs.toArray ws.toArray n n2 dd dd2 sl sl2 (by simpa using hv) (by simp[hw])) ⟨ho,ho2,h1 hw⟩
 . refine concat_meets ⟨_,ho,rfl⟩ ⟨_,ho2,rfl⟩ noFill_tuple_add seq_tuple_add PySem.F.slot_tuple_add PySem.F.entry_tuple_add (PySem.F.args_tuple_add_2 _ _)
    (tuple_addW2 t b vs.toArray ws.toArray n n2 dd dd2 sl sl2 (by simpa using hv) (by simpa using hw) (by rw[x4,x4];exact hsz)) ⟨ho,ho2,?_⟩
   rw[e]
   exact h2 hw
def sIx(n d:Nat):Option Int->Nat
 | none=>d
 | some v=>if v<0 then(v+(n:Int)).toNat else min v.toNat n
theorem sIx_none(n d:Nat):sIx n d none=d:=rfl
theorem sIx_nat(n d k:Nat):sIx n d (some (k:Int))=min k n:=by
 show(if(k:Int)<0 then((k:Int)+(n:Int)).toNat else min (k:Int).toNat n)=min k n
 rw[if_neg %[|0],Int.toNat_natCast]
theorem Q3(n d:Nat)(hd:d≤n)(o:Option Int):sIx n d o≤n:=by
 cases o with
 | none=>exact hd
 | some v=>
   show(if v<0 then(v+(n:Int)).toNat else min v.toNat n)≤n
   by_cases hv:v<0
   . rw[if_pos hv];omega
   . rw[if_neg hv];exact Nat.min_le_right _ _
theorem De(v:Int)(n d:Nat):(if v<0 then max (v+(n:Int)) 0 else min v (n:Int))=((sIx n d (some v):Nat):Int):=by
 show(if v<0 then max (v+(n:Int)) 0 else min v (n:Int))=(((if v<0 then(v+(n:Int)).toNat else min v.toNat n):Nat):Int)
 by_cases hv:v<0
 . simp only[if_pos hv];omega
 . simp only[if_neg hv];omega
theorem Et(lo hi:Option Int)(n:Nat):Builtin.Slice.sliceAdjust lo hi 1 (n:Int)=(((sIx n 0 lo:Nat):Int),((sIx n n hi:Nat):Int)):=by
 have h1:¬((1:Int)<0):=%[|0]
 unfold Builtin.Slice.sliceAdjust
 simp only[h1,if_false]
 refine Prod.ext ?_ ?_
 . cases lo with
   | none=>rfl
   | some v=>exact De v n 0
 . cases hi with
   | none=>rfl
   | some v=>exact De v n n
theorem FT(i j:Nat):Builtin.Slice.slicePlaces (i:Int) (j:Int) 1=j-i:=by
 unfold Builtin.Slice.slicePlaces
 have h1:(1:Int)>0:=%[|0]
 simp only[h1,if_true,Int.ediv_one]
 split<;>omega
theorem qP{v:Value}{o:Option Int}{Q:Option Int->%[|8]}(p:IsPart v o)(h:Q o s):wpAny (model prog w) A (Builtin.Slice.slicePartIndex v) Q E s:=by
 cases p with
 | none=>exact slicePart_none h
 | int i t=>exact slicePart_int h
theorem sliceApplied_gen{sl:Addr}{vl vu:Value}{lo hi:Option Int}{n:Nat}{Q:Int×Int×Nat->%[|8]}(hs:s.heap.IsSliceOf sl vl vu .none)(pl:IsPart vl lo)(pu:IsPart vu hi)
 (h:Q (((sIx n 0 lo:Nat):Int),1,sIx n n hi-sIx n 0 lo) s):wpAny (model prog w) A (Builtin.Slice.sliceApplied (.ref sl) (pure (n:Int))) Q E s:=by
 obtain⟨os,hos,hcs,hds⟩:=id hs
 unfold Builtin.Slice.sliceApplied Builtin.Slice.sliceFields
 refine ZA (ZA (wpAny_field hos hds (x:=vl) rfl (ZA (wpAny_field hos hds (x:=vu) rfl (ZA (wpAny_field hos hds (x:=.none) rfl (ZB ?_)))))))
 refine ZA (slicePart_none ?_)
 show wpAny _ _ (if((1:Int)==0)=true then _ else _) _ _ s
 rw[if_neg %[|3]]
 refine ZA (qP pl (ZA (qP pu (ZA (ZB ?_)))))
 show wpAny _ _ (match Builtin.Slice.sliceAdjust lo hi 1 (n:Int)with | (lo,hi)=>pure (lo,(1:Int),Builtin.Slice.slicePlaces lo hi 1)) _ _ s
 rw[Et lo hi n]
 show wpAny _ _ (pure (((sIx n 0 lo:Nat):Int),(1:Int),Builtin.Slice.slicePlaces ((sIx n 0 lo:Nat):Int) ((sIx n n hi:Nat):Int) 1)) _ _ s
 rw[FT]
 exact ZB h
theorem KY(xs:Array Value)(i k:Nat):((List.range k).filterMap λ(m:Nat)=>xs[((i:Int)+(m:Int)*1).toNat]?).toArray=((xs.toList.drop i).take k).toArray:=by
 have e:(λ(m:Nat)=>xs[((i:Int)+(m:Int)*1).toNat]?)=λ m=>xs[i+m]?:=by
  funext m
  have:((i:Int)+(m:Int)*1).toNat=i+m:=%[|0]
  rw[this]
 rw[e]
 have:=pick_run xs i k
 rw[List.filterMap_map]at this
 have e2:((λ x=>xs[x]?) ∘ λ x=>i+x)=λ m=>xs[i+m]?:=rfl
 rw[e2]at this
 rw[this]
theorem getItem_tuple_cut{t sl:Addr}{items:Array Value}{vl vu:Value}{lo hi:Option Int}{Q:%[|7]}(ht:IsTup s.heap t items)(hs:s.heap.IsSliceOf sl vl vu .none)(pl:IsPart vl lo)(pu:IsPart vu hi)
 (hw:¬(sIx items.size 0 lo=0/\sIx items.size items.size hi=items.size))
 (h:Q (.ref s.heap.objs.size) {s with heap:=s.heap.push {cls:=.type "tuple",data:=.seq ((items.toList.drop (sIx items.size 0 lo)).take (sIx items.size items.size hi-sIx items.size 0 lo)).toArray}})
 (hsz:items.size≤sizeLine):wpAny (model prog w) A (getItem (.ref t) (.ref sl)) Q E s:=by
 have htake:sizeOk (.seq ((items.toList.drop (sIx items.size 0 lo)).take (sIx items.size items.size hi-sIx items.size 0 lo)).toArray):=by
  show((items.toList.drop (sIx items.size 0 lo)).take (sIx items.size items.size hi-sIx items.size 0 lo)).toArray.size≤sizeLine
  rw[x4,List.length_take,List.length_drop,Array.length_toList]
  omega
 have hj:sIx items.size items.size hi≤items.size:=Q3 _ _ (y9 _) hi
 obtain⟨os,hos,hcs,hds⟩:=id hs
 have hTs:s.TypeIs (.ref sl) "slice":=⟨os,hos,hcs⟩
 unfold getItem
 try with_reducible refine ZQ ?_
 first | refine ZA (ZB ?_) | skip
 refine ZA (wpAny_sequenceKey ht.typeIs %[|3] ?_)
 refine ZA (wpAny_callSpecial?_slot (name:=Str.ofString "__getitem__") ht.typeIs PyProof.Rows.slot_tuple_getitem
  (ZP PyProof.Rows.slot_tuple_getitem ht.typeIs entry_tuple_getitem ?_ (args_tuple_getitem _ _)))
 show wpAny _ _ (Builtin.Tuple.tupleItemsOf (.ref t)>>=_) _ _ s
 refine ZA (tupleItemsOf_ ht ?_)
 refine ZA (wpAny_typeOf hTs ?_)
 rw[if_pos %[|3]]
 refine ZA (sliceApplied_gen hs pl pu ?_)
 have hno:¬((((sIx items.size 0 lo:Nat):Int)==0&&(1:Int)==1&&(sIx items.size items.size hi-sIx items.size 0 lo)==items.size)=true):=by
  intro q
  rw[Bool.and_eq_true,Bool.and_eq_true]at q
  have q1:((sIx items.size 0 lo:Nat):Int)=0:=ZI q.1.1
  have q2:sIx items.size items.size hi-sIx items.size 0 lo=items.size:=ZI q.2
  exact hw ⟨%[|0],%[|0]⟩
 show wpAny _ _ (if(((sIx items.size 0 lo:Nat):Int)==0&&(1:Int)==1&&(sIx items.size items.size hi-sIx items.size 0 lo)==items.size)=true then _ else _) _ _ s
 rw[if_neg hno,KY]
 first
  | exact ZA (m:=Builtin.Tuple.tupleExact _) (wpAny_newObj_type (ZB ⟨_,rfl,ZB h⟩) htake)
  | exact ZA (m:=Builtin.Tuple.tupleExact _) (wpAny_newObj_type (ZA (ZB (ZB ⟨_,rfl,ZB h⟩))) htake)
  | exact ZA (ZA (m:=Builtin.Tuple.tupleExact _) (wpAny_newObj_type (ZB (ZB ⟨_,rfl,ZB h⟩)) htake))
  | exact ZA (ZA (m:=Builtin.Tuple.tupleExact _) (wpAny_newObj_type (ZB ⟨_,rfl,ZB h⟩) htake))
end
end HT
namespace L2
open PySem PySem.Spec PyProof.Rows
abbrev TO:=St->Hp->(Option Int->Hp->Prop)->Prop
theorem intsAre_of{ns:%[|1]}:∀{us:List Value},Vals (ns.map V.int) us->IntsAre us ns:=by
 induction ns with
 | nil=>intro us r;rw[List.map_nil]at r;cases r;exact .nil
 | cons n ns ih=>
   intro us r
   rw[List.map_cons]at r
   cases r with
   | cons r1 r2=>
     obtain⟨t,e⟩:=r1
     subst e
     exact .cons n t (ih r2)
section
variable {X : Cx} {e : Expr} {te : TE} {lo hi : Option Expr} {tl th : TO} {pos p2 : Pos}
def SlR(X:Cx)(r:V->Option Int->Option Int->Hp->VK->Prop):Prop:=
 ∀ (pins:List (Addr×Obj))(s:Shared)(σ:St)(H:Hp)(x:V)(v vl vu:Value)(lo hi:Option Int)(sl:Addr)(Q:VK),%[|5]->RelV x v->s.heap.IsSliceOf sl vl vu .none->IsPart vl lo->IsPart vu hi->r x lo hi H Q->
   ∃T id,typeLookup (.type T) "__getitem__"=pure (some (.builtin id))/\s.TypeIs v T/\wpAny %[|6] X.A (getItem v (.ref sl)) (EP X pins σ Q) X.xe s
def mC(xs:List V)(lo hi:Option Int):List V:=(xs.drop (HT.sIx xs.length 0 lo)).take (HT.sIx xs.length xs.length hi-HT.sIx xs.length 0 lo)
theorem oM(xs:List V)(lo hi:Option Int):(mC xs lo hi).length≤xs.length:=by
 unfold mC
 rw[List.length_take,List.length_drop]
 omega
def Vz(K:PySem.W.Frag):V->Option Int->Option Int->Hp->VK->Prop:=λ x lo hi H Q=>∃a xs,x=.ref a/\SqT K H a xs/\
 ¬(HT.sIx xs.length 0 lo=0/\HT.sIx xs.length xs.length hi=xs.length)/\∀p,H p=none->Q (.ref p) (upd H p (.tup (mC xs lo hi)))
theorem Q8:SlR X (Vz X.K):=by
 intro pins s σ H x v vl vu lo hi sl Q I rx hs pl pu h
 obtain⟨a,xs,rfl,hx,hw,q⟩:=h
 cases rx
 obtain⟨its,r,ht,hz⟩:=I.tuple hx
 have hlen:its.toArray.size=xs.length:=by rw[x4];exact r.length.symm
 refine⟨"tuple",_,PyProof.Rows.slot_tuple_getitem.lookup,ht.typeIs,?_⟩
 refine HT.getItem_tuple_cut ht hs pl pu (by rw[hlen];exact hw) ?_ (by rw[hlen];exact hz)
 rw[hlen]
 refine⟨.ref s.heap.objs.size,_,I.laid (t':=s.toks) (o:=.tup (mC xs lo hi)) (λ b ob q=>ZC _ q) (y9 _) ?_,rfl,q _ (I.hok.fresh (y9 _))⟩
 exact⟨Nat.le_trans (oM xs lo hi) hz,_,(r.drop (HT.sIx xs.length 0 lo)).take (HT.sIx xs.length xs.length hi-HT.sIx xs.length 0 lo),IsTup.new _ _⟩
def Vd(K:PySem.W.Frag):R2:=λ x y H Q=>∃a b xs ys,x=.ref a/\y=.ref b/\SqT K H a xs/\SqT K H b ys/\xs≠[]/\xs.length+ys.length≤sizeLine/\
 (ys=[]->Q (.ref a) H)/\(ys≠[]->∀p,H p=none->Q (.ref p) (upd H p (.tup (xs++ys))))
theorem Vals.nil_iff{xs:List V}{us:List Value}(r:Vals xs us):us=[]↔xs=[]:=by
 cases r with
 | nil=>simp
 | cons _ _=>simp
theorem Oj:OpR X (binaryOp .Add) (Vd X.K):=by
 intro pins s σ H x y v u Q I rx ry h
 obtain⟨a,b,xs,ys,rfl,rfl,ha,hb,hx,hz,q1,q2⟩:=h
 cases rx
 cases ry
 obtain⟨its,r1,p1,_⟩:=I.tuple ha
 obtain⟨its2,r2,p2,_⟩:=I.tuple hb
 refine HT.cat_tup p1 p2 (λ z=>hx (r1.nil_iff.mp z)) (λ z=>⟨.ref a,H,I,rfl,q1 (r2.nil_iff.mp z)⟩) (λ z=>?_) (by rw[←r1.length,←r2.length];exact hz)
 refine⟨.ref s.heap.objs.size,_,I.laid (t':=s.toks) (o:=.tup (xs++ys)) (λ b ob q=>ZC _ q) (y9 _) ?_,rfl,q2 (λ w=>z (r2.nil_iff.mpr w)) _ (I.hok.fresh (y9 _))⟩
 exact⟨by rw[x6];exact hz,_,r1.append r2,IsTup.new _ _⟩
end
def ixN(n:Nat)(i:Int):Option Nat:=if 0≤i then(if i<n then some i.toNat else none)else if-(n:Int)≤i then some (i+n).toNat else none
def atI{α:Type}(xs:List α)(i:Int):Option α:=(ixN xs.length i).bind λ j=>xs[j]?
theorem Cu{n:Nat}{i:Int}{j:Nat}(h:ixN n i=some j):seqIndex? i n=some j/\j<n/\ -(n:Int)≤i/\i<n:=by
 unfold ixN at h
 by_cases h0:0≤i
 . rw[if_pos h0]at h
   by_cases h1:i<n
   . rw[if_pos h1]at h
     have e:i.toNat=j:=Option.some.inj h
     exact⟨by rw[seqIndex_of h0 h1,e],%[|0],%[|0],h1⟩
   . rw[if_neg h1]at h;cases h
 . rw[if_neg h0]at h
   by_cases h1: -(n:Int)≤i
   . rw[if_pos h1]at h
     have e:(i+n).toNat=j:=Option.some.inj h
     exact⟨by rw[seqIndex_neg %[|0] h1,e],%[|0],h1,%[|0]⟩
   . rw[if_neg h1]at h;cases h
theorem Dq{α:Type}{xs:List α}{i:Int}{v:α}(h:atI xs i=some v):∃j,seqIndex? i xs.length=some j/\xs[j]? =some v/\j<xs.length/\ -(xs.length:Int)≤i/\i<xs.length:=by
 unfold atI at h
 cases e:ixN xs.length i with
 | none=>rw[e]at h;cases h
 | some j=>
   rw[e]at h
   obtain⟨h1,h2,h3,h4⟩:=Cu e
   exact⟨j,h1,h,h2,h3,h4⟩
theorem bA{α:Type}{xs:List α}{j:Nat}{v:α}(h:xs[j]? =some v):atI xs (j:Int)=some v:=by
 have hj:j<xs.length:=(z0.mp h).1
 have e:ixN xs.length (j:Int)=some j:=by
  unfold ixN
  rw[if_pos %[|0],if_pos %[|0]];simp
 unfold atI;rw[e];exact h
def DX(b:Expr):Prop:=∀o i,subscripted b false o i=operate [o,i] (getItem o i)
def IxR(X:Cx)(r:R2):Prop:=
 ∀ (value slice:Expr)(pins:List (Addr×Obj))(s:Shared)(σ:St)(H:Hp)(x y:V)(v u:Value)(Q:VK),%[|5]->RelV x v->RelV y u->r x y H Q->
   subscripted slice false v u=operate [v,u] (getItem v u)->wpAny %[|6] X.A (subscriptTail value slice v u) (EP X pins σ Q) X.xe s
def MtR(X:Cx)(id:String)(r:V->List V->Hp->VK->Prop):Prop:=
 ∀ (pins:List (Addr×Obj))(s:Shared)(σ:St)(H:Hp)(x:V)(xs:List V)(v:Value)(us:List Value)(Q:VK),%[|5]->RelV x v->Vals xs us->r x xs H Q->
   wpAny %[|6] X.A (call (.builtin id) (v::us)) (EP X pins σ Q) X.xe s
section
variable {X : Cx} {a b : Expr} {ta tb : TE} {pos : Pos}
def VL(K:PySem.W.Frag):R2:=λ x y H Q=>∃p xs i v,x=.ref p/\y=.int i/\SqL K H p xs/\atI xs i=some v/\Q v H
def V1(K:PySem.W.Frag):R2:=λ x y H Q=>∃p xs i v,x=.ref p/\y=.int i/\SqT K H p xs/\atI xs i=some v/\Q v H
theorem DG:IxR X (VL X.K):=by
 intro value slice pins s σ H x y v u Q I rx ry h hs
 obtain⟨p,xs,i,z,rfl,rfl,hq,he,q⟩:=h
 cases rx
 obtain⟨t,rfl⟩:=ry
 obtain⟨its,r,pl,hz⟩:=I.list hq
 obtain⟨j,h1,h2,h3,h4,h5⟩:=Dq he
 obtain⟨w,ew,rw'⟩:=r.get h2
 have hl:=r.length
 have hn:=qz
 have fin:EP X pins σ Q w s:=⟨z,H,I,rw',q⟩
 by_cases h0:0≤i
 . have hj:i.toNat=j:=by
    rw[seqIndex_of h0 h5]at h1
    exact Option.some.inj h1
   exact item_listR pl.isList h0 %[|0] (by rw[hj];simpa using ew) fin hs
 . have hj:(i+(its.toArray.size:Int)).toNat=j:=by
    rw[seqIndex_neg %[|0] h4]at h1
    rw[x4,←hl]
    exact Option.some.inj h1
   exact subscriptTail_builtinR (x:=w) pl.isList.typeIs slot_list_getitem.lookup
    (wpAny_getItem_list_neg (Q:=λ r s'=>r=w/\EP X pins σ Q r s') pl.isList %[|0] (by rw[x4]<;>omega) %[|0] (by rw[hj];simpa using ew) ⟨rfl,fin⟩) hs
theorem SJ:IxR X (V1 X.K):=by
 intro value slice pins s σ H x y v u Q I rx ry h hs
 obtain⟨p,xs,i,z,rfl,rfl,hq,he,q⟩:=h
 cases rx
 obtain⟨t,rfl⟩:=ry
 obtain⟨its,r,pl,hz⟩:=I.tuple hq
 obtain⟨j,h1,h2,h3,h4,h5⟩:=Dq he
 obtain⟨w,ew,rw'⟩:=r.get h2
 have hl:=r.length
 have hn:=qz
 have fin:EP X pins σ Q w s:=⟨z,H,I,rw',q⟩
 exact subscriptTail_builtinR (x:=w) pl.typeIs slot_tuple_getitem.lookup
  (getItem_tuple (j:=j) (Q:=λ r s'=>r=w/\EP X pins σ Q r s') pl %[|0] %[|0] (by rw[x4,←hl];exact h1) (by simpa using ew) ⟨rfl,fin⟩) hs
theorem Fi(its:List Value)(n j:Nat)(u:Value):Obj.mapSeq (·.setIfInBounds j u) {cls:=.type "list",data:=.seq its.toArray n}={cls:=.type "list",data:=.seq (its.set j u).toArray n}:=by
 simp[Obj.mapSeq]
theorem Inv.lst{pins:List (Addr×Obj)}{σ:St}{H:Hp}{s:Shared}{p:Addr}{xs:List V}(I:%[|5])(h:H p=some (.lst xs)):
 ∃(its:List Value) (n:Nat),Vals xs its/\s.heap.get? p=some {cls:=.type "list",data:=.seq its.toArray n}/\xs.length≤sizeLine:=by
 obtain⟨z,its,n,r,e⟩:=I.hok p _ h
 exact⟨its,n,r,e,z⟩
theorem Inv.lstUpd{pins:List (Addr×Obj)}{σ:St}{H:Hp}{s:Shared}{p:Addr}{xs ys:List V}{its its':List Value}{n n':Nat}{f:Obj->Obj}(I:%[|5])(h:H p=some (.lst xs))
 (ho:s.heap.get? p=some {cls:=.type "list",data:=.seq its.toArray n})(hf:f {cls:=.type "list",data:=.seq its.toArray n}={cls:=.type "list",data:=.seq its'.toArray n'})(r:Vals ys its')(hz:ys.length≤sizeLine)(t:Nat):
 Inv X pins σ (upd H p (.lst ys)) {s with heap:=s.heap.update p f,toks:=t}:=by
 have e:(s.heap.update p f).get? p=some {cls:=.type "list",data:=.seq its'.toArray n'}:=by
  rw[Heap.get?_update_self f ho (by rw[hf]<;>rfl),hf]
 refine I.write (x:=p) (e:=p) (by rw[h];trivial) (.inl rfl) (λ b u hb q=>(Heap.get?_update_other _ _ (Ne.symm hb)).trans q) ⟨_,e⟩ ?_
 exact⟨hz,its',n',r,e⟩
def UL:V->V->V->Hp->(Hp->Prop)->Prop:=λ o i v H Q=>∃p xs k j,o=.ref p/\i=.int k/\H p=some (.lst xs)/\ixN xs.length k=some j/\Q (upd H p (.lst (xs.set j v)))
theorem set_list:V7 X UL:=by
 intro pins s σ H o i v ov iv u Q I ro ri rv h
 obtain⟨p,xs,k,j,rfl,rfl,hp,hj,q⟩:=h
 cases ro
 obtain⟨t,rfl⟩:=ri
 obtain⟨its,n,r,ho,hz⟩:=I.lst hp
 obtain⟨h1,h2,h3,h4⟩:=Cu hj
 have hl:=r.length
 have hn:=qz
 have I':Inv X pins σ (upd H p (.lst (xs.set j v))) {s with heap:=s.heap.update p (Obj.mapSeq (·.setIfInBounds j u))}:=
  I.lstUpd hp ho (Fi its n j u) (r.set rv j) (by rw[List.length_set];exact hz) s.toks
 by_cases h0:0≤k
 . have hk:k.toNat=j:=by
    rw[seqIndex_of h0 h4]at h1
    exact Option.some.inj h1
   exact PySem.W.ki_setAt ho h0 %[|0] (by rw[x4,←hl];exact h4) (by rw[hk];exact⟨_,I',q⟩)
 . have hk:(k+(its.toArray.size:Int)).toNat=j:=by
    rw[seqIndex_neg %[|0] h3]at h1
    rw[x4,←hl]
    exact Option.some.inj h1
   exact PySem.W.ki_setBack ho %[|0] (by rw[x4,←hl];exact h3) %[|0] (by rw[hk];exact⟨_,I',q⟩)
theorem zG(lo hi:Option Int)(n:Nat):(sliceBounds lo hi none n).1=((HT.sIx n 0 lo:Nat):Int)/\(sliceBounds lo hi none n).2.1=((HT.sIx n n hi:Nat):Int)/\(sliceBounds lo hi none n).2.2=1:=by
 refine⟨?_,?_,rfl⟩
 . cases lo with
   | none=>simp[sliceBounds,HT.sIx]
   | some i=>
     simp only[sliceBounds,HT.sIx,Option.getD_none,show(1:Int)>0 by decide,if_true]
     by_cases h:i<0
     . simp only[h,if_true]<;>omega
     . simp only[h,if_false]<;>omega
 . cases hi with
   | none=>simp[sliceBounds,HT.sIx]
   | some i=>
     simp only[sliceBounds,HT.sIx,Option.getD_none,show(1:Int)>0 by decide,if_true]
     by_cases h:i<0
     . simp only[h,if_true]<;>omega
     . simp only[h,if_false]<;>omega
theorem vI(its:List Value)(lo hi:Option Int):slicePick its.toArray lo hi none=((its.drop (HT.sIx its.length 0 lo)).take (HT.sIx its.length its.length hi-HT.sIx its.length 0 lo)).toArray:=by
 obtain⟨h1,h2,h3⟩:=zG lo hi its.toArray.size
 unfold slicePick
 rw[h1,h2,h3]
 simp only[sliceRange_one,pick_run,x4]<;>rfl
def V4(K:PySem.W.Frag):V->Option Int->Option Int->Hp->VK->Prop:=λ x lo hi H Q=>∃a xs,x=.ref a/\SqL K H a xs/\∀p,H p=none->Q (.ref p) (upd H p (.lst (mC xs lo hi)))
theorem DR:SlR X (V4 X.K):=by
 intro pins s σ H x v vl vu lo hi sl Q I rx hs pl pu h
 obtain⟨a,xs,rfl,hx,q⟩:=h
 cases rx
 obtain⟨its,r,ht,hz⟩:=I.list hx
 have hlen:=r.length
 refine⟨"list",_,slot_list_getitem.lookup,ht.isList.typeIs,?_⟩
 refine wpAny_getItem_list_slice ht.isList hs pl pu .none (by simp) ?_ (by rw[x4]<;>omega)
 rw[vI,←hlen]
 refine⟨.ref s.heap.objs.size,_,I.laid (t':=s.toks) (o:=.lst (mC xs lo hi)) (λ b ob q=>ZC _ q) (y9 _) ?_,rfl,q _ (I.hok.fresh (y9 _))⟩
 exact⟨Nat.le_trans (oM xs lo hi) hz,_,0,(r.drop (HT.sIx xs.length 0 lo)).take (HT.sIx xs.length xs.length hi-HT.sIx xs.length 0 lo),ZD _ rfl⟩
theorem g8:fV X (.builtin "len") (λ xs H Q=>∃p ys,xs=[.ref p]/\(SqL X.K H p ys∨SqT X.K H p ys)/\Q (.int ys.length) H):=by
 intro pins s σ H xs us Q I r h
 obtain⟨p,ys,rfl,hq,q⟩:=h
 obtain⟨u,rfl,rx⟩:=vals1 r
 cases rx
 have hn:=qz
 rcases hq with hq | hq
 . obtain⟨its,r',pl,hz⟩:=I.list hq
   have hlen:=r'.length
   exact Calls.call_len_list pl.isList (by simp only[x4]<;>omega) ⟨.int ys.length,H,I.tok _,⟨s.toks+1,by rw[x4,hlen]⟩,q⟩
 . obtain⟨its,r',pl,hz⟩:=I.tuple hq
   have hlen:=r'.length
   exact len_tuple pl (by simp only[x4]<;>omega) ⟨.int ys.length,H,I.tok _,⟨s.toks+1,by rw[x4,hlen]⟩,q⟩
theorem kO:fV X (.type "tuple") (λ xs H Q=>∃p ys,xs=[.ref p]/\((SqL X.K H p ys/\∀l,H l=none->Q (.ref l) (upd H l (.tup ys)))∨(SqT X.K H p ys/\Q (.ref p) H))):=by
 intro pins s σ H xs us Q I r h
 obtain⟨p,ys,rfl,h⟩:=h
 obtain⟨u,rfl,rx⟩:=vals1 r
 cases rx
 rcases h with⟨hq,q⟩ | ⟨hq,q⟩
 . obtain⟨its,r',pl,hz⟩:=I.list hq
   have hlen:=r'.length
   refine call_tuple_list pl.isList (λ h' kp=>?_) (by simp only[x4]<;>omega)
   have I1:Inv X pins σ H {s with heap:=h'}:=I.kept (t':=s.toks) kp
   have I2:Inv X pins σ (upd H h'.objs.size (.tup ys)) {s with heap:=h'.push {cls:=.type "tuple",data:=.seq its.toArray}}:=
    I1.laid (t':=s.toks) (λ b o e=>ZC _ e) (y9 _) (show aK X.prog X.w _ _ _ (.tup ys)from⟨hz,its,r',IsTup.new _ _⟩)
   exact⟨.ref h'.objs.size,_,I2,rfl,q _ (I1.hok.fresh (y9 _))⟩
 . obtain⟨its,r',pl,hz⟩:=I.tuple hq
   exact call_tuple_same pl ⟨.ref p,H,I,rfl,q⟩
def tyV(K:PySem.W.Frag)(T:String)(x:V)(H:Hp):Prop:=match x with
 | .str _=>T="str"
 | .int _=>T="int"
 | .ref p=>(T="list"/\∃xs,SqL K H p xs)∨(T="tuple"/\∃o,K.lookup p=some o/\o.cls=.type "tuple"/\o.dict=none)∨
  (T="dict"/\((∃kvs,H p=some (.dK kvs))∨∃kvs,H p=some (.dT kvs)))∨(T="set"/\∃S n,H p=some (.set S n))
 | _=>False
theorem RV{pins:List (Addr×Obj)}{σ:St}{H:Hp}{s:Shared}{T:String}{x:V}{v:Value}(I:%[|5])(r:RelV x v)(ty:tyV X.K T x H):
 s.TypeIs v T/\∀a,v=.ref a->∃ob,s.heap.get? a=some ob/\ob.dict=none:=by
 cases x with
 | str z=>
   obtain⟨t,rfl⟩:=r
   cases (show T="str" from ty)
   exact⟨typeIs_str s z t,λ _ e=>nomatch e⟩
 | int i=>
   obtain⟨t,rfl⟩:=r
   cases (show T="int" from ty)
   exact⟨typeIs_int s i t,λ _ e=>nomatch e⟩
 | ref p=>
   cases r
   rcases ty with⟨rfl,xs,hq⟩ | ⟨rfl,o,hk,hc,hd⟩ | ⟨rfl,hk⟩ | ⟨rfl,S,n,hk⟩
   . obtain⟨its,_,pl,_⟩:=I.list hq
     refine⟨pl.isList.typeIs,λ a e=>?_⟩
     cases e
     obtain⟨o,n,e,c,hd,_⟩:=pl
     exact⟨o,e,hd⟩
   . refine⟨⟨o,I.kIn p o hk,hc⟩,λ a e=>?_⟩
     cases e
     exact⟨o,I.kIn _ o hk,hd⟩
   . have z:∃o,s.heap.get? p=some o/\o.ExactDict:=by
      rcases hk with⟨kvs,hk⟩ | ⟨kvs,hk⟩
      . obtain⟨_,_,_,_,o,_,_,e,ex,_⟩:=I.hok p _ hk
        exact⟨o,e,ex⟩
      . obtain⟨_,_,_,_,o,_,_,e,ex,_⟩:=I.hok p _ hk
        exact⟨o,e,ex⟩
     obtain⟨o,e,ex⟩:=z
     refine⟨⟨o,e,ex.1⟩,λ a e2=>?_⟩
     cases e2
     exact⟨o,e,ex.2.1⟩
   . obtain⟨o,_,_,_,e,ex,_⟩:=I.hok p _ hk
     refine⟨⟨o,e,ex.1⟩,λ a e2=>?_⟩
     cases e2
     exact⟨o,e,ex.2.1⟩
 | _=>exact False.elim ty
def tBM(K:PySem.W.Frag)(T:String)(r:V->List V->Hp->VK->Prop)(to:TE)(t:TA):TE:=λ σ H Q=>to σ H λ x H1=>tyV K T x H1/\t σ H1 λ xs H2=>r x xs H2 Q
variable {o e : Expr} {es : List Expr} {to : TE} {t : TA} {name : Str} {apos cpos : Pos} {T id : String} {r : V -> List V -> Hp -> VK -> Prop}
theorem Nf(pa:PlainAttrs T)(slot:Slot T name id)(hty:typeOf (.builtin id)=pure (.type "method_descriptor"))(hm:MtR X id r)(ho:PE X o to)(ha:PA X (e::es) t)
 (hbase:attributeBase o name X.env (eval o X.env)=eval o X.env:=by rfl)
 (hfew:((backTo cpos (starEach (e::es) X.env)).all (λ x=>!x.1)&&(backToKw cpos (keywordEach [] X.env)).all (λ x=>x.1.isSome)
  &&decide ((e::es).length+([]:List Keyword).length+(if([]:List Keyword).isEmpty then 0 else 1)<30))=true:=by rfl)
 (hline:(apos.endLine==cpos.line)=true:=by rfl)(hs:starEach (e::es) X.env=(false,eval e X.env)::starEach es X.env:=by rfl)(hplain:(backTo cpos (starEach es X.env)).any (·.1)=false:=by rfl):
 PE X (.Call (.Attribute o name apos) (e::es) [] cpos) (tBM X.K T r to t):=by
 intro pins s σ H Q I h
 refine wpAny_Call_method_late hbase hfew hline rfl (thn (ho pins s σ H _ I h) λ v s1 ⟨x,H1,I1,r1,ty,q1⟩=>?_)
 obtain⟨h1,h2⟩:=RV I1 r1 ty
 refine⟨T,id,pa,slot,hty,h1,h2,?_⟩
 have hA:=ha cpos pins s1 σ H1 _ I1 q1
 rw[hs]at hA ⊢
 refine Calls.callWith_builtin (by show(false||(backTo cpos (starEach es X.env)).any (·.1))=false;rw[hplain]<;>rfl) (Calls.evalArgs_plain ?_)
 exact thn hA λ us s2 ⟨vs,H2,I2,r2,q2⟩=>hm pins s2 σ H2 x vs v us Q I2 r1 r2 q2
end
def MtM(X:Cx)(id:String)(r:V->List V->Hp->VK->Prop):Prop:=
 ∀ (pins:List (Addr×Obj))(s:Shared)(σ:St)(H:Hp)(x:V)(xs:List V)(v:Value)(us:List Value)(Q:VK),%[|5]->RelV x v->Vals xs us->r x xs H Q->
   wpAny %[|6] X.A (call (.builtin id) (v::us)) (EP X pins σ Q) X.xe s
theorem Vals.one:∀{x:V}{us:List Value},Vals [x] us->∃u,us=[u]/\RelV x u
 | _,_,.cons r .nil=>⟨_,rfl,r⟩
theorem Vals.rep{xs:List V}{us:List Value}(h:Vals xs us):∀k:Nat,Vals (List.replicate k xs).flatten (List.replicate k us).flatten
 | 0=>.nil
 | k+1=>by
   rw[List.replicate_succ,List.replicate_succ,List.flatten_cons,List.flatten_cons]
   exact Vals.append h (Vals.rep h k)
theorem foldl_rep(its:List Value):∀(k:Nat)(acc:List Value),
 List.foldl (λ x1 x2=>x1++x2) acc.toArray (List.replicate k its.toArray)=(acc++(List.replicate k its).flatten).toArray
 | 0,acc=>by simp
 | k+1,acc=>by
   have e:acc.toArray++its.toArray=(acc++its).toArray:=by simp
   have e2:(acc++its)++(List.replicate k its).flatten=acc++(List.replicate (k+1) its).flatten:=by
    rw[List.replicate_succ,List.flatten_cons,List.append_assoc]
   rw[←e2,←foldl_rep its k (acc++its),←e,List.replicate_succ,List.foldl_cons]
section
variable {X : Cx} {pins : List (Addr × Obj)} {σ : St} {H : Hp} {s : Shared} {l b : Addr} {xs ys zs : List V}
theorem Inv.lset{its its':List Value}{n:Nat}{f:Array Value->Array Value}{t':Nat}(I:%[|5])(hH:H l=some (.lst xs))
 (e:s.heap.get? l=some {cls:=.type "list",data:=.seq its.toArray n})(hf:f its.toArray=its'.toArray)(hv:Vals ys its')(hz:ys.length≤sizeLine):
 Inv X pins σ (upd H l (.lst ys)) {s with heap:=s.heap.update l (Obj.mapSeq f),toks:=t'}:=by
 have q:=PySem.IsL.update e f
 rw[hf]at q
 refine I.write (x:=l) (e:=l) (by rw[hH];exact trivial) (.inl rfl) (λ b' u hb hu=>(Heap.get?_update_other s.heap (Obj.mapSeq f) (Ne.symm hb)).trans hu) ⟨_,q⟩ ?_
 exact⟨hz,its',_,hv,q⟩
theorem Inv.lnew{its:List Value}{t':Nat}(I:%[|5])(hv:Vals ys its)(hz:ys.length≤sizeLine):
 Inv X pins σ (upd H s.heap.objs.size (.lst ys)) {s with heap:=s.heap.push {cls:=.type "list",data:=.seq its.toArray},toks:=t'}:=
 I.laid (λ _ _ q=>ZC _ q) (y9 _) ⟨hz,its,0,hv,ZD _ rfl⟩
theorem Inv.fresh(I:%[|5]):H s.heap.objs.size=none:=I.hok.fresh (y9 _)
theorem Inv.lstM(I:%[|5])(hH:H l=some (.lst xs)):xs.length≤sizeLine/\∃(its:List Value) (n:Nat),Vals xs its/\xs.length=its.length/\s.heap.get? l=some {cls:=.type "list",data:=.seq its.toArray n}:=by
 obtain⟨z,its,n,r,e⟩:=I.hok l _ hH
 exact⟨z,its,n,r,r.length,e⟩
end
section
variable {X : Cx}
def PP:V->List V->Hp->VK->Prop:=λ x vs H Q=>∃l xs y,x=.ref l/\vs=[y]/\H l=some (.lst xs)/\xs.length<sizeLine/\Q .non (upd H l (.lst (xs++[y])))
theorem vg:MtM X "list.append" PP:=by
 intro pins s σ H x vs v us Q I rx rv h
 obtain⟨l,xs,y,rfl,rfl,hH,hz,q⟩:=h
 cases rx
 obtain⟨u,rfl,ru⟩:=rv.one
 obtain⟨z,its,n,r,hl,e⟩:=I.lstM hH
 refine call_meets F.slot_list_append ⟨_,e,rfl⟩ F.entry_list_append (F.args_list_append_2 _ _) (PySem.list_append l its.toArray n u (by rw[x4];omega)) ⟨e,?_⟩
 refine⟨.non,_,I.lset (its':=its++[u]) hH e (by simp) (r.append (.cons ru .nil)) ?_,rfl,q⟩
 rw[x6,List.length_singleton]
 omega
theorem len_rep{α:Type}(xs:List α)(k:Nat):(List.replicate k xs).flatten.length=k*xs.length:=by
 induction k with
 | zero=>simp
 | succ k ih=>rw[List.replicate_succ,List.flatten_cons,x6,ih,Nat.succ_mul,Nat.add_comm]
end
end L2
namespace Att
open PySem PySem.W PySem.Calls PyProof.Rows
theorem qu{P:Params}{h:Heap}:∀(ns:%[|1])(vs:List Value),WellAll P h vs (ns.map WData.int)->IntsAre vs ns:=by
 intro ns
 induction ns with
 | nil=>
   intro vs w
   rw[List.map_nil]at w
   cases w
   exact .nil
 | cons n ns ih=>
   intro vs w
   rw[List.map_cons]at w
   cases w with
   | cons a b=>
     cases a
     exact .cons _ _ (ih _ b)
theorem Jr{l:OpenLaw}{n:Nat}(hn:l.most=some n){P:Params}{h:Heap}{args:List WData}{vals:List Value}
 (hpre:l.row.toRowW.claim.pre args=true)(hwl:WellAll P h vals args):
 ∃a vs ns,vals=[Value.ref a]/\args=[WData.list (ns.map WData.int)]/\h.get? a=some {cls:=.type "list",data:=.seq vs.toArray}/\IntsAre vs ns/\ns.length≤n:=by
 have hsh:WShape.hasAll [] args [.list .int]=true:=(pre_splitW hpre).1
 have hc:l.pre.holds [] {args:=args}=true:=(pre_splitW hpre).2
 obtain⟨d,r,rfl,h1,h2⟩:=hasAllW_cons hsh
 obtain rfl:=hasAllW_nil h2
 obtain⟨xs,rfl,h3⟩:=hasW_list h1
 obtain⟨ns,rfl⟩:=items_int h3
 have hlen:ns.length≤n:=by
  unfold OpenLaw.pre at hc
  have h4:(WTm.not (.lt (.lit (.int (n:Int))) (.len (.arg 0)))).holds [] {args:=[.list (ns.map .int)]}=true:=by
   have h4:=(holds_andW hc).1
   rw[hn]at h4
   exact h4
  have h5:=condW_of h4 (w_not (w_lt w_lit (w_len_list (w_arg rfl))))
  rw[y7]at h5
  refine Nat.le_of_not_lt λ q=>?_
  have q':(n:Int)<((ns.length:Nat):Int):=%[|0]
  first
   | (rw[ZG q']at h5;exact absurd h5 %[|3])
   | (simp at h5;omega)
 cases hwl with
 | cons w1 w2=>
   cases w2
   cases w1 with
   | list ho hall=>exact⟨_,_,ns,rfl,rfl,ho,qu ns _ hall,hlen⟩
theorem Hj(l:OpenLaw)(args:List WData):l.row.toRowW.claim.post args (.bool true) args=true:=
 postW_of (r:=l.row.toRowW) (X:=(true==true))
  (show WShape.has [] (.bool true) .bool=true by first | rfl | decide | simp[WShape.has,WShape.arms,WShape.armsAll])
  (show(WTm.eq .res (.lit (.bool true))).value [] {args:=args,res:=some (.bool true),after:=args}=some (.bool (true==true))from w_eq_bool (w_res rfl) w_lit) rfl
theorem attach_call{l:OpenLaw}{n:Nat}{q:Program}{loose:%[|2]}{XP:(Str->Option Value)->Heap->Prop}{YP:World->Heap->Prop}{d:DefRec}
 (hn:l.most=some n)(hdf:d.params.defaults=[])
 (call:∀(w:World)(s₀ s₁:Shared)(mg mb:Str->Option Value)(fa:Addr)(o:Obj)(pm cd doc:Value)(a:Addr)(vs:List Value)(ns:%[|1]),
  Ground q loose [] XP w s₀ mg mb s₁.heap->YP w s₁.heap->
  s₁.heap.get? fa=some o->o.data=.func (docDef d.name d.params d.body d.scope pm cd doc)->s₁.heap.CodeRec cd d.name->mg d.name=some (.ref fa)->
  s₁.heap.get? a=some {cls:=.type "list",data:=.seq vs.toArray}->IntsAre vs ns->ns.length≤n->s₁.gens=#[]->
  codeAny (model l.prog w) callerA (.call (.ref fa) ⟨[.ref a],[]⟩) (λ r s'=>r=.ok (.ret (.bool true))/\OldK s₁.heap s'.heap/\s'.os=s₁.os/\AllBare s'.gens) s₁):
 WalkO q loose XP YP l.row.toRowW d [] (λ f vs=>PySem.call f vs):=by
 intro w s₀ s₁ mg mb G Y fa o pm cd doc dV kV ho hd hcd hD hmg hg args vals as hpre hlay hrd hwl hlo
 obtain rfl:dV=.none:=Dflts.none hD hdf
 obtain rfl:kV=.none:=Dflts.noKw hD
 obtain⟨a,vs,ns,rfl,rfl,hobj,hints,hlen⟩:=Jr hn hpre hwl
 refine enter_call (codeAny_mono (call w s₀ s₁ mg mb fa o pm cd doc a vs ns G Y ho (fd_plain hd) hcd hmg hobj hints hlen hg) λ r s' hq=>?_)
 obtain⟨rfl,h2,h3,h4⟩:=hq
 exact⟨.inl ⟨.bool true,.bool true,[],rfl,λ _=>rfl,.bool true,Hj l _,λ _=>⟨List.Pairwise.nil,λ _ hm=>(nomatch hm)⟩⟩,h2,h3,h4⟩
end Att
namespace L2
open PySem PySem.Spec PyProof.Rows
theorem uP:∀{vs:List Value}{ns:%[|1]},IntsAre vs ns->Vals (ns.map V.int) vs
 | _,_,.nil=>.nil
 | _,_,.cons n t h=>.cons ⟨t,rfl⟩ (uP h)
def Only(H:Hp):Prop:=∀b,H b=none∨∃o xs,H b=some (.frz o (.lst xs))
theorem K6{P:Program}{w:World}{K:PySem.W.Frag}{mg mb:Str->Option Value}{CX:CXT}{k:Nat}{fa a:Addr}{fd:FuncData}{x:Str}{sp:Sp}{s₁:Shared}{vs:List Value}{ns:%[|1]}
 (KX:K.In s₁.heap)(hns:s₁.heap.Ns mainGlobals mg)(hb:s₁.heap.Ns builtinsNs mb)(hbb:∀x:Str,x≠"__name__"->mb x=bootBuiltins x)(hlim:s₁.heap.NoLimit)(hg:s₁.gens=#[])
 (ha:s₁.heap.get? a=some {cls:=.type "list",data:=.seq vs.toArray})(hi:IntsAre vs ns)(hl:ns.length≤sizeLine)(hr:Room k callerA)
 (F:∀base:Heap,K.In base->base.Ns mainGlobals mg->FnOk P w K mg base CX k fa fd [x] sp)(hbind:∀(s:Shared)(u:Value),BindsTo s fd ⟨[u],[]⟩ [(x,u)])
 (hsp:∀H:Hp,Only H->SqL K H a (ns.map V.int)->sp [.ref a] H (λ v _=>v=.bl true) λ _ _ _=>False)
 (hCX:∀H e s',CX [] H s₁ (λ _ _ _=>False) e s'->False):
 codeAny (model P w) callerA (.call (.ref fa) ⟨[.ref a],[]⟩) (λ r s'=>r=.ok (.ret (.bool true))/\OldK s₁.heap s'.heap/\s'.os=s₁.os/\AllBare s'.gens) s₁:=by
 have rv:=uP hi
 have lenV:=hi.length
 have core:∀H:Hp,Only H->SqL K H a (ns.map V.int)->HOk P w H s₁.heap->(∀b,H b≠none->b=a)->(H a≠none->K.lookup a=none)->
  codeAny (model P w) callerA (.call (.ref fa) ⟨[.ref a],[]⟩) (λ r s'=>r=.ok (.ret (.bool true))/\OldK s₁.heap s'.heap/\s'.os=s₁.os/\AllBare s'.gens) s₁:=by
  intro H hO hS hok hA hK
  have base_of:∀{b:Addr}{o:Obj},s₁.heap.get? b=some o->H b=none->(jM s₁.heap H).get? b=some o:=λ e n=>M4 e n
  have noA:∀{b:Addr}{o:Obj}{es:Array DictEntry}{ep:Nat},s₁.heap.get? b=some o->o.data=.dict es ep->H b=none:=λ{b o es ep} e d=>by
   cases q:H b with
   | none=>rfl
   | some u=>
     have e':b=a:=hA b (by rw[q];simp)
     subst e'
     rw[ha]at e;cases e
     have d':Data.seq vs.toArray _=Data.dict es ep:=d
     cases d'
  have nsK:∀{b:Addr}{m:Str->Option Value},s₁.heap.Ns b m->(jM s₁.heap H).Ns b m:=λ{b m} ⟨o,es,ep,e,d,r⟩=>⟨o,es,ep,base_of e (noA e d),d,r⟩
  have hKb:K.In (jM s₁.heap H):=λ b o e=>base_of (KX b o e) (by
   cases q:H b with
   | none=>rfl
   | some u=>
     have e':b=a:=hA b (by rw[q];simp)
     subst e'
     rw[hK (by rw[q];simp)]at e;cases e)
  have hM:Mod K mg (jM s₁.heap H):=⟨hKb,nsK hns,⟨mb,nsK hb,hbb⟩,let ⟨mc,h1,h2⟩:=hlim;⟨mc,nsK h1,h2⟩⟩
  have e0:Env0 P w K mg (jM s₁.heap H) callerA [] s₁ H:=⟨rfl,hM,λ b o e=>Pk e,Nat.le_of_eq (G7 _ _),trivial,λ b hb=>absurd (show b∈([]:List Addr)from hb) (by simp),hok,.of_eq hg⟩
  refine codeAny_mono ((F _ hKb (nsK hns)).run callerA [] s₁ H ⟨[.ref a],[]⟩ [.ref a] [.ref a] _ _ hr e0 (hbind s₁ (.ref a)) (.cons rfl .nil) (hsp H hO hS)) λ r s' h=>?_
  cases r with
  | error e=>exact(hCX H e s' h).elim
  | ok fl =>
    cases fl with
    | next=>exact False.elim h
    | brk=>exact False.elim h
    | cont=>exact False.elim h
    | ret u=>
      obtain⟨v,H',os,bare,un,hok',r',q⟩:=h
      have q':v=.bl true:=q
      subst q'
      obtain rfl:u=Value.bool true:=r'
      refine⟨rfl,OldK.of_keep λ b o e=>?_,os,bare⟩
      cases q:H b with
      | none=>exact un.keep b o e q (by intro z;exact absurd (show b∈([]:List Addr)from z) (by simp)) (by simp)
      | some u=>
        rcases hO b with z | ⟨ob,xs,z⟩
        . rw[q]at z;cases z
        . have z2:=un.frzs b ob _ z
          obtain⟨e1,_⟩:=hok b _ z
          obtain⟨e2,_⟩:=hok' b _ z2
          rw[e]at e1;cases e1
          exact e2
 cases hk:K.lookup a with
 | some o=>
   have e:=KX a o hk
   rw[ha]at e
   cases e
   refine core (λ _=>none) (λ _=>.inl rfl) (.inr ⟨_,vs.toArray,_,hk,rfl,rfl,rfl,by rw[x4,lenV];exact hl,by simpa using rv⟩) (λ b u z=>by have z':(none:Option HO)=some u:=z;cases z') (λ b z=>absurd rfl z) λ z=>absurd rfl z
 | none=>
   refine core (λ b=>if b=a then some (.frz {cls:=.type "list",data:=.seq vs.toArray} (.lst (ns.map V.int)))else none) (λ b=>?_) (.inl (.inr ⟨{cls:=.type "list",data:=.seq vs.toArray},if_pos rfl⟩)) (λ b u z=>?_) (λ b z=>?_) λ _=>hk
   . by_cases hb:b=a
     . exact .inr ⟨_,_,if_pos hb⟩
     . exact .inl (if_neg hb)
   . by_cases hb:b=a
     . have z':=(if_pos hb).symm.trans z
       cases z'
       subst hb
       exact⟨ha,by rw[y7];exact hl,vs,_,rv,ha⟩
     . have z':=(if_neg hb).symm.trans z
       cases z'
   . by_cases hb:b=a
     . exact hb
     . exact absurd (if_neg hb) z
abbrev KOf{K:PySem.W.Frag}{h:Heap}(_:K.In h):PySem.W.Frag:=K
theorem walk_of{l:PySem.W.OpenLaw}{n k:Nat}{q:Program}{loose:%[|2]}{XP:(Str->Option Value)->Heap->Prop}{YP:World->Heap->Prop}{d:DefRec}{K:Params->PySem.W.Frag}{CX:World->CXT}{sp:World->Sp}{x:Str}
 (hn:l.most=some n)(hn2:n≤sizeLine)(hdf:d.params.defaults=[])(hr:Room k callerA)
 (hY:∀(w:World)(h:Heap),YP w h->(K w.params).In h)
 (F :∀(w:World)(mg:Str->Option Value)(fa:Addr)(h:Heap),(K w.params).In h->h.Ns mainGlobals mg->mg d.name=some (.ref fa)->
  ∃ fd:FuncData,(∀(s:Shared)(u:Value),BindsTo s fd ⟨[u],[]⟩ [(x,u)])/\
    ∀base:Heap,(K w.params).In base->base.Ns mainGlobals mg->FnOk l.prog w (K w.params) mg base (CX w) k fa fd [x] (sp w))
 (hsp:∀(w:World)(H:Hp)(a:Addr)(ns:%[|1]),ns.length≤n->Only H->SqL (K w.params) H a (ns.map V.int)->sp w [.ref a] H (λ v _=>v=.bl true) λ _ _ _=>False)
 (hCX:∀(w:World)(H:Hp)(s:Shared)(e:Value)(s':Shared),CX w [] H s (λ _ _ _=>False) e s'->False):
 PySem.W.WalkO q loose XP YP l.row.toRowW d [] (λ f vs=>PySem.call f vs):=by
 refine Att.attach_call hn hdf λ w s₀ s₁ mg mb fa o pm cd doc a vs ns G Y ho hd hcd hmg hobj hints hlen hg=>?_
 have KX:=hY w _ Y
 obtain⟨fd,hb,hF⟩:=F w mg fa _ KX G.T.g hmg
 exact K6 KX G.T.g G.T.b G.T.builtins G.T.nolimit hg hobj hints (Nat.le_trans hlen hn2) hr hF hb (λ H hO hS=>hsp w H a ns hlen hO hS) λ H e s'=>hCX w H s₁ e s'
def eV(s:Stmt):Arguments:=match s with
 | .FunctionDef _ a _ _ _ _ _ _ _ _=>a
 | _=>{posonlyargs:=[],args:=[],vararg:=none,kwonlyargs:=[],kw_defaults:=[],kwarg:=none,defaults:=[]}
def cA(s:Stmt):List Stmt:=match s with
 | .FunctionDef _ _ b _ _ _ _ _ _ _=>b
 | _=>[]
def aL(s:Stmt):Scope:=match s with
 | .FunctionDef _ _ _ _ _ _ sc _ _ _=>sc
 | _=>{kind:=.function,names:=[],isGenerator:=false,isCoroutine:=false}
abbrev CX0:CXT:=λ _ _ _ _ _ _=>False
abbrev E0:XK:=λ _ _ _=>False
theorem Ui{X:Cx}:Iz CX0 X E0:=λ _ _ _ _ _ _ _ h=>h.elim
structure Fun(K:PySem.W.Frag)(x qual:Str)(st:Stmt)(f:Addr)(fd:FuncData):Prop where
 ex:∃(oc:Value) (od:Option Addr) (kV doc pm:Value) (an:Option Addr) (cdv ct:Value) (osl:Array (Option Value)),
  fd=PySem.W.fnOf x qual (eV st) (cA st) (aL st) .none kV doc pm an cdv ct/\K.lookup f=some ⟨oc,od,.func fd,osl⟩/\PySem.W.codeIn K cdv qual=true
 kp:PySem.W.keepIn K (.ref f)=true
section
variable {P : Program} {w : World} {K : PySem.W.Frag} {mg : Str -> Option Value} {base : Heap}
theorem Fun.binds{x qual:Str}{st:Stmt}{f:Addr}{fd:FuncData}{ps:%[|2]}(F:Fun K x qual st f fd)
 (h:∀(kV doc pm:Value)(an:Option Addr)(cdv ct:Value)(us:List Value),us.length=ps.length->bindArgs (PySem.W.fnOf x qual (eV st) (cA st) (aL st) .none kV doc pm an cdv ct) ⟨us,[]⟩=pure (ps.zip us)):Binds K fd ps []:=by
 obtain⟨oc,od,kV,doc,pm,an,cdv,ct,osl,rfl,lk,hcd⟩:=F.ex
 exact .all (h kV doc pm an cdv ct)
theorem Hb{x qual:Str}{st:Stmt}{f:Addr}{oc:Value}{od an:Option Addr}{osl:Array (Option Value)}{kV doc pm cdv ct:Value}(l:K.lookup f=some ⟨oc,od,.func (PySem.W.fnOf x qual (eV st) (cA st) (aL st) .none kV doc pm an cdv ct),osl⟩)
 (c:PySem.W.codeIn K cdv qual=true)(k:PySem.W.keepIn K (.ref f)=true):Fun K x qual st f (PySem.W.fnOf x qual (eV st) (cA st) (aL st) .none kV doc pm an cdv ct):=⟨⟨oc,od,kV,doc,pm,an,cdv,ct,osl,rfl,l,c⟩,k⟩
end
def c7(H H':Hp):Prop:=∀b o,H b=some o->H' b=some o
theorem c7.refl(H:Hp):c7 H H:=λ _ _ h=>h
theorem UW{P:Program}{w:World}{k:Key}{u:Value}(r:RelV (kV k) u):(bz P w).is k u=true:=by
 cases k with
 | inl i=>obtain⟨t,e⟩:=(show ∃t,u=Value.int i t from r);subst e;exact Bs P w i t
 | inr x=>obtain⟨t,e⟩:=(show ∃t,u=Value.str x t from r);subst e;exact Cm P w x t
theorem uL{P:Program}{w:World}:∀{ks:List Key}{us:List Value},Vals (ks.map kV) us->ItemsAre (bz P w) ks us
 | [],_,r=>by rw[List.map_nil]at r;cases r;exact .nil
 | k::ks,_,r=>by
   rw[List.map_cons]at r
   cases r with
   | cons h t=>exact .cons (UW h) (uL t)
abbrev KT(H:Hp):List (List Key×V)->List (List Key×Addr×Value)->Prop:=Paired λ p q=>p.1=q.1/\H q.2.1=some (.tup (p.1.map kV))/\RelV p.2 q.2.2
section
variable {P : Program} {w : World} {H : Hp} {h : Heap} {a : Addr}
theorem Nr{u:HO}(ok:HOk P w H h)(e:Rd H a u):aK P w H h a u:=e.ok ok
theorem Ux{kvs:List (Key×V)}(ok:HOk P w H h)(e:Rd H a (.dK kvs)):kvs.length≤sizeLine/\(a==sysModules)=false/\∃vs,KV kvs vs/\h.DictOf (bz P w) a vs:=
 show aK P w H h a (.dK kvs)from Nr ok e
theorem TV{ks:List Key}(ok:HOk P w H h)(e:H a=some (.tup (ks.map kV))):(tupleKind (bz P w)).is h ks a:=by
 obtain⟨_,its,r,o,h1,h2,n,h3⟩:=(show aK P w H h a (.tup (ks.map kV))from ok a _ e)
 exact⟨o,its.toArray,n,h1,h2,h3,by simpa using uL r⟩
theorem Vt{kvs:List (List Key×V)}(ok:HOk P w H h)(e:Rd H a (.dT kvs)):kvs.length≤sizeLine/\(a==sysModules)=false/\
 ∃xs,KT H kvs xs/\h.DictOfH (tupleKind (bz P w)) a xs:=by
 obtain⟨z,y,xs,r,o,es,ep,h1,h2,h3,h4,h5⟩:=(show aK P w H h a (.dT kvs)from Nr ok e)
 refine⟨z,y,xs,r,o,es,ep,h1,h2,h3,h4,λ x hx=>?_,h5⟩
 have all:∀{l:List (List Key×V)}{m:List (List Key×Addr×Value)},KT H l m->∀x∈m,(tupleKind (bz P w)).is h x.1 x.2.1:=by
  intro l m q
  induction q with
  | nil=>intro x hx;exact nomatch hx
  | @cons p q ps qs hq t ih=>
    intro x hx
    rcases ZJ.mp hx with e | hx
    . subst e
      exact TV ok (by rw[←hq.1];exact hq.2.1)
    . exact ih x hx
 exact all r x hx
end
section
variable {X : Cx} {pins : List (Addr × Obj)} {σ : St} {H : Hp} {s : Shared} {a : Addr} {y v : V} {u r : Value} {o : Option V} {A : Around} {E : Value -> Shared -> Prop}
theorem Inv.big(I:%[|5]):sysModules<s.heap.objs.size:=by
 have h:mainGlobals<s.heap.objs.size:=(I.mod.glob.keeps I.bk).lt
 exact Nat.lt_trans %[|3] h
theorem Ec{h':Heap}{t':Nat}{ob:HO}(I:%[|5])(mu:Mut (H a))(hs:Heap.SameBut a s.heap h')(he:∃q,h'.get? a=some q)(new:aK X.prog X.w (upd H a ob) h' a ob):
 Inv X pins σ (upd H a ob) {s with heap:=h',toks:=t'}:=
 I.write (x:=a) (e:=a) mu (.inl rfl) (λ b q hb z=>(hs.2 b hb).trans z) he new
end
def Sw(i:Expr):Prop:=∀ov iv,subscripted i false ov iv=operate [ov,iv] (getItem ov iv)
theorem Qu{prog:Program}{w:World}{A:Around}{E:%[|7]}{s:Shared}{env:Env}{value slice:Expr}{pos:Pos}{T id:String}{Q:%[|7]}
 (hl:typeLookup (.type T) "__getitem__"=pure (some (.builtin id)))(hs:Sw slice)
 (h:wpAny (model prog w) A (eval value env) (λ o s₁=>wpAny (model prog w) A (eval slice env) (λ i s₂=>s₂.TypeIs o T/\wpAny (model prog w) A (getItem o i) Q E s₂) E s₁) E s):
 wpAny (model prog w) A (eval (.Subscript value slice pos) env) Q E s:=by
 refine Subscript_ (wpAny_mono h (λ o s₁ h₁=>wpAny_mono h₁ (λ i s₂ h₂=>?_) λ _ _ x=>x) λ _ _ x=>x)
 obtain⟨hT,h₂⟩:=h₂
 unfold subscriptTail
 refine ZA ?_
 rw[getitemInPython_of_ne hT.not_modules]
 refine ZA (wpAny_specialOf hT hl ?_)
 have fin:wpAny (model prog w) A (subscripted slice false o i) (λ r s₃=>wpAny (model prog w) A (letTemporaryGo value o r>>=λ _=>pure r) Q E s₃) E s₂:=by
  rw[hs o i]
  exact wpAny_operating (wpAny_mono h₂ (λ r s₃ h₃=>ZA (wpAny_letTemporaryGo (ZB h₃))) λ _ _ x=>x)
 first
  | exact ZB (ZA fin)
  | exact ZA (ZB (ZA fin))
  | exact ZA fin
structure M2(X:Cx)(o:Expr)(m:Str)(apos:Pos)(e f:Expr)(cpos:Pos):Prop where
 base:attributeBase o m X.env (eval o X.env)=eval o X.env
 few:((backTo cpos (starEach [e,f] X.env)).all (λ x=>!x.1)&&(backToKw cpos (keywordEach [] X.env)).all (λ x=>x.1.isSome)
  &&decide (([e,f]:List Expr).length+([]:List Keyword).length+(if([]:List Keyword).isEmpty then 0 else 1)<30))=true
 line:(apos.endLine==cpos.line)=true
 trees:backTo cpos (starEach [e,f] X.env)=[(false,eval e X.env),(false,eval f X.env)]
def IsD(H:Hp)(a:Addr):Prop:=(∃kvs,Rd H a (.dK kvs))∨∃kvs,Rd H a (.dT kvs)
theorem Q6{X:Cx}{pins:List (Addr×Obj)}{σ:St}{H:Hp}{s:Shared}{a:Addr}(I:%[|5])(d:IsD H a):
 s.TypeIs (.ref a) "dict"/\(∀b,Value.ref a=.ref b->∃ob,s.heap.get? b=some ob/\ob.dict=none)/\(a==sysModules)=false:=by
 rcases d with⟨kvs,e⟩ | ⟨kvs,e⟩
 . obtain⟨_,hd,vs,_,dd⟩:=Ux I.hok e
   refine⟨dd.typeIs,λ b q=>?_,hd⟩
   cases q
   obtain⟨ob,_,_,h1,h2,_⟩:=dd
   exact⟨ob,h1,h2.2.1⟩
 . obtain⟨_,hd,xs,_,dd⟩:=Vt I.hok e
   refine⟨dd.typeIs,λ b q=>?_,hd⟩
   cases q
   obtain⟨ob,_,_,h1,h2,_⟩:=dd
   exact⟨ob,h1,h2.2.1⟩
end L2
set_option maxHeartbeats 4000000
namespace DL
open PySem PySem.Spec L2
open PyProof.Rows
variable {a p : Addr} {K : PySem.W.Frag} {O O' : Own} {H H' : Hp} {xs : List V} {S : Store}
abbrev St:=L2.St
inductive D where
 | non | bl(b:Bool) | int(i:Int) | str(x:Str) | tup(ds:List D) | lst(ds:List D) | loc(k:Nat) | dic | dlo(k:Nat)
abbrev Store:=List (List D)
abbrev Gam:=List (Option D)
structure Own where
 A:List (Addr×Bool)
 B:List Addr
abbrev adr(A:List (Addr×Bool)):List Addr:=A.map Prod.fst
theorem bZ{A:List (Addr×Bool)}{k:Nat}{q:Bool}(h:A[k]? =some (a,q)):a∈adr A:=ZO.mpr ⟨_,y4 h,rfl⟩
theorem bM(A N:List (Addr×Bool)):adr (A++N)=adr A++adr N:=v3
abbrev Own.has(O:Own)(a:Addr):Prop:=a∈adr O.A∨a∈O.B
def Tp(K:PySem.W.Frag)(O:Own)(H:Hp)(a:Addr)(xs:List V):Prop:=¬O.has a/\H a=some (.tup xs)
def Ls(K:PySem.W.Frag)(O:Own)(H:Hp)(a:Addr)(xs:List V):Prop:=(¬O.has a/\Rd H a (.lst xs))∨SqL K (λ _=>none) a xs
theorem Tp.sq(h:Tp K O H a xs):SqT K H a xs:=.inl (.inl h.2)
theorem Ls.sq(h:Ls K O H a xs):SqL K H a xs:=by
 rcases h with⟨_,h⟩ | (h | h)
 . exact .inl h
 . rcases h with h | ⟨_,h⟩<;>cases h
 . exact .inr h
def Abv(K:PySem.W.Frag)(a:Addr):Prop:=∀c o,K.lookup c=some o->c<a
mutual
inductive Rep(K:PySem.W.Frag)(O:Own)(H:Hp):V->D->Prop
 | non:Rep K O H .non .non
 | bl(b:Bool):Rep K O H (.bl b) (.bl b)
 | int(i:Int):Rep K O H (.int i) (.int i)
 | str(x:Str):Rep K O H (.str x) (.str x)
 | tup{a:Addr}{xs:List V}{ds:List D}(h:Tp K O H a xs)(r:Reps K O H xs ds):Rep K O H (.ref a) (.tup ds)
 | lst{a:Addr}{xs:List V}{ds:List D}(h:Ls K O H a xs)(r:Reps K O H xs ds):Rep K O H (.ref a) (.lst ds)
 | loc{a:Addr}{k:Nat}(h:O.A[k]? =some (a,false)):Rep K O H (.ref a) (.loc k)
 | dlo{a:Addr}{k:Nat}(h:O.A[k]? =some (a,true))(n:Abv K a):Rep K O H (.ref a) (.dlo k)
 | dic{a:Addr}(h:¬O.has a)(e:H a=some (.dK [])):Rep K O H (.ref a) .dic
inductive Reps(K:PySem.W.Frag)(O:Own)(H:Hp):List V->List D->Prop
 | nil:Reps K O H [] []
 | cons{v:V}{d:D}{vs:List V}{ds:List D}(r:Rep K O H v d)(t:Reps K O H vs ds):Reps K O H (v::vs) (d::ds)
end
structure Step(O O':Own)(H H':Hp):Prop where
 kept:∀b o,b∉adr O.A->H b=some o->H' b=some o
 dom:∀b,H b≠none->H' b≠none
 ext:∃N,O'.A=O.A++N/\∀b∈adr N,H b=none
 hid:O'.B=O.B
theorem Step.refl(O:Own)(H:Hp):Step O O H H:=⟨λ _ _ _ h=>h,λ _ h=>h,⟨[],by simp,λ _ h=>nomatch h⟩,rfl⟩
theorem Step.trans{O1 O2:Own}{H1 H2:Hp}(a:Step O O1 H H1)(b:Step O1 O2 H1 H2):Step O O2 H H2:=by
 obtain⟨N1,e1,f1⟩:=a.ext
 obtain⟨N2,e2,f2⟩:=b.ext
 refine⟨λ c o hc h=>b.kept c o (λ z=>?_) (a.kept c o hc h),λ c h=>b.dom c (a.dom c h),⟨N1++N2,by rw[e2,e1,List.append_assoc],λ c hc=>?_⟩,b.hid.trans a.hid⟩
 . rw[e1,bM]at z
   rcases ZK.mp z with z | z
   . exact hc z
   . rw[f1 c z]at h;cases h
 . rw[bM]at hc
   rcases ZK.mp hc with z | z
   . exact f1 c z
   . cases q:H c with
     | none=>rfl
     | some o=>exact absurd (f2 c z) (a.dom c (by rw[q];simp))
theorem Step.nothas(s:Step O O' H H'){a:Addr}(h:¬O.has a)(t:H a≠none):¬O'.has a:=by
 obtain⟨N,e,f⟩:=s.ext
 rintro(z | z)
 . rw[e,bM]at z
   rcases ZK.mp z with z | z
   . exact h (.inl z)
   . exact t (f a z)
 . rw[s.hid]at z;exact h (.inr z)
structure Conv(O O':Own)(H H':Hp):Prop where
 tr:∀a u,¬O.has a->H a=some u->¬O'.has a/\H' a=some u
 lc:∀(k:Nat)(a:Addr×Bool),O.A[k]? =some a->O'.A[k]? =some a
theorem Step.conv(s:Step O O' H H'):Conv O O' H H':=
 ⟨λ a u h t=>⟨s.nothas h (by rw[t];simp),s.kept a u (λ z=>h (.inl z)) t⟩,λ k a h=>by
  obtain⟨N,e,_⟩:=s.ext
  rw[e,x8 (z0.mp h).1];exact h⟩
theorem Rd.conv(s:Conv O O' H H'){a:Addr}{u:HO}(h:¬O.has a)(r:Rd H a u):¬O'.has a/\Rd H' a u:=by
 rcases r with r | ⟨o,r⟩
 . obtain⟨x,y⟩:=s.tr a _ h r
   exact⟨x,.inl y⟩
 . obtain⟨x,y⟩:=s.tr a _ h r
   exact⟨x,.inr ⟨o,y⟩⟩
theorem Tp.conv(h:Tp K O H a xs)(s:Conv O O' H H'):Tp K O' H' a xs:=s.tr a _ h.1 h.2
theorem Ls.conv(h:Ls K O H a xs)(s:Conv O O' H H'):Ls K O' H' a xs:=by
 rcases h with⟨n,r⟩ | h
 . exact .inl (Rd.conv s n r)
 . exact .inr h
mutual
theorem Rep.conv{K:PySem.W.Frag}{O O':Own}{H H':Hp}(s:Conv O O' H H'):∀{v:V}{d:D},Rep K O H v d->Rep K O' H' v d
 | _,_,.non=>.non
 | _,_,.bl b=>.bl b
 | _,_,.int i=>.int i
 | _,_,.str x=>.str x
 | _,_,.tup h r=>.tup (h.conv s) (Reps.conv s r)
 | _,_,.lst h r=>.lst (h.conv s) (Reps.conv s r)
 | _,_,.loc h=>.loc (s.lc _ _ h)
 | _,_,.dlo h n=>.dlo (s.lc _ _ h) n
 | _,_,.dic h e=>.dic (s.tr _ _ h e).1 (s.tr _ _ h e).2
theorem Reps.conv{K:PySem.W.Frag}{O O':Own}{H H':Hp}(s:Conv O O' H H'):∀{vs:List V}{ds:List D},Reps K O H vs ds->Reps K O' H' vs ds
 | _,_,.nil=>.nil
 | _,_,.cons r t=>.cons (Rep.conv s r) (Reps.conv s t)
end
theorem Rep.mono{v:V}{d:D}(h:Rep K O H v d)(s:Step O O' H H'):Rep K O' H' v d:=h.conv s.conv
theorem Reps.mono{v:List V}{d:List D}(h:Reps K O H v d)(s:Step O O' H H'):Reps K O' H' v d:=h.conv s.conv
abbrev Own.hide(O:Own)(p:Addr):Own:=⟨O.A,p::O.B⟩
theorem Conv.hide(h:H p=none)(o:HO):Conv O (O.hide p) H (upd H p o):=
 ⟨λ a u n t=>by
  have ne:a≠p:=aB t h
  refine⟨λ z=>?_,by rw[ao ne];exact t⟩
  rcases z with z | z
  . exact n (.inl z)
  . rcases ZJ.mp z with z | z
    . exact ne z
    . exact n (.inr z),λ _ _ h=>h⟩
theorem Conv.unhide{A:List (Addr×Bool)}{B:List Addr}:Conv ⟨A,p::B⟩ ⟨A,B⟩ H H:=
 ⟨λ a u n t=>⟨λ z=>n (z.elim .inl λ z=>.inr (x3 _ z)),t⟩,λ _ _ h=>h⟩
theorem Conv.updHid(h:p∈O.B)(o:HO):Conv O O H (upd H p o):=
 ⟨λ a u n t=>⟨n,by rw[ao (λ e=>n (.inr (by rw[e];exact h)))];exact t⟩,λ _ _ h=>h⟩
theorem Reps.length{K:PySem.W.Frag}{O:Own}{H:Hp}:∀{vs:List V}{ds:List D},Reps K O H vs ds->vs.length=ds.length
 | _,_,.nil=>rfl
 | _,_,.cons _ t=>by simp[Reps.length t]
theorem Reps.get{K:PySem.W.Frag}{O:Own}{H:Hp}:∀{vs:List V}{ds:List D}{i:Nat}{d:D},Reps K O H vs ds->ds[i]? =some d->∃v,vs[i]? =some v/\Rep K O H v d
 | _,_,_,_,.nil,e=>by simp at e
 | _,_,0,_,.cons r _,e=>by simp at e;subst e;exact⟨_,rfl,r⟩
 | _,_,i+1,d,.cons _ t,e=>by
   obtain⟨v,h1,h2⟩:=Reps.get (i:=i) (d:=d) t (by simpa using e)
   exact⟨v,by simpa using h1,h2⟩
theorem Reps.append{K:PySem.W.Frag}{O:Own}{H:Hp}:∀{vs ws:List V}{ds es:List D},Reps K O H vs ds->Reps K O H ws es->Reps K O H (vs++ws) (ds++es)
 | _,_,_,_,.nil,s=>s
 | _,_,_,_,.cons r t,s=>.cons r (Reps.append t s)
theorem Reps.take{K:PySem.W.Frag}{O:Own}{H:Hp}:∀{vs:List V}{ds:List D}(n:Nat),Reps K O H vs ds->Reps K O H (vs.take n) (ds.take n)
 | _,_,0,_=>.nil
 | _,_,_+1,.nil=>.nil
 | _,_,n+1,.cons r t=>.cons r (Reps.take n t)
theorem Reps.drop{K:PySem.W.Frag}{O:Own}{H:Hp}:∀{vs:List V}{ds:List D}(n:Nat),Reps K O H vs ds->Reps K O H (vs.drop n) (ds.drop n)
 | _,_,0,r=>r
 | _,_,_+1,.nil=>.nil
 | _,_,n+1,.cons _ t=>Reps.drop n t
theorem Reps.set{K:PySem.W.Frag}{O:Own}{H:Hp}{v:V}{d:D}(r:Rep K O H v d):∀{vs:List V}{ds:List D}(i:Nat),Reps K O H vs ds->Reps K O H (vs.set i v) (ds.set i d)
 | _,_,_,.nil=>.nil
 | _,_,0,.cons _ t=>.cons r t
 | _,_,i+1,.cons q t=>.cons q (Reps.set r i t)
theorem Reps.ints{K:PySem.W.Frag}{O:Own}{H:Hp}:∀{vs:List V}{ns:%[|1]},Reps K O H vs (ns.map D.int)->vs=ns.map V.int
 | _,[],.nil=>rfl
 | _,_::_,.cons r t=>by cases r;simp[Reps.ints t]
theorem Reps.of_ints{K:PySem.W.Frag}{O:Own}{H:Hp}:∀ns:%[|1],Reps K O H (ns.map V.int) (ns.map D.int)
 | []=>.nil
 | n::ns=>.cons (.int n) (Reps.of_ints ns)
theorem Reps.bools{K:PySem.W.Frag}{O:Own}{H:Hp}:∀{vs:List V}{ns:List Bool},Reps K O H vs (ns.map D.bl)->vs=ns.map V.bl
 | _,[],.nil=>rfl
 | _,_::_,.cons r t=>by cases r;simp[Reps.bools t]
def VB(ns:%[|1]):List Key:=ns.map Sum.inl
inductive Kps(K:PySem.W.Frag)(O:Own)(H:Hp):List (List Key×V)->List D->Prop
 | nil:Kps K O H [] []
 | cons{ns:%[|1]}{v:V}{d:D}{kvs:List (List Key×V)}{ds:List D}(r:Rep K O H v d)(t:Kps K O H kvs ds):Kps K O H ((VB ns,v)::kvs) (.tup [.tup (ns.map .int),d]::ds)
theorem Kps.conv{K:PySem.W.Frag}{O O':Own}{H H':Hp}(s:Conv O O' H H'):∀{kvs:List (List Key×V)}{ds:List D},Kps K O H kvs ds->Kps K O' H' kvs ds
 | _,_,.nil=>.nil
 | _,_,.cons r t=>.cons (r.conv s) (Kps.conv s t)
def hC0(c:Int×%[|1]):Int:=reduceHash (Builtin.Tuple.tupleHashOf [hashInt c.1,reduceHash (Builtin.Tuple.tupleHashOf (c.2.map hashInt))])
abbrev Cy:=List ((Int×%[|1])×Addr×Value)
def JW(a:Addr)(ys:Cy)(h:Heap):Prop:=ys.length≤sizeLine/\(a==sysModules)=false/\(ys.map (·.1)).Nodup/\
 ∃o es ep,h.get? a=some o/\o.ExactDict/\o.data=.dict es ep/\es.toList=ys.map λ y=>(⟨hC0 y.1,.ref y.2.1,y.2.2⟩:DictEntry)
def bD(a:Addr)(ys:Cy)(h:Heap):Prop:=ys.length≤sizeLine/\(a==sysModules)=false/\(ys.map (·.1)).Nodup/\
 ∃o es,h.get? a=some o/\o.ExactDict/\o.data=.dict es ys.length/\es.toList=ys.map λ y=>(⟨hC0 y.1,.ref y.2.1,y.2.2⟩:DictEntry)
inductive Kcs(K:PySem.W.Frag)(O:Own)(H:Hp):Cy->List D->Prop
 | nil:Kcs K O H [] []
 | cons{c:Int×%[|1]}{b:Addr}{u:Value}{v:V}{k d:D}{ys:Cy}{ds:List D}(e:k=.tup [.int c.1,.tup (c.2.map .int)])(rk:Rep K O H (.ref b) k)(rv:RelV v u)(r:Rep K O H v d)(t:Kcs K O H ys ds):Kcs K O H ((c,b,u)::ys) (.tup [k,d]::ds)
theorem Kcs.conv{K:PySem.W.Frag}{O O':Own}{H H':Hp}(s:Conv O O' H H'):∀{ys:Cy}{ds:List D},Kcs K O H ys ds->Kcs K O' H' ys ds
 | _,_,.nil=>.nil
 | _,_,.cons e rk rv r t=>.cons e (rk.conv s) rv (r.conv s) (Kcs.conv s t)
def isO:Option Int->Value->Bool
 | some i,.int j _=>decide (i=j)
 | none,.none=>true
 | _,_=>false
def hO0:Option Int->Int
 | some i=>hashInt i
 | none=>4238894112
abbrev Oy:=List (Option Int×Value)
inductive OEs:List DictEntry->Oy->Prop
 | nil:OEs [] []
 | cons{e:DictEntry}{k:Option Int}{v:Value}{es:List DictEntry}{ys:Oy}(i:isO k e.key=true)(h:e.hash=hO0 k)(q:e.val=v)(t:OEs es ys):OEs (e::es) ((k,v)::ys)
def Le(a:Addr)(ys:Oy)(h:Heap):Prop:=ys.length≤sizeLine/\(a==sysModules)=false/\(ys.map (·.1)).Nodup/\
 ∃o es ep,h.get? a=some o/\o.ExactDict/\o.data=.dict es ep/\OEs es.toList ys
def oD:Option Int->D
 | some i=>.int i
 | none=>.non
inductive Kos(K:PySem.W.Frag)(O:Own)(H:Hp):Oy->List D->Prop
 | nil:Kos K O H [] []
 | cons{c:Option Int}{u:Value}{v:V}{k d:D}{ys:Oy}{ds:List D}(e:k=oD c)(rv:RelV v u)(r:Rep K O H v d)(t:Kos K O H ys ds):Kos K O H ((c,u)::ys) (.tup [k,d]::ds)
theorem Kos.conv{K:PySem.W.Frag}{O O':Own}{H H':Hp}(s:Conv O O' H H'):∀{ys:Oy}{ds:List D},Kos K O H ys ds->Kos K O' H' ys ds
 | _,_,.nil=>.nil
 | _,_,.cons e rv r t=>.cons e rv (r.conv s) (Kos.conv s t)
abbrev tbD(b:Bool)(l c:Nat)(q:Str)(z:Nat):List D:=[.bl b,.int l,.int c,.str q,.int z,.tup (List.replicate (sizeLine+1) .non)]
def Vp(K:PySem.W.Frag)(z a:Addr):Prop:=∃o vs,K.lookup z=some o/\o.data=.fields vs/\vs[11]? =some (.ref a)
def Wa(x:Addr)(q:Str)(h:Heap):Prop:=h.CodeRec (.ref x) q
inductive DOb(K:PySem.W.Frag)(O:Own)(H:Hp)(a:Addr)(ds:List D):Prop
 | t(kvs:List (List Key×V))(e:H a=some (.dT kvs))(r:Kps K O H kvs ds):DOb K O H a ds
 | c(ys:Cy)(n:ys≠[])(e:H a=some (.ext (JW a ys)))(r:Kcs K O H ys ds):DOb K O H a ds
 | o(ys:Oy)(n:ys≠[])(e:H a=some (.ext (Le a ys)))(r:Kos K O H ys ds):DOb K O H a ds
 | m(ys:Cy)(ds':List D)(hd:ds=.non::ds')(e:H a=some (.ext (bD a ys)))(r:Kcs K O H ys ds'):DOb K O H a ds
 | p(ps:Array Value)(n:¬Abv K a)(b:Bool)(l c z:Nat)(q:Str)(k:Vp K z a)(e:H a=some (.tbl ps))(hd:ds=tbD b l c q z)
   (g:(b=false/\ps=#[])∨(b=true/\∃x,ps=#[rawInt l,rawInt c,.ref x]/\¬O.has x/\H x=some (.ext (Wa x q)))):DOb K O H a ds
theorem DOb.move{ds:List D}(s:Conv O O' H H')(b:DOb K O H a ds)(h:∀o,H a=some o->H' a=some o):DOb K O' H' a ds:=by
 cases b with
 | t kvs e r=>exact .t kvs (h _ e) (r.conv s)
 | c ys n e r=>exact .c ys n (h _ e) (r.conv s)
 | o ys n e r=>exact .o ys n (h _ e) (r.conv s)
 | m ys d' hd e r=>exact .m ys d' hd (h _ e) (r.conv s)
 | p ps n b l c z q k e hd g=>exact .p ps n b l c z q k (h _ e) hd (g.imp id λ⟨g1,x,g2,g3,g4⟩=>⟨g1,x,g2,s.tr _ _ g3 g4⟩)
theorem DOb.there{ds:List D}(b:DOb K O H a ds):H a≠none:=by
 cases b with
 | t kvs e r=>rw[e];simp
 | c ys n e r=>rw[e];simp
 | o ys n e r=>rw[e];simp
 | m ys d' hd e r=>rw[e];simp
 | p ps n b l c z q k e hd g=>rw[e];simp
structure StOk(K:PySem.W.Frag)(O:Own)(H:Hp)(S:Store):Prop where
 nd:(adr O.A).Nodup
 len:O.A.length=S.length
 obj:∀(k:Nat)(a:Addr)(ds:List D),O.A[k]? =some (a,false)->S[k]? =some ds->∃xs,H a=some (.lst xs)/\Reps K O H xs ds
 dob:∀(k:Nat)(a:Addr)(ds:List D),O.A[k]? =some (a,true)->S[k]? =some ds->DOb K O H a ds
 apart:∀a∈adr O.A,a∉O.B
 hidden:∀b∈O.B,H b≠none
structure EnvOk(K:PySem.W.Frag)(O:Own)(H:Hp)(σ:St)(Γ:Gam):Prop where
 len:σ.length=Γ.length
 at_:∀(i:Nat)(d:D),Γ[i]? =some (some d)->∃v,σ[i]? =some (some v)/\Rep K O H v d
theorem EnvOk.mono{σ:St}{Γ:Gam}(e:EnvOk K O H σ Γ)(s:Step O O' H H'):EnvOk K O' H' σ Γ:=
 ⟨e.len,λ i d h=>let ⟨v,a,b⟩:=e.at_ i d h;⟨v,a,b.mono s⟩⟩
theorem EnvOk.set{σ:St}{Γ:Gam}(e:EnvOk K O H σ Γ){v:V}{d:D}(r:Rep K O H v d)(i:Nat):EnvOk K O H (σ.set i (some v)) (Γ.set i (some d)):=by
 refine⟨by simp[e.len],λ j c h=>?_⟩
 by_cases hj:i=j
 . subst hj
   have hl:i<Γ.length:=by
    have:=(z0.mp h).1
    simpa using this
   rw[List.getElem?_set_self hl]at h
   cases h
   exact⟨v,List.getElem?_set_self (by rw[e.len];exact hl),r⟩
 . rw[List.getElem?_set_ne hj]at h
   rw[List.getElem?_set_ne hj]
   exact e.at_ j c h
theorem StOk.tracked(s:StOk K O H S){a:Addr}(h:O.has a):H a≠none:=by
 rcases h with h | h
 . obtain⟨⟨a',c⟩,hm,rfl⟩:=ZO.mp h
   obtain⟨k,hk⟩:=ZR hm
   have hl:k<S.length:=by rw[←s.len];exact(z0.mp hk).1
   cases c with
   | false=>
     obtain⟨xs,q,_⟩:=s.obj k a' S[k] hk (y3 hl)
     rw[show(a',false).1=a' from rfl,q];simp
   | true=>
     exact(s.dob k a' S[k] hk (y3 hl)).there
 . exact s.hidden a h
theorem Step.fresh(h:H p=none)(o:HO):Step O O H (upd H p o):=
 ⟨λ b u _ q=>by rw[ao (aB q h)];exact q,λ b q=>by
  by_cases e:b=p
  . subst e;rw[aH];simp
  . rw[ao e];exact q,⟨[],by simp,λ _ z=>nomatch z⟩,rfl⟩
theorem Step.same(h:c7 H H'):Step O O H H':=
 ⟨λ b o _ q=>h b o q,λ b q=>by
  cases e:H b with
  | none=>exact absurd e q
  | some o=>rw[h b o e];simp,⟨[],by simp,λ _ z=>nomatch z⟩,rfl⟩
theorem c7.fresh(h:H p=none)(o:HO):c7 H (upd H p o):=λ b u q=>by rw[ao (aB q h)];exact q
theorem StOk.same(s:StOk K O H S)(h:c7 H H'):StOk K O H' S:=
 ⟨s.nd,s.len,λ k a ds e1 e2=>let ⟨xs,q,r⟩:=s.obj k a ds e1 e2;⟨xs,h _ _ q,r.mono (Step.same h)⟩,λ k a ds e1 e2=>(s.dob k a ds e1 e2).move (Step.same h).conv λ o q=>h _ _ q,s.apart,λ b hb=>(Step.same (O:=O) h).dom b (s.hidden b hb)⟩
theorem StOk.fresh_not(s:StOk K O H S){p:Addr}(h:H p=none):¬O.has p:=λ z=>s.tracked z h
theorem StOk.fresh(s:StOk K O H S){p:Addr}(h:H p=none)(o:HO):StOk K O (upd H p o) S:=s.same (c7.fresh h o)
abbrev Own.more(O:Own)(p:Addr)(q:Bool:=false):Own:=⟨O.A++[(p,q)],O.B⟩
theorem Step.own(h:H p=none)(o:HO)(q:Bool:=false):Step O (O.more p q) H (upd H p o):=
 ⟨(Step.fresh (O:=O) h o).kept,(Step.fresh (O:=O) h o).dom,⟨[(p,q)],rfl,λ b z=>by rw[ZL.mp z];exact h⟩,rfl⟩
theorem jy{A:List (Addr×Bool)}{p:Addr×Bool}{k:Nat}{x:Addr×Bool}(h:(A++[p])[k]? =some x):A[k]? =some x∨(k=A.length/\x=p):=by
 by_cases hk:k<A.length
 . rw[x8 hk]at h;exact .inl h
 . rw[List.getElem?_append_right %[|0]]at h
   have hk0:k-A.length=0:=by
    have:=(z0.mp h).1
    simp at this;omega
   rw[hk0]at h
   exact .inr ⟨%[|0],(Option.some.inj h).symm⟩
theorem zP{A:List (Addr×Bool)}{q:Bool}(h:(adr A).Nodup)(n:p∉adr A):(adr (A++[(p,q)])).Nodup:=by
 rw[bM]
 refine List.nodup_append.mpr ⟨h,by simp,λ a ha b hb e=>?_⟩
 rw[ZL.mp hb]at e;rw[e]at ha;exact n ha
theorem StOk.own(s:StOk K O H S){p:Addr}(h:H p=none){xs:List V}{ds:List D}(r:Reps K O H xs ds):
 StOk K (O.more p) (upd H p (.lst xs)) (S++[ds]):=by
 have st:=Step.own (O:=O) h (.lst xs)
 have np:=s.fresh_not h
 refine⟨zP s.nd λ z=>np (.inl z),by simp[s.len],λ k a es e1 e2=>?_,λ k a es e1 e2=>?_,λ a ha=>?_,λ b hb=>st.dom b (s.hidden b hb)⟩
 . rcases jy e1 with e1 | ⟨rfl,e⟩
   . have hk:=(z0.mp e1).1
     rw[x8 (by rw[←s.len];exact hk)]at e2
     obtain⟨ys,q,r'⟩:=s.obj k a es e1 e2
     exact⟨ys,by rw[ao (aB q h)];exact q,r'.mono st⟩
   . cases e
     rw[List.getElem?_append_right (by rw[s.len];exact y9 _),s.len,Nat.sub_self]at e2
     cases e2
     exact⟨xs,aH,r.mono st⟩
 . rcases jy e1 with e1 | ⟨rfl,e⟩
   . have hk:=(z0.mp e1).1
     rw[x8 (by rw[←s.len];exact hk)]at e2
     exact(s.dob k a es e1 e2).move st.conv λ o q=>by rw[ao (aB q h)];exact q
   . cases e
 . rw[bM]at ha
   rcases ZK.mp ha with z | z
   . exact s.apart a z
   . rw[ZL.mp z];exact λ q=>np (.inr q)
theorem Step.put(h:a∈adr O.A)(o:HO):Step O O H (upd H a o):=
 ⟨λ b u hb q=>by rw[ao (λ e=>hb (by rw[e];exact h))];exact q,λ b q=>by
  by_cases e:b=a
  . subst e;rw[aH];simp
  . rw[ao e];exact q,⟨[],by simp,λ _ z=>nomatch z⟩,rfl⟩
theorem qI{A:List (Addr×Bool)}(nd:(adr A).Nodup){k j:Nat}{a b:Addr}{p q:Bool}(h:A[k]? =some (a,p))(h2:A[j]? =some (b,q))(hj:k≠j):b≠a:=λ e=>hj (by
 have g1:(adr A)[k]? =some a:=by rw[y8,h];rfl
 have g2:(adr A)[j]? =some b:=by rw[y8,h2];rfl
 obtain⟨h1,e1'⟩:=z0.mp g1
 obtain⟨h2,e2'⟩:=z0.mp g2
 exact(List.getElem_inj nd).mp (e1'.trans (e.symm.trans e2'.symm)))
theorem StOk.put(s:StOk K O H S){k:Nat}{a:Addr}(h:O.A[k]? =some (a,false)){xs:List V}{ds:List D}(r:Reps K O H xs ds):
 StOk K O (upd H a (.lst xs)) (S.set k ds):=by
 have st:=Step.put (O:=O) (H:=H) (bZ h) (.lst xs)
 refine⟨s.nd,by simp[s.len],λ j b es e1 e2=>?_,λ j b es e1 e2=>?_,s.apart,λ b hb=>st.dom b (s.hidden b hb)⟩
 . by_cases hj:k=j
   . subst hj
     rw[h]at e1;cases e1
     have hl:=(z0.mp e2).1
     rw[List.getElem?_set_self (by simpa using hl)]at e2
     cases e2
     exact⟨xs,aH,r.mono st⟩
   . rw[List.getElem?_set_ne hj]at e2
     obtain⟨ys,q,r'⟩:=s.obj j b es e1 e2
     exact⟨ys,by rw[ao (qI s.nd h e1 hj)];exact q,r'.mono st⟩
 . have hj:k≠j:=λ e=>by subst e;rw[h]at e1;cases e1
   rw[List.getElem?_set_ne hj]at e2
   exact(s.dob j b es e1 e2).move st.conv λ o q=>by rw[ao (qI s.nd h e1 hj)];exact q
theorem StOk.putO(s:StOk K O H S){k:Nat}{a:Addr}(h:O.A[k]? =some (a,true)){o:HO}{ds:List D}(r:DOb K O (upd H a o) a ds):
 StOk K O (upd H a o) (S.set k ds):=by
 have st:=Step.put (O:=O) (H:=H) (bZ h) o
 refine⟨s.nd,by simp[s.len],λ j b es e1 e2=>?_,λ j b es e1 e2=>?_,s.apart,λ b hb=>st.dom b (s.hidden b hb)⟩
 . have hj:k≠j:=λ e=>by subst e;rw[h]at e1;cases e1
   rw[List.getElem?_set_ne hj]at e2
   obtain⟨ys,q,r'⟩:=s.obj j b es e1 e2
   exact⟨ys,by rw[ao (qI s.nd h e1 hj)];exact q,r'.mono st⟩
 . by_cases hj:k=j
   . subst hj
     rw[h]at e1;cases e1
     have hl:=(z0.mp e2).1
     rw[List.getElem?_set_self (by simpa using hl)]at e2
     cases e2
     exact r
   . rw[List.getElem?_set_ne hj]at e2
     exact(s.dob j b es e1 e2).move st.conv λ o q=>by rw[ao (qI s.nd h e1 hj)];exact q
theorem StOk.hide(s:StOk K O H S){p:Addr}(h:H p=none)(o:HO):StOk K (O.hide p) (upd H p o) S:=by
 have st:=Step.fresh (O:=O) h o
 refine⟨s.nd,s.len,λ k a ds e1 e2=>?_,λ k a ds e1 e2=>?_,λ a ha z=>?_,λ b hb=>?_⟩
 . obtain⟨xs,q,r⟩:=s.obj k a ds e1 e2
   exact⟨xs,by rw[ao (aB q h)];exact q,r.conv (Conv.hide h o)⟩
 . exact(s.dob k a ds e1 e2).move (Conv.hide h o) λ o q=>by rw[ao (aB q h)];exact q
 . rcases ZJ.mp z with z | z
   . exact s.tracked (.inl ha) (z▸h)
   . exact s.apart a ha z
 . rcases ZJ.mp hb with z | z
   . subst z;rw[aH];simp
   . exact st.dom b (s.hidden b z)
theorem StOk.unhide{A:List (Addr×Bool)}{B:List Addr}(s:StOk K ⟨A,p::B⟩ H S):StOk K ⟨A,B⟩ H S:=
 ⟨s.nd,s.len,λ k a ds e1 e2=>let ⟨xs,q,r⟩:=s.obj k a ds e1 e2;⟨xs,q,r.conv Conv.unhide⟩,λ k a ds e1 e2=>(s.dob k a ds e1 e2).move Conv.unhide λ _ q=>q,λ a ha z=>s.apart a ha (x3 _ z),λ b hb=>s.hidden b (x3 _ hb)⟩
theorem StOk.updHid(s:StOk K O H S){p:Addr}(h:p∈O.B)(o:HO):StOk K O (upd H p o) S:=
 ⟨s.nd,s.len,λ k a ds e1 e2=>by
  obtain⟨xs,q,r⟩:=s.obj k a ds e1 e2
  have ne:a≠p:=λ e=>s.apart a (bZ e1) (e▸h)
  exact⟨xs,by rw[ao ne];exact q,r.conv (Conv.updHid h o)⟩,λ k a ds e1 e2=>by
  have ne:a≠p:=λ e=>s.apart a (bZ e1) (e▸h)
  exact(s.dob k a ds e1 e2).move (Conv.updHid h o) λ _ q=>by rw[ao ne];exact q,s.apart,λ b hb=>by
  by_cases e:b=p
  . subst e;rw[aH];simp
  . rw[ao e];exact s.hidden b hb⟩
theorem Step.adopt{A:List (Addr×Bool)}(s:Step O ⟨A,O.B⟩ H H')(h:H p=none):Step O ⟨A++[(p,false)],O.B⟩ H H':=by
 obtain⟨N,e,f⟩:=s.ext
 refine⟨s.kept,s.dom,⟨N++[(p,false)],?_,λ b hb=>?_⟩,rfl⟩
 . show A++[(p,false)]=_
   rw[show A=O.A++N from e,List.append_assoc]
 . rw[bM]at hb
   rcases ZK.mp hb with z | z
   . exact f b z
   . rw[ZL.mp z];exact h
theorem Conv.adopt{A:List (Addr×Bool)}{B:List Addr}:Conv ⟨A,p::B⟩ ⟨A++[(p,false)],B⟩ H H:=
 ⟨λ a u n t=>⟨λ z=>n (z.elim (λ z=>(ZK.mp (by rw[←bM];exact z)).elim .inl λ z=>.inr (by rw[ZL.mp z];exact x5)) λ z=>.inr (x3 _ z)),t⟩,
  λ k a h=>by
   show(A++[(p,false)])[k]? =some a
   rw[x8 (z0.mp h).1];exact h⟩
theorem StOk.adopt{A:List (Addr×Bool)}{B:List Addr}{ds:List D}(s:StOk K ⟨A,p::B⟩ H S)(hp:p∉B)(h:H p=some (.lst xs))(r:Reps K ⟨A,p::B⟩ H xs ds):StOk K ⟨A++[(p,false)],B⟩ H (S++[ds]):=by
 have np:p∉adr A:=λ z=>s.apart p z x5
 have sl:A.length=S.length:=s.len
 refine⟨zP s.nd np,by simp[sl],λ k a es e1 e2=>?_,λ k a es e1 e2=>?_,λ a ha=>?_,λ b hb=>s.hidden b (x3 _ hb)⟩
 . rcases jy e1 with e1 | ⟨rfl,e⟩
   . have hk:=(z0.mp e1).1
     rw[x8 %[|0]]at e2
     obtain⟨ys,q,r'⟩:=s.obj k a es e1 e2
     exact⟨ys,q,r'.conv Conv.adopt⟩
   . cases e
     rw[List.getElem?_append_right %[|0],sl,Nat.sub_self]at e2
     cases e2
     exact⟨xs,h,r.conv Conv.adopt⟩
 . rcases jy e1 with e1 | ⟨rfl,e⟩
   . have hk:=(z0.mp e1).1
     rw[x8 %[|0]]at e2
     exact(s.dob k a es e1 e2).move Conv.adopt λ _ q=>q
   . cases e
 . have ha:a∈adr (A++[(p,false)]):=ha
   rw[bM]at ha
   rcases ZK.mp ha with z | z
   . exact λ q=>s.apart a z (x3 _ q)
   . rw[ZL.mp z];exact hp
theorem Step.inner{A1 A2:List (Addr×Bool)}{B:List Addr}{H1 H2:Hp}(a:Step O ⟨A1,B⟩ H H1)(b:Step ⟨A1,p::B⟩ ⟨A2,p::B⟩ H1 H2)(h:H p=none)(o:HO):Step O ⟨A2,B⟩ H (upd H2 p o):=by
 have b':Step ⟨A1,B⟩ ⟨A2,B⟩ H1 H2:=⟨b.kept,b.dom,b.ext,rfl⟩
 have c:=a.trans b'
 refine⟨λ x u hx t=>?_,λ x t=>?_,c.ext,c.hid⟩
 . rw[ao (aB t h)];exact c.kept x u hx t
 . by_cases e:x=p
   . subst e;rw[aH];simp
   . rw[ao e];exact c.dom x t
end DL
namespace DL
open PySem PySem.Spec L2
open PyProof.Rows
variable {K : PySem.W.Frag} {O : Own} {H : Hp} {x : D} {ds : List D} {i j : Int} {p : Addr} {xs : List V}
abbrev Pins:=List (Addr×Obj)
abbrev WD:=D->%[|4]
def QG(K:PySem.W.Frag)(O:Own)(H:Hp)(W:WD):VK:=λ v H'=>∃O' d S',W d S'/\Step O O' H H'/\StOk K O' H' S'/\Rep K O' H' v d
def QA(K:PySem.W.Frag)(O:Own)(H:Hp)(W:List D->%[|4]):List V->Hp->Prop:=λ vs H'=>∃O' ds S',W ds S'/\Step O O' H H'/\StOk K O' H' S'/\Reps K O' H' vs ds
def QT(K:PySem.W.Frag)(O:Own)(H:Hp)(W:Bool->%[|4]):Bool->Hp->Prop:=λ b H'=>∃O' S',W b S'/\Step O O' H H'/\StOk K O' H' S'
def Ev(X:Cx)(Γ:Gam)(S:Store)(e:Expr)(W:WD):Prop:=
 ∀ (pins:Pins)(s:Shared)(σ:St)(H:Hp)(O:Own),%[|5]->EnvOk X.K O H σ Γ->StOk X.K O H S->
   wpAny %[|6] X.A (eval e X.env) (EP X pins σ (QG X.K O H W)) X.xe s
def EvA(X:Cx)(Γ:Gam)(S:Store)(es:List Expr)(W:List D->%[|4]):Prop:=
 ∀ (pos:Pos)(pins:Pins)(s:Shared)(σ:St)(H:Hp)(O:Own),%[|5]->EnvOk X.K O H σ Γ->StOk X.K O H S->
   wpAny %[|6] X.A (spliced (backTo pos (starEach es X.env))) (AP X pins σ (QA X.K O H W)) X.xe s
def TsW(X:Cx)(Γ:Gam)(S:Store)(e:Expr)(W:Bool->%[|4]):Prop:=
 ∀ (whole:Sem Value)(pins:Pins)(s:Shared)(σ:St)(H:Hp)(O:Own),%[|5]->EnvOk X.K O H σ Γ->StOk X.K O H S->
   wpAny %[|6] X.A (isTrue e X.env whole) (TP X pins σ (QT X.K O H W)) X.xe s
def Ts(X:Cx)(Γ:Gam)(S:Store)(e:Expr)(W:Bool->%[|4]):Prop:=
 ∀ (pins:Pins)(s:Shared)(σ:St)(H:Hp)(O:Own),%[|5]->EnvOk X.K O H σ Γ->StOk X.K O H S->
   wpAny %[|6] X.A (isTrue e X.env (eval e X.env)) (TP X pins σ (QT X.K O H W)) X.xe s
def OpW(X:Cx)(f:Value->Value->Sem Value)(x y:D)(S:Store)(W:WD):Prop:=
 ∀ (pins:Pins)(s:Shared)(σ:St)(H:Hp)(O:Own)(v w:V)(u u':Value),%[|5]->StOk X.K O H S->Rep X.K O H v x->Rep X.K O H w y->RelV v u->RelV w u'->
   wpAny %[|6] X.A (f u u') (EP X pins σ (QG X.K O H W)) X.xe s
def dM(X:Cx)(f:Value)(ds:List D)(S:Store)(W:WD):Prop:=
 ∀ (pins:Pins)(s:Shared)(σ:St)(H:Hp)(O:Own)(vs:List V)(us:List Value),%[|5]->StOk X.K O H S->Reps X.K O H vs ds->Vals vs us->
   wpAny %[|6] X.A (call f us) (EP X pins σ (QG X.K O H W)) X.xe s
abbrev cW(X:Cx)(op:Operator):=OpW X (binaryOp op)
abbrev bj(X:Cx)(op:CmpOp):=OpW X (compareOp op)
section
variable {X : Cx} {Γ : Gam} {S S1 : Store} {W : WD} {a b e : Expr} {es rest : List Expr} {pos : Pos}
theorem QG.pre{O1:Own}{H1:Hp}(st:Step O O1 H H1){v:V}{H':Hp}(q:QG K O1 H1 W v H'):QG K O H W v H':=by
 obtain⟨O',d,S',w,s',ok,r⟩:=q
 exact⟨O',d,S',w,st.trans s',ok,r⟩
theorem dY{pins:Pins}{σ:St}{O1:Own}{H1:Hp}(st:Step O O1 H H1){u:Value}{s':Shared}(q:EP X pins σ (QG X.K O1 H1 W) u s'):EP X pins σ (QG X.K O H W) u s':=by
 obtain⟨v,H',I,r,q⟩:=q
 exact⟨v,H',I,r,q.pre st⟩
theorem Nk{pins:Pins}{σ:St}{O1:Own}{H1:Hp}(st:Step O O1 H H1){W:Bool->%[|4]}{u:Bool}{s':Shared}(q:TP X pins σ (QT X.K O1 H1 W) u s'):TP X pins σ (QT X.K O H W) u s':=by
 obtain⟨H',I,O',S',w,s2,ok⟩:=q
 exact⟨H',I,O',S',w,st.trans s2,ok⟩
theorem Ev.mono{W':WD}(h:Ev X Γ S e W)(k:∀d S',W d S'->W' d S'):Ev X Γ S e W':=λ pins s σ H O I env st=>
 thn (h pins s σ H O I env st) λ _ _ hq_=>by obtain⟨v,H',I',r,O',d,S',w,q⟩:=hq_;exact⟨v,H',I',r,O',d,S',k d S' w,q⟩
theorem OpW.mono{f:Value->Value->Sem Value}{y:D}{W':WD}(h:OpW X f x y S W)(k:∀d S',W d S'->W' d S'):OpW X f x y S W':=λ pins s σ H O v w u u' I st r1 r2 r3 r4=>
 thn (h pins s σ H O v w u u' I st r1 r2 r3 r4) λ _ _ hq_=>by obtain⟨v,H',I',r,O',d,S',w,q⟩:=hq_;exact⟨v,H',I',r,O',d,S',k d S' w,q⟩
theorem d8{f:Value->Value->Sem Value}{r:R2}{y:D}(ho:OpR X f r)(h:∀O H v w,StOk X.K O H S->Rep X.K O H v x->Rep X.K O H w y->r v w H (QG X.K O H W)):OpW X f x y S W:=
 λ pins s σ H O v w u u' I st r1 r2 r3 r4=>ho pins s σ H v w u u' _ I r3 r4 (h O H v w st r1 r2)
theorem cJ{f:Value}{r:List V->Hp->VK->Prop}(hc:fV X f r)(h:∀O H vs,StOk X.K O H S->Reps X.K O H vs ds->r vs H (QG X.K O H W)):dM X f ds S W:=
 λ pins s σ H O vs us I st r1 r2=>hc pins s σ H vs us _ I r2 (h O H vs st r1)
theorem QG.here{v:V}{d:D}(w:W d S)(st:StOk K O H S)(r:Rep K O H v d):QG K O H W v H:=⟨O,d,S,w,Step.refl O H,st,r⟩
theorem Q0(i:Nat){x:Str}{d:D}(hΓ:Γ[i]? =some (some d))(w:W d S)(hN:X.N[i]? =some x:=by rfl)
 (hv:Vis X.env.scope x:=by first | exact Or.inl rfl | exact Or.inr (Or.inl rfl) | exact Or.inr (Or.inr rfl))(hd:(x==("__debug__":Str))=false:=by decide)(hcd:(x==("__classdict__":Str))=false:=by decide):
 Ev X Γ S (.Name x pos) W:=by
 intro pins s σ H O I env st
 obtain⟨v,e,r⟩:=env.at_ i d hΓ
 exact QW hN hv hd hcd pins s σ H _ I ⟨v,e,QG.here w st r⟩
theorem R0{j}(w:W (.int i) S):Ev X Γ S (.Constant (.int i) j pos) W:=λ pins s σ H O I _ st=>Ue pins s σ H _ I (QG.here w st (.int i))
theorem U3{i:Bool}{j}(w:W (.bl i) S):Ev X Γ S (.Constant (.bool i) j pos) W:=λ pins s σ H O I _ st=>Vl pins s σ H _ I (QG.here w st (.bl i))
theorem Rv{j}(w:W .non S):Ev X Γ S (.Constant .none j pos) W:=λ pins s σ H O I _ st=>RP pins s σ H _ I (QG.here w st .non)
theorem Km{x:Str}{t:Tok}(hm:X.mg x=some (.int i t))(w:W (.int i) S)(hg:Gl X x:=by rfl)(hd:(x==("__debug__":Str))=false:=by decide):Ev X Γ S (.Name x pos) W:=
 λ pins s σ H O I _ st=>Qf hg hm (v:=.int i) ⟨t,rfl⟩ hd pins s σ H _ I (QG.here w st (.int i))
theorem qM{op:Operator}(h:Ev X Γ S a λ x S1=>Ev X Γ S1 b λ y S2=>cW X op x y S2 W):Ev X Γ S (.BinOp a op b pos) W:=by
 intro pins s σ H O I env st
 refine wpAny_BinOp (thn (h pins s σ H O I env st) λ u s1 hq_=>?_)
 obtain⟨v,H1,I1,r1,O1,x,S1,hb,st1,ok1,rep1⟩:=hq_
 refine thn (hb pins s1 σ H1 O1 I1 (env.mono st1) ok1) λ u' s2 hq_=>?_
 obtain⟨w,H2,I2,r2,O2,y,S2,hw,st2,ok2,rep2⟩:=hq_
 exact thn (hw pins s2 σ H2 O2 v w u u' I2 ok2 (rep1.mono st2) rep2 r1 r2) λ _ _ q=>dY (st1.trans st2) q
theorem RN{op:CmpOp}(h:Ev X Γ S a λ x S1=>Ev X Γ S1 b λ y S2=>bj X op x y S2 W)(hm:behindInMarks op b=false:=by first | exact nomark _ | (with_unfolding_all rfl)):Ev X Γ S (.Compare a [op] [b] pos) W:=by
 intro pins s σ H O I env st
 refine wpAny_Compare1 (thn (h pins s σ H O I env st) λ u s1 hq_=>?_) hm
 obtain⟨v,H1,I1,r1,O1,x,S1,hb,st1,ok1,rep1⟩:=hq_
 refine thn (hb pins s1 σ H1 O1 I1 (env.mono st1) ok1) λ u' s2 hq_=>?_
 obtain⟨w,H2,I2,r2,O2,y,S2,hw,st2,ok2,rep2⟩:=hq_
 exact thn (hw pins s2 σ H2 O2 v w u u' I2 ok2 (rep1.mono st2) rep2 r1 r2) λ _ _ q=>dY (st1.trans st2) q
abbrev asB(W:Bool->%[|4]):WD:=λ d S=>∃c,d=.bl c/\W c S
theorem Ii{op:CmpOp}{W:Bool->%[|4]}(h:Ev X Γ S a λ x S1=>Ev X Γ S1 b λ y S2=>bj X op x y S2 (asB W))(hm:behindInMarks op b=false:=by first | exact nomark _ | (with_unfolding_all rfl)):Ts X Γ S (.Compare a [op] [b] pos) W:=by
 intro pins s σ H O I env st
 refine wpAny_isTrue_Compare1 (thn (h pins s σ H O I env st) λ u s1 hq_=>?_) hm
 obtain⟨v,H1,I1,r1,O1,x,S1,hb,st1,ok1,rep1⟩:=hq_
 refine thn (hb pins s1 σ H1 O1 I1 (env.mono st1) ok1) λ u' s2 hq_=>?_
 obtain⟨w,H2,I2,r2,O2,y,S2,hw,st2,ok2,rep2⟩:=hq_
 refine thn (hw pins s2 σ H2 O2 v w u u' I2 ok2 (rep1.mono st2) rep2 r1 r2) λ _ _ hq_=>?_
 obtain⟨z,H3,I3,r3,O3,d,S3,⟨c,hd,wc⟩,st3,ok3,rep3⟩:=hq_
 subst hd
 cases rep3
 cases r3
 exact wpAny_truthy_bool ⟨H3,I3,O3,S3,wc,(st1.trans st2).trans st3,ok3⟩
theorem Rx{W:Bool->%[|4]}(h:Ev X Γ S e (asB W))(he:∀whole,isTrue e X.env whole=(do let v ←whole;standAt e.pos;holding [v] (truthy v)):=by intro _;rfl):Ts X Γ S e W:=by
 intro pins s σ H O I env st
 refine isTrue_plain (thn (h pins s σ H O I env st) λ _ _ hq_=>?_) (he _)
 obtain⟨z,H3,I3,r3,O3,d,S3,⟨c,hd,wc⟩,st3,ok3,rep3⟩:=hq_
 subst hd
 cases rep3
 cases r3
 exact wpAny_truthy_bool ⟨H3,I3,O3,S3,wc,st3,ok3⟩
theorem TsW.ts{W:Bool->%[|4]}(h:TsW X Γ S e W):Ts X Γ S e W:=λ pins s σ H O I env st=>h _ pins s σ H O I env st
theorem tw_and1{W:Bool->%[|4]}(h:Ts X Γ S a W):TsW X Γ S (.BoolOp .And [a] pos) W:=by
 intro wh pins s σ H O I env st
 refine isTrue_and (thn (h pins s σ H O I env st) λ c s1 e=>?_)
 cases c with
 | true=>exact isTrue_and_nil e
 | false=>exact e
theorem tw_or1{W:Bool->%[|4]}(h:Ts X Γ S a W):TsW X Γ S (.BoolOp .Or [a] pos) W:=by
 intro wh pins s σ H O I env st
 refine isTrue_or (thn (h pins s σ H O I env st) λ c s1 e=>?_)
 cases c with
 | false=>exact isTrue_or_nil e
 | true=>exact e
theorem tw_and{W:Bool->%[|4]}(h:Ts X Γ S a λ c S1=>(c=true->TsW X Γ S1 (.BoolOp .And (b::rest) pos) W)/\(c=false->W false S1)):TsW X Γ S (.BoolOp .And (a::b::rest) pos) W:=by
 intro wh pins s σ H O I env st
 refine isTrue_and (thn (h pins s σ H O I env st) λ c s1 hq_=>?_)
 obtain⟨H1,I1,O1,S1,w1,st1,ok1⟩:=hq_
 cases c with
 | true=>exact thn (w1.1 rfl wh pins s1 σ H1 O1 I1 (env.mono st1) ok1) λ _ _ q=>Nk st1 q
 | false=>exact⟨H1,I1,O1,S1,w1.2 rfl,st1,ok1⟩
theorem tw_or{W:Bool->%[|4]}(h:Ts X Γ S a λ c S1=>(c=true->W true S1)/\(c=false->TsW X Γ S1 (.BoolOp .Or (b::rest) pos) W)):TsW X Γ S (.BoolOp .Or (a::b::rest) pos) W:=by
 intro wh pins s σ H O I env st
 refine isTrue_or (thn (h pins s σ H O I env st) λ c s1 hq_=>?_)
 obtain⟨H1,I1,O1,S1,w1,st1,ok1⟩:=hq_
 cases c with
 | false=>exact thn (w1.2 rfl wh pins s1 σ H1 O1 I1 (env.mono st1) ok1) λ _ _ q=>Nk st1 q
 | true=>exact⟨H1,I1,O1,S1,w1.1 rfl,st1,ok1⟩
theorem Sd{W:Bool->%[|4]}(h:Ts X Γ S a λ c S1=>W (!c) S1):Ts X Γ S (.UnaryOp .Not a pos) W:=by
 intro pins s σ H O I env st
 exact isTrue_not (thn (h pins s σ H O I env st) λ c s1 ⟨H1,I1,O1,S1,w1,st1,ok1⟩=>⟨H1,I1,O1,S1,w1,st1,ok1⟩)
theorem Hr{op}(h:Ev X Γ S a W):Ev X Γ S (.BoolOp op [a] pos) W:=λ pins s σ H O I env st=>BoolOp_one (h pins s σ H O I env st)
theorem Rz(h:Ev X Γ S a λ x S1=>∃c,x=.bl c/\(c=true->Ev X Γ S1 (.BoolOp .And (b::rest) pos) W)/\(c=false->W (.bl false) S1)):Ev X Γ S (.BoolOp .And (a::b::rest) pos) W:=by
 intro pins s σ H O I env st
 refine BoolOp_and (thn (h pins s σ H O I env st) λ u s1 hq_=>?_)
 obtain⟨v,H1,I1,r1,O1,x,S1,⟨c,hx,h1,h2⟩,st1,ok1,rep1⟩:=hq_
 subst hx
 cases rep1
 cases r1
 refine wpAny_truthy_bool ?_
 cases c with
 | true=>exact thn (h1 rfl pins s1 σ H1 O1 I1 (env.mono st1) ok1) λ _ _ q=>dY st1 q
 | false=>exact⟨.bl false,H1,I1,rfl,O1,.bl false,S1,h2 rfl,st1,ok1,.bl false⟩
theorem Vv(h:Ev X Γ S a λ x S1=>∃c,x=.bl c/\(c=true->W (.bl true) S1)/\(c=false->Ev X Γ S1 (.BoolOp .Or (b::rest) pos) W)):Ev X Γ S (.BoolOp .Or (a::b::rest) pos) W:=by
 intro pins s σ H O I env st
 refine BoolOp_or (thn (h pins s σ H O I env st) λ u s1 hq_=>?_)
 obtain⟨v,H1,I1,r1,O1,x,S1,⟨c,hx,h1,h2⟩,st1,ok1,rep1⟩:=hq_
 subst hx
 cases rep1
 cases r1
 refine wpAny_truthy_bool ?_
 cases c with
 | false=>exact thn (h2 rfl pins s1 σ H1 O1 I1 (env.mono st1) ok1) λ _ _ q=>dY st1 q
 | true=>exact⟨.bl true,H1,I1,rfl,O1,.bl true,S1,h1 rfl,st1,ok1,.bl true⟩
theorem Sh(h:Ev X Γ S a λ x S1=>∃c,x=.bl c/\W (.bl (!c)) S1):Ev X Γ S (.UnaryOp .Not a pos) W:=by
 intro pins s σ H O I env st
 refine UnaryOp_ (thn (h pins s σ H O I env st) λ u s1 hq_=>?_)
 obtain⟨v,H1,I1,r1,O1,x,S1,⟨c,hx,h1⟩,st1,ok1,rep1⟩:=hq_
 subst hx
 cases rep1
 cases r1
 exact not_of (wpAny_truthy_bool ⟨.bl (!c),H1,I1,rfl,O1,.bl (!c),S1,h1,st1,ok1,.bl (!c)⟩)
theorem R8(h:Ev X Γ S a λ x S1=>∃i,x=.int i/\W (.int (-i)) S1):Ev X Γ S (.UnaryOp .USub a pos) W:=by
 intro pins s σ H O I env st
 refine UnaryOp_ (thn (h pins s σ H O I env st) λ u s1 hq_=>?_)
 obtain⟨v,H1,I1,r1,O1,x,S1,⟨c,hx,h1⟩,st1,ok1,rep1⟩:=hq_
 subst hx
 cases rep1
 exact SQ pins s1 σ H1 _ _ _ I1 r1 ⟨c,rfl,O1,.int (-c),S1,h1,st1,ok1,.int (-c)⟩
theorem LK{c:Expr}{op op':CmpOp}(h:Ev X Γ S a λ x S1=>Ev X Γ S1 b λ y S2=>bj X op x y S2 λ z S3=>∃k,z=.bl k/\(k=false->W (.bl false) S3)/\(k=true->Ev X Γ S3 c λ t S4=>bj X op' y t S4 W))
 (hm:lastMarks [op,op'] [b,c]=false:=by with_unfolding_all rfl):Ev X Γ S (.Compare a [op,op'] [b,c] pos) W:=by
 intro pins s σ H O I env st
 refine Compare_chain (thn (h pins s σ H O I env st) λ u s1 hq_=>?_) hm
 obtain⟨v,H1,I1,r1,O1,x,S1,hb,st1,ok1,rep1⟩:=hq_
 refine chain_link (thn (hb pins s1 σ H1 O1 I1 (env.mono st1) ok1) λ u' s2 hq_=>?_)
 obtain⟨w,H2,I2,r2,O2,y,S2,hw,st2,ok2,rep2⟩:=hq_
 refine thn (hw pins s2 σ H2 O2 v w u u' I2 ok2 (rep1.mono st2) rep2 r1 r2) λ _ s3 hq_=>?_
 obtain⟨z,H3,I3,r3,O3,d,S3,⟨k,hd,k1,k2⟩,st3,ok3,rep3⟩:=hq_
 subst hd
 cases rep3
 cases r3
 refine wpAny_truthy_bool ?_
 cases k with
 | false=>exact ite_ff ⟨.bl false,H3,I3,rfl,O3,.bl false,S3,k1 rfl,(st1.trans st2).trans st3,ok3,.bl false⟩
 | true=>
   refine ite_tt (chain_last (thn (k2 rfl pins s3 σ H3 O3 I3 (((env.mono st1).mono st2).mono st3) ok3) λ u4 s4 hq_=>?_))
   obtain⟨w4,H4,I4,r4,O4,t,S4,h4,st4,ok4,rep4⟩:=hq_
   exact thn (h4 pins s4 σ H4 O4 w w4 u' u4 I4 ok4 ((rep2.mono st3).mono st4) rep4 r2 r4) λ _ _ q=>dY (((st1.trans st2).trans st3).trans st4) q
theorem jD{W:List D->%[|4]}(w:W [] S):EvA X Γ S [] W:=λ _ pins s σ H O I _ st=>Calls.spliced_nil ⟨[],H,I,.nil,O,[],S,w,Step.refl O H,st,.nil⟩
theorem cG{W:List D->%[|4]}(h:Ev X Γ S e λ d S1=>EvA X Γ S1 es λ ds S2=>W (d::ds) S2)(hs:starEach (e::es) X.env=(false,eval e X.env)::starEach es X.env:=by rfl):EvA X Γ S (e::es) W:=by
 intro pos pins s σ H O I env st
 rw[hs]
 show wpAny _ _ (spliced ((false,eval e X.env)::backTo pos (starEach es X.env))) _ _ s
 refine Calls.spliced_cons (thn (h pins s σ H O I env st) λ u s1 hq_=>?_)
 obtain⟨v,H1,I1,r1,O1,x,S1,hb,st1,ok1,rep1⟩:=hq_
 exact thn (hb pos pins s1 σ H1 O1 I1 (env.mono st1) ok1) λ us s2 hq_=>by obtain⟨xs,H2,I2,r2,O2,ds,S2,w,st2,ok2,rep2⟩:=hq_;exact⟨v::xs,H2,I2,.cons r1 r2,O2,x::ds,S2,w,st1.trans st2,ok2,.cons (rep1.mono st2) rep2⟩
theorem small{n:Nat}(h:n≤1000000):n≤sizeLine:=Nat.le_trans h %[|3]
theorem Rj(st:StOk K O H S)(h:H p=none):Tp K O (upd H p (.tup xs)) p xs:=⟨st.fresh_not h,aH⟩
theorem GZ(st:StOk K O H S)(h:H p=none):Ls K O (upd H p (.lst xs)) p xs:=.inl ⟨st.fresh_not h,.inl aH⟩
theorem jr(w:W (.tup ds) S)(st:StOk K O H S)(h:H p=none)(r:Reps K O H xs ds):QG K O H W (.ref p) (upd H p (.tup xs)):=
 ⟨O,.tup ds,S,w,Step.fresh h _,st.fresh h _,.tup (Rj st h) (r.mono (Step.fresh h _))⟩
theorem jx(w:W (.lst ds) S)(st:StOk K O H S)(h:H p=none)(r:Reps K O H xs ds):QG K O H W (.ref p) (upd H p (.lst xs)):=
 ⟨O,.lst ds,S,w,Step.fresh h _,st.fresh h _,.lst (GZ st h) (r.mono (Step.fresh h _))⟩
theorem Hn(w:W (.loc S.length) (S++[ds]))(st:StOk K O H S)(h:H p=none)(r:Reps K O H xs ds):QG K O H W (.ref p) (upd H p (.lst xs)):=
 ⟨O.more p,.loc S.length,S++[ds],w,Step.own h _,st.own h r,.loc (by show(O.A++[(p,false)])[S.length]? =some (p,false);rw[←st.len];simp)⟩
theorem Uc{x1}(h:EvA X Γ S es λ ds S1=>ds.length≤1000000/\W (.tup ds) S1):Ev X Γ S (.Tuple es x1 pos) W:=by
 intro pins s σ H O I env st
 refine wpAny_Tuple_spliced (thn (h pos pins s σ H O I env st) λ us s1 hq_=>?_)
 obtain⟨xs,H1,I1,r,O1,ds,S1,⟨z,w⟩,st1,ok1,rep⟩:=hq_
 refine⟨by rw[←r.length,rep.length];exact small z,?_⟩
 have hf:H1 s1.heap.objs.size=none:=I1.hok.fresh (y9 _)
 refine⟨.ref s1.heap.objs.size,upd H1 s1.heap.objs.size (.tup xs),I1.laid (t':=s1.toks) (λ b u e=>ZC _ e) (y9 _) ?_,rfl,(jr w ok1 hf rep).pre st1⟩
 exact⟨by rw[rep.length];exact small z,us,r,⟨_,ZD _ rfl,rfl,_,rfl⟩⟩
theorem TF(h:EvA X Γ S es λ ds S1=>ds.length≤1000000/\W (.lst ds) S1):Ev X Γ S (.List es pos) W:=by
 intro pins s σ H O I env st
 refine wpAny_List_spliced (thn (h pos pins s σ H O I env st) λ us s1 hq_=>?_)
 obtain⟨xs,H1,I1,r,O1,ds,S1,⟨z,w⟩,st1,ok1,rep⟩:=hq_
 refine⟨by rw[←r.length,rep.length];exact small z,?_⟩
 have hf:H1 s1.heap.objs.size=none:=I1.hok.fresh (y9 _)
 refine⟨.ref s1.heap.objs.size,upd H1 s1.heap.objs.size (.lst xs),I1.laid (t':=s1.toks) (λ b u e=>ZC _ e) (y9 _) ?_,rfl,(jx w ok1 hf rep).pre st1⟩
 exact⟨by rw[rep.length];exact small z,us,0,r,ZD _ rfl⟩
theorem Ql(h:EvA X Γ S es λ ds S1=>ds.length≤1000000/\W (.loc S1.length) (S1++[ds])):Ev X Γ S (.List es pos) W:=by
 intro pins s σ H O I env st
 refine wpAny_List_spliced (thn (h pos pins s σ H O I env st) λ us s1 hq_=>?_)
 obtain⟨xs,H1,I1,r,O1,ds,S1,⟨z,w⟩,st1,ok1,rep⟩:=hq_
 refine⟨by rw[←r.length,rep.length];exact small z,?_⟩
 have hf:H1 s1.heap.objs.size=none:=I1.hok.fresh (y9 _)
 refine⟨.ref s1.heap.objs.size,upd H1 s1.heap.objs.size (.lst xs),I1.laid (t':=s1.toks) (λ b u e=>ZC _ e) (y9 _) ?_,rfl,(Hn w ok1 hf rep).pre st1⟩
 exact⟨by rw[rep.length];exact small z,us,0,r,ZD _ rfl⟩
theorem fZ{op:Operator}{C:Int->Int->Prop}{g:Int->Int->Int}(ho:OpR X (binaryOp op) (rI C λ i j=>.int (g i j))){i j:Int}(c:C i j)(w:W (.int (g i j)) S):cW X op (.int i) (.int j) S W:=
 d8 ho λ O H v w' st r1 r2=>by cases r1;cases r2;exact⟨i,j,rfl,rfl,c,QG.here w st (.int _)⟩
theorem zR{op:Operator}{g:Int->Int->Int}(ho:OpR X (binaryOp op) (rI0 λ i j=>.int (g i j))){i j:Int}(w:W (.int (g i j)) S):cW X op (.int i) (.int j) S W:=
 d8 ho λ O H v w' st r1 r2=>by cases r1;cases r2;exact⟨i,j,rfl,rfl,QG.here w st (.int _)⟩
theorem Vs(w:W (.int (i+j)) S):cW X .Add (.int i) (.int j) S W:=zR Tf w
theorem U4(w:W (.int (i-j)) S):cW X .Sub (.int i) (.int j) S W:=zR R6 w
theorem UT(c:CMul i j)(w:W (.int (i*j)) S):cW X .Mult (.int i) (.int j) S W:=fZ Ra c w
theorem Vb(c:0<j)(w:W (.int (i % j)) S):cW X .Mod (.int i) (.int j) S W:=fZ Sx c w
theorem Ti(c:0<j/\j<1073741824)(w:W (.int (i/j)) S):cW X .FloorDiv (.int i) (.int j) S W:=fZ Ou c w
theorem Ur(c:CPow i j)(w:W (.int (i ^ j.toNat)) S):cW X .Pow (.int i) (.int j) S W:=fZ Rm c w
theorem m9{op:CmpOp}{g:Int->Int->Bool}(ho:OpR X (compareOp op) (rI0 λ i j=>.bl (g i j))){i j:Int}(w:W (.bl (g i j)) S):bj X op (.int i) (.int j) S W:=
 d8 ho λ O H v w' st r1 r2=>by cases r1;cases r2;exact⟨i,j,rfl,rfl,QG.here w st (.bl _)⟩
theorem Vx(w:W (.bl (decide (i<j))) S):bj X .Lt (.int i) (.int j) S W:=m9 Vj w
theorem VH(w:W (.bl (decide (i≤j))) S):bj X .LtE (.int i) (.int j) S W:=m9 Ve w
theorem V5(w:W (.bl (decide (j<i))) S):bj X .Gt (.int i) (.int j) S W:=m9 Vu w
theorem V6(w:W (.bl (decide (j≤i))) S):bj X .GtE (.int i) (.int j) S W:=m9 Uq w
theorem Vn(w:W (.bl (decide (i=j))) S):bj X .Eq (.int i) (.int j) S W:=
 d8 M7 λ O H v w' st r1 r2=>by
  cases r1;cases r2
  have e:decide (V.int i=V.int j)=decide (i=j):=by rw[mZ];exact(Bool.beq_eq_decide_eq i j)
  exact⟨rfl,by rw[e];exact QG.here w st (.bl _)⟩
theorem Uz(w:W (.bl (!decide (i=j))) S):bj X .NotEq (.int i) (.int j) S W:=
 d8 Nh λ O H v w' st r1 r2=>by
  cases r1;cases r2
  have e:decide (V.int i=V.int j)=decide (i=j):=by rw[mZ];exact(Bool.beq_eq_decide_eq i j)
  exact⟨rfl,by rw[e];exact QG.here w st (.bl _)⟩
theorem Vk{i j:Bool}(w:W (.bl (i==j)) S):bj X .Eq (.bl i) (.bl j) S W:=
 d8 M7 λ O H v w' st r1 r2=>by
  cases r1;cases r2
  exact⟨rfl,by rw[qO];exact QG.here w st (.bl _)⟩
theorem Uy{i j:Bool}(w:W (.bl (!(i==j))) S):bj X .NotEq (.bl i) (.bl j) S W:=
 d8 Nh λ O H v w' st r1 r2=>by
  cases r1;cases r2
  exact⟨rfl,by rw[qO];exact QG.here w st (.bl _)⟩
theorem Vq(w:W (.bl (match x with | .non=>true | _=>false)) S):bj X .Is x .non S W:=
 d8 R1 λ O H v w' st r1 r2=>by
  cases r2
  refine⟨rfl,?_⟩
  cases r1<;>exact QG.here w st (.bl _)
theorem Qh(w:W (.bl (match x with | .non=>false | _=>true)) S):bj X .IsNot x .non S W:=
 d8 Og λ O H v w' st r1 r2=>by
  cases r2
  refine⟨rfl,?_⟩
  cases r1<;>exact QG.here w st (.bl _)
theorem Tu{es:List D}(hz:ds.length+es.length≤1000000)(w:W (.tup (ds++es)) S):cW X .Add (.tup ds) (.tup es) S W:=by
 intro pins s σ H O v w' u u' I st r1 r2 r3 r4
 cases r1 with
 | @tup a xs _ h1 q1=>
   cases r2 with
   | @tup b ys _ h2 q2=>
     by_cases hx:xs=[]
     . subst hx
       have e:ds=[]:=by have:=q1.length;simpa using this.symm
       subst e
       cases r3
       cases r4
       obtain⟨its,v1,p1,_⟩:=I.tuple h1.sq
       obtain⟨its2,v2,p2,_⟩:=I.tuple h2.sq
       cases v1
       obtain⟨⟨cls,dd,data,sl⟩,ho,hc,n,hd⟩:=id p1
       obtain⟨⟨cls2,dd2,data2,sl2⟩,ho2,hc2,n2,hd2⟩:=id p2
       simp only at hc hd hc2 hd2
       subst hc hd hc2 hd2
       exact concat_meets ⟨_,ho,rfl⟩ ⟨_,ho2,rfl⟩ noFill_tuple_add seq_tuple_add PySem.F.slot_tuple_add PySem.F.entry_tuple_add (PySem.F.args_tuple_add_2 _ _)
        (tuple_addW0 a b ([]:List Value).toArray its2.toArray n n2 dd dd2 sl sl2 rfl) ⟨ho,ho2,⟨.ref b,H,I,rfl,QG.here w st (.tup h2 q2)⟩⟩
     . refine Oj pins s σ H _ _ u u' _ I r3 r4 ⟨a,b,xs,ys,rfl,rfl,h1.sq,h2.sq,hx,by rw[q1.length,q2.length];exact small hz,λ e=>?_,λ _ p hp=>jr w st hp (q1.append q2)⟩
       subst e
       have e:es=[]:=by have:=q2.length;simpa using this.symm
       subst e
       rw[List.append_nil]at w
       exact QG.here w st (.tup h1 q1)
theorem RB{es:List D}(hz:ds.length+es.length≤1000000)(w:W (.lst (ds++es)) S):cW X .Add (.lst ds) (.lst es) S W:=by
 intro pins s σ H O v w' u u' I st r1 r2 r3 r4
 cases r1 with
 | @lst a xs _ h1 q1=>
   cases r2 with
   | @lst b ys _ h2 q2=>
     cases r3
     cases r4
     obtain⟨its,v1,p1,_⟩:=I.list h1.sq
     obtain⟨its2,v2,p2,_⟩:=I.list h2.sq
     obtain⟨⟨cls,dd,data,sl⟩,n,ho,hc,hdd,hd⟩:=id p1
     obtain⟨⟨cls2,dd2,data2,sl2⟩,n2,ho2,hc2,hdd2,hd2⟩:=id p2
     simp only at hc hd hc2 hd2
     subst hc hd hc2 hd2
     have z:its.length+its2.length≤sizeLine:=by rw[←v1.length,←v2.length,q1.length,q2.length];exact small hz
     refine concat_meets ⟨_,ho,rfl⟩ ⟨_,ho2,rfl⟩ noFill_list_add seq_list_add PySem.F.slot_list_add PySem.F.entry_list_add (PySem.F.args_list_add_2 _ _)
      (list_addW a b its.toArray its2.toArray n n2 dd dd2 sl sl2 (by simpa using z)) ⟨ho,ho2,?_⟩
     have ea:its.toArray++its2.toArray=(its++its2).toArray:=by simp
     rw[ea]
     refine⟨.ref s.heap.objs.size,_,I.lnew (t':=s.toks) (v1.append v2) (by rw[x6,q1.length,q2.length];exact small hz),rfl,jx w st I.fresh (q1.append q2)⟩
end
end DL
namespace DL
open PySem PySem.Spec L2
open PyProof.Rows
variable {K : PySem.W.Frag} {O : Own} {H : Hp} {xs : List V} {ds : List D} {i : Int} {d : D} {k : Nat} {x : Str} {p : Pos}
section
variable {X : Cx} {Γ : Gam} {S : Store} {W : WD} {a b e : Expr} {es : List Expr} {pos : Pos}
def IxW(X:Cx)(a b:Expr)(x y:D)(S:Store)(W:WD):Prop:=
 ∀ (pins:Pins)(s:Shared)(σ:St)(H:Hp)(O:Own)(v w:V)(u u':Value),%[|5]->StOk X.K O H S->Rep X.K O H v x->Rep X.K O H w y->RelV v u->RelV w u'->
   subscripted b false u u'=operate [u,u'] (getItem u u')->wpAny %[|6] X.A (subscriptTail a b u u') (EP X pins σ (QG X.K O H W)) X.xe s
theorem U0(h:Ev X Γ S a λ x S1=>Ev X Γ S1 b λ y S2=>IxW X a b x y S2 W)(hs:DX b:=by intro _ _;rfl):Ev X Γ S (.Subscript a b pos) W:=by
 intro pins s σ H O I env st
 refine Subscript_ (thn (h pins s σ H O I env st) λ u s1 hq_=>?_)
 obtain⟨v,H1,I1,r1,O1,x,S1,hb,st1,ok1,rep1⟩:=hq_
 refine thn (hb pins s1 σ H1 O1 I1 (env.mono st1) ok1) λ u' s2 hq_=>?_
 obtain⟨w,H2,I2,r2,O2,y,S2,hw,st2,ok2,rep2⟩:=hq_
 exact thn (hw pins s2 σ H2 O2 v w u u' I2 ok2 (rep1.mono st2) rep2 r1 r2 (hs _ _)) λ _ _ q=>dY (st1.trans st2) q
theorem rQ(r:Reps K O H xs ds)(h:atI ds i=some d):∃v,atI xs i=some v/\Rep K O H v d:=by
 unfold atI at h ⊢
 rw[r.length]
 cases e:ixN ds.length i with
 | none=>rw[e]at h;cases h
 | some j=>
   rw[e]at h
   exact r.get (i:=j) h
theorem U5(h:atI ds i=some d)(w:W d S):IxW X a b (.tup ds) (.int i) S W:=by
 intro pins s σ H O v w' u u' I st r1 r2 r3 r4 hs
 cases r2
 cases r1 with
 | @tup p xs _ h1 q1=>
   obtain⟨z,hz,rz⟩:=rQ q1 h
   exact SJ a b pins s σ H _ _ u u' _ I r3 r4 ⟨p,xs,i,z,rfl,rfl,h1.sq,hz,QG.here w st rz⟩ hs
theorem UJ(h:atI ds i=some d)(w:W d S):IxW X a b (.lst ds) (.int i) S W:=by
 intro pins s σ H O v w' u u' I st r1 r2 r3 r4 hs
 cases r2
 cases r1 with
 | @lst p xs _ h1 q1=>
   obtain⟨z,hz,rz⟩:=rQ q1 h
   exact DG a b pins s σ H _ _ u u' _ I r3 r4 ⟨p,xs,i,z,rfl,rfl,h1.sq,hz,QG.here w st rz⟩ hs
theorem Uk(hk:S[k]? =some ds)(h:atI ds i=some d)(w:W d S):IxW X a b (.loc k) (.int i) S W:=by
 intro pins s σ H O v w' u u' I st r1 r2 r3 r4 hs
 cases r2
 cases r1 with
 | @loc p _ h1=>
   obtain⟨xs,hx,q1⟩:=st.obj k p ds h1 hk
   obtain⟨z,hz,rz⟩:=rQ q1 h
   exact DG a b pins s σ H _ _ u u' _ I r3 r4 ⟨p,xs,i,z,rfl,rfl,SqL.of hx,hz,QG.here w st rz⟩ hs
def PoD(X:Cx)(Γ:Gam)(S:Store)(o:Option Expr)(W:Option Int->%[|4]):Prop:=match o with
 | none=>W none S
 | some e=>Ev X Γ S e λ d S1=>∃i,d=.int i/\W (some i) S1
def SlW(X:Cx)(x:D)(lo hi:Option Int)(S:Store)(W:WD):Prop:=
 ∀ (pins:Pins)(s:Shared)(σ:St)(H:Hp)(O:Own)(v:V)(u vl vu:Value)(sl:Addr),%[|5]->StOk X.K O H S->Rep X.K O H v x->RelV v u->s.heap.IsSliceOf sl vl vu .none->IsPart vl lo->IsPart vu hi->
   ∃T id,typeLookup (.type T) "__getitem__"=pure (some (.builtin id))/\s.TypeIs u T/\wpAny %[|6] X.A (getItem u (.ref sl)) (EP X pins σ (QG X.K O H W)) X.xe s
theorem HB{W:Option Int->%[|4]}{o:Option Expr}(h:PoD X Γ S o W){pins:Pins}{s:Shared}{σ:St}{H:Hp}{O:Own}(I:%[|5])(env:EnvOk X.K O H σ Γ)(st:StOk X.K O H S):
 wpAny %[|6] X.A (evalPart o X.env) (λ u s'=>∃p H' O' S',Inv X pins σ H' s'/\IsPart u p/\W p S'/\Step O O' H H'/\StOk X.K O' H' S') X.xe s:=by
 cases o with
 | none=>
   rw[evalPart_none]
   exact ZB ⟨none,H,O,S,I,.none,h,Step.refl O H,st⟩
 | some e=>
   rw[evalPart_some]
   refine thn (h pins s σ H O I env st) λ u s1 hq_=>?_
   obtain⟨v,H1,I1,r1,O1,x,S1,⟨i,hx,w⟩,st1,ok1,rep1⟩:=hq_
   subst hx
   cases rep1
   obtain⟨t,rfl⟩:=r1
   exact⟨some i,H1,O1,S1,I1,.int i t,w,st1,ok1⟩
theorem K4{lo hi:Option Expr}{p2:Pos}(h:Ev X Γ S e λ x S1=>PoD X Γ S1 lo λ l S2=>PoD X Γ S2 hi λ r S3=>SlW X x l r S3 W):Ev X Γ S (.Subscript e (.Slice lo hi none p2) pos) W:=by
 intro pins s σ H O I env st
 refine Subscript_ (thn (h pins s σ H O I env st) λ v s1 hq_=>?_)
 obtain⟨y,H1,I1,r1,O1,x,S1,hb,st1,ok1,rep1⟩:=hq_
 refine wpAny_Slice (thn (HB hb I1 (env.mono st1) ok1) λ vl s2 hq_=>?_)
 obtain⟨l,H2,O2,S2,I2,pl,hc,st2,ok2⟩:=hq_
 refine thn (HB hc I2 ((env.mono st1).mono st2) ok2) λ vu s3 hq_=>?_
 obtain⟨r,H3,O3,S3,I3,pu,hd,st3,ok3⟩:=hq_
 rw[evalPart_none]
 refine ZB ?_
 have I4:Inv X pins σ H3 {s3 with heap:=s3.heap.push {cls:=.type "slice",data:=.fields #[vl,vu,.none]}}:=I3.kept (t':=s3.toks) λ b ob q=>ZC _ q
 obtain⟨T,id,hT,ht,hg⟩:=hd pins {s3 with heap:=s3.heap.push {cls:=.type "slice",data:=.fields #[vl,vu,.none]}} σ H3 O3 y v vl vu s3.heap.objs.size I4 ok3 ((rep1.mono st2).mono st3) r1 (Heap.IsSliceOf.new ..) pl pu
 show wpAny %[|6] X.A (subscriptTail e (.Slice lo hi none p2) v (.ref s3.heap.objs.size)) _ X.xe {s3 with heap:=s3.heap.push {cls:=.type "slice",data:=.fields #[vl,vu,.none]}}
 exact tail_any (ops:=[.ref s3.heap.objs.size,v]) ht hT (thn hg λ _ _ q=>dY ((st1.trans st2).trans st3) q) (by with_unfolding_all rfl)
def cutD(ds:List D)(lo hi:Option Int):List D:=(ds.drop (HT.sIx ds.length 0 lo)).take (HT.sIx ds.length ds.length hi-HT.sIx ds.length 0 lo)
theorem tu(r:Reps K O H xs ds)(lo hi:Option Int):Reps K O H (mC xs lo hi) (cutD ds lo hi):=by
 unfold mC cutD
 rw[r.length]
 exact(r.drop _).take _
theorem Bd{prog:Program}{w:World}{A:Around}{E:%[|7]}{s:Shared}{t sl:Addr}{items:Array Value}{vl vu:Value}{lo hi:Option Int}{Q:%[|7]}(ht:IsTup s.heap t items)(hs:s.heap.IsSliceOf sl vl vu .none)(pl:IsPart vl lo)(pu:IsPart vu hi)
 (h0:HT.sIx items.size 0 lo=0)(h1:HT.sIx items.size items.size hi=items.size)(h:Q (.ref t) s):wpAny (model prog w) A (getItem (.ref t) (.ref sl)) Q E s:=by
 obtain⟨os,hos,hcs,hds⟩:=id hs
 have isS:s.TypeIs (.ref sl) "slice":=⟨os,hos,hcs⟩
 unfold getItem
 try with_reducible refine ZQ ?_
 first | refine ZA (ZB ?_) | skip
 refine ZA (wpAny_sequenceKey ht.typeIs %[|3] ?_)
 refine ZA (wpAny_callSpecial?_slot (name:=Str.ofString "__getitem__") ht.typeIs PyProof.Rows.slot_tuple_getitem
  (ZP PyProof.Rows.slot_tuple_getitem ht.typeIs entry_tuple_getitem ?_ (args_tuple_getitem _ _)))
 show wpAny _ _ (Builtin.Tuple.tupleItemsOf (.ref t)>>=_) _ _ s
 refine ZA (tupleItemsOf_ ht (ZA (wpAny_typeOf isS ?_)))
 rw[if_pos %[|3]]
 refine ZA (HT.sliceApplied_gen hs pl pu ?_)
 rw[h0,h1]
 show wpAny _ _ (if(((0:Nat):Int)==0&&(1:Int)==1&&(items.size-0)==items.size)=true then _ else _) _ _ s
 rw[if_pos (by simp)]
 unfold Builtin.Tuple.tupleIsExact
 first
  | exact ZA (ZA (wpAny_typeOf ht.typeIs (ZB (by rw[if_pos %[|3]];exact ZA (wpAny_rule (ZB ⟨_,rfl,ZB h⟩))))))
  | (refine ZA (ZA (wpAny_typeOf ht.typeIs (ZB ?_)))
     simp only[beq_self_eq_true,if_true]
     exact ZA (wpAny_rule (ZB ⟨_,rfl,ZB h⟩)))
theorem Up{lo hi:Option Int}(w:W (.tup (cutD ds lo hi)) S):SlW X (.tup ds) lo hi S W:=by
 intro pins s σ H O v u vl vu sl I st r1 r3 hs pl pu
 cases r1 with
 | @tup p xs _ h1 q1=>
   by_cases hw:HT.sIx xs.length 0 lo=0/\HT.sIx xs.length xs.length hi=xs.length
   . cases r3
     obtain⟨its,r,ht,hz⟩:=I.tuple h1.sq
     have hlen:its.toArray.size=xs.length:=by rw[x4];exact r.length.symm
     refine⟨"tuple",_,PyProof.Rows.slot_tuple_getitem.lookup,ht.typeIs,Bd ht hs pl pu (by rw[hlen];exact hw.1) (by rw[hlen];exact hw.2) ⟨.ref p,H,I,rfl,?_⟩⟩
     have e:cutD ds lo hi=ds:=by
      unfold cutD
      rw[←q1.length,hw.1,hw.2,List.drop_zero,List.take_of_length_le (by rw[←q1.length];omega)]
     rw[e]at w
     exact QG.here w st (.tup h1 q1)
   . exact Q8 pins s σ H _ u vl vu lo hi sl _ I r3 hs pl pu ⟨p,xs,rfl,h1.sq,hw,λ p' hp=>jr w st hp (tu q1 lo hi)⟩
theorem Vo{lo hi:Option Int}(w:W (.lst (cutD ds lo hi)) S):SlW X (.lst ds) lo hi S W:=by
 intro pins s σ H O v u vl vu sl I st r1 r3 hs pl pu
 cases r1 with
 | @lst p xs _ h1 q1=>exact DR pins s σ H _ u vl vu lo hi sl _ I r3 hs pl pu ⟨p,xs,rfl,h1.sq,λ p' hp=>jx w st hp (tu q1 lo hi)⟩
theorem M3{id:String}(h:EvA X Γ S (e::es) λ ds S1=>dM X (.builtin id) ds S1 W)(hm:X.mg x=none)(hv:bootBuiltins x=some (.builtin id))(hg:Gl X x:=by rfl)(hn:x≠"__name__":=by decide)(hdb:(x==("__debug__":Str))=false:=by decide)
 (he:starEach (e::es) X.env=(false,eval e X.env)::starEach es X.env:=by rfl)(hpl:(backTo pos (starEach es X.env)).any (·.1)=false:=by rfl):Ev X Γ S (.Call (.Name x p) (e::es) [] pos) W:=by
 intro pins s σ H O I env st
 refine wpAny_Call_Name_kw (cz I hg hm hv ?_ hn hdb)
 exact PyProof.Rows.callWith_builtin1 (thn (h pos pins s σ H O I env st) λ us s1 hq_=>by obtain⟨vs,H1,I1,r1,O1,ds,S1,w,st1,ok1,rep⟩:=hq_;exact thn (w pins s1 σ H1 O1 vs us I1 ok1 rep r1) λ _ _ q=>dY st1 q) he hpl
theorem LR{T:String}(h:EvA X Γ S (e::es) λ ds S1=>dM X (.type T) ds S1 W)(hm:X.mg x=none)(hv:bootBuiltins x=some (.type T))(hg:Gl X x:=by rfl)(hn:x≠"__name__":=by decide)(hdb:(x==("__debug__":Str))=false:=by decide)
 (he:starEach (e::es) X.env=(false,eval e X.env)::starEach es X.env:=by rfl)(hpl:(backTo pos (starEach es X.env)).any (·.1)=false:=by rfl):Ev X Γ S (.Call (.Name x p) (e::es) [] pos) W:=by
 intro pins s σ H O I env st
 refine wpAny_Call_Name_kw (cz I hg hm hv ?_ hn hdb)
 exact PyProof.Rows.callWith_type1 (thn (h pos pins s σ H O I env st) λ us s1 hq_=>by obtain⟨vs,H1,I1,r1,O1,ds,S1,w,st1,ok1,rep⟩:=hq_;exact thn (w pins s1 σ H1 O1 vs us I1 ok1 rep r1) λ _ _ q=>dY st1 q) he hpl
theorem dw{vs:List V}(r:Reps K O H vs [d]):∃v,vs=[v]/\Rep K O H v d:=by
 cases r with
 | cons a t=>cases t;exact⟨_,rfl,a⟩
theorem Ro(w:W (.int ds.length) S):dM X (.builtin "len") [.tup ds] S W:=cJ g8 λ O H vs st r=>by
 obtain⟨v,rfl,r'⟩:=dw r
 cases r' with
 | @tup p xs _ h1 q1=>exact⟨p,xs,rfl,.inr h1.sq,by rw[q1.length];exact QG.here w st (.int _)⟩
theorem Rq(w:W (.int ds.length) S):dM X (.builtin "len") [.lst ds] S W:=cJ g8 λ O H vs st r=>by
 obtain⟨v,rfl,r'⟩:=dw r
 cases r' with
 | @lst p xs _ h1 q1=>exact⟨p,xs,rfl,.inl h1.sq,by rw[q1.length];exact QG.here w st (.int _)⟩
theorem TQ(hk:S[k]? =some ds)(w:W (.int ds.length) S):dM X (.builtin "len") [.loc k] S W:=cJ g8 λ O H vs st r=>by
 obtain⟨v,rfl,r'⟩:=dw r
 cases r' with
 | @loc p _ h1=>
   obtain⟨xs,hx,q1⟩:=st.obj k p ds h1 hk
   exact⟨p,xs,rfl,.inl (SqL.of hx),by rw[q1.length];exact QG.here w st (.int _)⟩
theorem R3(w:W (.tup ds) S):dM X (.type "tuple") [.lst ds] S W:=cJ kO λ O H vs st r=>by
 obtain⟨v,rfl,r'⟩:=dw r
 cases r' with
 | @lst p xs _ h1 q1=>exact⟨p,xs,rfl,.inl ⟨h1.sq,λ l hl=>jr w st hl q1⟩⟩
theorem QX(hk:S[k]? =some ds)(w:W (.tup ds) S):dM X (.type "tuple") [.loc k] S W:=cJ kO λ O H vs st r=>by
 obtain⟨v,rfl,r'⟩:=dw r
 cases r' with
 | @loc p _ h1=>
   obtain⟨xs,hx,q1⟩:=st.obj k p ds h1 hk
   exact⟨p,xs,rfl,.inl ⟨SqL.of hx,λ l hl=>jr w st hl q1⟩⟩
abbrev Ct:=List D->Store->WD->Prop
def spC(K:PySem.W.Frag)(n:Nat)(F:Ct):Sp:=λ vs H Q _=>∃O ds S W,ds.length=n/\Reps K O H vs ds/\StOk K O H S/\F ds S W/\∀v H',QG K O H W v H'->Q v H'
structure Callee(P:Program)(w:World)(K:PySem.W.Frag)(mg:Str->Option Value)(base:Heap)(x:Str)(k n:Nat)(F:Ct):Prop where
 ex:∃f fd ps,FnOk P w K mg base CX0 k f fd ps (spC K n F)/\mg x=some (.ref f)/\PySem.W.keepIn K (.ref f)=true/\Binds K fd ps []
theorem Qa{n:Nat}{F:Ct}(C:Callee X.prog X.w X.K X.mg X.base x k n F)(hr:Room k X.A)(h:EvA X Γ S (e::es) λ ds S1=>ds.length=n/\F ds S1 W)(hg:Gl X x:=by rfl)(hdb:(x==("__debug__":Str))=false:=by decide)
 (he:starEach (e::es) X.env=(false,eval e X.env)::starEach es X.env:=by rfl)(hpl:(backTo pos (starEach es X.env)).any (·.1)=false:=by rfl):Ev X Γ S (.Call (.Name x p) (e::es) [] pos) W:=by
 intro pins s σ H O I env st
 obtain⟨f,fd,ps,hF,hm,hk,hb⟩:=C.ex
 refine wpAny_Call_Name_kw (Di I hg hm ?_ hdb)
 refine PySem.W.callWith_K (h₀:=X.base) I.ok.mod.kin hk (thn (h pos pins s σ H O I env st) λ us s1 hq_=>?_) he hpl
 obtain⟨vs,H1,I1,r1,O1,ds,S1,⟨hl,w⟩,st1,ok1,rep⟩:=hq_
 refine⟨I1.kIn,?_⟩
 refine Tt hF hr hb .nil Ui I1 r1 ?_
 rw[List.append_nil]
 exact⟨O1,ds,S1,W,hl,rep,ok1,w,λ v H' q=>q.pre st1⟩
structure Fin where
 nx:Gam->%[|4]
 rt:WD
 bk:Gam->%[|4]:=λ _ _=>False
 ct:Gam->%[|4]:=λ _ _=>False
def QN(K:PySem.W.Frag)(O:Own)(H:Hp)(W:Gam->%[|4]):St->Hp->Prop:=λ σ' H'=>∃O' Γ' S',W Γ' S'/\Step O O' H H'/\StOk K O' H' S'/\EnvOk K O' H' σ' Γ'
def ends(K:PySem.W.Frag)(O:Own)(H:Hp)(W:Fin):Ends:={nx:=QN K O H W.nx,rt:=QG K O H W.rt,bk:=QN K O H W.bk,ct:=QN K O H W.ct}
def Rn(X:Cx)(Γ:Gam)(S:Store)(st:Stmt)(W:Fin):Prop:=
 ∀ (pins:Pins)(s:Shared)(σ:St)(H:Hp)(O:Own),%[|5]->EnvOk X.K O H σ Γ->StOk X.K O H S->
   wpAny %[|6] X.A (exec st X.env) (SP X pins (ends X.K O H W)) X.xe s
def Rns(X:Cx)(Γ:Gam)(S:Store)(sts:List Stmt)(W:Fin):Prop:=
 ∀ (pins:Pins)(s:Shared)(σ:St)(H:Hp)(O:Own),%[|5]->EnvOk X.K O H σ Γ->StOk X.K O H S->
   wpAny %[|6] X.A (execs sts X.env) (SP X pins (ends X.K O H W)) X.xe s
theorem QN.pre{O1:Own}{H1:Hp}(st:Step O O1 H H1){W:Gam->%[|4]}{v:St}{H':Hp}(q:QN K O1 H1 W v H'):QN K O H W v H':=by
 obtain⟨O',d,S',w,s',ok,r⟩:=q
 exact⟨O',d,S',w,st.trans s',ok,r⟩
theorem Gf{pins:Pins}{O1:Own}{H1:Hp}{W:Fin}(st:Step O O1 H H1){f:Flow}{s':Shared}(q:SP X pins (ends X.K O1 H1 W) f s'):SP X pins (ends X.K O H W) f s':=by
 cases f with
 | next=>obtain⟨σ,H',I,q⟩:=q;exact⟨σ,H',I,QN.pre st q⟩
 | brk=>obtain⟨σ,H',I,q⟩:=q;exact⟨σ,H',I,QN.pre st q⟩
 | cont=>obtain⟨σ,H',I,q⟩:=q;exact⟨σ,H',I,QN.pre st q⟩
 | ret u=>obtain⟨v,σ,H',I,r,q⟩:=q;exact⟨v,σ,H',I,r,QG.pre st q⟩
variable {W : Fin} {st : Stmt} {sts : List Stmt}
theorem SX(w:W.nx Γ S):Rns X Γ S [] W:=λ pins s σ H O I env st=>wpAny_execs_nil ⟨σ,H,I,O,Γ,S,w,Step.refl O H,st,env⟩
theorem QS(h:Rn X Γ S st {W with nx:=λ Γ1 S1=>Rns X Γ1 S1 sts W}):Rns X Γ S (st::sts) W:=by
 intro pins s σ H O I env ok
 refine wpAny_execs_cons (thn (h pins s σ H O I env ok) λ f s1 q=>?_)
 cases f with
 | next=>
   obtain⟨σ',H',I',O1,Γ1,S1,w,st1,ok1,env1⟩:=q
   exact thn (w pins s1 σ' H' O1 I' env1 ok1) λ _ _ q=>Gf st1 q
 | ret v=>exact q
 | brk=>exact q
 | cont=>exact q
theorem Vi(h:Ev X Γ S e W.rt):Rn X Γ S (.Return (some e) pos) W:=by
 intro pins s σ H O I env ok
 exact wpAny_Return_some (thn (h pins s σ H O I env ok) λ v s1 ⟨x,H1,I1,r1,q1⟩=>⟨x,σ,H1,I1,r1,q1⟩)
theorem VN{c:Expr}{xs ys:List Stmt}(h:Ts X Γ S c λ k S1=>(k=true->Rns X Γ S1 xs W)/\(k=false->Rns X Γ S1 ys W)):Rn X Γ S (.If c xs ys pos) W:=by
 intro pins s σ H O I env ok
 refine wpAny_If (thn (h pins s σ H O I env ok) λ d s1 hq_=>?_)
 obtain⟨H1,I1,O1,S1,w,st1,ok1⟩:=hq_
 cases d with
 | true=>exact thn (w.1 rfl pins s1 σ H1 O1 I1 (env.mono st1) ok1) λ _ _ q=>Gf st1 q
 | false=>exact thn (w.2 rfl pins s1 σ H1 O1 I1 (env.mono st1) ok1) λ _ _ q=>Gf st1 q
theorem Nt(i:Nat){x:Str}{pos':Pos}(h:Ev X Γ S e λ d S1=>W.nx (Γ.set i (some d)) S1)(hN:X.N.Nodup)(hi:X.N[i]? =some x:=by rfl)(hx:Loc X.env.scope x:=by first | exact Or.inl rfl | exact Or.inr rfl)
 (hs:swapsWith e (some (.Name x pos')) pos.line X.env=pure false:=by rfl)(hf:X.fn x=true∨X.env.scope.names.lookup x=some .local:=by first | exact .inl rfl | exact .inr rfl):Rn X Γ S (.Assign [.Name x pos'] e pos) W:=by
 intro pins s σ H O I env ok
 refine wpAny_Assign_Name (thn (h pins s σ H O I env ok) λ v s1 hq_=>?_) hs
 obtain⟨y,H1,I1,r1,O1,d,S1,w,st1,ok1,rep1⟩:=hq_
 exact gh I1 hN hi hx r1 (λ s2 I2=>⟨_,H1,I2,O1,_,S1,w,st1,ok1,(env.mono st1).set rep1 i⟩) hf
theorem RT(h:Ev X Γ S e λ d S1=>W.nx Γ S1)(hs:swapsWith e none pos.line X.env=pure false:=by rfl):Rn X Γ S (.Expr e pos) W:=by
 intro pins s σ H O I env ok
 exact wpAny_Expr_any (thn (h pins s σ H O I env ok) λ v s1 hq_=>by obtain⟨x,H1,I1,r1,O1,d,S1,w,st1,ok1,rep1⟩:=hq_;exact⟨σ,H1,I1,O1,Γ,S1,w,st1,ok1,env.mono st1⟩) I.quiet hs
def tE(K:PySem.W.Frag)(Γ:Gam)(S:Store)(W:WD):TE:=λ σ H Q=>∃O,EnvOk K O H σ Γ/\StOk K O H S/\∀v H',QG K O H W v H'->Q v H'
theorem Rt{pins:Pins}{σ:St}{Q Q':VK}{u:Value}{s':Shared}(q:EP X pins σ Q u s')(k:∀v H',Q v H'->Q' v H'):EP X pins σ Q' u s':=by
 obtain⟨v,H',I,r,q⟩:=q
 exact⟨v,H',I,r,k v H' q⟩
theorem Ev.pe{W:WD}(h:Ev X Γ S e W):PE X e (tE X.K Γ S W):=λ pins s σ H Q I ⟨O,env,st,k⟩=>thn (h pins s σ H O I env st) λ _ _ q=>Rt q k
def tEA(K:PySem.W.Frag)(Γ:Gam)(S:Store)(W:List D->%[|4]):TA:=λ σ H Q=>∃O,EnvOk K O H σ Γ/\StOk K O H S/\∀v H',QA K O H W v H'->Q v H'
theorem EvA.pa{W:List D->%[|4]}(h:EvA X Γ S es W):PA X es (tEA X.K Γ S W):=λ pos pins s σ H Q I ⟨O,env,st,k⟩=>thn (h pos pins s σ H O I env st) λ _ _ ⟨v,H',I',r,q⟩=>⟨v,H',I',r,k v H' q⟩
theorem Qo{o i:Expr}{tpos:Pos}(h:Ev X Γ S e λ d S1=>Ev X Γ S1 o λ x S2=>Ev X Γ S2 i λ y S3=>∃k n ds j,x=.loc k/\y=.int n/\S3[k]? =some ds/\ixN ds.length n=some j/\W.nx Γ (S3.set k (ds.set j d)))
 (ha:∀v,assign (.Subscript o i tpos) X.env v=(do
  let ov ←holding [v] (eval o X.env)
  let iv ←holding [v,ov] (eval i X.env)
  standAt tpos
  holding [v,ov,iv] (setItem ov iv v)
  release [v,ov,iv] []):=by intro _;rfl)(hs:swapsWithSole [.Subscript o i tpos] e pos.line X.env=pure false:=by rfl)(hw:swappedStores [.Subscript o i tpos] e X.env=pure none:=by rfl)
 (h1:(assignEach [.Subscript o i tpos] X.env).map (·.2)=[assign (.Subscript o i tpos) X.env]:=by rfl):Rn X Γ S (.Assign [.Subscript o i tpos] e pos) W:=by
 intro pins s σ H O I env ok
 refine wpAny_Assign_stores (thn (h pins s σ H O I env ok) λ u s1 hq_=>?_) hs hw
 obtain⟨v,H1,I1,r1,O1,d,S1,w1,st1,ok1,rep1⟩:=hq_
 rw[h1]
 show wpAny _ _ (assign (.Subscript o i tpos) X.env u) _ _ _
 rw[ha]
 refine ZA (ZQ (thn (w1 pins s1 σ H1 O1 I1 (env.mono st1) ok1) λ ov s2 hq_=>?_))
 obtain⟨x,H2,I2,r2,O2,dx,S2,w2,st2,ok2,rep2⟩:=hq_
 refine ZA (ZQ (thn (w2 pins s2 σ H2 O2 I2 ((env.mono st1).mono st2) ok2) λ iv s3 hq_=>?_))
 obtain⟨y,H3,I3,r3,O3,dy,S3,⟨k,n,ds,j,ex,ey,hk,hj,w⟩,st3,ok3,rep3⟩:=hq_
 subst ex
 subst ey
 have rx:=rep2.mono st3
 cases rx with
 | @loc p _ hp=>
   cases rep3
   obtain⟨xs,hx,q⟩:=ok3.obj k p ds hp hk
   have rd:=(rep1.mono st2).mono st3
   refine ZA (wpAny_standAt (ZA (ZQ (thn (set_list pins s3 σ H3 _ _ v ov iv u (λ H'=>H'=upd H3 p (.lst (xs.set j v))) I3 r2 r3 r1 ⟨p,xs,n,j,rfl,rfl,hx,by rw[q.length];exact hj,rfl⟩) λ _ s4 hq_=>?_))))
   obtain⟨H4,I4,e4⟩:=hq_
   subst e4
   refine wpAny_release ⟨σ,_,I4,O3,Γ,_,w,((st1.trans st2).trans st3).trans (Step.put (bZ hp) _),ok3.put hp (q.set rd j),(((env.mono st1).mono st2).mono st3).mono (Step.put (bZ hp) _)⟩
def BdW(X:Cx)(tg:Expr)(d:D)(Γ:Gam)(S:Store)(W:Gam->%[|4]):Prop:=
 ∀ (pins:Pins)(s:Shared)(σ:St)(H:Hp)(O:Own)(v:V)(u:Value),%[|5]->EnvOk X.K O H σ Γ->StOk X.K O H S->Rep X.K O H v d->RelV v u->
   wpAny %[|6] X.A (assign tg X.env u) (λ _ s'=>∃σ' H',Inv X pins σ' H' s'/\QN X.K O H W σ' H') X.xe s
def xT(X:Cx)(ts:List Expr)(ds:List D)(Γ:Gam)(S:Store)(W:Gam->%[|4]):Prop:=
 ∀ (pins:Pins)(s:Shared)(σ:St)(H:Hp)(O:Own)(vs:List V)(us:List Value),%[|5]->EnvOk X.K O H σ Γ->StOk X.K O H S->Reps X.K O H vs ds->Vals vs us->
   wpAny %[|6] X.A (assignInOrder ((assignEach ts X.env).map (·.2)) us) (λ _ s'=>∃σ' H',Inv X pins σ' H' s'/\QN X.K O H W σ' H') X.xe s
theorem Oh(i:Nat){x:Str}{d:D}{W:Gam->%[|4]}(w:W (Γ.set i (some d)) S)(hN:X.N.Nodup)(hi:X.N[i]? =some x:=by rfl)(hx:Loc X.env.scope x:=by first | exact Or.inl rfl | exact Or.inr rfl)
 (hf:X.fn x=true∨X.env.scope.names.lookup x=some .local:=by first | exact .inl rfl | exact .inr rfl):BdW X (.Name x pos) d Γ S W:=λ pins s σ H O v u I env st r ru=>
 wpAny_assign_Name (gh I hN hi hx ru (λ s' I'=>⟨_,H,I',O,_,S,w,Step.refl O H,st,env.set r i⟩) hf)
theorem Ot{W:Gam->%[|4]}(w:W Γ S):xT X [] [] Γ S W:=λ pins s σ H O vs us I env st r ru=>by
 cases r
 cases ru
 exact assignInOrder_nil ⟨σ,H,I,O,Γ,S,w,Step.refl O H,st,env⟩
theorem Lj{t:Expr}{ts:List Expr}{W:Gam->%[|4]}(h:BdW X t d Γ S λ Γ1 S1=>xT X ts ds Γ1 S1 W)
 (hs:(assignEach (t::ts) X.env).map (·.2)=assign t X.env::(assignEach ts X.env).map (·.2):=by rfl):xT X (t::ts) (d::ds) Γ S W:=λ pins s σ H O vs us I env st r ru=>by
 cases r with
 | cons r rr=>
   cases ru with
   | cons ru rru=>
     rw[hs]
     refine assignInOrder_cons (thn (h pins s σ H O _ _ I env st r ru) λ _ s1 hq_=>?_)
     obtain⟨σ1,H1,I1,O1,Γ1,S1,w,st1,ok1,env1⟩:=hq_
     refine thn (w pins s1 σ1 H1 O1 _ _ I1 env1 ok1 (rr.mono st1) rru) λ _ s2 hq_=>by obtain⟨σ2,H2,I2,q⟩:=hq_;exact⟨σ2,H2,I2,QN.pre st1 q⟩
theorem Rk{ts:List Expr}{W:Gam->%[|4]}(h:xT X ts ds Γ S W)(hc:X.calm=true:=by rfl)(hn:(assignEach ts X.env).length=ds.length:=by rfl)(hst:(assignEach ts X.env).findIdx? (·.1)=none:=by rfl):BdW X (.Tuple ts k pos) (.tup ds) Γ S W:=λ pins s σ H O v u I env st r ru=>by
 cases r with
 | @tup p xs _ h1 q1=>
   cases ru
   obtain⟨its,rv,ht,hz⟩:=I.tuple h1.sq
   refine assign_Tuple_tuple (I.ok.hd hc) ht (by simp[hn,←q1.length,rv.length]) hst λ h' hx=>?_
   have I1:Inv X pins σ H {s with heap:=h'}:=I.kept (t':=s.toks) λ b o e=>hx b o (w9 (ZE e)) e
   exact h pins _ σ H O xs _ I1 env st q1 (by simpa using rv)
def gR(K:PySem.W.Frag)(J:It)(O:Own)(H:Hp)(ds:List D):Prop:=
 ∀(O':Own)(H':Hp),Conv O O' H H'->(∀a,O'.has a->H' a≠none)->∀i:Nat,(∀d,ds[i]? =some d->J.go i H'/\∀x H'',J.yld i H' x H''->c7 H' H''/\Rep K O' H'' x d)/\(i=ds.length->J.stop i H')
def QI(K:PySem.W.Frag)(O:Own)(H:Hp)(W:List D->%[|4]):It->Hp->Prop:=λ J H'=>∃O' ds S',W ds S'/\Step O O' H H'/\StOk K O' H' S'/\gR K J O' H' ds
def ItW(X:Cx)(Γ:Gam)(S:Store)(tg iter:Expr)(W:List D->%[|4]):Prop:=
 ∀ (pins:Pins)(s:Shared)(σ:St)(H:Hp)(O:Own),%[|5]->EnvOk X.K O H σ Γ->StOk X.K O H S->
   wpAny %[|6] X.A (eval iter X.env) (λ v s1=>wpAny %[|6] X.A (pyIter v) (PIE X pins σ tg (QI X.K O H W)) X.xe s1) X.xe s
theorem oW{a:Addr}(h:Ls K O H a xs)(r:Reps K O H xs ds):gR K (Itl K a) O H ds:=by
 intro O' H' st _ i
 have hq:=(h.conv st).sq
 refine⟨λ d hd=>?_,λ hi=>⟨xs,hq,by rw[r.length];exact Nat.le_of_eq hi.symm⟩⟩
 obtain⟨v,hv,rv⟩:=r.get hd
 refine⟨⟨xs,v,hq,hv⟩,λ x H'' y=>?_⟩
 obtain⟨e,y⟩:=y
 subst e
 have e:=y xs hq
 rw[hv]at e
 cases e
 exact⟨c7.refl _,rv.conv st⟩
theorem qW{a:Addr}(h:Tp K O H a xs)(r:Reps K O H xs ds):gR K (Itt K a) O H ds:=by
 intro O' H' st _ i
 have hq:=(h.conv st).sq
 refine⟨λ d hd=>?_,λ hi=>⟨xs,hq,by rw[r.length];exact Nat.le_of_eq hi.symm⟩⟩
 obtain⟨v,hv,rv⟩:=r.get hd
 refine⟨⟨xs,v,hq,hv⟩,λ x H'' y=>?_⟩
 obtain⟨e,y⟩:=y
 subst e
 have e:=y xs hq
 rw[hv]at e
 cases e
 exact⟨c7.refl _,rv.conv st⟩
def upTo(lo:Int)(n:Nat):List D:=(List.range n).map λ(k:Nat)=>D.int (lo+(k:Int))
theorem au(lo:Int)(n:Nat):(upTo lo n).length=n:=by simp[upTo]
theorem bO{lo:Int}{n i:Nat}(h:(upTo lo n)[i]? =some d):i<n/\d=.int (lo+i):=by
 unfold upTo at h
 rw[y8]at h
 cases e:(List.range n)[i]? with
 | none=>rw[e]at h;cases h
 | some k=>
   rw[e]at h
   obtain⟨hl,hk⟩:=z0.mp e
   simp at hl hk
   subst hk
   cases h
   exact⟨hl,rfl⟩
theorem lX(lo:Int)(n:Nat):gR K (Itr lo n) O H (upTo lo n):=by
 intro O' H' st _ i
 refine⟨λ d hd=>?_,λ hi=>by rw[au]at hi;exact Nat.le_of_eq hi.symm⟩
 obtain⟨hi,ed⟩:=bO hd
 subst ed
 refine⟨hi,λ x H'' y=>?_⟩
 obtain⟨e,ex⟩:=y
 subst e
 subst ex
 exact⟨c7.refl _,.int _⟩
theorem Il{tg a:Expr}{W:List D->%[|4]}(h:Ev X Γ S a λ d S1=>∃j:Int,d=.int j/\ -(2 ^ 62)≤j/\j<2 ^ 62/\W (upTo 0 j.toNat) S1)(hm:X.mg "range"=none)(hg:Gl X "range":=by rfl)(hs:starEach [a] X.env=[(false,eval a X.env)]:=by rfl):
 ItW X Γ S tg (.Call (.Name "range" p) [a] [] pos) W:=by
 intro pins s σ H O I env st
 refine JH hg hm (nH h.pe xF hs) hs pins s σ H _ I ⟨O,env,st,λ v H' q=>?_⟩
 obtain⟨O',d,S',⟨j,ed,h1,h2,w⟩,st1,ok1,rep⟩:=q
 subst ed
 cases rep
 exact⟨j,rfl,h1,h2,O',_,S',w,st1,ok1,lX 0 _⟩
theorem Hu{tg a b:Expr}{W:List D->%[|4]}(h:Ev X Γ S a λ d S1=>Ev X Γ S1 b λ d' S2=>∃i j:Int,d=.int i/\d'=.int j/\(-(2 ^ 62)≤i/\i<2 ^ 62/\ -(2 ^ 62)≤j/\j<2 ^ 62)/\W (upTo i (j-i).toNat) S2)(hm:X.mg "range"=none)(hg:Gl X "range":=by rfl)
 (hs:starEach [a,b] X.env=[(false,eval a X.env),(false,eval b X.env)]:=by rfl)(hs2:starEach [b] X.env=[(false,eval b X.env)]:=by rfl):
 ItW X Γ S tg (.Call (.Name "range" p) [a,b] [] pos) W:=by
 intro pins s σ H O I env st
 have hA:EvA X Γ S [a,b] λ ds S2=>∃i j:Int,ds=[.int i,.int j]/\(-(2 ^ 62)≤i/\i<2 ^ 62/\ -(2 ^ 62)≤j/\j<2 ^ 62)/\W (upTo i (j-i).toNat) S2:=
  cG (h.mono λ d S1 h1=>cG (h1.mono λ d' S2 ⟨i,j,e1,e2,hb,w⟩=>jD ⟨i,j,by rw[e1,e2],hb,w⟩) hs2) (by rw[hs,hs2])
 refine Iw hg hm hA.pa hs hs2 pins s σ H _ I ⟨O,env,st,λ v H' q=>?_⟩
 obtain⟨O',ds,S',⟨i,j,ed,hb,w⟩,st1,ok1,rep⟩:=q
 subst ed
 cases rep with
 | cons r1 r2=>
   cases r2 with
   | cons r2 r3=>
     cases r3
     cases r1
     cases r2
     exact⟨i,j,rfl,hb,O',_,S',w,st1,ok1,lX i _⟩
theorem Uo{tg iter:Expr}{body:List Stmt}(h:ItW X Γ S tg iter λ ds S1=>∃Pv:Nat->Gam->%[|4],Pv 0 Γ S1/\
 (∀i d Γ' S',ds[i]? =some d->Pv i Γ' S'->BdW X tg d Γ' S' λ Γ2 S2=>Rns X Γ2 S2 body {W with nx:=Pv (i+1),ct:=Pv (i+1),bk:=W.nx})/\(∀Γ' S',Pv ds.length Γ' S'->W.nx Γ' S'))
 (hp:PassesOwn %[|6] X.A X.env X.xe:=by exact PassesOwn.never)(hc:X.calm=true:=by rfl)(hs:∀x,foldedSetIterable iter X.env x=pure x:=by intro _;rfl):Rn X Γ S (.For tg iter body [] pos) W:=by
 intro pins s σ H O I env ok
 let WI:List D->%[|4]:=λ ds S1=>∃Pv:Nat->Gam->%[|4],Pv 0 Γ S1/\
     (∀i d Γ' S',ds[i]? =some d->Pv i Γ' S'->BdW X tg d Γ' S' λ Γ2 S2=>Rns X Γ2 S2 body {W with nx:=Pv (i+1),ct:=Pv (i+1),bk:=W.nx})/\(∀Γ' S',Pv ds.length Γ' S'->W.nx Γ' S')
 have hI:PI X tg iter (λ σ H R=>∃O,EnvOk X.K O H σ Γ/\StOk X.K O H S/\∀J H',QI X.K O H WI J H'->R J H'):=λ pins s σ H R I hh=>by
  obtain⟨O,env,st,k⟩:=hh
  refine thn (h pins s σ H O I env st) λ _ _ q=>thn q λ _ _ q2=>?_
  obtain⟨it,fp,tn,J,H',e1,e2,e3,e4,e5,e6⟩:=q2
  exact⟨it,fp,tn,J,H',e1,e2,e3,e4,e5,k J H' e6⟩
 have hG:PG X tg (λ v σ H Q=>∃O d Γ S W',EnvOk X.K O H σ Γ/\StOk X.K O H S/\Rep X.K O H v d/\BdW X tg d Γ S W'/\∀σ' H',QN X.K O H W' σ' H'->Q σ' H'):=λ pins s σ H v u Q I ru hh=>by
  obtain⟨O,d,Γ,S,W',env,st,r,b,k⟩:=hh
  refine thn (b pins s σ H O v u I env st r ru) λ _ _ q2=>?_
  obtain⟨σ',H',I',q⟩:=q2
  exact⟨σ',H',I',k σ' H' q⟩
 have hB:PSs X body (λ D σ H=>∃O Γ S W',EnvOk X.K O H σ Γ/\StOk X.K O H S/\Rns X Γ S body W'/\(∀σ' H',QN X.K O H W'.nx σ' H'->D.nx σ' H')/\(∀v H',QG X.K O H W'.rt v H'->D.rt v H')/\(∀σ' H',QN X.K O H W'.bk σ' H'->D.bk σ' H')/\∀σ' H',QN X.K O H W'.ct σ' H'->D.ct σ' H'):=
  λ pins s σ H D I hh=>by
   obtain⟨O,Γ,S,W',env,st,b,k1,k2,k3,k4⟩:=hh
   refine thn (b pins s σ H O I env st) λ f s' q=>?_
   cases f with
   | next=>obtain⟨σ',H',I',q⟩:=q;exact⟨σ',H',I',k1 σ' H' q⟩
   | brk=>obtain⟨σ',H',I',q⟩:=q;exact⟨σ',H',I',k3 σ' H' q⟩
   | cont=>obtain⟨σ',H',I',q⟩:=q;exact⟨σ',H',I',k4 σ' H' q⟩
   | ret u=>obtain⟨v,σ',H',I',r,q⟩:=q;exact⟨v,σ',H',I',r,k2 v H' q⟩
 refine IV hp hc hI hG hB hs pins s σ H _ I ⟨O,env,ok,λ J H1 q=>?_⟩
 obtain⟨O1,ds,S1,⟨Pv,p0,pt,pe⟩,st1,ok1,yl⟩:=q
 refine⟨λ i m σ' H'=>m=ds.length-i/\i≤ds.length/\∃O' Γ' S',Pv i Γ' S'/\Step O1 O' H1 H'/\StOk X.K O' H' S'/\EnvOk X.K O' H' σ' Γ',⟨ds.length,by simp,Nat.zero_le _,O1,Γ,S1,p0,Step.refl _ _,ok1,env.mono st1⟩,?_⟩
 rintro i m σ2 H2 ⟨rfl,hi,O2,Γ2,S2,p2,st2,ok2,env2⟩
 obtain⟨y1,y2⟩:=yl O2 H2 st2.conv (λ a ha=>ok2.tracked ha) i
 by_cases hlt:i<ds.length
 . obtain⟨go,yy⟩:=y1 ds[i] (y3 hlt)
   refine .inr ⟨go,λ σ' H'=>i+1≤ds.length/\∃O' Γ' S',Pv (i+1) Γ' S'/\Step O1 O' H1 H'/\StOk X.K O' H' S'/\EnvOk X.K O' H' σ' Γ',λ σ' H' q=>⟨ds.length-(i+1),%[|0],rfl,q.1,q.2⟩,λ x H3 y=>?_⟩
   obtain⟨sm,rx⟩:=yy x H3 y
   have st3:=Step.same (O:=O2) sm
   refine⟨O2,ds[i],Γ2,S2,_,env2.mono st3,ok2.same sm,rx,pt i ds[i] Γ2 S2 (y3 hlt) p2,λ σ4 H4 q4=>?_⟩
   obtain⟨O4,Γ4,S4,w4,st4,ok4,env4⟩:=q4
   have stA:=(st2.trans st3).trans st4
   refine⟨O4,Γ4,S4,_,env4,ok4,w4,?_,?_,?_,?_⟩
   . rintro σ5 H5 ⟨O5,Γ5,S5,w5,st5,ok5,env5⟩
     exact⟨hlt,O5,Γ5,S5,w5,stA.trans st5,ok5,env5⟩
   . exact λ v H' q=>QG.pre (st1.trans stA) q
   . exact λ σ' H' q=>QN.pre (st1.trans stA) q
   . rintro σ5 H5 ⟨O5,Γ5,S5,w5,st5,ok5,env5⟩
     exact⟨hlt,O5,Γ5,S5,w5,stA.trans st5,ok5,env5⟩
 . have e:i=ds.length:=%[|0]
   subst e
   exact .inl ⟨y2 rfl,O2,Γ2,S2,pe Γ2 S2 p2,st1.trans st2,ok2,env2⟩
theorem Vh {P:Program}{w:World}{mg:Str->Option Value}{base:Heap}{qual:Str}{sm:Stmt}{f:Addr}{fd:FuncData}{N ps:%[|2]}{F:Ct}(FF:Fun K x qual sm f fd)(SC:FnScope N ps (aL sm))
 (body:∀(cdv:Value)(A:Around)(outer:List Env)(s:Shared)(H:Hp)(E:XK)(ds:List D)(S:Store)(W:WD),fd.code=cdv->Room k (A.deeper (envOfC qual (aL sm) s.heap.objs.size f cdv))->ds.length=ps.length->F ds S W->
  Rns (mQ CX0 P w K mg base N qual (aL sm) f cdv A outer s H E).nox (ds.map some++List.replicate (N.length-ds.length) none) S (cA sm) {nx:=λ _ S1=>W .non S1,rt:=W}):FnOk P w K mg base CX0 (k+1) f fd ps (spC K ps.length F):=by
 obtain⟨oc,od,kV,doc,pm,an,cdv,ct,osl,rfl,lk,hcd⟩:=FF.ex
 refine U6 lk hcd SC (λ vs H Q E h=>?_) λ A outer s H vs Q E hr h=>?_
 . obtain⟨O,ds,S,W,hl,r,_⟩:=h
   rw[r.length,hl]
 . obtain ⟨O,ds,S,W,hl,r,st,hF,q⟩:=h
   have hB:=body cdv A outer s H E ds S W rfl hr hl hF
   suffices key:∃t,PSs (mQ CX0 P w K mg base N qual (aL sm) f cdv A outer s H E).nox (cA sm) t/\t {nx:=λ _ H'=>Q .non H',rt:=Q} (L2.start N vs) H from let ⟨t,h,q⟩:=key;⟨t,h.nox,q⟩
   refine⟨λ D σ H'=>∃O Γ S W',EnvOk K O H' σ Γ/\StOk K O H' S/\Rns (mQ CX0 P w K mg base N qual (aL sm) f cdv A outer s H E).nox Γ S (cA sm) W'/\(∀σ' H2,QN K O H' W'.nx σ' H2->D.nx σ' H2)/\(∀v H2,QG K O H' W'.rt v H2->D.rt v H2)/\(∀σ' H2,QN K O H' W'.bk σ' H2->D.bk σ' H2)/\∀σ' H2,QN K O H' W'.ct σ' H2->D.ct σ' H2,?_,?_⟩
   . intro pins s σ H' D I ⟨O,Γ,S,W',env,st,b,k1,k2,k3,k4⟩
     refine thn (b pins s σ H' O I env st) λ f s' q=>?_
     cases f with
     | next=>obtain⟨σ',H',I',q⟩:=q;exact⟨σ',H',I',k1 σ' H' q⟩
     | brk=>obtain⟨σ',H',I',q⟩:=q;exact⟨σ',H',I',k3 σ' H' q⟩
     | cont=>obtain⟨σ',H',I',q⟩:=q;exact⟨σ',H',I',k4 σ' H' q⟩
     | ret u=>obtain⟨v,σ',H',I',r,q⟩:=q;exact⟨v,σ',H',I',r,k2 v H' q⟩
   . refine⟨O,_,S,_,?_,st,hB,?_,?_,?_,?_⟩
     . have hv:vs.length=ds.length:=r.length
       refine⟨by simp[L2.start,hv],λ i d h=>?_⟩
       by_cases hi:i<ds.length
       . rw[x8 (by simpa using hi),y8]at h
         cases e:ds[i]? with
         | none=>rw[e]at h;cases h
         | some d'=>
           rw[e]at h
           cases h
           obtain⟨v,hv',rv⟩:=r.get e
           refine⟨v,?_,rv⟩
           unfold L2.start
           rw[x8 (by rw[y7,hv];exact hi),y8,hv']
           rfl
       . rw[List.getElem?_append_right (by simpa using hi),List.getElem?_replicate]at h
         split at h<;>cases h
     . rintro σ' H2 ⟨O',Γ',S',w,st',ok',_⟩
       exact q _ _ ⟨O',.non,S',w,st',ok',.non⟩
     . exact λ v H2 z=>q v H2 z
     . rintro σ' H2 ⟨_,_,_,w,_⟩
       exact w.elim
     . rintro σ' H2 ⟨_,_,_,w,_⟩
       exact w.elim
end
end DL
namespace DL
open PySem PySem.Spec L2
open PyProof.Rows
variable {K : PySem.W.Frag} {O : Own} {H : Hp} {s : Shared}
def rk(env:Env)(n:Str)(k:NameKind):NameKind:=if(k==NameKind.free&&env.scope.kind==.function&&env.kindOf n==some .cell)=true then .cell else k
theorem jZ(sc:Scope)(env:Env):(relabel sc env).names=sc.names.map λ p=>(p.1,rk env p.1 p.2):=by
 show sc.names.map _=_
 congr 1
 funext p
 obtain⟨n,k⟩:=p
 unfold rk
 by_cases h:(k==NameKind.free&&env.scope.kind==.function&&env.kindOf n==some .cell)=true
 . simp only[h,if_true]
 . simp only[h,if_false,Bool.false_eq_true]
theorem dO(g:Str->NameKind->NameKind)(x:Str):∀names:List (Str×NameKind),(names.map λ p=>(p.1,g p.1 p.2)).lookup x=(names.lookup x).map (g x)
 | []=>rfl
 | (n,k)::r=>by
   have ih:=dO g x r
   rw[List.map_cons,List.lookup_cons,List.lookup_cons]
   cases hx:x==n with
   | true=>rw[ZI hx];rfl
   | false=>exact ih
theorem pG(env:Env)(n:Str)(k:NameKind):rk env n k=k∨(k=.free/\rk env n k=.cell):=by
 unfold rk
 by_cases h:(k==NameKind.free&&env.scope.kind==.function&&env.kindOf n==some .cell)=true
 . rw[if_pos h]
   rw[Bool.and_eq_true,Bool.and_eq_true]at h
   exact .inr ⟨ZI h.1.1,rfl⟩
 . rw[if_neg h];exact .inl rfl
theorem jm{env:Env}{sc:Scope}{x:Str}{k:NameKind}(h:(relabel sc env).names.lookup x=some k):∃k0,sc.names.lookup x=some k0/\(k=k0∨(k0=.free/\k=.cell)):=by
 rw[jZ,dO]at h
 cases e:sc.names.lookup x with
 | none=>rw[e]at h;cases h
 | some k0=>
   rw[e]at h
   have h':rk env x k0=k:=Option.some.inj h
   refine⟨k0,rfl,?_⟩
   rcases pG env x k0 with q | ⟨q1,q2⟩
   . exact .inl (h'.symm.trans q)
   . exact .inr ⟨q1,h'.symm.trans q2⟩
theorem wU{env:Env}{sc:Scope}{x:Str}(h:sc.names.lookup x=some .free):(relabel sc env).names.lookup x=some .cell∨(relabel sc env).names.lookup x=some .free:=by
 rw[jZ,dO,h]
 rcases pG env x .free with q | ⟨_,q⟩
 . exact .inr (congrArg some q)
 . exact .inl (congrArg some q)
def closes(env:Env):List (Str×NameKind)->List (Str×Addr)->List (Str×Addr)
 | [],cs=>cs
 | (n,k)::r,cs=>closes env r (if k==.free then(n,(env.cells.lookup n).getD 0)::cs else cs)
theorem oN{env:Env}:∀(names:List (Str×NameKind))(cs:List (Str×Addr)),(∀y∈names,y.2=.free->∃c,env.cells.lookup y.1=some c)->
 (forIn (m:=Sem) names cs λ x r=>if(x.2==.free)=true then do let a ←cellOf env x.1;pure (ForInStep.yield ((x.1,a)::r))else pure (ForInStep.yield r))=pure (closes env names cs)
 | [],cs,_=>by rw[List.forIn_nil];rfl
 | (n,k)::r,cs,h=>by
   rw[List.forIn_cons]
   have ih:=λ cs=>oN (env:=env) r cs λ y hy=>h y (x3 _ hy)
   by_cases hk:(k==NameKind.free)=true
   . obtain⟨c,hc⟩:=h (n,k) x5 (ZI hk)
     have hc':env.cells.lookup n=some c:=hc
     have e:cellOf env n=pure c:=by unfold cellOf;rw[hc']
     have q:=ih ((n,c)::cs)
     simp only[hk,if_true,e,pure_bind]
     rw[q]
     simp[closes,hk,hc']
   . have q:=ih cs
     simp only[hk,if_false,pure_bind,Bool.false_eq_true]
     rw[q]
     simp[closes,hk]
theorem kJ{env:Env}{sc:Scope}(h:∀y∈sc.names,y.2=.free->∃c,env.cells.lookup y.1=some c):closureFor sc env=pure (closes env sc.names []):=by
 have q:=oN (env:=env) sc.names [] h
 unfold closureFor
 first
  | (simp only[bind_pure];exact q)
  | (rw[show(forIn sc.names ([]:List (Str×Addr)) _:Sem _)=_ from q];rfl)
  | (refine Eq.trans (congrArg (λ t=>t>>=pure) q) ?_;simp)
theorem oR{env:Env}{x:Str}{c:Addr}:∀(names:List (Str×NameKind))(cs:List (Str×Addr)),(∀y∈names,y.2=.free->∃c,env.cells.lookup y.1=some c)->(∀c,cs.lookup x=some c->env.cells.lookup x=some c)->(closes env names cs).lookup x=some c->env.cells.lookup x=some c
 | [],cs,_,hc,h=>hc c h
 | (n, k)::r,cs,hf,hc,h=>by
   refine oR r _ (λ y hy=>hf y (x3 _ hy)) ?_ h
   intro c' h'
   by_cases hk:(k==NameKind.free)=true
   . rw[if_pos hk]at h'
     obtain⟨c2,h2⟩:=hf (n,k) x5 (ZI hk)
     have h2:env.cells.lookup n=some c2:=h2
     rw[List.lookup_cons]at h'
     cases hx:x==n with
     | true=>
       rw[hx,h2]at h'
       have e:x=n:=ZI hx
       subst e
       simp only[Option.getD_some]at h'
       cases h'
       exact h2
     | false=>rw[hx]at h';exact hc c' h'
   . rw[if_neg hk]at h'
     exact hc c' h'
theorem fU{env:Env}{x:Str}:∀(names:List (Str×NameKind))(cs:List (Str×Addr)),((∃c,cs.lookup x=some c)∨names.lookup x=some .free)->∃c,(closes env names cs).lookup x=some c
 | [],cs,h=>by
   rcases h with h | h
   . exact h
   . simp at h
 | (n, k)::r,cs,h=>by
   refine fU r _ ?_
   rcases h with⟨c,h⟩ | h
   . refine .inl ?_
     by_cases hk:(k==NameKind.free)=true
     . rw[if_pos hk,List.lookup_cons]
       cases hx:x==n with
       | true=>exact⟨_,rfl⟩
       | false=>exact⟨c,h⟩
     . rw[if_neg hk];exact⟨c,h⟩
   . rw[List.lookup_cons]at h
     cases hx:x==n with
     | true=>
       rw[hx]at h
       simp only at h
       cases h
       refine .inl ⟨(env.cells.lookup n).getD 0,?_⟩
       simp[List.lookup_cons,hx]
     | false=>rw[hx]at h;exact .inr h
def fB(X:Cx)(sc:Scope)(N:%[|2])(C:Addr)(s:Shared)(H:Hp)(ex:List Addr)(cl:List (Str×Addr)):Cx:=
 {X with N:=N,s₀:=s,H₀:=H,env:=compEnvC sc cl C X.env,outer:=X.stack,stack:=X.stack,ex:=ex,fn:=λ x=>sc.names.lookup x==some .cell,pn:=[]}
def capt{α:Type}(cap:List (Option Nat))(xs:List (Option α)):List (Option α):=cap.map λ o=>o.bind λ j=>(xs[j]?).join
def bc(N:%[|2])(names:List (Str×NameKind))(N':%[|2])(names':List (Str×NameKind)):List (Option Nat)->%[|2]->Bool
 | [],[]=>true
 | none::r,_::t=>bc N names N' names' r t
 | some j::r,x::t=>(N[j]? ==some x)&&(names.lookup x==some .cell||names.lookup x==some .free)&&(names'.lookup x==some .free)&&bc N names N' names' r t
 | _,_=>false
theorem lL{N:%[|2]}{names:List (Str×NameKind)}{N':%[|2]}{names':List (Str×NameKind)}:∀{cap:List (Option Nat)}{t:%[|2]},bc N names N' names' cap t=true->cap.length=t.length
 | [],[],_=>rfl
 | [],_::_,h=>by simp[bc]at h
 | _::_,[],h=>by
   rename_i o r
   cases o<;>simp[bc]at h
 | none::r,_::t,h=>by simp only[bc]at h;simp[lL h]
 | some j::r,x::t,h=>by
   simp only[bc,Bool.and_eq_true]at h
   simp[lL h.2]
theorem pZ{N:%[|2]}{names:List (Str×NameKind)}{N':%[|2]}{names':List (Str×NameKind)}:∀{cap:List (Option Nat)}{t:%[|2]}{i j:Nat},bc N names N' names' cap t=true->cap[i]? =some (some j)->
 ∃x,t[i]? =some x/\N[j]? =some x/\(names.lookup x=some .cell∨names.lookup x=some .free)/\names'.lookup x=some .free
 | [],_,_,_,_,h=>by simp at h
 | none::r,[],_,_,h,_=>by simp[bc]at h
 | some _::r,[],_,_,h,_=>by simp[bc]at h
 | none::r,x::t,0,j,_,h=>by simp at h
 | none::r,x::t,i+1,j,h,e=>by
   simp only[bc]at h
   obtain⟨y,a,b⟩:=pZ (i:=i) h (by simpa using e)
   exact⟨y,by simpa using a,b⟩
 | some k::r,x::t,0,j,h,e=>by
   simp only[bc,Bool.and_eq_true,Bool.or_eq_true,beq_iff_eq]at h
   simp at e
   subst e
   exact⟨x,rfl,h.1.1.1,h.1.1.2,h.1.2⟩
 | some k::r,x::t,i+1,j,h,e=>by
   simp only[bc,Bool.and_eq_true]at h
   obtain⟨y,a,b⟩:=pZ (i:=i) h.2 (by simpa using e)
   exact⟨y,by simpa using a,b⟩
theorem DW{α:Type}{cap:List (Option Nat)}{xs:List (Option α)}{i:Nat}{d:α}(h:(capt cap xs)[i]? =some (some d)):∃j,cap[i]? =some (some j)/\xs[j]? =some (some d):=by
 unfold capt at h
 rw[y8]at h
 cases e:cap[i]? with
 | none=>rw[e]at h;cases h
 | some o=>
   rw[e]at h
   cases o with
   | none=>simp at h
   | some j=>
     simp at h
     refine⟨j,rfl,?_⟩
     cases q:xs[j]? with
     | none=>rw[q]at h;cases h
     | some z=>rw[q]at h;simp at h;rw[h]
theorem EnvOk.capt{σ:St}{Γ:Gam}(e:EnvOk K O H σ Γ)(cap:List (Option Nat)):EnvOk K O H (capt cap σ) (capt cap Γ):=by
 refine⟨by simp[DL.capt],λ i d h=>?_⟩
 obtain⟨j,hj,hd⟩:=DW h
 obtain⟨v,hv,r⟩:=e.at_ j d hd
 refine⟨v,?_,r⟩
 unfold DL.capt
 rw[y8,hj]
 simp[hv]
def Sub(Γ Γ':Gam):Prop:=Γ.length=Γ'.length/\∀(i:Nat)(d:D),Γ[i]? =some (some d)->Γ'[i]? =some (some d)
theorem Sub.refl(Γ:Gam):Sub Γ Γ:=⟨rfl,λ _ _ h=>h⟩
theorem Sub.set{Γ Γ':Gam}(s:Sub Γ Γ')(i:Nat)(d:Option D)(h:Γ[i]? =some none:=by rfl):Sub Γ (Γ'.set i d):=⟨by rw[List.length_set];exact s.1,λ j c hj=>by
 have ne:i≠j:=λ e=>by subst e;rw[h]at hj;cases hj
 rw[List.getElem?_set_ne ne];exact s.2 j c hj⟩
theorem EnvOk.sub{σ:St}{Γ Γ':Gam}(e:EnvOk K O H σ Γ')(s:Sub Γ Γ'):EnvOk K O H σ Γ:=⟨e.len.trans s.1.symm,λ i d h=>e.at_ i d (s.2 i d h)⟩
theorem EnvOk.conv{O':Own}{H':Hp}{σ:St}{Γ:Gam}(e:EnvOk K O H σ Γ)(s:Conv O O' H H'):EnvOk K O' H' σ Γ:=
 ⟨e.len,λ i d h=>let ⟨v,a,b⟩:=e.at_ i d h;⟨v,a,b.conv s⟩⟩
def freeOk(names names':List (Str×NameKind)):Bool:=names'.all λ y=>!(y.2==.free)||(names.lookup y.1==some .cell||names.lookup y.1==some .free)
theorem mq{names names':List (Str×NameKind)}(h:freeOk names names'=true):∀y∈names',y.2=.free->names.lookup y.1=some .cell∨names.lookup y.1=some .free:=λ y hy e=>by
 have q:=List.all_eq_true.mp h y hy
 simp only[e,beq_self_eq_true,Bool.not_true,Bool.false_or,Bool.or_eq_true,beq_iff_eq]at q
 exact q
def yo(names:List (Str×NameKind)):Bool:=match names.filter (λ y=>y.2==.cell)with
 | []=>true
 | [y]=>names.lookup y.1==some .cell
 | _=>false
theorem yE{names:List (Str×NameKind)}(h:names.filter (λ y=>y.2==.cell)=[])(n:Nat)(acc:List (Str×Addr))(hp:Heap):cellsFrom n names acc=acc/\pushCells hp names=hp:=by
 induction names with
 | nil=>exact⟨rfl,rfl⟩
 | cons y r ih=>
   obtain⟨x,k⟩:=y
   rw[List.filter_cons]at h
   by_cases hk:(k==NameKind.cell)=true
   . rw[if_pos hk]at h;cases h
   . rw[if_neg hk]at h
     obtain⟨i1,i2⟩:=ih h
     unfold cellsFrom pushCells
     rw[if_neg hk,if_neg hk]
     exact⟨i1,i2⟩
theorem uw{names:List (Str×NameKind)}{t:Str×NameKind}(h:names.filter (λ y=>y.2==.cell)=[t])(n:Nat)(acc:List (Str×Addr))(hp:Heap):cellsFrom n names acc=(t.1,n)::acc/\pushCells hp names=hp.push {cls:=.type "cell",data:=.cell none}:=by
 induction names with
 | nil=>cases h
 | cons y r ih=>
   obtain⟨x,k⟩:=y
   rw[List.filter_cons]at h
   by_cases hk:(k==NameKind.cell)=true
   . rw[if_pos hk]at h
     have e:=List.cons.inj h
     obtain⟨i1,i2⟩:=yE e.2 (n+1) ((x,n)::acc) (hp.push {cls:=.type "cell",data:=.cell none})
     unfold cellsFrom pushCells
     rw[if_pos hk,if_pos hk,i1,i2,←e.1]
     exact⟨rfl,rfl⟩
   . rw[if_neg hk]at h
     obtain⟨i1,i2⟩:=ih h
     unfold cellsFrom pushCells
     rw[if_neg hk,if_neg hk]
     exact⟨i1,i2⟩
theorem Py{M:Model}{A:Around}{E:%[|7]}{scope:Scope}{globals:Addr}{closure:List (Str×Addr)}{qual:Str}{outer:Env}{Q:Env->%[|8]}
 (hQ:Q (newEnv scope s.heap.objs.size globals (cellsFrom (s.heap.objs.size+1) scope.names closure) qual none .none (some outer) builtinsNs) {s with heap:=pushCells (s.heap.push {cls:=.type "dict",data:=.dict #[]}) scope.names}):
 wpAny M A (newFunctionEnv scope globals closure [] qual none .none (some outer)) Q E s:=by
 simp only[newFunctionEnv,Option.isSome_some,if_true]
 refine ZA (wpAny_alloc ?_)
 refine ZA (wpAny_layCells _ (λ name kind cells=>by cases hkc:kind==NameKind.cell<;>simp[hkc]) _ _ _ _ ?_)
 rw[show({s with heap:=s.heap.push {cls:=.type "dict",data:=.dict #[]}}:Shared).heap.objs.size=s.heap.objs.size+1 from Heap.size_push ..]
 rw[List.forIn_nil]
 exact ZA (ZB (ZB hQ))
structure CelsB(X:Cx)(sc:Scope)(cl:List (Str×Addr))(z:Nat)(h1:Heap):Prop where
 lk:∀x c,cl.lookup x=some c->X.env.cells.lookup x=some c∨(c=z/\sc.names.lookup x=some .cell/\h1.IsCell c none/\∀y,cl.lookup y=some c->y=x)
 has:∀x,sc.names.lookup x=some .cell∨sc.names.lookup x=some .free->∃c,cl.lookup x=some c
 cp:∀x c,sc.names.lookup x=some .free->X.env.cells.lookup x=some c->cl.lookup x=some c
 ow:∀x c,sc.names.lookup x=some .cell->cl.lookup x=some c->z≤c
section
variable {X : Cx}
theorem Ph{pins:Pins}{σ:St}{sc:Scope}{N':%[|2]}{cap:List (Option Nat)}{fp:List Addr}{h1:Heap}{t:Nat}(I:%[|5])(hfp:∀b∈fp,eQ X pins H b)(hob:∀b∈fp,∃o,s.heap.get? b=some o)
 {cl:List (Str×Addr)}(hkind:sc.kind=.function)(hcl:CelsB X sc cl (s.heap.objs.size+2) h1)(hfree:∀y∈sc.names,y.2=.free->X.env.kindOf y.1=some .cell∨X.env.kindOf y.1=some .free)(hcap:bc X.N X.env.scope.names N' sc.names cap N'=true)
 (k:∀b u,s.heap.get? b=some u->h1.get? b=some u)(hD:h1.get? s.heap.objs.size=some {cls:=.type "list",data:=.seq #[] 0})(hC:∃m,h1.Ns (s.heap.objs.size+1) m):
 Inv (fB X sc N' (s.heap.objs.size+1) s H fp cl) [] (capt cap σ) (upd H s.heap.objs.size (.lst [])) {s with heap:=h1,toks:=t}:=by
 have fr0:H s.heap.objs.size=none:=I.hok.fresh (y9 _)
 have fr1:H (s.heap.objs.size+1)=none:=I.hok.fresh (Nat.le_succ _)
 have fr2:H (s.heap.objs.size+2)=none:=I.hok.fresh %[|0]
 have lt:∀b∈fp,b<s.heap.objs.size:=λ b hb=>let ⟨o,e⟩:=hob b hb;ZE e
 have clt:∀{x c},X.env.cells.lookup x=some c->c<s.heap.objs.size:=λ{x c} h=>by
  obtain⟨v,q⟩:=I.cell x c h
  exact q.lt
 refine⟨⟨I.ok.mod,hkind,I.ok.glob,I.ok.blt,Nat.le_succ _,λ x y c a b=>?_,λ x hx=>?_,λ x c z e=>?_,I.ok.hd,I.ok.frames,.inl rfl,λ b hb=>⟨w9 (Nat.lt_succ_of_lt (lt b hb)),λ x c h=>?_⟩,
  I.bs,Nat.le_trans I.ok.bsz I.sz,λ b o e hb=>?_,λ b hb z=>?_,I.stack,I.stkFree⟩,rfl,I.bare,Un.laid k (y9 _) fr0,?_,λ x c h=>?_,?_,λ x c h=>?_,λ p hp=>absurd (show p∈([]:Pins)from hp) (by simp),I.hok.laid k (y9 _) ⟨Nat.zero_le _,[],0,.nil,hD⟩,?_⟩
 . rcases hcl.lk x c a with q | ⟨_,_,_,q⟩
   . rcases hcl.lk y c b with q' | ⟨_,_,_,q'⟩
     . exact I.ok.inj x y c q q'
     . exact q' x a
   . exact(q y b).symm
 . have hx':(relabel sc X.env).names.lookup x=some .cell∨(relabel sc X.env).names.lookup x=some .free:=hx
   have z:sc.names.lookup x=some .cell∨sc.names.lookup x=some .free:=by
    rcases hx' with q | q
    . obtain⟨k0,e,r⟩:=jm q
      rcases r with r | r
      . exact .inl (by rw[e,r])
      . exact .inr (by rw[e,r.1])
    . obtain⟨k0,e,r⟩:=jm q
      rcases r with r | r
      . exact .inr (by rw[e,r])
      . exact absurd r.2 %[|3]
   exact hcl.has x z
 . have z':sc.names.lookup x=some .cell:=ZI z
   have:=hcl.ow x c z' e
   show s.heap.objs.size≤c
   omega
 . rcases hcl.lk x c h with q | ⟨q,_⟩
   . exact(hfp b hb).2.2.2.2.1 x c q
   . exact λ e=>Nat.lt_irrefl _ (x9 (lt b hb) (by rw[←e,q];exact Nat.le_add_right _ _))
 . rcases(hfp b hb).2.2.2.1 with z | z
   . exact I.ok.noex b o e z
   . exact absurd (x9 (ZE e) (Nat.le_trans I.ok.bsz z)) (Nat.lt_irrefl _)
 . rcases ZJ.mp (I.stkSub b z)with q | q
   . exact(hfp b hb).2.1 q
   . exact(hfp b hb).2.2.1 q
 . obtain⟨m,hm⟩:=hC
   refine⟨m,hm,λ i x v e1 e2 e3=>?_⟩
   obtain⟨j,hj,hv⟩:=DW e2
   obtain⟨y,a,b,c,d⟩:=pZ hcap hj
   have e1':N'[i]? =some x:=e1
   rw[a]at e1'
   cases e1'
   obtain⟨m0,hn0,hl⟩:=I.loc
   have vis:Vis X.env.scope x:=by
    rcases c with c | c
    . exact .inr (.inl c)
    . exact .inr (.inr c)
   obtain⟨u,r,l⟩:=hl j x v b hv vis
   refine⟨u,r,?_⟩
   rcases l with⟨q,_⟩ | ⟨q,cc,hc,hcell'⟩
   . exfalso
     have q':X.env.scope.names.lookup x=some .local:=q
     rcases c with c | c<;>· rw[c]at q';cases q'
   . have h2:=hcl.cp x cc d hc
     obtain⟨o,ho,hd⟩:=hcell'
     refine .inr ⟨?_,cc,h2,⟨o,k _ _ ho,hd⟩⟩
     exact wU d
 . rcases hcl.lk x c h with q | ⟨_,_,q,_⟩
   . obtain⟨v,o,ho,hd⟩:=I.cell x c q
     exact⟨v,o,k _ _ ho,hd⟩
   . exact⟨_,q⟩
 . show upd H s.heap.objs.size (.lst []) (s.heap.objs.size+1)=none
   rw[ao (Nat.succ_ne_self _)];exact fr1
 . rcases hcl.lk x c h with q | ⟨q,_⟩
   . rw[ao (w9 (clt q))];exact I.freeC x c q
   . subst q
     rw[ao (Nat.ne_of_gt (Nat.lt_add_of_pos_right %[|3]))];exact fr2
 . show(capt cap σ).length=N'.length
   rw[←lL hcap]
   simp[capt]
theorem ur{α:Type}{t:Sem α}{Q:α->%[|8]}{M:Model}{A:Around}{E E':%[|7]}(hx:E=λ _ _=>False)(h:wpAny M A t Q E s):wpAny M A t Q E' s:=wpAny_mono h (λ _ _ q=>q) λ _ _ z=>by rw[hx]at z;exact z.elim
def TsA(X:Cx)(Γ:Gam)(S:Store):List Expr->(Bool->%[|4])->Prop
 | [],W=>W true S
 | [c],W=>Ts X Γ S c W
 | _,_=>False
theorem PJ{X:Cx}{Γ:Gam}{S:Store}{ifs:List Expr}{W:Bool->%[|4]}(h:TsA X Γ S ifs W){pins:Pins}{s:Shared}{σ:St}{H:Hp}{O:Own}(I:%[|5])(env:EnvOk X.K O H σ Γ)(st:StOk X.K O H S):
 wpAny %[|6] X.A (forIn ifs true λ c r=>if r=true then do let ok ←isTrue c X.env (eval c X.env);pure (ForInStep.yield ok)else pure (ForInStep.yield r)) (TP X pins σ (QT X.K O H W)) X.xe s:=by
 match ifs,h with
 | [],h=>exact wpAny_tests_nil ⟨H,I,O,S,h,Step.refl O H,st⟩
 | [c],h=>exact wpAny_tests_one (h pins s σ H O I env st)
 | _::_::_,h=>exact h.elim
def nO(K:PySem.W.Frag)(J:It)(O:Own)(H:Hp)(C:%[|4])(ds:List D):Prop:=
 ∀(O':Own)(H':Hp)(S':Store),Conv O O' H H'->StOk K O' H' S'->C S'->∀i:Nat,(∀d,ds[i]? =some d->J.go i H'/\∀x H'',J.yld i H' x H''->c7 H' H''/\Rep K O' H'' x d)/\(i=ds.length->J.stop i H')
def QIc(K:PySem.W.Frag)(O:Own)(H:Hp)(W:List D->%[|4]->%[|4]):It->Hp->Prop:=λ J H'=>∃O' ds C S',W ds C S'/\Step O O' H H'/\StOk K O' H' S'/\nO K J O' H' C ds
def ItC(X:Cx)(Γ:Gam)(S:Store)(tg iter:Expr)(W:List D->%[|4]->%[|4]):Prop:=
 ∀ (pins:Pins)(s:Shared)(σ:St)(H:Hp)(O:Own),%[|5]->EnvOk X.K O H σ Γ->StOk X.K O H S->
   wpAny %[|6] X.A (eval iter X.env) (λ v s1=>wpAny %[|6] X.A (pyIter v) (PIE X pins σ tg (QIc X.K O H W)) X.xe s1) X.xe s
theorem pH{J:It}{ds:List D}(y:gR K J O H ds):nO K J O H (λ _=>True) ds:=λ O' H' S' st ok _ i=>y O' H' st (λ a ha=>ok.tracked ha) i
theorem ItW.toC{X:Cx}{Γ:Gam}{S:Store}{tg iter:Expr}{W:List D->%[|4]->%[|4]}(h:ItW X Γ S tg iter λ ds S1=>W ds (λ _=>True) S1):ItC X Γ S tg iter W:=λ pins s σ H O I env st=>
 thn (h pins s σ H O I env st) λ _ _ q=>thn q λ _ _ hq_=>by
  obtain⟨it,fp,tn,J,H',e1,e2,e3,e4,e5,O',ds,S',w,z1,z2,z3⟩:=hq_
  exact⟨it,fp,tn,J,H',e1,e2,e3,e4,e5,O',ds,_,S',w,z1,z2,pH z3⟩
abbrev ww(X:Cx)(sc:Scope)(N':%[|2])(cap:List (Option Nat))(Γ:Gam)(elt tg:Expr)(ifs:List Expr)(W:WD):List D->%[|4]->%[|4]:=λ ds C0 S1=>
 ds.length≤1000000/\∃Pv:Nat->List D->%[|4],Pv 0 [] S1/\(∀i acc S',Pv i acc S'->C0 S')/\
  (∀i d acc S',ds[i]? =some d->Pv i acc S'->∀(C:Addr)(s:Shared)(H:Hp)(ex:List Addr)(cl:List (Str×Addr)),BdW (fB X sc N' C s H ex cl) tg d (capt cap Γ) S' λ Γ2 S2=>Sub (capt cap Γ) Γ2/\
   TsA (fB X sc N' C s H ex cl) Γ2 S2 ifs λ ok S3=>(ok=true->Ev (fB X sc N' C s H ex cl) Γ2 S3 elt λ y S4=>Pv (i+1) (acc++[y]) S4)/\(ok=false->Pv (i+1) acc S3))/\
  ∀acc S',Pv ds.length acc S'->W (.lst acc) S'∨W (.loc S'.length) (S'++[acc])
theorem uV{Γ:Gam}{S:Store}{elt tg iter:Expr}{ifs:List Expr}{sc:Scope}{cpos:Pos}{N':%[|2]}{cap:List (Option Nat)}{W:WD}{E:%[|7]}{pins:Pins}{σ:St}
 {RR:Value->Addr->Result->%[|8]}
 (hx:X.xe=λ _ _=>False)(hc:X.calm=true)(hkind:sc.kind=.function)(hcell:yo sc.names=true)(hfree:∀y∈sc.names,y.2=.free->X.env.kindOf y.1=some .cell∨X.env.kindOf y.1=some .free)
 (hcap:bc X.N X.env.scope.names N' sc.names cap N'=true)(h:ItC X Γ S tg iter (ww X sc N' cap Γ elt tg ifs W))(I:%[|5])(env:EnvOk X.K O H σ Γ)(st:StOk X.K O H S)
 (fin:∀(s':Shared)(Hc:Hp)(D0 C:Addr)(m:Str->Option Value),Inv X pins σ Hc s'->s'.heap.Ns C m->eQ X pins Hc C->D0≠C->QG X.K O H W (.ref D0) Hc->RR (.ref D0) C (.ok .next) s'):
 wpAny %[|6] X.A (eval iter X.env) (λ x s₁=>wpAny %[|6] X.A (pyIter x) (λ it s₂=>wpAny %[|6] X.A (newList []) (λ acc s₃=>
  wpAny %[|6] X.A (newFunctionEnv sc X.env.globals (closes X.env sc.names []) [] X.env.qual none .none (some X.env)) (λ cenv s₄=>
   codeAny %[|6] X.A (.compStart (.ListComp elt [⟨tg,iter,ifs,0⟩] sc cpos) 0 it acc {cenv with scope:=relabel sc X.env}) (RR acc cenv.locals) s₄) E s₃) E s₂) E s₁) E s:=by
 refine thn (ur hx (h pins s σ H O I env st)) λ xv s1 h1=>thn (ur hx h1) λ itv s2 h2=>?_
 obtain⟨it,fp,tn,J,H2,e,I2,T,st2,f2,O2,ds,C0,S2,⟨hz,Pv,p0,pC,pt,pe⟩,stp,ok2,yl⟩:=h2
 subst e
 refine wpAny_newObj_type (Py ?_)
 dsimp only
 have hD0:H2 s2.heap.objs.size=none:=I2.hok.fresh (y9 _)
 have hsz:(s2.heap.push {cls:=.type "list",dict:=none,data:=.seq ([]:List Value).toArray}).objs.size=s2.heap.objs.size+1:=Heap.size_push ..
 rw[hsz]
 have ns0:=Heap.Ns.new (s2.heap.push {cls:=.type "list",dict:=none,data:=.seq ([]:List Value).toArray}) (.type "dict")
 rw[hsz]at ns0
 obtain⟨cl,hcleq⟩:∃cl,cellsFrom (s2.heap.objs.size+1+1) sc.names (closes X.env sc.names [])=cl:=⟨_,rfl⟩
 obtain⟨h₁,hh1⟩:∃h₁,pushCells ((s2.heap.push {cls:=.type "list",dict:=none,data:=.seq ([]:List Value).toArray}).push {cls:=.type "dict",data:=.dict #[]}) sc.names=h₁:=⟨_,rfl⟩
 have hns₁:h₁.Ns (s2.heap.objs.size+1) (λ _=>none):=by rw[←hh1];exact ns0.keeps (pushCells_keeps _ _)
 have kp0:∀b u,(s2.heap.push {cls:=.type "list",dict:=none,data:=.seq ([]:List Value).toArray}).get? b=some u->h₁.get? b=some u:=λ b u e=>by rw[←hh1];exact pushCells_keeps _ _ b u (ZC _ e)
 have kp:∀b u,s2.heap.get? b=some u->h₁.get? b=some u:=λ b u e=>kp0 b u (ZC _ e)
 have hD1:h₁.get? s2.heap.objs.size=some {cls:=.type "list",data:=.seq #[] 0}:=kp0 _ _ (ZD _ rfl)
 have hf:∀y∈sc.names,y.2=.free->∃c,X.env.cells.lookup y.1=some c:=λ y hy e=>I.ok.has y.1 (hfree y hy e)
 have hcl :CelsB X sc cl (s2.heap.objs.size+2) h₁:=by
  have look:∀{x c},(closes X.env sc.names []).lookup x=some c->X.env.cells.lookup x=some c:=λ{x c} h=>oR sc.names [] hf (λ c h=>by simp at h) h
  have cpy:∀x c,sc.names.lookup x=some .free->X.env.cells.lookup x=some c->(closes X.env sc.names []).lookup x=some c:=λ x c d hc=>by
   obtain⟨c2,h2⟩:=fU (env:=X.env) sc.names [] (.inr d)
   have e:=look h2
   rw[hc]at e
   cases e
   exact h2
  unfold yo at hcell
  split at hcell
  . rename_i hfl
    have e1:=(yE hfl (s2.heap.objs.size+1+1) (closes X.env sc.names []) s2.heap).1
    rw[hcleq]at e1
    have no:∀x,sc.names.lookup x≠some .cell:=λ x z=>by
     have:(x,NameKind.cell)∈sc.names.filter (λ y=>y.2==.cell):=List.mem_filter.mpr ⟨PySem.mem_of_lookup z,rfl⟩
     rw[hfl]at this
     cases this
    rw[e1]
    exact⟨λ x c h=>.inl (look h),λ x hx=>hx.elim (λ z=>absurd z (no x)) λ z=>fU sc.names [] (.inr z),cpy,λ x c z=>absurd z (no x)⟩
  . rename_i y hfl
    have hy:sc.names.lookup y.1=some .cell:=ZI hcell
    obtain⟨e1,_⟩:=uw hfl (s2.heap.objs.size+1+1) (closes X.env sc.names []) s2.heap
    rw[hcleq]at e1
    have e2:=(uw hfl 0 [] ((s2.heap.push {cls:=.type "list",dict:=none,data:=.seq ([]:List Value).toArray}).push {cls:=.type "dict",data:=.dict #[]})).2
    rw[hh1]at e2
    have e3:((s2.heap.push {cls:=.type "list",dict:=none,data:=.seq ([]:List Value).toArray}).push {cls:=.type "dict",data:=.dict #[]}).objs.size=s2.heap.objs.size+2:=by rw[Heap.size_push,hsz]
    have cel:h₁.IsCell (s2.heap.objs.size+2) none:=by
     rw[e2,←e3]
     exact⟨_,ZD _ rfl,rfl⟩
    have only:∀x,sc.names.lookup x=some .cell->x=y.1:=λ x z=>by
     have:(x,NameKind.cell)∈sc.names.filter (λ y=>y.2==.cell):=List.mem_filter.mpr ⟨PySem.mem_of_lookup z,rfl⟩
     rw[hfl]at this
     have:=ZL.mp this
     rw[←this]
    have lt0:∀{x c},(closes X.env sc.names []).lookup x=some c->c<s2.heap.objs.size:=λ{x c} h=>by
     obtain⟨v,q⟩:=I2.cell x c (look h)
     exact q.lt
    have lk2:∀x,cl.lookup x=if x=y.1 then some (s2.heap.objs.size+1+1)else(closes X.env sc.names []).lookup x:=λ x=>by
     rw[e1,List.lookup_cons]
     by_cases z:x=y.1
     . subst z;simp
     . rw[if_neg z,beq_eq_false_iff_ne.mpr z]
    refine⟨λ x c h=>?_,λ x hx=>?_,λ x c d hc=>?_,λ x c z h=>?_⟩
    . rw [lk2]at h
      by_cases z:x=y.1
      . rw[if_pos z]at h
        cases h
        refine .inr ⟨rfl,by rw[z];exact hy,cel,λ u hu=>?_⟩
        rw[lk2]at hu
        by_cases z2:u=y.1
        . rw[z2,z]
        . rw[if_neg z2]at hu
          exact(Nat.lt_irrefl _ (Nat.lt_of_le_of_lt (Nat.le_add_right _ 2) (lt0 hu))).elim
      . rw[if_neg z]at h
        exact .inl (look h)
    . rw[lk2]
      by_cases z:x=y.1
      . exact⟨_,if_pos z⟩
      . rw[if_neg z]
        exact hx.elim (λ q=>absurd (only x q) z) λ q=>fU sc.names [] (.inr q)
    . rw[lk2,if_neg (λ z=>by rw[z,hy]at d;cases d)]
      exact cpy x c d hc
    . rw[lk2,if_pos (only x z)]at h
      cases h
      exact y9 _
  . cases hcell
 rw[hcleq,hh1]
 have hob:∀b∈fp,∃o,s2.heap.get? b=some o:=λ b hb=>let ⟨o,e,_⟩:=T.obj _ _ st2 b hb;⟨o,e⟩
 have I4:=Ph (t:=s2.toks) (h1:=h₁) I2 f2 hob hkind hcl hfree hcap kp hD1 ⟨_,hns₁⟩
 generalize hX':fB X sc N' (s2.heap.objs.size+1) s2 H2 fp cl=X' at I4
 have pt':=λ i d acc S' a b=>pt i d acc S' a b (s2.heap.objs.size+1) s2 H2 fp cl
 rw[hX']at pt'
 have eP:X'.prog=X.prog:=by rw[←hX'];rfl
 have ew:X'.w=X.w:=by rw[←hX'];rfl
 have eK:X'.K=X.K:=by rw[←hX'];rfl
 have eA:X'.A=X.A:=by rw[←hX'];rfl
 have ec:X'.calm=true:=by rw[←hX'];exact hc
 have ex':X'.xe=λ _ _=>False:=by rw[←hX'];exact hx
 have eenv:X'.env=compEnvC sc cl (s2.heap.objs.size+1) X.env:=by rw[←hX'];rfl
 have eex:X'.ex=fp:=by rw[←hX'];rfl
 have eout:X'.outer=X.stack:=by rw[←hX'];rfl
 have es0:X'.s₀=s2:=by rw[←hX'];rfl
 have eH0:X'.H₀=H2:=by rw[←hX'];rfl
 have epn:X'.pn=[]:=by rw[←hX'];rfl
 have stat:∀{H':Hp},(∀b∈fp,H' b=none)->∀b∈fp,eQ X' [] H' b:=λ hn b hb=>by
  refine⟨hn b hb,(I4.ok.exf b (by rw[eex];exact hb)).1,I4.ok.exfs b (by rw[eex];exact hb),.inl (by rw[eex];exact hb),(I4.ok.exf b (by rw[eex];exact hb)).2,λ p hp=>?_⟩
  rw[epn]at hp
  exact absurd hp (by simp)
 have loop:∀s₃:Shared,s₃={s2 with heap:=h₁}->
  codeAny %[|6] X.A (.compLoop (.ListComp elt [⟨tg,iter,ifs,0⟩] sc cpos) 0 (.ref it) (.ref s2.heap.objs.size) (compEnvC sc cl (s2.heap.objs.size+1) X.env))
   (RR (.ref s2.heap.objs.size) (s2.heap.objs.size+1)) s₃:=by
  intro s₃ es
  rw[←eenv]
  refine codeAny_loop rfl (λ n s'=>∃i acc xs Hc Ac Sc σc,n=ds.length-i/\i≤ds.length/\Inv X' [] σc Hc s'/\tn i s'.heap/\(∀b∈fp,Hc b=none)/\Pv i acc Sc/\Hc s2.heap.objs.size=some (.lst xs)/\xs.length≤i/\
   Reps X.K ⟨Ac,s2.heap.objs.size::O2.B⟩ Hc xs acc/\Step O2 ⟨Ac,O2.B⟩ H2 Hc/\StOk X.K ⟨Ac,s2.heap.objs.size::O2.B⟩ Hc Sc/\EnvOk X.K ⟨Ac,s2.heap.objs.size::O2.B⟩ Hc σc (capt cap Γ)) ?_ ds.length ?_
  . rintro n s' ⟨i,acc,xs,Hc,Ac,Sc,σc,rfl,hi,Ic,stc,frc,pc,hxs,hxl,rc,sc',okc,envc⟩
    show wpAny _ _ ((compTurn (.ListComp elt [⟨tg,iter,ifs,0⟩] sc cpos) 0 (.ref it) (.ref s2.heap.objs.size) X'.env).onRaise (λ x=>do noteFrame x X'.env;theTreesLotGoes x)) _ _ s'
    refine wpAny_noted ?_
    rw[compTurn_list]
    refine ZA (wpAny_standAt (ZA ?_))
    have cv:Conv O2 ⟨Ac,s2.heap.objs.size::O2.B⟩ H2 Hc:=by
     refine⟨λ a u n t=>?_,sc'.conv.lc⟩
     obtain⟨x1,x2⟩:=sc'.conv.tr a u n t
     refine⟨λ z=>?_,x2⟩
     rcases z with z | z
     . exact x1 (.inl z)
     . rcases ZJ.mp z with z | z
       . subst z;rw[hD0]at t;cases t
       . exact x1 (.inr z)
    obtain⟨y1,y2⟩:=yl _ _ _ cv okc (pC _ _ _ pc) i
    by_cases hlt:i<ds.length
    . obtain⟨go,yy⟩:=y1 ds[i] (y3 hlt)
      have it1:=T.item X' eP ew eK ec i [] s' σc Hc (λ _ _=>False) Ic (stat frc) stc go
      rw[eA]at it1
      refine wpAny_mono it1 (λ r s3 hq_=>?_) λ _ _ z=>z.elim
      obtain⟨u,hr,h3⟩:=hq_
      subst hr
      refine ZA (wpAny_mono h3 (λ _ s5 hq_=>?_) λ _ _ z=>z.elim)
      obtain⟨x,H5,I5,r5,y5,st5,fr5⟩:=hq_
      obtain⟨sm,rx⟩:=yy x H5 y5
      have I5':=I5.pinned (stat fr5) (T.obj _ _ st5)
      have st35:=Step.same (O:=⟨Ac,s2.heap.objs.size::O2.B⟩) sm
      have bd:=pt' i ds[i] acc Sc (y3 hlt) pc _ s5 σc H5 ⟨Ac,s2.heap.objs.size::O2.B⟩ x u I5' (by rw[eK];exact envc.mono st35) (by rw[eK];exact okc.same sm) (by rw[eK];exact rx) r5
      rw[eP,ew,eA]at bd
      refine ZA (wpAny_mono (ur (E':=λ _ _=>False) ex' bd) (λ _ s6 hq_=>?_) λ _ _ z=>z.elim)
      obtain⟨σ6,H6,I6,O6,Γ6,S6,⟨sub6,w6⟩,st6,ok6,env6⟩:=hq_
      have tst:=PJ w6 I6 env6 ok6
      rw[eP,ew,eA]at tst
      refine ZA (wpAny_mono (ur (E':=λ _ _=>False) ex' tst) (λ ok s7 hq_=>?_) λ _ _ z=>z.elim)
      obtain⟨H7,I7,O7,S7,w7,st7,ok7⟩:=hq_
      have st57:Step ⟨Ac,s2.heap.objs.size::O2.B⟩ O7 Hc H7:=st35.trans (st6.trans st7)
      have eB7:O7.B=s2.heap.objs.size::O2.B:=st57.hid
      have next:∀(s9:Shared)(H8:Hp)(O8:Own)(S8:Store)(ys:List V)(acc':List D),Step ⟨Ac,s2.heap.objs.size::O2.B⟩ O8 Hc H8->
       StOk X.K O8 H8 S8->EnvOk X.K O8 H8 σ6 (capt cap Γ)->Pv (i+1) acc' S8->Inv X' ([]++mD fp s5.heap) σ6 (upd H8 s2.heap.objs.size (.lst ys)) s9->Reps X.K O8 H8 ys acc'->ys.length≤i+1->
       ∃ m,m<ds.length-i/\∃i acc xs Hc Ac Sc σc,m=ds.length-i/\i≤ds.length/\Inv X' [] σc Hc s9/\tn i s9.heap/\(∀b∈fp,Hc b=none)/\Pv i acc Sc/\Hc s2.heap.objs.size=some (.lst xs)/\xs.length≤i/\
         Reps X.K ⟨Ac,s2.heap.objs.size::O2.B⟩ Hc xs acc/\Step O2 ⟨Ac,O2.B⟩ H2 Hc/\StOk X.K ⟨Ac,s2.heap.objs.size::O2.B⟩ Hc Sc/\EnvOk X.K ⟨Ac,s2.heap.objs.size::O2.B⟩ Hc σc (capt cap Γ):=by
       intro s9 H8 O8 S8 ys acc' st8 ok8 env8 p8 I8 r8 hl8
       have eB:O8.B=s2.heap.objs.size::O2.B:=st8.hid
       obtain⟨A8,B8⟩:=O8
       have eB':B8=s2.heap.objs.size::O2.B:=eB
       subst eB'
       have mem:s2.heap.objs.size∈(⟨A8,s2.heap.objs.size::O2.B⟩:Own).B:=x5
       refine⟨ds.length-(i+1),%[|0],i+1,acc',ys,_,A8,S8,σ6,rfl,hlt,I8.unpinned,T.keep _ _ _ st5 λ b hb o e=>(I8.pin (b,o) (List.mem_append_right _ (List.mem_append_right _ (fX hb e)))).1,λ b hb=>?_,p8,aH,hl8,
        r8.conv (Conv.updHid mem _),sc'.inner st8 hD0 _,ok8.updHid mem _,env8.conv (Conv.updHid mem _)⟩
       obtain⟨o,e,d⟩:=T.obj _ _ st5 b hb
       exact(I8.pin (b,o) (List.mem_append_right _ (List.mem_append_right _ (fX hb e)))).2.1
      rw[eK]at ok7 env6 ok6
      have hid:∀{O':Own}{H':Hp}{S':Store},Step ⟨Ac,s2.heap.objs.size::O2.B⟩ O' Hc H'->H' s2.heap.objs.size=some (.lst xs):=λ st'=>
       st'.kept _ _ (λ z=>okc.apart _ z x5) hxs
      cases ok with
      | false=>
        refine ZB ⟨rfl,?_⟩
        have hx7:=hid (S':=S7) st57
        have eq7:upd H7 s2.heap.objs.size (.lst xs)=H7:=by
         funext b
         by_cases hb:b=s2.heap.objs.size
         . subst hb;rw[aH];exact hx7.symm
         . exact ao hb
        exact next s7 H7 O7 S7 xs acc st57 ok7 ((env6.mono st7).sub sub6) (w7.2 rfl) (by rw[eq7];exact I7) (rc.mono st57) (Nat.le_succ_of_le hxl)
      | true=>
        have el:=w7.1 rfl _ s7 σ6 H7 O7 I7 (by rw[eK];exact env6.mono st7) (by rw[eK];exact ok7)
        rw[eP,ew,eA]at el
        refine ZA (ZA (wpAny_mono (ur (E':=λ _ _=>False) ex' el) (λ xe s8 hq_=>?_) λ _ _ z=>z.elim))
        obtain⟨v8,H8,I8,r8,O8,y,S8,w8,st8,ok8,rep8⟩:=hq_
        rw[eK]at ok8 rep8
        have st58:=st57.trans st8
        have hx8:=hid (S':=S8) st58
        have ap:=vg (X:=X') _ s8 σ6 H8 (.ref s2.heap.objs.size) [v8] (.ref s2.heap.objs.size) [xe] (λ v H'=>H'=upd H8 s2.heap.objs.size (.lst (xs++[v8]))) I8 rfl (.cons r8 .nil)
         ⟨s2.heap.objs.size,xs,v8,rfl,rfl,hx8,Nat.lt_of_le_of_lt (Nat.le_trans hxl (Nat.le_trans hi hz)) %[|3],rfl⟩
        rw[eP,ew,eA]at ap
        refine ZA (wpAny_mono (ur (E':=λ _ _=>False) ex' ap) (λ _ s9 hq_=>ZB (ZB ⟨rfl,?_⟩)) λ _ _ z=>z.elim)
        obtain⟨_,H9,I9,_,e9⟩:=hq_
        subst e9
        exact next s9 H8 O8 S8 (xs++[v8]) (acc++[y]) st58 ok8 (((env6.mono st7).mono st8).sub sub6) w8 I9 ((rc.mono st58).append (.cons rep8 .nil)) (by rw[x6,List.length_singleton];omega)
    . have e:i=ds.length:=%[|0]
      subst e
      have dn:=T.done X' eP ew eK ec ds.length [] s' σc Hc (λ _ _=>False) Ic (stat frc) stc (y2 rfl)
      rw[eA]at dn
      refine wpAny_mono dn (λ r s3 hq_=>?_) λ _ _ z=>z.elim
      obtain⟨hr,I3⟩:=hq_
      subst hr
      refine ZB ?_
      obtain⟨m,hm,_⟩:=I3.loc
      have un:Un (frs X.stack) fp H2 Hc s2.heap s3.heap:=by
       have:=I3.base
       rw[eex,eH0,es0]at this
       show Un (frs X.stack) fp H2 Hc s2.heap s3.heap
       rw[←eout]
       exact this
      have os:s3.os=s2.os:=by
       have:=I3.os
       rw[es0]at this
       exact this
      have hok3:HOk X.prog X.w Hc s3.heap:=by
       have:=I3.hok
       rw[eP,ew]at this
       exact this
      have IX:Inv X pins σ Hc s3:=I2.call' os un hok3 I3.bare (λ b hb=>⟨(f2 b hb).2.2.2.1,(f2 b hb).2.1,(f2 b hb).2.2.2.2.1,(f2 b hb).2.2.2.2.2⟩)
      have hCn:Hc (s2.heap.objs.size+1)=none:=by
       have:=I3.free
       rw[eenv]at this
       exact this
      refine fin s3 Hc _ _ m IX (by rw[eenv]at hm;exact hm) (I2.fpOk (Nat.le_succ _) hCn) (w9 (Nat.lt_succ_self _)) ?_
      rcases pe acc Sc pc with w | w
      . refine⟨⟨Ac,O2.B⟩,.lst acc,Sc,w,stp.trans sc',okc.unhide,.lst (.inl ⟨λ z=>?_,.inl hxs⟩) (rc.conv Conv.unhide)⟩
        rcases z with z | z
        . exact okc.apart _ z x5
        . exact ok2.hidden _ z hD0
      . refine⟨⟨Ac++[(s2.heap.objs.size,false)],O2.B⟩,.loc Sc.length,Sc++[acc],w,stp.trans (sc'.adopt hD0),okc.adopt (λ z=>ok2.hidden _ z hD0) hxs rc,.loc ?_⟩
        have el:Ac.length=Sc.length:=okc.len
        show(Ac++[(s2.heap.objs.size,false)])[Sc.length]? =some _
        rw[←el];simp
  . refine⟨0,[],[],upd H2 s2.heap.objs.size (.lst []),O2.A,S2,capt cap σ,rfl,Nat.zero_le _,by rw[es];exact I4,by rw[es];exact T.keep 0 s2.heap h₁ st2 λ b hb o e=>kp b o e,λ b hb=>?_,p0,aH,y9 0,.nil,Step.fresh hD0 _,ok2.hide hD0 _,((env.mono stp).capt cap).conv (Conv.hide hD0 _)⟩
    obtain⟨o,e⟩:=hob b hb
    rw[ao (w9 (ZE e))]
    exact(f2 b hb).1
 exact codeAny_compStart_list (loop _ rfl) (T.self _ 0 _ _ _ (T.keep 0 s2.heap h₁ st2 λ b hb o e=>kp b o e) (loop _ rfl))
variable {Γ : Gam} {S : Store} {elt tg iter : Expr} {ifs : List Expr} {sc : Scope} {pos : Pos} {N' : %[|2]} {cap : List (Option Nat)}
theorem Oz(N':%[|2])(cap:List (Option Nat)){W:WD}(h:ItC X Γ S tg iter (ww X sc N' cap Γ elt tg ifs W))(hx:X.xe=λ _ _=>False:=by rfl)(hc:X.calm=true:=by rfl)(hkind:sc.kind=.function:=by rfl)
 (hcell:yo sc.names=true:=by rfl)(hfr:freeOk X.env.scope.names sc.names=true:=by rfl)
 (hnames:∀y∈sc.names,y.2=.local->sc.names.lookup y.1=some .local:=by decide+kernel)(hcap:bc X.N X.env.scope.names N' sc.names cap N'=true:=by rfl)(hs:∀x,foldedSetIterable iter X.env x=pure x:=by intro _;rfl):
 Ev X Γ S (.ListComp elt [⟨tg,iter,ifs,0⟩] sc pos) W:=by
 intro pins s σ H O I env st
 have hfree:∀y∈sc.names,y.2=.free->X.env.kindOf y.1=some .cell∨X.env.kindOf y.1=some .free:=mq hfr
 have hf:∀y∈sc.names,y.2=.free->∃c,X.env.cells.lookup y.1=some c:=λ y hy e=>I.ok.has y.1 (hfree y hy e)
 rw[eval_ListComp]
 refine wpAny_comprehension_free (use:=none) (g:=⟨tg,iter,ifs,0⟩) (gs:=[]) rfl hs (kJ hf) hkind hnames ?_
 refine uV (RR:=λ acc C=>compPost %[|6] X.A X.xe none (EP X pins σ (QG X.K O H W)) acc C) hx hc hkind hcell hfree hcap h I env st ?_
 intro s' Hc D0 C m I' hm fp ne q
 refine⟨m,hm,λ h' sb=>⟨.ref D0,Hc,?_,rfl,q⟩⟩
 obtain⟨f0,f1,f2,f3,f4,f5⟩:=fp
 exact I'.turned (t':=s'.toks) (λ b o hb e=>(sb.2 b hb).trans e) f0 f1 f3 f4 f5
theorem HY(i:Nat){x:Str}{pos' spos:Pos}{W:Fin}(N':%[|2])(cap:List (Option Nat))(h:ItC X Γ S tg iter (ww X sc N' cap Γ elt tg ifs λ d S1=>W.nx (Γ.set i (some d)) S1))(hN:X.N.Nodup)(hi:X.N[i]? =some x:=by rfl)
 (hl:Loc X.env.scope x:=by first | exact Or.inl rfl | exact Or.inr rfl)(hsw:swapsWith (.ListComp elt [⟨tg,iter,ifs,0⟩] sc pos) (some (.Name x pos')) spos.line X.env=pure true:=by rfl)
 (hfn:X.fn x=true∨X.env.scope.names.lookup x=some .local:=by first | exact .inl rfl | exact .inr rfl)(hx:X.xe=λ _ _=>False:=by rfl)(hc:X.calm=true:=by rfl)(hkind:sc.kind=.function:=by rfl)
 (hcell:yo sc.names=true:=by rfl)(hfr:freeOk X.env.scope.names sc.names=true:=by rfl)
 (hnames:∀y∈sc.names,y.2=.local->sc.names.lookup y.1=some .local:=by decide+kernel)(hcap:bc X.N X.env.scope.names N' sc.names cap N'=true:=by rfl)(hs:∀x,foldedSetIterable iter X.env x=pure x:=by intro _;rfl):
 Rn X Γ S (.Assign [.Name x pos'] (.ListComp elt [⟨tg,iter,ifs,0⟩] sc pos) spos) W:=by
 intro pins s σ H O I env st
 have hfree:∀y∈sc.names,y.2=.free->X.env.kindOf y.1=some .cell∨X.env.kindOf y.1=some .free:=mq hfr
 have hf:∀y∈sc.names,y.2=.free->∃c,X.env.cells.lookup y.1=some c:=λ y hy e=>I.ok.has y.1 (hfree y hy e)
 rw[exec_Assign_Name_used _ _ _ _ hsw]
 refine ZA (wpAny_standAt (ZA ?_))
 show wpAny _ X.A (do let _ ←comprehension (.ListComp elt [⟨tg,iter,ifs,0⟩] sc pos) sc X.env _ (newList []) false (eval iter X.env) (some (assign (.Name x pos') X.env))) _ _ s
 refine ZA (wpAny_mono (wpAny_comprehension_free (use:=some (assign (.Name x pos') X.env)) (g:=⟨tg,iter,ifs,0⟩) (gs:=[]) (Q:=λ _ s'=>SP X pins (ends X.K O H W) .next s') rfl hs (kJ hf) hkind hnames ?_) (λ _ s' hq=>ZB (ZB hq)) λ _ _ e=>e)
 refine uV (RR:=λ acc C=>compPost %[|6] X.A X.xe (some (assign (.Name x pos') X.env)) (λ _ s'=>SP X pins (ends X.K O H W) .next s') acc C) hx hc hkind hcell hfree hcap h I env st ?_
 intro s' Hc D0 C m I' hm fp ne q
 show wpAny _ X.A (assign (.Name x pos') X.env (.ref D0)) _ _ _
 refine wpAny_assign_Name (uF I' hN hi hl (show RelV (.ref D0) (.ref D0)from rfl) (λ s2 I2 hq_=>?_) hfn)
 obtain⟨a,sa,ha⟩:=hq_
 obtain⟨f0,f1,f2,f3,f4,f5⟩:=fp
 have neC:C≠a:=by
  rcases ha with z | z
  . rw[z];exact f1
  . exact(f4 x a z).symm
 refine⟨m,hm.sameBut sa neC,λ h' sb=>?_⟩
 obtain⟨O',d,S',w,stp,okp,rep⟩:=q
 exact⟨_,Hc,I2.turned (t':=s2.toks) (λ b o hb e=>(sb.2 b hb).trans e) f0 f1 f3 f4 f5,O',_,S',w,stp,okp,(env.mono stp).set rep i⟩
end
end DL
namespace DL
open PySem PySem.Spec L2
open PyProof.Rows
def tyD:D->String
 | .non=>"NoneType" | .bl _=>"bool" | .int _=>"int" | .str _=>"str" | .tup _=>"tuple" | .lst _=>"list" | .loc _=>"list" | .dic=>"dict" | .dlo _=>"dict"
def isi(t c:String):Bool:=t==c||(t=="bool"&&c=="int")
def isT(c:String):Bool:=c=="int"||c=="bool"||c=="tuple"||c=="list"||c=="str"
theorem kit_at(K:PySem.W.Frag)(d:D){c:String}(hc:isT c=true):PySem.W.kitOne K (.type (tyD d)) (.type c)=some (isi (tyD d) c):=by
 simp only[isT,Bool.or_eq_true,beq_iff_eq]at hc
 rcases hc with(((h | h) | h) | h) | h<;>subst h<;>cases d<;>kernel_rfl
section
variable {X : Cx} {Γ : Gam} {S : Store} {W : WD} {a b e : Expr} {es : List Expr} {pos : Pos}
theorem N7{pins:Pins}{s:Shared}{σ:St}{H:Hp}{O:Own}{v:V}{u c:Value}{d:D}{A:Around}{E:%[|7]}{Q:%[|7]}(I:%[|5])(st:StOk X.K O H S)(r:Rep X.K O H v d)(ru:RelV v u)
 (go:∀{x t:Value}{Hh:Heap->Prop},PySem.W.KitX X.K x t Hh->t=.type (tyD d)->Hh s.heap->x≠.builtin "__main__.__loader__#opaque"->wpAny %[|6] A (call (.builtin "isinstance") [x,c]) Q E s):
 wpAny %[|6] A (call (.builtin "isinstance") [u,c]) Q E s:=by
 cases r with
 | non=>cases ru;exact go PySem.W.kitx_none rfl True.intro (λ z=>nomatch z)
 | bl y=>cases ru;exact go PySem.W.kitx_bool rfl True.intro (λ z=>nomatch z)
 | int y=>obtain⟨t,rfl⟩:=ru;exact go PySem.W.kitx_int rfl True.intro (λ z=>nomatch z)
 | str y=>obtain⟨t,rfl⟩:=ru;exact go PySem.W.kitx_str rfl True.intro (λ z=>nomatch z)
 | tup h1 q1=>
   cases ru
   obtain⟨its,_,⟨o,h2,h3,_⟩,_⟩:=I.tuple h1.sq
   exact go PySem.W.kitx_tuple rfl ⟨o,h2,h3⟩ (λ z=>nomatch z)
 | lst h1 q1=>
   cases ru
   obtain⟨its,_,pl,_⟩:=I.list h1.sq
   obtain⟨o,h2,h3,_⟩:=pl.isList
   exact go PySem.W.kitx_list rfl ⟨o,h2,h3⟩ (λ z=>nomatch z)
 | @loc p k hk=>
   cases ru
   have hl:k<S.length:=by rw[←st.len];exact(z0.mp hk).1
   obtain⟨xs,hx,_⟩:=st.obj k p S[k] hk (y3 hl)
   obtain⟨its,_,pl,_⟩:=I.list (SqL.of hx)
   obtain⟨o,h2,h3,_⟩:=pl.isList
   exact go PySem.W.kitx_list rfl ⟨o,h2,h3⟩ (λ z=>nomatch z)
 | @dic p h1 h2=>
   cases ru
   obtain⟨_,_,vs,_,o,es,ep,h3,h4,_⟩:=(show aK X.prog X.w H s.heap p (.dK [])from I.hok p _ h2)
   exact go PySem.W.kitx_dict rfl ⟨o,h3,h4.1⟩ (λ z=>nomatch z)
 | @dlo p k hk nk=>
   cases ru
   have hl:k<S.length:=by rw[←st.len];exact(z0.mp hk).1
   cases st.dob k p S[k] hk (y3 hl)with
   | t kvs hx _=>
     obtain⟨_,_,xs,_,o,es,ep,h3,h4,_⟩:=(show aK X.prog X.w H s.heap p (.dT kvs)from I.hok p _ hx)
     exact go PySem.W.kitx_dict rfl ⟨o,h3,h4.1⟩ (λ z=>nomatch z)
   | c ys _ hx _=>
     obtain⟨⟨_,_,_,o,es,ep,h3,h4,_⟩,_,_⟩:=(show aK X.prog X.w H s.heap p (.ext (JW p ys))from I.hok p _ hx)
     exact go PySem.W.kitx_dict rfl ⟨o,h3,h4.1⟩ (λ z=>nomatch z)
   | o ys _ hx _=>
     obtain⟨⟨_,_,_,o,es,ep,h3,h4,_⟩,_,_⟩:=(show aK X.prog X.w H s.heap p (.ext (Le p ys))from I.hok p _ hx)
     exact go PySem.W.kitx_dict rfl ⟨o,h3,h4.1⟩ (λ z=>nomatch z)
   | m ys _ _ hx _=>
     obtain⟨⟨_,_,_,o,es,h3,h4,_⟩,_,_⟩:=(show aK X.prog X.w H s.heap p (.ext (bD p ys))from I.hok p _ hx)
     exact go PySem.W.kitx_dict rfl ⟨o,h3,h4.1⟩ (λ z=>nomatch z)
   | p _ n=>exact absurd nk n
theorem Rp{T:Str}{Tn:String}{p q:Pos}(h:Ev X Γ S a λ x S1=>W (.bl (isi (tyD x) Tn)) S1)(hT:isT Tn=true)(hb:bootBuiltins T=some (.type Tn))(hm1:X.mg "isinstance"=none)(hm:X.mg T=none)(hg1:Gl X "isinstance":=by rfl)(hg:Gl X T:=by rfl)
 (hn:T≠"__name__":=by decide)(hdb:(T==("__debug__":Str))=false:=by decide)(hs1:starEach [a,.Name T q] X.env=(false,eval a X.env)::starEach [.Name T q] X.env:=by rfl)(hs2:starEach [.Name T q] X.env=[(false,eval (.Name T q) X.env)]:=by rfl):
 Ev X Γ S (.Call (.Name "isinstance" p) [a,.Name T q] [] pos) W:=by
 intro pins s σ H O I env st
 have hc:fV X (.builtin "isinstance") (λ xs H' Q=>∃v,xs=[v,.ty Tn]/\∃O' d S',StOk X.K O' H' S'/\Rep X.K O' H' v d/\Q (.bl (isi (tyD d) Tn)) H'):=by
  intro pins s σ H xs us Q I r h
  obtain⟨v,rfl,O',d,S',st',rep,q⟩:=h
  obtain⟨u,u2,rfl,r1,r2⟩:=vals2 r
  cases r2
  refine N7 I st' rep r1 λ Z e p ne=>?_
  subst e
  exact PySem.W.kia_one Z I.kIn p (kit_at X.K d hT) ne λ tk=>⟨.bl _,H,I.tok tk,rfl,q⟩
 refine KH hc hg1 hm1 PyProof.Rows.boot_isinstance (nH h.pe (nH (QD hg hm hb (v:=.ty Tn) rfl hn hdb) xF hs2) hs1) %[|3] %[|3] hs1 (by rw[hs2];rfl) pins s σ H _ I ⟨O,env,st,λ v H' q=>?_⟩
 obtain⟨O',d,S',w,st1,ok1,rep⟩:=q
 exact⟨v,rfl,O',d,S',ok1,rep,O',_,S',w,st1,ok1,.bl _⟩
theorem range_all{α:Type}(f:α->Bool)(d:α):∀(bs:List α)(k:Nat),((List.range' k bs.length).all λ i=>f ((List.replicate k d++bs).getD i d))=bs.all f
 | [],_=>by simp
 | b ::bs,k=>by
   have ih:=range_all f d bs (k+1)
   rw[List.length_cons,List.range'_succ,List.all_cons,List.all_cons]
   congr 1
   . simp[List.getD]
   . rw[←ih]
     have e:List.replicate k d++b::bs=(List.replicate k d++[b])++bs:=by simp
     rw[List.all_eq,List.all_eq]
     congr 1
     apply propext
     constructor
     . intro h i hi
       have:=h i hi
       rw[List.mem_range']at hi
       obtain⟨j,hj,rfl⟩:=hi
       simp only[List.getD,List.getElem?_append,List.length_replicate]at this ⊢
       have g1:¬(k+1+1*j<k):=%[|0]
       have g2:¬(k+1+1*j<k+1):=%[|0]
       rw[if_neg g1]at this
       rw[if_neg g2]
       have e1:k+1+1*j-k=(k+1+1*j-(k+1))+1:=%[|0]
       rw[e1,List.getElem?_cons_succ]at this
       exact this
     . intro h i hi
       have:=h i hi
       rw[List.mem_range']at hi
       obtain⟨j,hj,rfl⟩:=hi
       simp only[List.getD,List.getElem?_append,List.length_replicate]at this ⊢
       have g1:¬(k+1+1*j<k):=%[|0]
       have g2:¬(k+1+1*j<k+1):=%[|0]
       rw[if_neg g2]at this
       rw[if_neg g1]
       have e1:k+1+1*j-k=(k+1+1*j-(k+1))+1:=%[|0]
       rw[e1,List.getElem?_cons_succ]
       exact this
theorem Ff(bs:List Bool):((List.range bs.length).all λ i=>bs.getD i false)=bs.all id:=by
 have:=range_all id false bs 0
 simpa[List.range_eq_range']using this
theorem k_all{bs:List Bool}(w:W (.bl (bs.all id)) S)(hc:X.calm=true:=by rfl):dM X (.builtin "all") [.lst (bs.map .bl)] S W:=by
 intro pins s σ H O vs us I st r ru
 obtain⟨v,rfl,r'⟩:=dw r
 obtain⟨u,rfl,ru'⟩:=vals1 ru
 cases r' with
 | @lst a xs _ h1 q1=>
   cases ru'
   obtain⟨its,rv,pl,hz⟩:=I.list h1.sq
   have ex:=q1.bools
   subst ex
   have hlen:its.length=bs.length:=by rw[←rv.length];simp
   refine call_all_walk (wpAny_pyIter_list pl.isList ?_)
   have ne:a≠s.heap.objs.size:=by
    obtain⟨o,e,_⟩:=pl.isList
    exact w9 (ZE e)
   refine⟨_,_,_,_,_,_,λ i=>bs.getD i false,rfl,Walks.list (A:=X.A.in1) (I.ok.hd hc) _ a ne its.toArray,⟨⟨_,ZD _ rfl,rfl,rfl⟩,pl.isList.push _⟩,λ i v s' Q' E' hv hq=>?_,λ h' tk hk=>?_⟩
   . have hv:its[i]? =some v:=by simpa using hv
     have hi:i<bs.length:=by rw[←hlen];exact(z0.mp hv).1
     obtain⟨z,hz',rz⟩:=rv.get (i:=i) (x:=V.bl bs[i]) (by rw[y8,y3 hi];rfl)
     rw[hv]at hz'
     cases hz'
     cases rz
     have e:bs.getD i false=bs[i]:=by simp[List.getD,hi]
     have hq':Q' (bs.getD i false) s':=hq
     rw[e]at hq'
     exact wpAny_truthy_bool hq'
   . have e:(List.range its.toArray.size).all (λ i=>bs.getD i false)=bs.all id:=by rw[x4,hlen];exact Ff bs
     rw[e]
     refine⟨.bl _,H,I.kept (λ b o q=>hk b o (λ z=>?_) (ZC _ q)),rfl,QG.here w st (.bl _)⟩
     have z':b=s.heap.objs.size:=by simpa using z
     exact absurd (ZE q) (by rw[z'];exact Nat.lt_irrefl _)
theorem Vr{ns:%[|1]}(w:W (.int ns.sum) S)(hc:X.calm=true:=by rfl):dM X (.builtin "sum") [.lst (ns.map .int)] S W:=by
 intro pins s σ H O vs us I st r ru
 obtain⟨v,rfl,r'⟩:=dw r
 obtain⟨u,rfl,ru'⟩:=vals1 ru
 cases r' with
 | @lst a xs _ h1 q1=>
   cases ru'
   obtain⟨its,rv,pl,hz⟩:=I.list h1.sq
   have ex:=q1.ints
   subst ex
   have hi:IntsAre its ns:=intsAre_of rv
   obtain⟨zs,ez⟩:=hi.allInts.items
   have hL:=pl.isList
   rw[ez]at hL
   refine sum_intListG (I.ok.hd hc) hL λ h' tk t' hk=>?_
   have e:preSum (numAt zs) zs.size=ns.sum:=by
    rw[preSum_eq,List.take_of_length_le (by simp),←nums_intItems,←ez]
    exact congrArg List.sum hi.numsOf
   rw[e]
   exact⟨.int _,H,I.kept hk,⟨_,rfl⟩,QG.here w st (.int _)⟩
mutual
def deep:D->Nat
 | .tup ds=>aU ds+1
 | .lst ds=>aU ds+1
 | .dic=>1
 | _=>0
def aU:List D->Nat
 | []=>0
 | d::ds=>max (deep d) (aU ds)
end
mutual
def ak:D->Bool
 | .tup ds=>aj ds
 | .lst ds=>aj ds
 | .loc _=>false
 | .dlo _=>false
 | _=>true
def aj:List D->Bool
 | []=>true
 | d::ds=>ak d&&aj ds
end
theorem dB{d:D}:∀{ds:List D}{i:Nat},ds[i]? =some d->deep d≤aU ds
 | [],_,h=>by simp at h
 | c::ds,0,h=>by simp at h;subst h;simp[aU];omega
 | c::ds,i+1,h=>by
   have:=dB (ds:=ds) (i:=i) (by simpa using h)
   simp[aU];omega
theorem fK{d:D}:∀{ds:List D}{i:Nat},aj ds=true->ds[i]? =some d->ak d=true
 | [],_,_,h=>by simp at h
 | c::ds,0,n,h=>by simp at h;subst h;simp[aj]at n;exact n.1
 | c::ds,i+1,n,h=>by
   simp[aj]at n
   exact fK (ds:=ds) (i:=i) n.2 (by simpa using h)
theorem jW{pins:Pins}{s:Shared}{σ:St}{H:Hp}{a:Addr}(I:%[|5])(h:H a=some (.dK [])):(a==sysModules)=false/\s.heap.DictOf (bz X.prog X.w) a []:=by
 obtain⟨_,h2,vs,h3,h4⟩:=(show aK X.prog X.w H s.heap a (.dK [])from I.hok a _ h)
 cases h3
 exact⟨h2,h4⟩
theorem M8{P P':Program}{w w':World}{h:Heap}{a:Addr}(d:h.DictOf (bz P w) a []):h.DictOf (bz P' w') a []:=by
 obtain⟨o,es,ep,h1,h2,h3,h4,h5,h6⟩:=d
 have e:es=#[]:=by
  have q0:∀l,Pairs (bz P w) l ([]:List (Key×Value))->l=[]:=by
   intro l hl
   cases hl
   rfl
  have q:es.toList=[]:=q0 _ h5
  exact Array.toList_eq_nil_iff.mp q
 subst e
 exact⟨o,#[],ep,h1,h2,h3,λ _ he=>by simp at he,Pairs.nil,List.nodup_nil⟩
theorem Jq (n:Nat):∀(x:D),deep x≤n->ak x=true->∀{pins:Pins}{s:Shared}{σ:St}{H:Hp}{O:Own}{v w:V}{u u':Value}{A:Around},%[|5]->Rep X.K O H v x->Rep X.K O H w x->RelV v u->RelV w u'->A.units+n<cLine->SeqAt.EqAt A s u u' true:=by
 induction n with
 | zero=>
   intro x hx hn pins s σ H O v w u u' A I r1 r2 ru ru' hu
   cases r1 with
   | non=>cases r2;cases ru;cases ru';exact SeqAt.EqAt.same _
   | bl b=>cases r2;cases ru;cases ru';exact SeqAt.EqAt.same _
   | int i=>
     cases r2;obtain⟨t,rfl⟩:=ru;obtain⟨t',rfl⟩:=ru'
     have:=SeqAt.EqAt.int_int (A:=A) (s:=s) i t i t'
     rw[beq_self_eq_true]at this
     exact this
   | str i=>
     cases r2;obtain⟨t,rfl⟩:=ru;obtain⟨t',rfl⟩:=ru'
     have:=SeqAt.EqAt.str_str (A:=A) (s:=s) i t i t'
     rw[beq_self_eq_true]at this
     exact this
   | tup _ _=>simp[deep]at hx
   | lst _ _=>simp[deep]at hx
   | loc _=>simp[ak]at hn
   | dlo _=>simp[ak]at hn
   | dic _ _=>simp[deep]at hx
 | succ n ih=>
   intro x hx hn pins s σ H O v w u u' A I r1 r2 ru ru' hu
   cases r1 with
   | non=>cases r2;cases ru;cases ru';exact SeqAt.EqAt.same _
   | bl b=>cases r2;cases ru;cases ru';exact SeqAt.EqAt.same _
   | int i=>
     cases r2;obtain⟨t,rfl⟩:=ru;obtain⟨t',rfl⟩:=ru'
     have:=SeqAt.EqAt.int_int (A:=A) (s:=s) i t i t'
     rw[beq_self_eq_true]at this
     exact this
   | str i=>
     cases r2;obtain⟨t,rfl⟩:=ru;obtain⟨t',rfl⟩:=ru'
     have:=SeqAt.EqAt.str_str (A:=A) (s:=s) i t i t'
     rw[beq_self_eq_true]at this
     exact this
   | @tup a xs ds h1 q1=>
     cases r2 with
     | @tup b ys _ h2 q2=>
       cases ru;cases ru'
       by_cases e:a=b
       . subst e;exact SeqAt.EqAt.same _
       . obtain⟨its,v1,p1,_⟩:=I.tuple h1.sq
         obtain⟨its2,v2,p2,_⟩:=I.tuple h2.sq
         have l1:its.length=ds.length:=by rw[←v1.length,q1.length]
         have l2:its2.length=ds.length:=by rw[←v2.length,q2.length]
         have rc:=SeqAt.RcAt.tuples (A:=A) (e:=λ _=>true) (show s.heap.IsTuple a its.toArray from p1) (show s.heap.IsTuple b its2.toArray from p2) %[|0] (λ j j1 j2=>?_)
         . have e2:((List.range (min its.toArray.size its2.toArray.size)).all (λ _=>true)&&its.toArray.size==its2.toArray.size)=true:=by simp[l1,l2]
           rw[e2]at rc
           exact SeqAt.EqAt.of_refs e rc
         . have hj:j<ds.length:=by simpa[l1]using j1
           obtain⟨z1,a1,b1⟩:=q1.get (y3 hj)
           obtain⟨z2,a2,b2⟩:=q2.get (y3 hj)
           obtain⟨u1,c1,d1⟩:=v1.get a1
           obtain⟨u2,c2,d2⟩:=v2.get a2
           have e1:its.toArray[j]=u1:=by have:=(z0.mp c1).2;simpa using this
           have e2:its2.toArray[j]=u2:=by have:=(z0.mp c2).2;simpa using this
           rw[e1,e2]
           have hd:=dB (y3 hj)
           exact ih ds[j] (by simp[deep]at hx;omega) (fK (by simpa[ak]using hn) (y3 hj)) I b1 b2 d1 d2 (by show A.units+1+n<cLine;omega)
   | @lst a xs ds h1 q1=>
     cases r2 with
     | @lst b ys _ h2 q2=>
       cases ru;cases ru'
       by_cases e:a=b
       . subst e;exact SeqAt.EqAt.same _
       . obtain⟨its,v1,p1,_⟩:=I.list h1.sq
         obtain⟨its2,v2,p2,_⟩:=I.list h2.sq
         have l1:its.length=ds.length:=by rw[←v1.length,q1.length]
         have l2:its2.length=ds.length:=by rw[←v2.length,q2.length]
         have rc:=SeqAt.RcAt.lists (A:=A) (e:=λ _=>true) p1.isList p2.isList (by simp[l1,l2]) %[|0] (λ j j1 j2=>?_)
         . have e2:(List.range its.toArray.size).all (λ _=>true)=true:=by simp
           rw[e2]at rc
           exact SeqAt.EqAt.of_refs e rc
         . have hj:j<ds.length:=by simpa[l1]using j1
           obtain⟨z1,a1,b1⟩:=q1.get (y3 hj)
           obtain⟨z2,a2,b2⟩:=q2.get (y3 hj)
           obtain⟨u1,c1,d1⟩:=v1.get a1
           obtain⟨u2,c2,d2⟩:=v2.get a2
           have e1:its.toArray[j]=u1:=by have:=(z0.mp c1).2;simpa using this
           have e2:its2.toArray[j]=u2:=by have:=(z0.mp c2).2;simpa using this
           rw[e1,e2]
           have hd:=dB (y3 hj)
           exact ih ds[j] (by simp[deep]at hx;omega) (fK (by simpa[ak]using hn) (y3 hj)) I b1 b2 d1 d2 (by show A.units+1+n<cLine;omega)
   | loc _=>simp[ak]at hn
   | dlo _=>simp[ak]at hn
   | @dic a h1 e1=>
     cases r2 with
     | @dic b h2 e2=>
       cases ru;cases ru'
       by_cases e:a=b
       . subst e;exact SeqAt.EqAt.same _
       . obtain⟨z1,d1⟩:=jW I e1
         obtain⟨z2,d2⟩:=jW I e2
         refine SeqAt.EqAt.of_refs e λ prog w' E Q hq=>?_
         exact PySem.W.keq_eq (knd:=bz prog w') z1 z2 (M8 d1) (M8 d2) %[|0] (λ _=>.nil) (by simpa using hq)
end
end DL
namespace DL
open PySem PySem.Spec L2
open PyProof.Rows
variable {pins : Pins} {H : Hp} {s : Shared}
section
variable {X : Cx} {Γ : Gam} {S : Store} {W : WD} {a b e : Expr} {es : List Expr} {pos : Pos}
theorem KR{x:D}(hu:X.A.units+60<cLine)(hn:ak x=true)(hd:deep x≤50)(w:W (.bl false) S):bj X .NotEq x x S W:=by
 intro pins s σ H O v w' u u' I st r1 r2 r3 r4
 have fin:∀{k:Bool},SeqAt.RcNeAt X.A s u u' k->k=false->wpAny %[|6] X.A (compareOp .NotEq u u') (EP X pins σ (QG X.K O H W)) X.xe s:=λ h e=>by
  subst e
  exact h _ _ _ _ ⟨.bl false,H,I,rfl,QG.here w st (.bl false)⟩
 cases r1 with
 | non=>cases r2;cases r3;cases r4;exact fin SeqAt.RcNeAt.none_none rfl
 | bl y=>cases r2;cases r3;cases r4;exact fin (SeqAt.RcNeAt.bool_bool y y) (by simp)
 | int y=>cases r2;obtain⟨t,rfl⟩:=r3;obtain⟨t',rfl⟩:=r4;exact fin (SeqAt.RcNeAt.int_int y t y t') (by simp)
 | str y=>cases r2;obtain⟨t,rfl⟩:=r3;obtain⟨t',rfl⟩:=r4;exact fin (SeqAt.RcNeAt.str_str y t y t') (by simp)
 | @tup a xs ds h1 q1=>
   cases r2 with
   | @tup b ys _ h2 q2=>
     cases r3;cases r4
     obtain⟨its,v1,p1,_⟩:=I.tuple h1.sq
     obtain⟨its2,v2,p2,_⟩:=I.tuple h2.sq
     have l1:its.length=ds.length:=by rw[←v1.length,q1.length]
     have l2:its2.length=ds.length:=by rw[←v2.length,q2.length]
     refine fin (SeqAt.RcNeAt.tuples (e:=λ _=>true) (show s.heap.IsTuple a its.toArray from p1) (show s.heap.IsTuple b its2.toArray from p2) %[|0] (λ j j1 j2=>?_)) (by simp[l1,l2])
     have hj:j<ds.length:=by simpa[l1]using j1
     obtain⟨z1,a1,b1⟩:=q1.get (y3 hj)
     obtain⟨z2,a2,b2⟩:=q2.get (y3 hj)
     obtain⟨u1,c1,d1⟩:=v1.get a1
     obtain⟨u2,c2,d2⟩:=v2.get a2
     have e1:its.toArray[j]=u1:=by have:=(z0.mp c1).2;simpa using this
     have e2:its2.toArray[j]=u2:=by have:=(z0.mp c2).2;simpa using this
     rw[e1,e2]
     have hd':=dB (y3 hj)
     exact Jq 49 ds[j] (by simp[deep]at hd;omega) (fK (by simpa[ak]using hn) (y3 hj)) I b1 b2 d1 d2 (by show X.A.units+1+49<cLine;omega)
 | @lst a xs ds h1 q1=>
   cases r2 with
   | @lst b ys _ h2 q2=>
     cases r3;cases r4
     obtain⟨its,v1,p1,_⟩:=I.list h1.sq
     obtain⟨its2,v2,p2,_⟩:=I.list h2.sq
     have l1:its.length=ds.length:=by rw[←v1.length,q1.length]
     have l2:its2.length=ds.length:=by rw[←v2.length,q2.length]
     refine fin (SeqAt.RcNeAt.lists (e:=λ _=>true) p1.isList p2.isList (by simp[l1,l2]) %[|0] (λ j j1 j2=>?_)) (by simp)
     have hj:j<ds.length:=by simpa[l1]using j1
     obtain⟨z1,a1,b1⟩:=q1.get (y3 hj)
     obtain⟨z2,a2,b2⟩:=q2.get (y3 hj)
     obtain⟨u1,c1,d1⟩:=v1.get a1
     obtain⟨u2,c2,d2⟩:=v2.get a2
     have e1:its.toArray[j]=u1:=by have:=(z0.mp c1).2;simpa using this
     have e2:its2.toArray[j]=u2:=by have:=(z0.mp c2).2;simpa using this
     rw[e1,e2]
     have hd':=dB (y3 hj)
     exact Jq 49 ds[j] (by simp[deep]at hd;omega) (fK (by simpa[ak]using hn) (y3 hj)) I b1 b2 d1 d2 (by show X.A.units+1+49<cLine;omega)
 | loc _=>simp[ak]at hn
 | dlo _=>simp[ak]at hn
 | @dic a h1 e1=>
   cases r2 with
   | @dic b h2 e2=>
     cases r3;cases r4
     obtain⟨z1,d1⟩:=jW I e1
     obtain⟨z2,d2⟩:=jW I e2
     exact PySem.W.keq_ne (knd:=bz X.prog X.w) z1 z2 d1 d2 %[|0] (λ _=>.nil) ⟨.bl false,H,I,rfl,QG.here w st (.bl false)⟩
end
set_option genInjectivity false in
structure SqKind(P:Program)(w:World)(K:PySem.W.Frag) where
 Sq:Hp->Addr->List V->Prop
 It:Heap->Addr->Addr->Nat->Prop
 Ob:Heap->Addr->Array Value->Prop
 itObj:∀{h it a i},It h it a i->∃o vs,h.get? it=some o/\o.data=.fields vs
 itAt:∀{h h' it a i},It h it a i->(∀o,h.get? it=some o->h'.get? it=some o)->It h' it a i
 obObj:∀{h a its},Ob h a its->∃o n,h.get? a=some o/\o.data=.seq its n
 draws:∀(A:Around),A.handled=none->∀(it a:Addr),a≠it->∀items:Array Value,Draws P w A it [it,a] items.size (λ i v=>items[i]? =some v) (λ i h=>It h it a i/\Ob h a items)
 get:∀{X:Cx}{pins:Pins}{σ:St}{H:Hp}{s:Shared}{a:Addr}{xs:List V},X.prog=P->X.w=w->X.K=K->%[|5]->Sq H a xs->∃its:List Value,Vals xs its/\Ob s.heap a its.toArray
 inj:∀{X:Cx}{pins:Pins}{σ:St}{H:Hp}{s:Shared}{a:Addr}{xs ys:List V},X.prog=P->X.w=w->X.K=K->%[|5]->Sq H a xs->Sq H a ys->xs=ys
 far:∀{X:Cx}{pins:Pins}{σ:St}{H:Hp}{s:Shared}{a b:Addr}{xs:List V},X.K=K->%[|5]->Sq H a xs->eQ X pins H b->a≠b
section
variable {P : Program} {w : World} {K : PySem.W.Frag}
theorem SqKind.ne(q:SqKind P w K){h:Heap}{it a:Addr}{i:Nat}{its:Array Value}(x:q.It h it a i)(y:q.Ob h a its):a≠it:=λ e=>by
 obtain⟨o,vs,h1,h2⟩:=q.itObj x
 obtain⟨o',n,h3,h4⟩:=q.obObj y
 rw[e,h1]at h3
 cases h3
 rw[h2]at h4
 cases h4
theorem Rb{X:Cx}{σ:St}{a b:Addr}{o:Obj}(I:%[|5])(h:X.K.lookup a=some o)(f:eQ X pins H b):a≠b:=λ z=>by
 have e:=I.ok.mod.kin a o h
 rw[z]at e
 rcases f.2.2.2.1 with q | q
 . exact I.ok.noex b o e q
 . exact absurd (x9 (ZE e) (Nat.le_trans I.ok.bsz q)) (Nat.lt_irrefl _)
def Nj(P:Program)(w:World)(K:PySem.W.Frag):SqKind P w K where
 Sq:=SqL K
 It:=λ h it a i=>h.IsListIter it a i
 Ob:=λ h a its=>h.IsList a its
 itObj:=λ x=>let ⟨o,e,_,d⟩:=x;⟨o,_,e,d⟩
 itAt:=λ x k=>x.at k
 obObj:=λ x=>let ⟨o,e,_,n,d⟩:=x;⟨o,n,e,d⟩
 draws:=λ A hh it a ne items=>Draws.list hh it a ne items
 get:=λ hP hw hK I h=>by
  subst hP hw hK
  obtain⟨its,rv,p,_⟩:=I.list h
  exact⟨its,rv,p.isList⟩
 inj:=λ hP hw hK I h h'=>by
  subst hP hw hK
  exact I.list_inj h h'
 far:=λ hK I h f=>by
  subst hK
  rcases h with(h | ⟨_,h⟩) | ⟨o,_,_,h,_⟩
  . exact aB h f.1
  . exact aB h f.1
  . exact Rb I h f
theorem RW{prog:Program}{w:World}{A:Around}{E:%[|7]}{it t:Addr}{i:Nat}{items:Array Value}{x:Value}{Q:%[|7]}(hi:s.heap.IsTupleIter it t i)(ht:s.heap.IsTuple t items)(hx:items[i]? =some x)
 (hQ:∀h',h'.IsTupleIter it t (i+1)->Heap.SameBut it s.heap h'->Q x {s with heap:=h'}):wpAny (model prog w) A (Builtin.SmallTypes.nextOf (.ref it)) Q E s:=by
 obtain⟨o,ho,hc,hd⟩:=id hi
 obtain⟨o2,ho2,_,n2,hd2⟩:=ht
 unfold Builtin.SmallTypes.nextOf
 refine ZA (wpAny_callSpecial?_slot (name:=Str.ofString "__next__") hi.typeIs F.slot_tuple_iterator_next (ZP F.slot_tuple_iterator_next hi.typeIs F.entry_tuple_iterator_next ?_ (F.args_tuple_iterator_next_1 _)))
 refine ZA (m:=field (.ref it) 0) (wpAny_field ho hd (x:=.ref t) rfl ?_)
 rw[if_neg (show ¬((Value.ref t==Value.none)=true)from y6)]
 refine ZA (m:=field (.ref it) 1) (wpAny_field ho hd (x:=.int i 0) rfl ?_)
 refine ZA (m:=seqItems? (.ref t)) (wpAny_seqItems ho2 hd2 ?_)
 simp only[Int.toNat_natCast,hx]
 refine ZA (wpAny_setField ho hd (by simp) (ZB ⟨x,rfl,ZB (hQ _ ⟨_,Heap.get?_update_self _ ho (Obj.isFreed_of_fields (Obj.data_mapFields hd _)),(Obj.cls_mapFields ..).trans hc,by rw[Obj.data_mapFields hd];simp[rawInt]⟩ (Heap.SameBut.update ..))⟩))
theorem G8{prog:Program}{w:World}{A:Around}{E:%[|7]}{it t:Addr}{i:Nat}{items:Array Value}{Q:%[|7]}(hh:A.handled=none)(hi:s.heap.IsTupleIter it t i)(ht:s.heap.IsTuple t items)(hx:items[i]? =none)
 (hE:∀h' e,Heap.ExtBut it s.heap h'->(∃o,h'.get? e=some o/\o.cls=.type "StopIteration")->E (.ref e) {s with heap:=h'}):wpAny (model prog w) A (Builtin.SmallTypes.nextOf (.ref it)) Q E s:=by
 obtain⟨o,ho,hc,hd⟩:=id hi
 obtain⟨o2,ho2,_,n2,hd2⟩:=ht
 unfold Builtin.SmallTypes.nextOf
 refine ZA (wpAny_callSpecial?_slot (name:=Str.ofString "__next__") hi.typeIs F.slot_tuple_iterator_next (ZP F.slot_tuple_iterator_next hi.typeIs F.entry_tuple_iterator_next ?_ (F.args_tuple_iterator_next_1 _)))
 refine ZA (m:=field (.ref it) 0) (wpAny_field ho hd (x:=.ref t) rfl ?_)
 rw[if_neg (show ¬((Value.ref t==Value.none)=true)from y6)]
 refine ZA (m:=field (.ref it) 1) (wpAny_field ho hd (x:=.int i 0) rfl ?_)
 refine ZA (m:=seqItems? (.ref t)) (wpAny_seqItems ho2 hd2 ?_)
 simp only[Int.toNat_natCast,hx]
 refine ZA (wpAny_rule (ZA (wpAny_setField ho hd (by simp) (ZA (m:=newExc (.type "StopIteration") []) ?_))))
 simp only[newExc,newTuple]
 refine ZA (wpAny_newObj_type (ZA (m:=firstArgMember _ _) (wpAny_of_eq (a:=Value.none) (by first | rfl | (simp only[firstArgMember];rfl)) (wpAny_newObj_type ?_ (by size_fits)))) (by size_fits))
 simp only[raiseNew]
 refine ZA (wpAny_handled ?_)
 first | rw[show A.in1.handled=none from hh] | rw[hh]
 exact ZA (ZB (wpAny_throw (hE _ _ (((Heap.SameBut.update ..).extBut.push _).push _) ⟨_,ZD _ rfl,rfl⟩)))
theorem Mj{prog:Program}{w:World}{A:Around}(hh:A.handled=none)(it t:Addr)(ne:t≠it)(items:Array Value):
 Draws prog w A it [it,t] items.size (λ i v=>items[i]? =some v) (λ i h=>h.IsTupleIter it t i/\h.IsTuple t items) where
 live:=λ i h x=>let ⟨o,e,_⟩:=x.1;⟨o,e⟩
 frame:=λ i h h' x k=>by
  obtain⟨⟨o,e,r⟩,⟨o2,e2,r2⟩⟩:=x
  exact⟨⟨o,k it (by simp) o e,r⟩,⟨o2,k t (by simp) o2 e2,r2⟩⟩
 item:=λ i s Q E hi x hQ=>RW x.1 x.2 (x:=items[i]) (by simp[hi]) λ h' y sb=>hQ _ h' s.toks (by simp[hi]) ⟨y,x.2.extBut sb.extBut ne⟩ sb
 done:=λ s Q E x hE=>G8 hh x.1 x.2 (by simp) hE
def Ep(P:Program)(w:World)(K:PySem.W.Frag):SqKind P w K where
 Sq:=SqT K
 It:=λ h it a i=>h.IsTupleIter it a i
 Ob:=λ h a its=>h.IsTuple a its
 itObj:=λ x=>let ⟨o,e,_,d⟩:=x;⟨o,_,e,d⟩
 itAt:=λ x k=>let ⟨o,e,r⟩:=x;⟨o,k o e,r⟩
 obObj:=λ x=>let ⟨o,e,_,n,d⟩:=x;⟨o,n,e,d⟩
 draws:=λ A hh it a ne items=>Mj hh it a ne items
 get:=λ hP hw hK I h=>by
  subst hP hw hK
  obtain⟨its,rv,p,_⟩:=I.tuple h
  exact⟨its,rv,p⟩
 inj:=λ hP hw hK I h h'=>by
  subst hP hw hK
  exact I.tuple_inj h h'
 far:=λ hK I h f=>by
  subst hK
  rcases h with(h | ⟨_,h⟩) | ⟨o,_,_,h,_⟩
  . exact aB h f.1
  . exact aB h f.1
  . exact Rb I h f
theorem m6{X:Cx}{σ:St}{h':Heap}{t:Nat}{ch:List Addr}(I:%[|5])(hf:∀b∈ch,eQ X pins H b)(k:∀b o,b∉ch->s.heap.get? b=some o->h'.get? b=some o):Inv X pins σ H {s with heap:=h',toks:=t}:=by
 have nch:∀b u,H b=some u->b∉ch:=λ b u e z=>by rw[(hf b z).1]at e;cases e
 refine I.step (g':=s.gens) (d':=s.drawn) (ch:=ch) (λ b hb=>⟨(hf b hb).2.2.2.1,(hf b hb).2.1,(hf b hb).2.2.2.2.1,(hf b hb).2.2.2.2.2⟩) (λ b o _ _ hc e _=>k b o hc e) (λ b o _ _ hc e _=>⟨o.slots,k b o hc e⟩) (λ _ _ _ _ n=>n) (λ b o hc e=>⟨o,k b o hc e⟩)
  (λ _ _ e=>e) (λ _ _ _ e=>e) (λ b ps e=>⟨#[],by rw[e];simp⟩) (λ m hm=>?_) (λ b u e=>?_) I.bare
 . obtain⟨o,es,ep,ho,r⟩:=hm
   exact⟨o,es,ep,k _ o (λ z=>(hf _ z).2.1 rfl) ho,r⟩
 . refine(I.hok b u e).stay (λ c v hc q=>k c v ?_ q) (λ _ q=>q) λ _ _ q=>q
   rcases hc with z | z
   . rw[z];exact nch b u e
   . exact nch c _ z
theorem pL{X:Cx}{σ:St}{s':Shared}{p:Addr}{o:HO}(I:%[|5])(I':Inv X pins σ H s')(hp:s.heap.objs.size≤p)(ob:aK X.prog X.w (upd H p o) s'.heap p o):Inv X pins σ (upd H p o) s':=by
 have hn:H p=none:=I.hok.fresh hp
 have nt:∀b u,H b=some u->b≠p:=λ b u e=>aB e hn
 refine⟨I'.ok,I'.os,I'.bare,⟨I'.base.keep,I'.base.slot,λ b ob e n hx=>?_,I'.base.there,λ b xs e=>?_,λ b ob u e=>?_,λ b ps e=>?_⟩,I'.loc,I'.cell,?_,λ x c e=>?_,λ q hq=>?_,λ b u e=>?_,I'.len⟩
 . have lt:b<s.heap.objs.size:=x9 (ZE e) I.sz
   rw[ao (w9 (x9 lt hp))]
   exact I'.base.free b ob e n hx
 . have:=I'.base.tups b xs e
   rw[ao (nt b _ this)];exact this
 . have:=I'.base.frzs b ob u e
   rw[ao (nt b _ this)];exact this
 . obtain⟨m,e'⟩:=I'.base.tbls b ps e
   exact⟨m,by rw[ao (nt b _ e')];exact e'⟩
 . rw[ao (w9 (x9 I.lt hp))];exact I'.free
 . obtain⟨v,z⟩:=I.cell x c e
   rw[ao (w9 (x9 z.lt hp))];exact I'.freeC x c e
 . obtain⟨e1,_⟩:=I.pin q hq
   obtain⟨a1,a2,a3⟩:=I'.pin q hq
   exact⟨a1,by rw[ao (w9 (x9 (ZE e1) hp))];exact a2,a3⟩
 . by_cases hb:b=p
   . subst hb;rw[aH]at e;cases e;exact ob
   . rw[ao hb]at e
     exact(I'.hok b u e).stay (λ c v _ q=>q) (λ c q=>by rw[ao (nt c _ q)];exact q) λ c xs q=>by rw[ao (nt c _ q)];exact q
def Ite(q:SqKind P w K)(a:Addr):It:=
 ⟨λ i H=>∃xs x,q.Sq H a xs/\xs[i]? =some x,λ i H x H'=>∃p y,H p=none/\H'=upd H p (.tup [.int i,y])/\x=.ref p/\∀xs,q.Sq H a xs->xs[i]? =some y,λ i H=>∃xs,q.Sq H a xs/\i=xs.length⟩
theorem Hd(q:SqKind P w K){elts:List Expr}{k:Nat}{pos:Pos}(a e it:Addr)(hne:e≠it):Turn P w K (.Tuple elts k pos) (Ite q a) [e,it] e (λ i h=>(∃old,IsEnum h e it i old)/\q.It h it a i) where
 mem:=by simp
 obj:=λ i h st b hb=>by
  obtain⟨⟨old,he⟩,hi⟩:=st
  rcases ZJ.mp hb with rfl | hb
  . exact⟨_,he,λ v z=>nomatch z⟩
  . rw[ZL.mp hb]
    obtain⟨o,vs,h1,h2⟩:=q.itObj hi
    exact⟨o,h1,λ v z=>by rw[h2]at z;cases z⟩
 keep:=λ i h h' st k=>⟨let ⟨old,he⟩:=st.1;⟨old,k e (by simp) _ he⟩,q.itAt st.2 λ o e=>k it (by simp) o e⟩
 item :=by
  intro X hP hw hK hc i pins s σ H E I hf st hg
  obtain⟨xs,x,hq,hx⟩:=hg
  obtain⟨its,rv,ob⟩:=q.get hP hw hK I hq
  obtain⟨u,hu,ru⟩:=rv.get hx
  obtain⟨⟨old,he⟩,hi⟩:=st
  have ne:=q.ne hi ob
  have hea:e≠a:=λ z=>by
   obtain⟨o,n,h1,h2⟩:=q.obObj ob
   rw[←z,he]at h1
   cases h1
   cases h2
  have hlt:i<its.toArray.size:=by simpa using(z0.mp hu).1
  have uq:∀ys,q.Sq H a ys->ys[i]? =some x:=λ ys hy=>by rw[q.inj hP hw hK I hy hq];exact hx
  subst hP hw
  refine wpAny_pyNext_enum_itemD (q.draws X.A.in1 (I.ok.hd hc) it a ne its.toArray) he ⟨hi,ob⟩ hlt hne (by simp[hne,hea]) λ x' h' tk hPx ho hs' hT hsz hk=>?_
  have ex:x'=u:=by
   have:its.toArray[i]? =some u:=by simpa using hu
   rw[this]at hPx
   exact(Option.some.inj hPx).symm
  subst ex
  refine⟨_,rfl,wpAny_letOwnedTupleGo_enum ho λ h2 he2 sb=>?_⟩
  have I1:Inv X pins σ H {s with heap:=h2,toks:=tk+1}:=m6 (ch:=[e,it]) I hf λ b o hb q'=>(sb.2 b (λ z=>hb (by simp[z]))).trans (hk b o (λ z=>hb (by simp[z])) (λ z=>hb (by simp[z])) q')
  have hp:H s.heap.objs.size=none:=I.hok.fresh (y9 _)
  have elt:e<s.heap.objs.size:=ZE he
  have hT2:h2.get? s.heap.objs.size=some {cls:=.type "tuple",data:=.seq #[.int i tk,x']}:=(sb.2 _ (Nat.ne_of_gt elt)).trans hT
  have I2:Inv X pins σ (upd H s.heap.objs.size (.tup [.int i,x])) {s with heap:=h2,toks:=tk+1}:=pL I I1 (y9 _) ⟨by show 2≤sizeLine;decide,[.int i tk,x'],.cons ⟨tk,rfl⟩ (.cons ru .nil),_,hT2,rfl,_,rfl⟩
  refine⟨.ref s.heap.objs.size,_,I2,rfl,⟨_,x,hp,rfl,rfl,uq⟩,⟨⟨_,by simpa using he2⟩,q.itAt hs'.1 λ o q'=>(sb.2 it hne.symm).trans q'⟩,λ b hb=>?_⟩
  rw[ao (w9 ?_)]
  . exact(hf b hb).1
  . rcases ZJ.mp hb with rfl | hb
    . exact elt
    . rw[ZL.mp hb]
      obtain⟨o,vs,h1,_⟩:=q.itObj hi
      exact ZE h1
 done:=by
  intro X hP hw hK hc i pins s σ H E I hf st hg
  obtain⟨xs,hq,hx⟩:=hg
  obtain⟨its,rv,ob⟩:=q.get hP hw hK I hq
  obtain⟨⟨old,he⟩,hi⟩:=st
  have ne:=q.ne hi ob
  subst hP hw
  obtain⟨f0,f1,f2,f3,f4,f5⟩:=hf it (by simp)
  have hn:i=its.toArray.size:=by rw[hx,rv.length];simp
  have st':q.It s.heap it a its.toArray.size/\q.Ob s.heap a its.toArray:=⟨hn▸hi,ob⟩
  exact wpAny_pyNext_enum_endD (q.draws X.A.in1 (I.ok.hd hc) it a ne its.toArray) he st' λ h' ext=>⟨rfl,I.turned (t':=s.toks) (λ b o hb e=>ext b o hb e) f0 f1 f3 f4 f5⟩
 self:=λ _ _ _ _ _ st h=>let ⟨old,he⟩:=st.1;wpAny_pyIter_enum he h
theorem oU(q:SqKind P w K){O:Own}{H:Hp}{a:Addr}{ds:List D}(h:∀O' H',Conv O O' H H'->∃xs,q.Sq H' a xs/\Reps K O' H' xs ds):gR K (Ite q a) O H (ds.mapIdx λ i d=>.tup [.int i,d]):=by
 intro O' H' cv tr i
 obtain⟨xs,hq,r⟩:=h O' H' cv
 refine⟨λ d hd=>?_,λ hi=>⟨xs,hq,by rw[hi,r.length];simp⟩⟩
 rw[List.getElem?_mapIdx]at hd
 cases e:ds[i]? with
 | none=>rw[e]at hd;cases hd
 | some d0=>
   rw[e]at hd
   cases hd
   obtain⟨v,hv,rv⟩:=r.get e
   refine⟨⟨xs,v,hq,hv⟩,λ x H'' y=>?_⟩
   obtain⟨p,y,hp,rfl,rfl,hy⟩:=y
   have ey:=hy xs hq
   rw[hv]at ey
   cases ey
   have np:¬O'.has p:=λ z=>tr p z hp
   exact⟨c7.fresh hp _,.tup ⟨np,aH⟩ (.cons (.int _) (.cons (rv.mono (Step.fresh hp _)) .nil))⟩
section
variable {X : Cx} {Γ : Gam} {S : Store} {e : Expr} {pos : Pos}
theorem Eh{σ:St}{elts:List Expr}{k:Nat}{tp:Pos}{R:It->Hp->Prop}{E:%[|7]}{h':Heap}(q:SqKind X.prog X.w X.K){a:Addr}(I:%[|5])(he:IsEnum h' (s.heap.objs.size+1) s.heap.objs.size 0 .none)(hi:q.It h' s.heap.objs.size a 0)
 (kp:∀b o,s.heap.get? b=some o->h'.get? b=some o)(r:R (Ite q a) H):wpAny %[|6] X.A (pyIter (.ref (s.heap.objs.size+1))) (PIE X pins σ (.Tuple elts k tp) R) E {s with heap:=h'}:=by
 refine wpAny_pyIter_enum he ?_
 refine⟨s.heap.objs.size+1,[s.heap.objs.size+1,s.heap.objs.size],_,_,H,rfl,I.kept (t':=s.toks) kp,Hd q a (s.heap.objs.size+1) s.heap.objs.size (Nat.succ_ne_self _),⟨⟨_,he⟩,hi⟩,λ b hb=>?_,r⟩
 rcases ZJ.mp hb with rfl | hb
 . exact I.fpOk (Nat.le_succ _) (I.hok.fresh (Nat.le_succ _))
 . rw[ZL.mp hb]
   exact I.fpOk (y9 _) (I.hok.fresh (y9 _))
theorem HF(l:Addr)(items:Array Value)(n:Nat)(dct:Option Addr)(sl:Array (Option Value)):
 Meets (Builtin.«enumerate.__new__» ⟨[.type "enumerate",.ref l],[]⟩) (λ _ R s=>s.heap.get? l=some {cls:=.type "tuple",dict:=dct,data:=.seq items n,slots:=sl}/\
  R (.ok (.ret (.ref (s.heap.push {cls:=.type "tuple_iterator",data:=.fields #[.ref l,.int 0 0]}).objs.size)))
    {s with heap:=(s.heap.push {cls:=.type "tuple_iterator",data:=.fields #[.ref l,.int 0 0]}).push {cls:=.type "enumerate",data:=.fields #[.none,.bool false,.ref s.heap.objs.size,rawInt 0,.none,.none]}}):=
 .of_wp λ prog w A R s h=>by
  obtain⟨hp,g,d,tk,os⟩:=s;obtain⟨hl,h⟩:=h
  have hsub:=sub_enumerate
  have hT:Heap.IsTuple (Shared.heap ⟨hp,g,d,tk,os⟩) l items:=⟨_,hl,rfl,n,rfl⟩
  wp_walk using AutoSeq1.wpAny_loadPart' hl
  refine wpAny_stack_any λ st=>ZB ?_
  split
  . rename_i c _ _ _ _ _
    cases (c==Value.type "enumerate")<;>(wp_walk using AutoSeq1.wpAny_loadPart' hl,wpAny_pyIter_tuple hT;exact⟨_,rfl,h⟩)
  . wp_walk using AutoSeq1.wpAny_loadPart' hl,wpAny_pyIter_tuple hT
    exact⟨_,rfl,h⟩
end
end
end DL
namespace DL
open PySem PySem.Spec L2
open PyProof.Rows
structure Zd(z TI TO i1 i2:Addr)(f1 f2:List Addr):Prop where
 a:TI≠z
 b:TO≠z
 c:TI≠TO
 d:TI≠i1
 e:TI≠i2
 f:TO≠i1
 g:TO≠i2
 h:i1≠z
 i:i2≠z
 j:z∉f1
 k:z∉f2
 l:TO∉f1
 m:TO∉f2
 n:i1∉f2
 o:i2∉f1
section
variable {prog : Program} {w : World} {A : Around} {E : Value -> Shared -> Prop} {s : Shared} {z TI TO i1 i2 : Addr} {f1 f2 : List Addr} {n1 n2 k : Nat} {P1 P2 : Nat -> Value -> Prop} {T1 T2 : Nat -> Heap -> Prop} {va vb : Value}
theorem Tz{Q:%[|7]}(D1:Draws prog w A i1 f1 n1 P1 T1)(D2:Draws prog w A i2 f2 n2 P2 T2)(Z:Zd z TI TO i1 i2 f1 f2)(hz:IsZip s.heap z TI TO .none)(hTI:IsPair s.heap TI (.ref i1) (.ref i2))(hTO:IsPair s.heap TO va vb)(t1:T1 k s.heap)(t2:T2 k s.heap)(k1:k<n1)(k2:k<n2)
 (hQ:∀x y h' tk,P1 k x->P2 k y->IsZip h' z TI TO (rawInt s.heap.objs.size)->IsPair h' TO x y->T1 (k+1) h'->T2 (k+1) h'->IsPair h' s.heap.objs.size x y->
  (∀c o,c≠z->c≠TO->c≠i1->c≠i2->s.heap.get? c=some o->h'.get? c=some o)->Q (.ref s.heap.objs.size) {s with heap:=h',toks:=tk}):
 wpAny (model prog w) A (Builtin.«zip.__next__» ⟨[.ref z],[]⟩) (λ fin s'=>∃v,fin=.done (.ret v)/\Q v s') E s:=by
 obtain⟨hp,g,d,tk0,os⟩:=s
 refine ZA (m:=field (.ref z) 2) (wpAny_field hz rfl (x:=.bool false) rfl (ZA (m:=field (.ref z) 3) (wpAny_field hz rfl (x:=.ref TI) rfl (ZA (wpAny_seqItems hTI rfl ?_)))))
 refine ZA (m:=Builtin.SmallTypes.ownedTupleIsFree (.ref z)) ?_
 unfold Builtin.SmallTypes.ownedTupleIsFree
 refine ZA (wpAny_field hz rfl (x:=.none) rfl (ZB ?_))
 simp only[if_true]
 refine ZA (wpAny_rule (ZA (wpAny_field hz rfl (x:=.ref TO) rfl (ZA (wpAny_setField_rec hz (by simp) λ h1 hz1 s1=>?_)))))
 replace hz1:IsZip h1 z TI TO .ellipsis:=hz1
 refine ZA ?_
 simp only[List.zipIdx_cons,List.zipIdx_nil,List.forIn_cons,List.forIn_nil]
 refine ZA (ZA (wpAny_onRaise (ZA (m:=Builtin.SmallTypes.nextOf (.ref i1)) ?_)))
 refine D1.item k _ _ _ k1 (D1.frame _ _ _ t1 λ b hb o e=>s1.extBut b o (λ q=>Z.j (q▸hb)) e) λ x h2 tk1 p1 t1' s2=>ZB ?_
 replace s2:Heap.SameBut i1 h1 h2:=s2
 have o2:IsPair h2 TO va vb:=s2.extBut _ _ Z.f (s1.extBut _ _ Z.b hTO)
 refine ZA (wpAny_seqItems o2 rfl (ZA (wpAny_updateSeq_pair o2 λ h3 o3 s3=>ZA (wpAny_letGo (ZB ?_)))))
 replace o3:IsPair h3 TO x vb:=o3
 refine ZA (ZA (wpAny_onRaise (ZA (m:=Builtin.SmallTypes.nextOf (.ref i2)) ?_)))
 have t2':T2 k h3:=D2.frame _ _ _ t2 λ b hb o e=>s3.extBut b o (λ q=>Z.m (q▸hb)) (s2.extBut b o (λ q=>Z.n (q▸hb)) (s1.extBut b o (λ q=>Z.k (q▸hb)) e))
 refine D2.item k _ _ _ k2 t2' λ y h4 tk2 p2 t2'' s4=>ZB ?_
 replace s4:Heap.SameBut i2 h3 h4:=s4
 have o4:IsPair h4 TO x vb:=s4.extBut _ _ Z.g o3
 refine ZA (wpAny_seqItems o4 rfl (ZA (wpAny_updateSeq_pair o4 λ h5 o5 s5=>ZA (wpAny_letGo (ZB (ZB ?_))))))
 replace o5:IsPair h5 TO x y:=o5
 refine ZA (wpAny_seqItems o5 rfl (ZA (wpAny_newTuple ?_)))
 have sz:h5.objs.size=hp.objs.size:=by rw[s5.1,s4.1,s3.1,s2.1,s1.1]
 have hz5:IsZip h5 z TI TO .ellipsis:=s5.extBut _ _ Z.b.symm (s4.extBut _ _ Z.i.symm (s3.extBut _ _ Z.b.symm (s2.extBut _ _ Z.h.symm hz1)))
 have k5:∀c o,c≠z->c≠TO->c≠i1->c≠i2->hp.get? c=some o->h5.get? c=some o:=λ c o c1 c2 c3 c4 q=>s5.extBut _ _ c2 (s4.extBut _ _ c4 (s3.extBut _ _ c2 (s2.extBut _ _ c3 (s1.extBut _ _ c1 q))))
 have zlt:z<h5.objs.size:=ZE hz5
 refine ZA (m:=Builtin.SmallTypes.ownedTupleHandOut (.ref z) (.ref h5.objs.size)) ?_
 unfold Builtin.SmallTypes.ownedTupleHandOut
 have hz6:IsZip (h5.push {cls:=.type "tuple",data:=.seq #[x,y]}) z TI TO .ellipsis:=ZC _ hz5
 refine ZA (wpAny_setField_rec hz6 (by simp) λ h7 hz7 s7=>?_)
 replace hz7:IsZip h7 z TI TO (rawInt h5.objs.size):=hz7
 refine wpAny_setField_rec hz7 (by simp) λ h8 hz8 s8=>?_
 replace hz8:IsZip h8 z TI TO (rawInt h5.objs.size):=hz8
 have up:∀c o,c≠z->h5.get? c=some o->h8.get? c=some o:=λ c o c1 q=>s8.extBut _ _ c1 (s7.extBut _ _ c1 (ZC _ q))
 have p8:IsPair h8 h5.objs.size x y:=s8.extBut _ _ (Nat.ne_of_gt zlt) (s7.extBut _ _ (Nat.ne_of_gt zlt) (ZD _ rfl))
 rw[sz]at hz8 p8
 refine ZB ⟨_,rfl,?_⟩
 show Q (.ref h5.objs.size) _
 rw[sz]
 have u1:T1 (k+1) h8:=D1.frame _ _ _ t1' λ b hb o q=>up b o (λ r=>Z.j (r▸hb)) (s5.extBut b o (λ r=>Z.l (r▸hb)) (s4.extBut b o (λ r=>Z.o (r▸hb)) (s3.extBut b o (λ r=>Z.l (r▸hb)) q)))
 have u2:T2 (k+1) h8:=D2.frame _ _ _ t2'' λ b hb o q=>up b o (λ r=>Z.k (r▸hb)) (s5.extBut b o (λ r=>Z.m (r▸hb)) q)
 exact hQ x y h8 tk2 p1 p2 hz8 (up _ _ Z.b o5) u1 u2 p8 λ c o c1 c2 c3 c4 q=>up c o c1 (k5 c o c1 c2 c3 c4 q)
theorem Lg{Q:PySem.Fin->%[|8]}(D1:Draws prog w A i1 f1 n1 P1 T1)(D2:Draws prog w A i2 f2 n2 P2 T2)(Z:Zd z TI TO i1 i2 f1 f2)(hz:IsZip s.heap z TI TO .none)(hTI:IsPair s.heap TI (.ref i1) (.ref i2))(hTO:IsPair s.heap TO va vb)(t1:T1 k s.heap)(t2:T2 k s.heap)(hk:k=n1∨(k<n1/\k=n2))
 (hE:∀h' tk e,(∀c o,c≠z->c≠TO->c≠i1->c≠i2->s.heap.get? c=some o->h'.get? c=some o)->(∃o,h'.get? e=some o/\o.cls=.type "StopIteration")->E (.ref e) {s with heap:=h',toks:=tk}):
 wpAny (model prog w) A (Builtin.«zip.__next__» ⟨[.ref z],[]⟩) Q E s:=by
 obtain⟨hp,g,d,tk0,os⟩:=s
 refine ZA (m:=field (.ref z) 2) (wpAny_field hz rfl (x:=.bool false) rfl (ZA (m:=field (.ref z) 3) (wpAny_field hz rfl (x:=.ref TI) rfl (ZA (wpAny_seqItems hTI rfl ?_)))))
 refine ZA (m:=Builtin.SmallTypes.ownedTupleIsFree (.ref z)) ?_
 unfold Builtin.SmallTypes.ownedTupleIsFree
 refine ZA (wpAny_field hz rfl (x:=.none) rfl (ZB ?_))
 simp only[if_true]
 refine ZA (wpAny_rule (ZA (wpAny_field hz rfl (x:=.ref TO) rfl (ZA (wpAny_setField_rec hz (by simp) λ h1 hz1 s1=>?_)))))
 replace hz1:IsZip h1 z TI TO .ellipsis:=hz1
 refine ZA ?_
 simp only[List.zipIdx_cons,List.zipIdx_nil,List.forIn_cons,List.forIn_nil]
 refine ZA (ZA (wpAny_onRaise (ZA (m:=Builtin.SmallTypes.nextOf (.ref i1)) ?_)))
 have t1':T1 k h1:=D1.frame _ _ _ t1 λ b hb o e=>s1.extBut b o (λ q=>Z.j (q▸hb)) e
 rcases hk with rfl | ⟨k1,rfl⟩
 . refine D1.done _ _ _ t1' λ h2 e s2 hq_=>?_
   obtain⟨oe,he,ce⟩:=hq_
   replace s2:Heap.ExtBut i1 h1 h2:=s2
   have hz2:IsZip h2 z TI TO .ellipsis:=s2 _ _ Z.h.symm hz1
   have ez:e≠z:=λ q=>by subst q;rw[hz2]at he;cases he;simp at ce
   exact wpAny_setField_rec hz2 (by simp) λ h3 _ s3=>hE h3 _ e (λ c o c1 _ c3 _ q=>s3.extBut _ _ c1 (s2 _ _ c3 (s1.extBut _ _ c1 q))) ⟨oe,s3.extBut _ _ ez he,ce⟩
 . refine D1.item k _ _ _ k1 t1' λ x h2 tk1 p1 _ s2=>ZB ?_
   replace s2:Heap.SameBut i1 h1 h2:=s2
   have o2:IsPair h2 TO va vb:=s2.extBut _ _ Z.f (s1.extBut _ _ Z.b hTO)
   refine ZA (wpAny_seqItems o2 rfl (ZA (wpAny_updateSeq_pair o2 λ h3 o3 s3=>ZA (wpAny_letGo (ZB ?_)))))
   refine ZA (ZA (wpAny_onRaise (ZA (m:=Builtin.SmallTypes.nextOf (.ref i2)) ?_)))
   have t2':T2 k h3:=D2.frame _ _ _ t2 λ b hb o e=>s3.extBut b o (λ q=>Z.m (q▸hb)) (s2.extBut b o (λ q=>Z.n (q▸hb)) (s1.extBut b o (λ q=>Z.k (q▸hb)) e))
   refine D2.done _ _ _ t2' λ h4 e s4 hq_=>?_
   obtain⟨oe,he,ce⟩:=hq_
   replace s4:Heap.ExtBut i2 h3 h4:=s4
   have hz4:IsZip h4 z TI TO .ellipsis:=s4 _ _ Z.i.symm (s3.extBut _ _ Z.b.symm (s2.extBut _ _ Z.h.symm hz1))
   have ez:e≠z:=λ q=>by subst q;rw[hz4]at he;cases he;simp at ce
   exact wpAny_setField_rec hz4 (by simp) λ h5 _ s5=>hE h5 _ e (λ c o c1 c2 c3 c4 q=>s5.extBut _ _ c1 (s4 _ _ c4 (s3.extBut _ _ c2 (s2.extBut _ _ c3 (s1.extBut _ _ c1 q))))) ⟨oe,s5.extBut _ _ ez he,ce⟩
end
section
variable {P : Program} {w : World} {K : PySem.W.Frag}
def Itz(q r:SqKind P w K)(a b:Addr):It:=
 ⟨λ i H=>∃xs ys x y,q.Sq H a xs/\r.Sq H b ys/\xs[i]? =some x/\ys[i]? =some y,
  λ i H v H'=>∃p x y,H p=none/\H'=upd H p (.tup [x,y])/\v=.ref p/\(∀xs,q.Sq H a xs->xs[i]? =some x)/\∀ys,r.Sq H b ys->ys[i]? =some y,
  λ i H=>∃xs ys,q.Sq H a xs/\r.Sq H b ys/\i=min xs.length ys.length⟩
structure Zr(z TI TO i1 i2:Addr):Prop where
 a:TI≠z
 b:TO≠z
 c:TI≠TO
 d:TI≠i1
 e:TI≠i2
 f:TO≠i1
 g:TO≠i2
 h:i1≠z
 i:i2≠z
 j:i1≠i2
theorem Zr.zd(q r:SqKind P w K){X:Cx}{pins:Pins}{σ:St}{H:Hp}{s:Shared}{z TI TO i1 i2 a b:Addr}{xs ys:List V}(Z:Zr z TI TO i1 i2)(hK:X.K=K)(I:%[|5])(hf:∀c∈[z,TI,TO,i1,i2],eQ X pins H c)(hq:q.Sq H a xs)(hr:r.Sq H b ys):Zd z TI TO i1 i2 [i1,a] [i2,b]:=by
 have fa:∀c∈[z,TI,TO,i1,i2],c≠a:=λ c hc=>(q.far hK I hq (hf c hc)).symm
 have fb:∀c∈[z,TI,TO,i1,i2],c≠b:=λ c hc=>(r.far hK I hr (hf c hc)).symm
 refine⟨Z.a,Z.b,Z.c,Z.d,Z.e,Z.f,Z.g,Z.h,Z.i,?_,?_,?_,?_,?_,?_⟩
 . simp[Z.h.symm,fa z (by simp)]
 . simp[Z.i.symm,fb z (by simp)]
 . simp[Z.f,fa TO (by simp)]
 . simp[Z.g,fb TO (by simp)]
 . simp[Z.j,fb i1 (by simp)]
 . simp[Z.j.symm,fa i2 (by simp)]
theorem Ky(q r:SqKind P w K){elts:List Expr}{k:Nat}{pos:Pos}(a b z TI TO i1 i2:Addr)(Z:Zr z TI TO i1 i2):Turn P w K (.Tuple elts k pos) (Itz q r a b) [z,TI,TO,i1,i2] z
 (λ i h=>IsZip h z TI TO .none/\IsPair h TI (.ref i1) (.ref i2)/\(∃va vb,IsPair h TO va vb)/\q.It h i1 a i/\r.It h i2 b i) where
 mem:=by simp
 obj:=λ i h st c hc=>by
  obtain⟨hz,hTI,⟨va,vb,hTO⟩,hi,hj⟩:=st
  obtain⟨o,vs,h1,h2⟩:=q.itObj hi
  obtain⟨o',vs',h1',h2'⟩:=r.itObj hj
  simp only[List.mem_cons,List.not_mem_nil,or_false]at hc
  rcases hc with rfl | rfl | rfl | rfl | rfl
  . exact⟨_,hz,λ v z=>nomatch z⟩
  . exact⟨_,hTI,λ v z=>nomatch z⟩
  . exact⟨_,hTO,λ v z=>nomatch z⟩
  . exact⟨o,h1,λ v z=>by rw[h2]at z;cases z⟩
  . exact⟨o',h1',λ v z=>by rw[h2']at z;cases z⟩
 keep:=λ i h h' st k=>by
  obtain⟨hz,hTI,⟨va,vb,hTO⟩,hi,hj⟩:=st
  exact⟨k z (by simp) _ hz,k TI (by simp) _ hTI,⟨va,vb,k TO (by simp) _ hTO⟩,q.itAt hi λ o e=>k i1 (by simp) o e,r.itAt hj λ o e=>k i2 (by simp) o e⟩
 item:=by
  intro X hP hw hK hc i pins s σ H E I hf st hg
  obtain⟨xs,ys,x,y,hq,hr,hx,hy⟩:=hg
  obtain⟨its,rv,ob⟩:=q.get hP hw hK I hq
  obtain⟨its2,rv2,ob2⟩:=r.get hP hw hK I hr
  obtain⟨u,hu,ru⟩:=rv.get hx
  obtain⟨u2,hu2,ru2⟩:=rv2.get hy
  obtain⟨hz,hTI,⟨va,vb,hTO⟩,hi,hj⟩:=st
  have ux:∀zs,q.Sq H a zs->zs[i]? =some x:=λ zs h=>by rw[q.inj hP hw hK I h hq];exact hx
  have uy:∀zs,r.Sq H b zs->zs[i]? =some y:=λ zs h=>by rw[r.inj hP hw hK I h hr];exact hy
  have Z2:=Z.zd q r hK I hf hq hr
  have l1:i<its.toArray.size:=by simpa using(z0.mp hu).1
  have l2:i<its2.toArray.size:=by simpa using(z0.mp hu2).1
  subst hP hw
  have hT:s.TypeIs (.ref z) "zip":=⟨_,hz,rfl⟩
  unfold pyNext
  refine ZA (wpAny_attempt (wpAny_callSpecial?_slot (name:=Str.ofString "__next__") hT F.slot_zip_next (ZP F.slot_zip_next hT F.entry_zip_next ?_ (F.args_zip_next_1 _))))
  refine Tz (q.draws X.A.in1 (I.ok.hd hc) i1 a (q.ne hi ob) its.toArray) (r.draws X.A.in1 (I.ok.hd hc) i2 b (r.ne hj ob2) its2.toArray) Z2 hz hTI hTO ⟨hi,ob⟩ ⟨hj,ob2⟩ l1 l2 λ x' y' h' tk px py hz' hTO' t1 t2 hp' kp=>ZB ?_
  have ex:x'=u:=by
   have e1:its.toArray[i]? =some u:=by simpa using hu
   rw[e1]at px
   exact(Option.some.inj px).symm
  have ey:y'=u2:=by
   have e1:its2.toArray[i]? =some u2:=by simpa using hu2
   rw[e1]at py
   exact(Option.some.inj py).symm
  subst ex
  subst ey
  refine⟨_,rfl,wpAny_letOwnedTupleGo_zip hz' λ h2 hz2 sb=>?_⟩
  have I1:Inv X pins σ H {s with heap:=h2,toks:=tk}:=m6 (ch:=[z,TI,TO,i1,i2]) I hf λ c o hb q'=>(sb.2 c (λ z=>hb (by simp[z]))).trans (kp c o (λ z=>hb (by simp[z])) (λ z=>hb (by simp[z])) (λ z=>hb (by simp[z])) (λ z=>hb (by simp[z])) q')
  have hp:H s.heap.objs.size=none:=I.hok.fresh (y9 _)
  have elt:z<s.heap.objs.size:=ZE hz
  have hT2:h2.get? s.heap.objs.size=some {cls:=.type "tuple",data:=.seq #[x',y']}:=(sb.2 _ (Nat.ne_of_gt elt)).trans hp'
  have I2:Inv X pins σ (upd H s.heap.objs.size (.tup [x,y])) {s with heap:=h2,toks:=tk}:=pL I I1 (y9 _) ⟨by show 2≤sizeLine;decide,[x',y'],.cons ru (.cons ru2 .nil),_,hT2,rfl,_,rfl⟩
  have hTI':IsPair h2 TI (.ref i1) (.ref i2):=(sb.2 _ Z.a).trans (kp _ _ Z.a Z.c Z.d Z.e hTI)
  refine⟨.ref s.heap.objs.size,_,I2,rfl,⟨_,x,y,hp,rfl,rfl,ux,uy⟩,⟨hz2,hTI',⟨_,_,(sb.2 _ Z.b).trans hTO'⟩,q.itAt t1.1 λ o q'=>(sb.2 i1 Z.h).trans q',r.itAt t2.1 λ o q'=>(sb.2 i2 Z.i).trans q'⟩,λ c hb=>?_⟩
  rw[ao (w9 ?_)]
  . exact(hf c hb).1
  . obtain⟨o,vs,h1,_⟩:=q.itObj hi
    obtain⟨o',vs',h1',_⟩:=r.itObj hj
    simp only[List.mem_cons,List.not_mem_nil,or_false]at hb
    rcases hb with rfl | rfl | rfl | rfl | rfl
    . exact elt
    . exact ZE hTI
    . exact ZE hTO
    . exact ZE h1
    . exact ZE h1'
 done:=by
  intro X hP hw hK hc i pins s σ H E I hf st hg
  obtain⟨xs,ys,hq,hr,hn⟩:=hg
  obtain⟨its,rv,ob⟩:=q.get hP hw hK I hq
  obtain⟨its2,rv2,ob2⟩:=r.get hP hw hK I hr
  obtain⟨hz,hTI,⟨va,vb,hTO⟩,hi,hj⟩:=st
  have Z2:=Z.zd q r hK I hf hq hr
  subst hP hw
  have hT:s.TypeIs (.ref z) "zip":=⟨_,hz,rfl⟩
  have hk:i=its.toArray.size∨(i<its.toArray.size/\i=its2.toArray.size):=by
   have e1:=rv.length
   have e2:=rv2.length
   simp only[x4]
   omega
  unfold pyNext
  refine ZA (wpAny_attempt (wpAny_callSpecial?_slot (name:=Str.ofString "__next__") hT F.slot_zip_next (ZP F.slot_zip_next hT F.entry_zip_next ?_ (F.args_zip_next_1 _))))
  refine Lg (q.draws X.A.in1 (I.ok.hd hc) i1 a (q.ne hi ob) its.toArray) (r.draws X.A.in1 (I.ok.hd hc) i2 b (r.ne hj ob2) its2.toArray) Z2 hz hTI hTO ⟨hi,ob⟩ ⟨hj,ob2⟩ hk λ h' tk e kp hq_=>?_
  obtain⟨o,he,ce⟩:=hq_
  refine ZA (wpAny_isInstance (T:="StopIteration") (b:=true) ⟨o,he,ce⟩ isSubtype_stop (ZB ⟨rfl,?_⟩))
  exact m6 (ch:=[z,TI,TO,i1,i2]) I hf λ c o hb q'=>kp c o (λ z=>hb (by simp[z])) (λ z=>hb (by simp[z])) (λ z=>hb (by simp[z])) (λ z=>hb (by simp[z])) q'
 self:=λ _ _ _ _ _ st h=>wpAny_pyIter_zip st.1 h
theorem qC(q r:SqKind P w K){O:Own}{H:Hp}{a b:Addr}{ds es:List D}(h:∀O' H',Conv O O' H H'->∃xs ys,q.Sq H' a xs/\Reps K O' H' xs ds/\r.Sq H' b ys/\Reps K O' H' ys es):gR K (Itz q r a b) O H (List.zipWith (λ x y=>.tup [x,y]) ds es):=by
 intro O' H' cv tr i
 obtain⟨xs,ys,hq,r1,hr,r2⟩:=h O' H' cv
 refine⟨λ d hd=>?_,λ hi=>⟨xs,ys,hq,hr,by rw[hi,r1.length,r2.length,List.length_zipWith]⟩⟩
 rw[List.getElem?_zipWith]at hd
 cases e1:ds[i]? with
 | none=>rw[e1]at hd;cases hd
 | some d1=>
   cases e2:es[i]? with
   | none=>rw[e1,e2]at hd;cases hd
   | some d2=>
     rw[e1,e2]at hd
     cases hd
     obtain⟨v1,hv1,rv1⟩:=r1.get e1
     obtain⟨v2,hv2,rv2⟩:=r2.get e2
     refine⟨⟨xs,ys,v1,v2,hq,hr,hv1,hv2⟩,λ x H'' y=>?_⟩
     obtain⟨p,x',y',hp,rfl,rfl,hx,hy⟩:=y
     have ex:=hx xs hq
     have ey:=hy ys hr
     rw[hv1]at ex
     rw[hv2]at ey
     cases ex
     cases ey
     have np:¬O'.has p:=λ z=>tr p z hp
     exact⟨c7.fresh hp _,.tup ⟨np,aH⟩ (.cons (rv1.mono (Step.fresh hp _)) (.cons (rv2.mono (Step.fresh hp _)) .nil))⟩
abbrev zh(h:Heap)(c1 c2:String)(l1 l2:Addr):Heap:=
 ((((h.push {cls:=.type c1,data:=.fields #[.ref l1,.int 0 0]}).push {cls:=.type c2,data:=.fields #[.ref l2,.int 0 0]}).push {cls:=.type "tuple",data:=.seq #[.ref h.objs.size,.ref (h.push {cls:=.type c1,data:=.fields #[.ref l1,.int 0 0]}).objs.size]}).push {cls:=.type "tuple",data:=.seq #[.none,.none]})
abbrev zhz(h:Heap)(c1 c2:String)(l1 l2:Addr):Heap:=
 (zh h c1 c2 l1 l2).push {cls:=.type "zip",data:=.fields #[.none,.bool false,.bool false,.ref ((h.push {cls:=.type c1,data:=.fields #[.ref l1,.int 0 0]}).push {cls:=.type c2,data:=.fields #[.ref l2,.int 0 0]}).objs.size,
  .ref (((h.push {cls:=.type c1,data:=.fields #[.ref l1,.int 0 0]}).push {cls:=.type c2,data:=.fields #[.ref l2,.int 0 0]}).push {cls:=.type "tuple",data:=.seq #[.ref h.objs.size,.ref (h.push {cls:=.type c1,data:=.fields #[.ref l1,.int 0 0]}).objs.size]}).objs.size]}
theorem Im(l1 l2:Addr)(xs ys:Array Value):
 Meets (Builtin.«zip.__new__» ⟨[.type "zip",.ref l1,.ref l2],[]⟩) (λ _ R s=>s.heap.IsTuple l1 xs/\s.heap.IsTuple l2 ys/\
  R (.ok (.ret (.ref (zh s.heap "tuple_iterator" "tuple_iterator" l1 l2).objs.size))) {s with heap:=zhz s.heap "tuple_iterator" "tuple_iterator" l1 l2}):=
 .of_wp λ prog w A R s h=>by
  obtain⟨hp,g,d,tk,os⟩:=s;obtain⟨a1,a2,h⟩:=h
  have hsub:=sub_zip
  have b1:Heap.IsTuple (Shared.heap ⟨hp,g,d,tk,os⟩) l1 xs:=a1
  have b2:Heap.IsTuple (Shared.heap ⟨hp.push {cls:=.type "tuple_iterator",data:=.fields #[.ref l1,.int 0 0]},g,d,tk,os⟩) l2 ys:=Heap.IsTuple.push a2 _
  wp_walk using wpAny_pyIter_tuple b1,wpAny_pyIter_tuple b2
  exact⟨_,rfl,h⟩
end
section
variable {X : Cx} {Γ : Gam} {S : Store} {pos : Pos}
theorem zip_parts(h:Heap)(c1 c2:String)(l1 l2:Addr):(zh h c1 c2 l1 l2).objs.size=h.objs.size+4/\IsZip (zhz h c1 c2 l1 l2) (h.objs.size+4) (h.objs.size+2) (h.objs.size+3) .none/\IsPair (zhz h c1 c2 l1 l2) (h.objs.size+2) (.ref h.objs.size) (.ref (h.objs.size+1))/\IsPair (zhz h c1 c2 l1 l2) (h.objs.size+3) .none .none/\
 (zhz h c1 c2 l1 l2).get? h.objs.size=some {cls:=.type c1,data:=.fields #[.ref l1,.int 0 0]}/\(zhz h c1 c2 l1 l2).get? (h.objs.size+1)=some {cls:=.type c2,data:=.fields #[.ref l2,.int 0 0]}/\∀b o,h.get? b=some o->(zhz h c1 c2 l1 l2).get? b=some o:=by
 have z1:(h.push {cls:=.type c1,data:=.fields #[.ref l1,.int 0 0]}).objs.size=h.objs.size+1:=Heap.size_push ..
 have z2:((h.push {cls:=.type c1,data:=.fields #[.ref l1,.int 0 0]}).push {cls:=.type c2,data:=.fields #[.ref l2,.int 0 0]}).objs.size=h.objs.size+2:=by rw[Heap.size_push,z1]
 have z3:(((h.push {cls:=.type c1,data:=.fields #[.ref l1,.int 0 0]}).push {cls:=.type c2,data:=.fields #[.ref l2,.int 0 0]}).push {cls:=.type "tuple",data:=.seq #[.ref h.objs.size,.ref (h.push {cls:=.type c1,data:=.fields #[.ref l1,.int 0 0]}).objs.size]}).objs.size=h.objs.size+3:=by rw[Heap.size_push,z2]
 have z4:(zh h c1 c2 l1 l2).objs.size=h.objs.size+4:=by rw[Heap.size_push,z3]
 have g5:=ZD (zh h c1 c2 l1 l2) (o:={cls:=.type "zip",data:=.fields #[.none,.bool false,.bool false,.ref ((h.push {cls:=.type c1,data:=.fields #[.ref l1,.int 0 0]}).push {cls:=.type c2,data:=.fields #[.ref l2,.int 0 0]}).objs.size,
  .ref (((h.push {cls:=.type c1,data:=.fields #[.ref l1,.int 0 0]}).push {cls:=.type c2,data:=.fields #[.ref l2,.int 0 0]}).push {cls:=.type "tuple",data:=.seq #[.ref h.objs.size,.ref (h.push {cls:=.type c1,data:=.fields #[.ref l1,.int 0 0]}).objs.size]}).objs.size]}) rfl
 have g4:(zhz h c1 c2 l1 l2).get? (((h.push {cls:=.type c1,data:=.fields #[.ref l1,.int 0 0]}).push {cls:=.type c2,data:=.fields #[.ref l2,.int 0 0]}).push {cls:=.type "tuple",data:=.seq #[.ref h.objs.size,.ref (h.push {cls:=.type c1,data:=.fields #[.ref l1,.int 0 0]}).objs.size]}).objs.size=some {cls:=.type "tuple",data:=.seq #[.none,.none]}:=ZC _ (ZD _ rfl)
 have g3:(zhz h c1 c2 l1 l2).get? ((h.push {cls:=.type c1,data:=.fields #[.ref l1,.int 0 0]}).push {cls:=.type c2,data:=.fields #[.ref l2,.int 0 0]}).objs.size=some {cls:=.type "tuple",data:=.seq #[.ref h.objs.size,.ref (h.push {cls:=.type c1,data:=.fields #[.ref l1,.int 0 0]}).objs.size]}:=ZC _ (ZC _ (ZD _ rfl))
 have g2:(zhz h c1 c2 l1 l2).get? (h.push {cls:=.type c1,data:=.fields #[.ref l1,.int 0 0]}).objs.size=some {cls:=.type c2,data:=.fields #[.ref l2,.int 0 0]}:=ZC _ (ZC _ (ZC _ (ZD _ rfl)))
 have g1:(zhz h c1 c2 l1 l2).get? h.objs.size=some {cls:=.type c1,data:=.fields #[.ref l1,.int 0 0]}:=ZC _ (ZC _ (ZC _ (ZC _ (ZD _ rfl))))
 rw[z2,z3,z4]at g5
 rw[z3]at g4
 rw[z1,z2]at g3
 rw[z1]at g2
 refine⟨z4,?_,g3,g4,g1,g2,λ b o e=>ZC _ (ZC _ (ZC _ (ZC _ (ZC _ e))))⟩
 show(zhz h c1 c2 l1 l2).get? _=_
 unfold zhz
 rw[z2,z3]
 exact g5
theorem Ib{pins:Pins}{σ:St}{H:Hp}{s:Shared}{elts:List Expr}{k:Nat}{tp:Pos}{R:It->Hp->Prop}{E:%[|7]}{c1 c2:String}{l1 l2:Addr}(q r:SqKind X.prog X.w X.K)(I:%[|5])
 (hi:q.It (zhz s.heap c1 c2 l1 l2) s.heap.objs.size l1 0)(hj:r.It (zhz s.heap c1 c2 l1 l2) (s.heap.objs.size+1) l2 0)(rr:R (Itz q r l1 l2) H):
 wpAny %[|6] X.A (pyIter (.ref (s.heap.objs.size+4))) (PIE X pins σ (.Tuple elts k tp) R) E {s with heap:=zhz s.heap c1 c2 l1 l2}:=by
 obtain⟨_,p1,p2,p3,_,_,kp⟩:=zip_parts s.heap c1 c2 l1 l2
 refine wpAny_pyIter_zip p1 ?_
 refine⟨s.heap.objs.size+4,[s.heap.objs.size+4,s.heap.objs.size+2,s.heap.objs.size+3,s.heap.objs.size,s.heap.objs.size+1],_,_,H,rfl,I.kept (t':=s.toks) kp,Ky q r l1 l2 (s.heap.objs.size+4) (s.heap.objs.size+2) (s.heap.objs.size+3) s.heap.objs.size (s.heap.objs.size+1) ?_,⟨p1,p2,⟨_,_,p3⟩,hi,hj⟩,λ b hb=>?_,rr⟩
 . constructor<;>exact λ z=>by have z':(_:Nat)=_:=z;omega
 . have hb':s.heap.objs.size≤b:=by
    simp only[List.mem_cons,List.not_mem_nil,or_false]at hb
    rcases hb with rfl | rfl | rfl | rfl | rfl
    . exact Nat.le_add_right _ _
    . exact Nat.le_add_right _ _
    . exact Nat.le_add_right _ _
    . exact y9 _
    . exact Nat.le_add_right _ _
   exact I.fpOk hb' (I.hok.fresh hb')
theorem Ml{e1 e2:Expr}{elts:List Expr}{k:Nat}{tp p:Pos}{W:List D->%[|4]}(h:Ev X Γ S e1 λ d S1=>Ev X Γ S1 e2 λ d' S2=>∃ds es,d=.tup ds/\d'=.tup es/\W (List.zipWith (λ x y=>.tup [x,y]) ds es) S2)(hm:X.mg "zip"=none)(hg:Gl X "zip":=by rfl)
 (hs:starEach [e1,e2] X.env=(false,eval e1 X.env)::starEach [e2] X.env:=by rfl)(hs2:starEach [e2] X.env=[(false,eval e2 X.env)]:=by rfl):
 ItW X Γ S (.Tuple elts k tp) (.Call (.Name "zip" p) [e1,e2] [] pos) W:=by
 intro pins s σ H O I env st
 have hA:EvA X Γ S [e1,e2] λ dd S2=>∃ds es,dd=[.tup ds,.tup es]/\W (List.zipWith (λ x y=>.tup [x,y]) ds es) S2:=
  cG (h.mono λ d S1 h1=>cG (h1.mono λ d' S2 ⟨ds,es,a,b,w⟩=>jD ⟨ds,es,by rw[a,b],w⟩) hs2) hs
 refine Call_ (cz I hg hm boot_zip (PyProof.Rows.callWith_type1 (thn (hA pos pins s σ H O I env st) λ us s1 hq_=>?_) hs (by rw[hs2];rfl)))
 obtain⟨vs,H1,I1,r1,O1,dd,S1,⟨ds,es,ed,w⟩,st1,ok1,rep⟩:=hq_
 subst ed
 cases rep with
 | cons ra rb=>
   cases rb with
   | cons rb rc=>
     cases rc
     obtain⟨u,u2,rfl,ru,ru2⟩:=vals2 r1
     cases ra with
     | @tup a xs _ h1 q1=>
       cases rb with
       | @tup b ys _ h2 q2=>
         cases ru
         cases ru2
         obtain⟨its,rv,pl,hz⟩:=I1.tuple h1.sq
         obtain⟨its2,rv2,pl2,hz2⟩:=I1.tuple h2.sq
         obtain⟨z4,p1,p2,p3,p4,p5,kp⟩:=zip_parts s1.heap "tuple_iterator" "tuple_iterator" a b
         refine callType_new F.called_zip %[|3] (F.typeCall_zip_2 _ _) (F.newCall_zip_2 _ _) (λ obj=>F.args_object_init_3 obj _ _) F.entry_zip_new (Im a b its.toArray its2.toArray) ⟨pl,pl2,?_⟩
         show _/\_
         rw[z4]
         refine⟨⟨_,p1,rfl⟩,Ib (Ep X.prog X.w X.K) (Ep X.prog X.w X.K) I1 ⟨_,p4,rfl,rfl⟩ ⟨_,p5,rfl,rfl⟩ ⟨O1,_,S1,w,st1,ok1,qC _ _ λ O' H' cv=>⟨xs,ys,(h1.conv cv).sq,q1.conv cv,(h2.conv cv).sq,q2.conv cv⟩⟩⟩
end
section
variable {X : Cx} {Γ : Gam} {S : Store} {e : Expr}
theorem VJ{W:Option Int->%[|4]}(h:Ev X Γ S e λ d S1=>∃i,d=.int i/\W (some i) S1):PoD X Γ S (some e) W:=h
theorem Vw{W:Option Int->%[|4]}(h:W none S):PoD X Γ S none W:=h
theorem U8{c:Expr}{W:Bool->%[|4]}(h:Ts X Γ S c W):TsA X Γ S [c] W:=h
end
theorem aC{α:Type}{xs:List α}{i:Nat}{x:α}(h:xs[i]? =some x):xs.take (i+1)=xs.take i++[x]:=by rw[List.take_add_one,h];rfl
theorem xY(d:D)(ds:List D):cutD (d::ds) (some 1) none=ds:=by
 unfold cutD
 have h1:HT.sIx (d::ds).length 0 (some 1)=1:=by
  have:=HT.sIx_nat (d::ds).length 0 1
  simp only[List.length_cons]at this ⊢
  have h2:((1:Nat):Int)=1:=rfl
  rw[h2]at this
  rw[this];omega
 rw[h1,HT.sIx_none]
 simp
theorem yz{ds:List D}{k:Int}(h:0≤k):cutD ds none (some k)=ds.take k.toNat:=by
 unfold cutD
 rw[HT.sIx_none]
 have e:HT.sIx ds.length ds.length (some k)=min k.toNat ds.length:=by
  have:=HT.sIx_nat ds.length ds.length k.toNat
  rwa[Int.toNat_of_nonneg h]at this
 rw[e,List.drop_zero,Nat.sub_zero]
 rcases Nat.le_total k.toNat ds.length with q | q
 . rw[Nat.min_eq_left q]
 . rw[Nat.min_eq_right q,List.take_of_length_le (y9 _),List.take_of_length_le q]
theorem J9{ds:List D}{k:Int}(h:0≤k):cutD ds (some k) none=ds.drop k.toNat:=by
 unfold cutD
 rw[HT.sIx_none]
 have e:HT.sIx ds.length 0 (some k)=min k.toNat ds.length:=by
  have:=HT.sIx_nat ds.length 0 k.toNat
  rwa[Int.toNat_of_nonneg h]at this
 rw[e]
 rcases Nat.le_total k.toNat ds.length with q | q
 . rw[Nat.min_eq_left q,List.take_of_length_le (by rw[List.length_drop];omega)]
 . rw[Nat.min_eq_right q,List.drop_eq_nil_of_le (y9 _),List.drop_eq_nil_of_le q];simp
theorem gF{α:Type}{ds:List α}{v:Int}(h0:0≤v)(h1:v<ds.length):∃x,atI ds v=some x/\ds[v.toNat]? =some x:=by
 have hk:v.toNat<ds.length:=%[|0]
 refine⟨ds[v.toNat],?_,y3 hk⟩
 have q:=bA (xs:=ds) (j:=v.toNat) (y3 hk)
 rwa[Int.toNat_of_nonneg h0]at q
theorem xZ{α:Type}(x:α)(xs:List α):atI (x::xs) 0=some x:=bA (xs:=x::xs) (j:=0) rfl
theorem set_get{S:Store}{k:Nat}{l l':List D}(h:S[k]? =some l):(S.set k l')[k]? =some l':=List.getElem?_set_self (z0.mp h).1
end DL
namespace RF
open PySem PySem.Spec L2 DL
open PyProof.Rows
open Builtin
theorem pJ:fillsNumberSlot (.type "tuple") "mul"=pure false:=
 PySem.fillsNumberSlot_seq (id:="tuple.__mul__") (r:=some (.builtin "tuple.__rmul__")) F.slot_tuple_mul.lookup (by decide+kernel) F.slot_tuple_rmul.lookup (by decide+kernel)
theorem z7:seqRepeat? (.type "tuple")=pure (some (.builtin "tuple.__mul__")):=by
 unfold seqRepeat?
 rw[PySem.seqSlot_of (T:="tuple") (name:="__mul__") (id:="tuple.__mul__") F.slot_tuple_mul.lookup (by decide+kernel),PySem.seqSlot_of (T:="tuple") (name:="__rmul__") (id:="tuple.__rmul__") F.slot_tuple_rmul.lookup (by decide+kernel)]
 rfl
theorem ug(a:Int)(t:Tok)(l:Addr)(items:Array Value)(n:Nat)(dct:Option Addr)(sl:Array (Option Value)):
 Meets (Builtin.«int.__rmul__» ⟨[.int a t,.ref l],[]⟩) (λ _ R s=>s.heap.get? l=some {cls:=.type "tuple",dict:=dct,data:=.seq items n,slots:=sl}/\R (.ok (.ret Value.notImplemented)) s):=
 .of_wp λ prog w A R s h=>by obtain⟨hp,g,d,tk,os⟩:=s;obtain⟨hl,h⟩:=h;wp_walk;exact⟨_,rfl,h⟩
theorem sE(l:Addr)(items:Array Value)(n:Nat)(dct:Option Addr)(sl:Array (Option Value))(x:Int)(u:Tok)(h1:¬(decide (x< -(2 ^ 63))||decide (x≥2 ^ 63))=true)(hc:(items.isEmpty||x==1)=true):
 Meets (Builtin.«tuple.__mul__» ⟨[.ref l,.int x u],[]⟩) (λ _ R s=>s.heap.get? l=some {cls:=.type "tuple",dict:=dct,data:=.seq items n,slots:=sl}/\R (.ok (.ret (.ref l))) s):=
 .of_wp λ prog w A R s h=>by
  obtain⟨hp,g,d,tk,os⟩:=s;obtain⟨hl,h⟩:=h
  unfold Builtin.«tuple.__mul__»
  wp_walk
  rw[if_neg h1]
  wp_walk using AutoSeq1.wpAny_loadPart' hl
  try rw[if_pos hc]
  wp_walk using AutoSeq1.wpAny_loadPart' hl
  exact⟨_,rfl,h⟩
theorem rT(l:Addr)(items:Array Value)(n:Nat)(dct:Option Addr)(sl:Array (Option Value))(x:Int)(u:Tok)(h1:¬(decide (x< -(2 ^ 63))||decide (x≥2 ^ 63))=true)(hc:¬(items.isEmpty||x==1)=true)(h2:(decide (x≤0)||items.isEmpty)=true):
 Meets (Builtin.«tuple.__mul__» ⟨[.ref l,.int x u],[]⟩) (λ _ R s=>s.heap.get? l=some {cls:=.type "tuple",dict:=dct,data:=.seq items n,slots:=sl}/\R (.ok (.ret (.ref s.heap.objs.size))) {s with heap:=s.heap.push {cls:=.type "tuple",data:=.seq #[]}}):=
 .of_wp λ prog w A R s h=>by
  obtain⟨hp,g,d,tk,os⟩:=s;obtain⟨hl,h⟩:=h
  unfold Builtin.«tuple.__mul__»
  wp_walk
  rw[if_neg h1]
  wp_walk using AutoSeq1.wpAny_loadPart' hl
  try rw[if_neg hc]
  wp_walk using AutoSeq1.wpAny_loadPart' hl
  try rw[if_pos h2]
  wp_walk using AutoSeq1.wpAny_loadPart' hl
  exact⟨_,rfl,h⟩
theorem sG(l:Addr)(items:Array Value)(n:Nat)(dct:Option Addr)(sl:Array (Option Value))(x:Int)(u:Tok)(h1:¬(decide (x< -(2 ^ 63))||decide (x≥2 ^ 63))=true)(hc:¬(items.isEmpty||x==1)=true)(h2:¬(decide (x≤0)||items.isEmpty)=true)
 (h3:¬((items.size:Int)*x>(2 ^ 63-1)/8))(h4:¬Builtin.Tuple.tupleTooMany ((items.size:Int)*x)=true)(h5:((List.replicate x.toNat items).foldl (· ++·) #[]).size≤sizeLine):
 Meets (Builtin.«tuple.__mul__» ⟨[.ref l,.int x u],[]⟩) (λ _ R s=>s.heap.get? l=some {cls:=.type "tuple",dict:=dct,data:=.seq items n,slots:=sl}/\R (.ok (.ret (.ref s.heap.objs.size))) {s with heap:=s.heap.push {cls:=.type "tuple",data:=.seq ((List.replicate x.toNat items).foldl (· ++·) #[])}}):=
 .of_wp λ prog w A R s h=>by
  obtain⟨hp,g,d,tk,os⟩:=s;obtain⟨hl,h⟩:=h
  unfold Builtin.«tuple.__mul__»
  wp_walk
  rw[if_neg h1]
  wp_walk using AutoSeq1.wpAny_loadPart' hl
  try rw[if_neg hc]
  wp_walk using AutoSeq1.wpAny_loadPart' hl
  try rw[if_neg h2]
  wp_walk using AutoSeq1.wpAny_loadPart' hl
  try rw[if_neg h3]
  wp_walk using AutoSeq1.wpAny_loadPart' hl
  try rw[if_neg h4]
  wp_walk using AutoSeq1.wpAny_loadPart' hl
  exact⟨_,rfl,h⟩
theorem Reps.rep{K:PySem.W.Frag}{O:Own}{H:Hp}{vs:List V}{ds:List D}(r:Reps K O H vs ds):∀k:Nat,Reps K O H (List.replicate k vs).flatten (List.replicate k ds).flatten
 | 0=>.nil
 | k+1=>by
   rw[List.replicate_succ,List.replicate_succ,List.flatten_cons,List.flatten_cons]
   exact r.append (Reps.rep r k)
theorem Uh{X:Cx}{S:Store}{W:WD}{ds:List D}{k:Int}(hk: -(2 ^ 63)≤k/\k<2 ^ 63)(hz:ds.length*k.toNat≤1000000)(w:W (.tup (List.replicate k.toNat ds).flatten) S):cW X .Mult (.tup ds) (.int k) S W:=by
 intro pins s σ H O v w' u u' I st r1 r2 r3 r4
 cases r1 with
 | @tup a xs _ h1 q1=>
   cases r2
   cases r3
   obtain⟨t,rfl⟩:=r4
   obtain⟨its,v1,p1,_⟩:=I.tuple h1.sq
   obtain⟨⟨cls,dd,data,sl⟩,ho,hc,n,hd⟩:=id p1
   simp only at hc hd
   subst hc hd
   have l1:its.length=ds.length:=by rw[←v1.length,q1.length]
   have c1:¬(decide (k< -(2 ^ 63))||decide (k≥2 ^ 63))=true:=by
    rw[ZH %[|0],ZH %[|0]];decide
   have new:∀m:Nat,m=k.toNat->EP X pins σ (QG X.K O H W) (.ref s.heap.objs.size) {s with heap:=s.heap.push {cls:=.type "tuple",data:=.seq (List.replicate m its).flatten.toArray}}:=by
    rintro m rfl
    refine⟨.ref s.heap.objs.size,upd H s.heap.objs.size (.tup (List.replicate k.toNat xs).flatten),I.laid (t':=s.toks) (λ b u e=>ZC _ e) (y9 _) ?_,rfl,jr w st I.fresh (Reps.rep q1 _)⟩
    exact⟨by rw[len_rep,q1.length,Nat.mul_comm];exact small hz,_,v1.rep _,⟨_,ZD _ rfl,rfl,_,rfl⟩⟩
   refine PySem.wpAny_binaryOp_repeat_ref (T:="tuple") (U:="int") %[|3] ⟨_,ho,rfl⟩ (λ s'=>typeIs_int s' k t) pJ F.fills_int_mul F.slot_int_rmul z7 F.slot_int_index.lookup
    (call_meets F.slot_int_rmul (typeIs_int s k t) F.entry_int_rmul (F.args_int_rmul_2 _ _) (ug k t a its.toArray n dd sl) ⟨ho,rfl,⟨_,ho,rfl⟩,?_⟩)
   by_cases b1:(its.toArray.isEmpty||k==1)=true
   . refine call_meets F.slot_tuple_mul ⟨_,ho,rfl⟩ F.entry_tuple_mul (F.args_tuple_mul_2 _ _) (sE a its.toArray n dd sl k t c1 b1) ⟨ho,.ref a,H,I,rfl,?_⟩
     have e:(List.replicate k.toNat ds).flatten=ds:=by
      rw[Bool.or_eq_true]at b1
      rcases b1 with z | z
      . have:its=[]:=by simpa using z
        have:ds=[]:=by rw[this]at l1;simpa using l1.symm
        subst this
        simp
      . have:k=1:=ZI z
        subst this
        simp
     rw[e]at w
     exact QG.here w st (.tup h1 q1)
   . by_cases b2:(decide (k≤0)||its.toArray.isEmpty)=true
     . refine call_meets F.slot_tuple_mul ⟨_,ho,rfl⟩ F.entry_tuple_mul (F.args_tuple_mul_2 _ _) (rT a its.toArray n dd sl k t c1 b1 b2) ⟨ho,?_⟩
       have h0:k.toNat=0:=by
        rw[Bool.or_eq_true]at b2
        rcases b2 with z | z
        . have:=ZF z;omega
        . exact absurd (by rw[z];rfl) b1
       have:=new 0 h0.symm
       exact this
     . have h0:0<k:=by
        cases z:decide (k≤0)with
        | true=>exact absurd (by rw[z];rfl) b2
        | false=>have:=of_decide_eq_false z;omega
       have ek:(its.toArray.size:Int)*k=((its.length*k.toNat:Nat):Int):=by
        rw[x4,Int.natCast_mul,Int.toNat_of_nonneg %[|0]]
       have fz:List.foldl (λ x1 x2=>x1++x2) #[] (List.replicate k.toNat its.toArray)=(List.replicate k.toNat its).flatten.toArray:=by
        have:=foldl_rep its k.toNat []
        rw[List.nil_append]at this
        exact this
       have big:its.length*k.toNat≤1000000:=by rw[l1];exact hz
       refine call_meets F.slot_tuple_mul ⟨_,ho,rfl⟩ F.entry_tuple_mul (F.args_tuple_mul_2 _ _) (sG a its.toArray n dd sl k t c1 b1 b2 (by rw[ek];omega) ?_ ?_) ⟨ho,?_⟩
       . rw[ek]
         have:(1000000:Nat)≤sizeLine:=%[|3]
         unfold Builtin.Tuple.tupleTooMany
         rw[decide_eq_true_eq]
         omega
       . rw[fz,x4,len_rep,Nat.mul_comm];exact small big
       . rw[fz]
         exact new _ rfl
variable {W : WD}
set_option genInjectivity false in
structure Wd where
 P:Program
 w:World
 K:PySem.W.Frag
 mg:Str->Option Value
 base:Heap
 cd:Option (Value×Str):=none
abbrev Nm:=List (Str×NameKind)
structure At(Ω:Wd)(X:Cx)(r:Nat)(top:Bool)(N:%[|2])(nm:Nm):Prop where
 p:X.prog=Ω.P
 w:X.w=Ω.w
 k:X.K=Ω.K
 g:X.mg=Ω.mg
 b:X.base=Ω.base
 room:Room r X.A
 xe:X.xe=λ _ _=>False
 calm:X.calm=true
 n:X.N=N
 nd:N.Nodup
 kind:X.env.scope.kind=.function
 look:∀x k,nm.lookup x=some k->X.env.kindOf x=some k∨(k=.free/\X.env.kindOf x=some .cell)
 fn:∀x,nm.lookup x=some .cell->X.fn x=true
 cd:top=true->∀p,Ω.cd=some p->X.env.code=p.1/\X.env.qual=p.2
def vis(nm:Nm)(x:Str):Bool:=match nm.lookup x with | some .local=>true | some .cell=>true | some .free=>true | _=>false
def lcl(top:Bool)(nm:Nm)(x:Str):Bool:=match nm.lookup x with | some .local=>true | some .cell=>true | _=>false
def glb(nm:Nm)(x:Str):Bool:=nm.lookup x==some .globalImplicit
def okN(x:Str):Bool:=!(x==("__debug__":Str))&&(!(x==("__classdict__":Str))&& !(x==("__name__":Str)))
def okE:Expr->Bool
 | .Starred .. =>false | .Set .. =>false | .Slice .. =>false | _=>true
def noC:Expr->Bool
 | .ListComp .. =>false | .SetComp .. =>false | .DictComp .. =>false | _=>true
def TY:Expr->Bool
 | .UnaryOp .. =>false | .BoolOp .. =>false | .IfExp .. =>false | .Compare .. =>false | _=>true
theorem aa{a b:Bool}(h:(a&&b)=true):a=true/\b=true:=by cases a<;>cases b<;>first | exact⟨rfl,rfl⟩ | exact(y6 h).elim
theorem nt{a:Bool}(h:(!a)=true):a=false:=by cases a<;>first | rfl | exact(y6 h).elim
theorem gU{x:Str}(h:okN x=true):(x==("__debug__":Str))=false/\(x==("__classdict__":Str))=false/\x≠"__name__":=by
 obtain⟨h1,h2⟩:=aa h
 obtain⟨h2,h3⟩:=aa h2
 exact⟨nt h1,nt h2,λ e=>by rw[e]at h3;simp at h3⟩
section
variable {Ω : Wd} {X : Cx} {r : Nat} {top : Bool} {N : %[|2]} {nm : Nm} {x : Str}
theorem At.vis(A:At Ω X r top N nm)(h:RF.vis nm x=true):Vis X.env.scope x:=by
 unfold RF.vis at h
 cases e:nm.lookup x with
 | none=>rw[e]at h;cases h
 | some k=>
   rw[e]at h
   have q:=A.look x k e
   cases k with
   | «local»=>rcases q with q | ⟨q,_⟩;exact .inl q;exact nomatch q
   | cell=>rcases q with q | ⟨q,_⟩;exact .inr (.inl q);exact nomatch q
   | free=>rcases q with q | ⟨_,q⟩;exact .inr (.inr q);exact .inr (.inl q)
   | _=>exact(y6 h).elim
theorem At.lcl(A:At Ω X r top N nm)(h:RF.lcl top nm x=true):Loc X.env.scope x/\(X.fn x=true∨X.env.scope.names.lookup x=some .local):=by
 unfold RF.lcl at h
 cases e:nm.lookup x with
 | none=>rw[e]at h;cases h
 | some k=>
   rw[e]at h
   have q:=A.look x k e
   cases k with
   | «local»=>rcases q with q | ⟨q,_⟩;exact⟨.inl q,.inr q⟩;exact nomatch q
   | cell=>rcases q with q | ⟨q,_⟩;exact⟨.inr q,.inl (A.fn x e)⟩;exact nomatch q
   | _=>exact(y6 h).elim
theorem At.glb(A:At Ω X r top N nm)(h:RF.glb nm x=true):Gl X x:=by
 have e:nm.lookup x=some .globalImplicit:=ZI h
 rcases A.look x _ e with q | ⟨q,_⟩
 . exact q
 . exact nomatch q
end
theorem aA{e:Expr}(h:okE e=true)(es:List Expr)(env:Env):starEach (e::es) env=(false,eval e env)::starEach es env:=by
 cases e<;>first | rfl | exact(y6 h).elim
theorem qL:∀{es:List Expr}(_:es.all okE=true)(pos:Pos)(env:Env),(backTo pos (starEach es env)).any (·.1)=false
 | [],_,_,_=>rfl
 | e::es,h,pos,env=>by
   rw[List.all_cons]at h
   obtain⟨h1,h2⟩:=aa h
   rw[aA h1]
   show(false||(backTo pos (starEach es env)).any (·.1))=false
   rw[qL h2];rfl
theorem gk{op:CmpOp}{e:Expr}(h:okE e=true):behindInMarks op e=false:=by
 cases e<;>first | rfl | exact(y6 h).elim
theorem yS{e:Expr}(h:okE e=true):DX e:=by
 intro _ _
 cases e<;>first | rfl | exact(y6 h).elim
theorem nA{e:Expr}(h:okE e=true)(env:Env):∀x,foldedSetIterable e env x=pure x:=by
 intro x
 cases e<;>first | rfl | exact(y6 h).elim
theorem kh{e:Expr}(h:noC e=true)(t:Option Expr)(l:Nat)(env:Env):swapsWith e t l env=pure false:=by
 cases e<;>first | rfl | exact(y6 h).elim
theorem RX{e:Expr}(h:TY e=true)(env:Env):∀whole,isTrue e env whole=(do let v ←whole;standAt e.pos;holding [v] (truthy v)):=by
 intro w
 cases e<;>first | rfl | exact(y6 h).elim
section
variable {X : Cx} {Γ : Gam} {S : Store} {e : Expr} {es : List Expr}
theorem EvA.mono{W W':List D->%[|4]}(h:EvA X Γ S es W)(k:∀ds S',W ds S'->W' ds S'):EvA X Γ S es W':=λ pos pins s σ H O I env st=>
 thn (h pos pins s σ H O I env st) λ _ _ hq_=>by obtain⟨v,H',I',r,O',d,S',w,q⟩:=hq_;exact⟨v,H',I',r,O',d,S',k d S' w,q⟩
theorem Ts.mono{W W':Bool->%[|4]}(h:Ts X Γ S e W)(k:∀c S',W c S'->W' c S'):Ts X Γ S e W':=λ pins s σ H O I env st=>
 thn (h pins s σ H O I env st) λ _ _ hq_=>by obtain⟨H',I',O',S',w,q⟩:=hq_;exact⟨H',I',O',S',k _ S' w,q⟩
theorem BdW.mono{d:D}{W W':Gam->%[|4]}(h:BdW X e d Γ S W)(k:∀G S',W G S'->W' G S'):BdW X e d Γ S W':=λ pins s σ H O v u I env st r ru=>
 thn (h pins s σ H O v u I env st r ru) λ _ _ q=>by
  obtain⟨σ',H',I',O',G,S',w,q⟩:=q
  exact⟨σ',H',I',O',G,S',k G S' w,q⟩
theorem ItW.mono{tg:Expr}{W W':List D->%[|4]}(h:ItW X Γ S tg e W)(k:∀ds S',W ds S'->W' ds S'):ItW X Γ S tg e W':=λ pins s σ H O I env st=>
 thn (h pins s σ H O I env st) λ _ _ q=>thn q λ _ _ q=>by
  obtain⟨it,fp,tn,J,H',e1,e2,e3,e4,e5,O',ds,S',w,z⟩:=q
  exact⟨it,fp,tn,J,H',e1,e2,e3,e4,e5,O',ds,S',k ds S' w,z⟩
theorem RL{pins:Pins}{O:Own}{H:Hp}{W W':DL.Fin}(h1:∀G S,W.nx G S->W'.nx G S)(h2:∀d S,W.rt d S->W'.rt d S)(h3:∀G S,W.bk G S->W'.bk G S)(h4:∀G S,W.ct G S->W'.ct G S){f:Flow}{s':Shared}(q:SP X pins (ends X.K O H W) f s'):SP X pins (ends X.K O H W') f s':=by
 cases f with
 | next=>obtain⟨σ,H',I,O',G,S',w,q⟩:=q;exact⟨σ,H',I,O',G,S',h1 _ _ w,q⟩
 | brk=>obtain⟨σ,H',I,O',G,S',w,q⟩:=q;exact⟨σ,H',I,O',G,S',h3 _ _ w,q⟩
 | cont=>obtain⟨σ,H',I,O',G,S',w,q⟩:=q;exact⟨σ,H',I,O',G,S',h4 _ _ w,q⟩
 | ret u=>obtain⟨v,σ,H',I,r,O',d,S',w,q⟩:=q;exact⟨v,σ,H',I,r,O',d,S',h2 _ _ w,q⟩
theorem Rn.mono{st:Stmt}{W W':DL.Fin}(h:Rn X Γ S st W)(h1:∀G S,W.nx G S->W'.nx G S)(h2:∀d S,W.rt d S->W'.rt d S)(h3:∀G S,W.bk G S->W'.bk G S)(h4:∀G S,W.ct G S->W'.ct G S):Rn X Γ S st W':=λ pins s σ H O I env ok=>
 thn (h pins s σ H O I env ok) λ _ _ q=>RL h1 h2 h3 h4 q
theorem Je{a b c:Expr}{op op':CmpOp}{pos:Pos}{W:Bool->%[|4]}(h:Ev X Γ S a λ x S1=>Ev X Γ S1 b λ y S2=>bj X op x y S2 (asB λ k S3=>(k=false->W false S3)/\(k=true->Ev X Γ S3 c λ t S4=>bj X op' y t S4 (asB W))))
 (hm:lastMarks [op,op'] [b,c]=false):Ts X Γ S (.Compare a [op,op'] [b,c] pos) W:=by
 intro pins s σ H O I env st
 refine isTrue_chain (rs:=[]) (thn (h pins s σ H O I env st) λ u s1 hq_=>?_) hm
 obtain⟨v,H1,I1,r1,O1,x,S1,hb,st1,ok1,rep1⟩:=hq_
 refine test_link (thn (hb pins s1 σ H1 O1 I1 (env.mono st1) ok1) λ u' s2 hq_=>?_)
 obtain⟨w,H2,I2,r2,O2,y,S2,hw,st2,ok2,rep2⟩:=hq_
 refine thn (hw pins s2 σ H2 O2 v w u u' I2 ok2 (rep1.mono st2) rep2 r1 r2) λ _ s3 hq_=>?_
 obtain⟨z,H3,I3,r3,O3,d3,S3,⟨k,hd,k1,k2⟩,st3,ok3,rep3⟩:=hq_
 subst hd
 cases rep3
 cases r3
 refine wpAny_truthy_bool ?_
 cases k with
 | false=>exact ite_ff ⟨H3,I3,O3,S3,k1 rfl,(st1.trans st2).trans st3,ok3⟩
 | true=>
   refine ite_tt (test_last (thn (k2 rfl pins s3 σ H3 O3 I3 (((env.mono st1).mono st2).mono st3) ok3) λ u4 s4 hq_=>?_))
   obtain⟨w4,H4,I4,r4,O4,t,S4,h4,st4,ok4,rep4⟩:=hq_
   refine thn (h4 pins s4 σ H4 O4 w w4 u' u4 I4 ok4 ((rep2.mono st3).mono st4) rep4 r2 r4) λ _ s5 hq_=>?_
   obtain⟨z5,H5,I5,r5,O5,d5,S5,⟨k,hd,w5⟩,st5,ok5,rep5⟩:=hq_
   subst hd
   cases rep5
   cases r5
   exact wpAny_truthy_bool ⟨H5,I5,O5,S5,w5,(((st1.trans st2).trans st3).trans st4).trans st5,ok5⟩
end
def bII(x y:D)(k:Int->Int->Prop):Prop:=match x with
 | .int i=>(match y with
   | .int j=>k i j
   | _=>False)
 | _=>False
theorem dG{x y:D}{k:Int->Int->Prop}(h:bII x y k):∃i j,x=.int i/\y=.int j/\k i j:=by
 cases x<;>first | exact h.elim | (cases y<;>first | exact h.elim | exact⟨_,_,rfl,rfl,h⟩)
def bTu(x:D)(k:List D->Prop):Prop:=match x with
 | .tup a=>k a
 | _=>False
theorem tX{x:D}{k:List D->Prop}(h:bTu x k):∃a,x=.tup a/\k a:=by cases x<;>first | exact h.elim | exact⟨_,rfl,h⟩
def bLs(x:D)(k:List D->Prop):Prop:=match x with
 | .lst a=>k a
 | _=>False
theorem CK{x:D}{k:List D->Prop}(h:bLs x k):∃a,x=.lst a/\k a:=by cases x<;>first | exact h.elim | exact⟨_,rfl,h⟩
def bIn(x:D)(k:Int->Prop):Prop:=match x with
 | .int a=>k a
 | _=>False
theorem PB{x:D}{k:Int->Prop}(h:bIn x k):∃a,x=.int a/\k a:=by cases x<;>first | exact h.elim | exact⟨_,rfl,h⟩
def Li(x:D)(a b c:Prop):Prop:=match x with
 | .int _=>a
 | .tup _=>b
 | _=>c
theorem yf{x:D}{a b c:Prop}(h:Li x a b c):a∨b∨c:=by cases x<;>first | exact .inl h | exact .inr (.inl h) | exact .inr (.inr h)
def Nv(op:Operator)(x y:D)(S:Store)(W:WD):Prop:=match op with
 | .Add=>Li x (bII x y λ i j=>W (.int (i+j)) S) (bTu x λ a=>bTu y λ b=>a.length+b.length≤1000000/\W (.tup (a++b)) S) (bLs x λ a=>bLs y λ b=>a.length+b.length≤1000000/\W (.lst (a++b)) S)
 | .Sub=>bII x y λ i j=>W (.int (i-j)) S
 | .Mult=>Li x (bII x y λ i j=>CMul i j/\W (.int (i*j)) S) (bTu x λ a=>bIn y λ n=>(-(2 ^ 63)≤n/\n<2 ^ 63)/\a.length*n.toNat≤1000000/\W (.tup (List.replicate n.toNat a).flatten) S) False
 | .Mod=>bII x y λ i j=>0<j/\W (.int (i % j)) S
 | .FloorDiv=>bII x y λ i j=>(0<j/\j<1073741824)/\W (.int (i/j)) S
 | .Pow=>bII x y λ i j=>CPow i j/\W (.int (i ^ j.toNat)) S
 | _=>False
theorem KC{X:Cx}{op:Operator}{x y:D}{S:Store}(h:Nv op x y S W):cW X op x y S W:=by
 cases op<;>first | exact(show False from h).elim | skip
 . rcases yf h with h | h | h
   . obtain⟨i,j,rfl,rfl,h⟩:=dG h;exact Vs h
   . obtain⟨a,rfl,h1⟩:=tX h;obtain⟨b,rfl,h2⟩:=tX h1;exact Tu h2.1 h2.2
   . obtain⟨a,rfl,h1⟩:=CK h;obtain⟨b,rfl,h2⟩:=CK h1;exact RB h2.1 h2.2
 . obtain⟨i,j,rfl,rfl,h⟩:=dG h;exact U4 h
 . rcases yf h with h | h | h
   . obtain⟨i,j,rfl,rfl,h⟩:=dG h;exact UT h.1 h.2
   . obtain⟨a,rfl,h1⟩:=tX h;obtain⟨b,rfl,h2⟩:=PB h1;exact Uh h2.1 h2.2.1 h2.2.2
   . exact h.elim
 all_goals obtain⟨i,j,rfl,rfl,h⟩:=dG h
 all_goals first | exact Vb h.1 h.2 | exact Ti h.1 h.2 | exact Ur h.1 h.2
def My(x y:D)(S:Store)(W:WD):Prop:=match x,y with
 | .tup ds,.int i=>∃d,atI ds i=some d/\W d S
 | .lst ds,.int i=>∃d,atI ds i=some d/\W d S
 | .loc k,.int i=>∃ds d,S[k]? =some ds/\atI ds i=some d/\W d S
 | _,_=>False
theorem Nx{X:Cx}{a b:Expr}{x y:D}{S:Store}(h:My x y S W):IxW X a b x y S W:=by
 unfold My at h
 split at h
 . obtain⟨d,h1,h2⟩:=h;exact U5 h1 h2
 . obtain⟨d,h1,h2⟩:=h;exact UJ h1 h2
 . obtain⟨ds,d,h1,h2,h3⟩:=h;exact Uk h1 h2 h3
 . exact h.elim
def Mq(x:D)(l h:Option Int)(S:Store)(W:WD):Prop:=match x with
 | .tup ds=>W (.tup (cutD ds l h)) S
 | .lst ds=>W (.lst (cutD ds l h)) S
 | .loc k=>∃ds,S[k]? =some ds/\W (.lst (cutD ds l h)) S
 | _=>False
theorem Uv{X:Cx}{S:Store}{k:Nat}{ds:List D}{lo hi:Option Int}(hk:S[k]? =some ds)(w:W (.lst (cutD ds lo hi)) S):SlW X (.loc k) lo hi S W:=by
 intro pins s σ H O v u vl vu sl I st r1 r3 hs pl pu
 cases r1 with
 | @loc p _ h1=>
   obtain⟨xs,hx,q1⟩:=st.obj k p ds h1 hk
   exact DR pins s σ H _ u vl vu lo hi sl _ I r3 hs pl pu ⟨p,xs,rfl,SqL.of hx,λ p' hp=>jx w st hp (tu q1 lo hi)⟩
theorem Qi{X:Cx}{x:D}{l r:Option Int}{S:Store}(h:Mq x l r S W):SlW X x l r S W:=by
 unfold Mq at h
 split at h
 . exact Up h
 . exact Vo h
 . obtain⟨ds,h1,h2⟩:=h;exact Uv h1 h2
 . exact h.elim
inductive Ty where
 | int | bool | tuple | list | str
 deriving DecidableEq
def Ty.id:Ty->String
 | .int=>"int" | .bool=>"bool" | .tuple=>"tuple" | .list=>"list" | .str=>"str"
def Ty.nm:Ty->Str
 | .int=>"int" | .bool=>"bool" | .tuple=>"tuple" | .list=>"list" | .str=>"str"
def isD:Ty->D->Bool
 | .int,.int _=>true | .int,.bl _=>true | .bool,.bl _=>true | .tuple,.tup _=>true | .list,.lst _=>true | .list,.loc _=>true | .str,.str _=>true | _,_=>false
theorem Ub(T:Ty)(x:D):isi (tyD x) T.id=isD T x:=by cases T<;>cases x<;>rfl
theorem Ty.isT(T:Ty):DL.isT T.id=true:=by cases T<;>rfl
theorem Ty.boot(T:Ty):bootBuiltins T.nm=some (.type T.id):=by cases T<;>decide+kernel
theorem Ty.ok(T:Ty):(T.nm==("__debug__":Str))=false/\T.nm≠"__name__":=by cases T<;>decide+kernel
end RF
set_option maxHeartbeats 1000000
namespace RF
open PySem PySem.Spec L2 DL
open PyProof.Rows
variable {e : Expr}
def nameV:Expr->Option Str
 | .Name x _=>some x
 | _=>none
theorem qj{x:Str}(h:nameV e=some x):∃p,e=.Name x p:=by
 unfold nameV at h
 split at h
 . cases h;exact⟨_,rfl⟩
 . cases h
def yC:Expr->Option (Expr×List Expr×Bool)
 | .Call f es ks _=>some (f,es,ks.isEmpty)
 | _=>none
theorem GX{f:Expr}{es:List Expr}(h:yC e=some (f,es,true)):∃pos,e=.Call f es [] pos:=by
 unfold yC at h
 split at h
 . rename_i f' es' ks pos
   have h:=Option.some.inj h
   have h1:=congrArg Prod.fst h
   have h2:=congrArg (λ z=>z.2.1) h
   have h3:ks.isEmpty=true:=congrArg (λ z=>z.2.2) h
   have h1:f'=f:=h1
   have h2:es'=es:=h2
   cases ks with
   | nil=>subst h1 h2;exact⟨pos,rfl⟩
   | cons=>cases h3
 . cases h
def anB{α:Type}(o:Option α)(k:α->Bool):Bool:=match o with
 | some a=>k a
 | none=>false
theorem mV{α:Type}{o:Option α}{k:α->Bool}(h:anB o k=true):∃a,o=some a/\k a=true:=by
 cases o with
 | none=>cases h
 | some a=>exact⟨a,rfl,h⟩
def iz(e:Expr)(k:Str->List Expr->Bool):Bool:=anB (yC e) λ z=>z.2.2&&anB (nameV z.1) λ f=>k f z.2.1
theorem dD{k:Str->List Expr->Bool}(h:iz e k=true):∃f p es pos,e=.Call (.Name f p) es [] pos/\k f es=true:=by
 obtain⟨⟨f,es,b⟩,h1,h⟩:=mV h
 obtain⟨hb,h⟩:=aa h
 have hb:b=true:=hb
 subst hb
 obtain⟨x,h2,h⟩:=mV h
 obtain⟨pos,rfl⟩:=GX h1
 obtain⟨p,e2⟩:=qj h2
 have e2:f=.Name x p:=e2
 subst e2
 exact⟨x,p,es,pos,rfl,h⟩
def tM{α:Type}(l:List α)(k:α->Bool):Bool:=match l with
 | [a]=>k a
 | _=>false
theorem jk{α:Type}{l:List α}{k:α->Bool}(h:tM l k=true):∃a,l=[a]/\k a=true:=by
 cases l with
 | nil=>cases h
 | cons a l=>cases l with
   | nil=>exact⟨a,rfl,h⟩
   | cons=>cases h
def two2{α:Type}(l:List α)(k:α->α->Bool):Bool:=match l with
 | [a,b]=>k a b
 | _=>false
theorem two2_of{α:Type}{l:List α}{k:α->α->Bool}(h:two2 l k=true):∃a b,l=[a,b]/\k a b=true:=by
 cases l with
 | nil=>cases h
 | cons a l=>cases l with
   | nil=>cases h
   | cons b l=>cases l with
     | nil=>exact⟨a,b,rfl,h⟩
     | cons=>cases h
def Gy:Expr->Bool
 | .Tuple .. =>true
 | _=>false
theorem Dj(h:Gy e=true):∃es k p,e=.Tuple es k p:=by
 unfold Gy at h
 split at h
 . exact⟨_,_,_,rfl⟩
 . cases h
def Kp:Stmt->Option (List Expr×Expr)
 | .Assign ts e _=>some (ts,e)
 | _=>none
theorem Ox{st:Stmt}{ts:List Expr}(h:Kp st=some (ts,e)):∃p,st=.Assign ts e p:=by
 unfold Kp at h
 split at h
 . cases h;exact⟨_,rfl⟩
 . cases h
def setB(st:Stmt)(k:Str->Expr->Bool):Bool:=anB (Kp st) λ z=>tM z.1 λ t=>anB (nameV t) λ x=>k x z.2
theorem Qc{st:Stmt}{k:Str->Expr->Bool}(h:setB st k=true):∃x q e p,st=.Assign [.Name x q] e p/\k x e=true:=by
 obtain⟨⟨ts,e⟩,h1,h⟩:=mV h
 obtain⟨t,e1,h⟩:=jk h
 obtain⟨x,h2,h⟩:=mV h
 obtain⟨p,rfl⟩:=Ox h1
 obtain⟨q,rfl⟩:=qj h2
 have e1:ts=[Expr.Name x q]:=e1
 subst e1
 exact⟨x,q,e,p,rfl,h⟩
end RF
set_option maxHeartbeats 4000000
namespace RF
open PySem PySem.Spec L2 DL
open PyProof.Rows
variable {ds : List D} {S : Store} {x y : D} {W : Bool -> Store -> Prop}
mutual
def eqD:D->D->Bool
 | .non,.non=>true
 | .bl a,.bl b=>a==b
 | .int a,.int b=>a==b
 | .bl a,.int b=>(if a then 1 else 0)==b
 | .int a,.bl b=>a==(if b then 1 else 0)
 | .str a,.str b=>a==b
 | .tup a,.tup b=>bW a b
 | .lst a,.lst b=>bW a b
 | .dic,.dic=>true
 | _,_=>false
def bW:List D->List D->Bool
 | [],[]=>true
 | a::as,b::bs=>eqD a b&&bW as bs
 | _,_=>false
end
mutual
def okD:D->Bool
 | .tup ds=>bR ds
 | .lst ds=>bR ds
 | .loc _=>false
 | .dic=>false
 | .dlo _=>false
 | _=>true
def bR:List D->Bool
 | []=>true
 | d::ds=>okD d&&bR ds
end
mutual
inductive Sn(K:PySem.W.Frag)(H:Hp):V->D->Prop
 | non:Sn K H .non .non
 | bl(b:Bool):Sn K H (.bl b) (.bl b)
 | int(i:Int):Sn K H (.int i) (.int i)
 | str(x:Str):Sn K H (.str x) (.str x)
 | tup{a:Addr}{xs:List V}{ds:List D}(h:SqT K H a xs)(r:Sns K H xs ds):Sn K H (.ref a) (.tup ds)
 | lst{a:Addr}{xs:List V}{ds:List D}(h:SqL K H a xs)(r:Sns K H xs ds):Sn K H (.ref a) (.lst ds)
inductive Sns(K:PySem.W.Frag)(H:Hp):List V->List D->Prop
 | nil:Sns K H [] []
 | cons{v:V}{d:D}{vs:List V}{ds:List D}(r:Sn K H v d)(t:Sns K H vs ds):Sns K H (v::vs) (d::ds)
end
section
variable {K : PySem.W.Frag} {H : Hp} {O : Own}
theorem Sns.length:∀{vs:List V}{ds:List D},Sns K H vs ds->vs.length=ds.length
 | _,_,.nil=>rfl
 | _,_,.cons _ t=>by simp[Sns.length t]
theorem Sns.get:∀{vs:List V}{ds:List D}{i:Nat}{d:D},Sns K H vs ds->ds[i]? =some d->∃v,vs[i]? =some v/\Sn K H v d
 | _,_,_,_,.nil,e=>by simp at e
 | _,_,0,_,.cons r _,e=>by simp at e;subst e;exact⟨_,rfl,r⟩
 | _,_,i+1,d,.cons _ t,e=>by
   obtain⟨v,h1,h2⟩:=Sns.get (i:=i) (d:=d) t (by simpa using e)
   exact⟨v,by simpa using h1,h2⟩
mutual
theorem lQ{v:V}{d:D}(h:okD d=true)(r:Rep K O H v d):Sn K H v d:=by
 cases r with
 | non=>exact .non
 | bl b=>exact .bl b
 | int i=>exact .int i
 | str x=>exact .str x
 | tup h1 r=>exact .tup h1.sq (nC h r)
 | lst h1 r=>exact .lst h1.sq (nC h r)
 | loc=>cases h
 | dic=>cases h
 | dlo=>cases h
theorem nC{vs:List V}{ds:List D}(h:bR ds=true)(r:Reps K O H vs ds):Sns K H vs ds:=by
 cases r with
 | nil=>exact .nil
 | cons r t=>
   obtain⟨h1,h2⟩:=aa h
   exact .cons (lQ h1 r) (nC h2 t)
end
end
section
variable {X : Cx} {pins : Pins} {s : Shared} {σ : DL.St} {H : Hp}
mutual
theorem qN(I:%[|5]){v:V}{x y:D}(a:Sn X.K H v x)(b:Sn X.K H v y):x=y:=by
 cases a with
 | non=>cases b;rfl
 | bl=>cases b;rfl
 | int=>cases b;rfl
 | str=>cases b;rfl
 | tup h r=>
   cases b with
   | tup h' r'=>
     have e:=I.tuple_inj h h'
     subst e
     rw[sJ I r r']
   | lst h' r'=>
     exfalso
     obtain⟨its,_,⟨o,h2,h3,_⟩,_⟩:=I.tuple h
     obtain⟨its2,_,pl,_⟩:=I.list h'
     obtain⟨o',h2',h3',_⟩:=pl.isList
     rw[h2]at h2'
     cases h2'
     rw[h3]at h3'
     exact absurd h3' %[|3]
 | lst h r=>
   cases b with
   | lst h' r'=>
     have e:=I.list_inj h h'
     subst e
     rw[sJ I r r']
   | tup h' r'=>
     exfalso
     obtain⟨its,_,⟨o,h2,h3,_⟩,_⟩:=I.tuple h'
     obtain⟨its2,_,pl,_⟩:=I.list h
     obtain⟨o',h2',h3',_⟩:=pl.isList
     rw[h2]at h2'
     cases h2'
     rw[h3]at h3'
     exact absurd h3' %[|3]
theorem sJ(I:%[|5]){vs:List V}{xs ys:List D}(a:Sns X.K H vs xs)(b:Sns X.K H vs ys):xs=ys:=by
 cases a with
 | nil=>cases b;rfl
 | cons r t=>
   cases b with
   | cons r' t'=>rw[qN I r r',sJ I t t']
end
end
theorem Qt(a b:List D):eqD (.tup a) (.tup b)=bW a b:=rfl
theorem QL(a b:List D):eqD (.lst a) (.lst b)=bW a b:=rfl
mutual
theorem jT:∀(x:D),ak x=true->eqD x x=true
 | .non,_=>rfl
 | .bl b,_=>beq_self_eq_true b
 | .int i,_=>beq_self_eq_true i
 | .str s,_=>beq_self_eq_true s
 | .tup ds,h=>lU ds h
 | .lst ds,h=>lU ds h
 | .loc _,h=>by cases h
 | .dlo _,h=>by cases h
 | .dic,_=>rfl
theorem lU:∀(xs:List D),aj xs=true->bW xs xs=true
 | [],_=>rfl
 | d::ds,h=>by
   obtain⟨h1,h2⟩:=aa (show(ak d&&aj ds)=true from h)
   show(eqD d d&&bW ds ds)=true
   rw[jT d h1,lU ds h2]
   rfl
end
abbrev eqJ(ds es:List D)(j:Nat):Bool:=eqD (ds.getD j .non) (es.getD j .non)
theorem Kl(d e:D)(ds es:List D):(eqJ (d::ds) (e::es)) ∘ Nat.succ=eqJ ds es:=by
 funext j;simp[eqJ,List.getD]
theorem j6:∀(ds es:List D),((List.range (min ds.length es.length)).all (eqJ ds es)&&ds.length==es.length)=bW ds es
 | [],[]=>by simp[bW]
 | [],e::es=>by simp[bW]
 | d::ds,[]=>by simp[bW]
 | d::ds,e::es=>by
   have ih:=j6 ds es
   have h1:min (d::ds).length (e::es).length=min ds.length es.length+1:=by simp only[List.length_cons];omega
   rw[h1,List.range_succ_eq_map,List.all_cons,List.all_map,Kl]
   have h2:((d::ds).length==(e::es).length)=(ds.length==es.length):=by simp
   have h3:eqJ (d::ds) (e::es) 0=eqD d e:=by simp[eqJ,List.getD]
   rw[h2,h3,Bool.and_assoc,ih]
   simp only[bW]
theorem Ks{es:List D}(h:ds.length=es.length):(List.range ds.length).all (eqJ ds es)=bW ds es:=by
 rw[←j6 ds es,←h,Nat.min_self,beq_self_eq_true,Bool.and_true]
theorem Oo{es:List D}(h:ds.length≠es.length):bW ds es=false:=by
 rw[←j6 ds es]
 have:(ds.length==es.length)=false:=by simpa using h
 rw[this,Bool.and_false]
section
variable {X : Cx}
theorem rM{n:Nat}(ih:∀(x y:D),deep x≤n->∀{pins:Pins}{s:Shared}{σ:DL.St}{H:Hp}{v w:V}{u u':Value}{A:Around},%[|5]->Sn X.K H v x->Sn X.K H w y->RelV v u->RelV w u'->A.units+n<cLine->SeqAt.EqAt A s u u' (eqD x y))
 (x y:D)(hx:deep x≤n+1){pins:Pins}{s:Shared}{σ:DL.St}{H:Hp}{v w:V}{u u':Value}{A:Around}(I:%[|5])(r1:Sn X.K H v x)(r2:Sn X.K H w y)(ru:RelV v u)(ru':RelV w u')(hu:A.units+(n+1)<cLine):
 SeqAt.RcAt A s u u' (eqD x y)/\SeqAt.RcNeAt A s u u' (!eqD x y):=by
 have hu0:A.units<cLine:=%[|0]
 have part:∀{ds es:List D}{xs ys:List V}{its its2:List Value},aU ds≤n->Sns X.K H xs ds->Sns X.K H ys es->Vals xs its->Vals ys its2->∀j(h1:j<its.toArray.size)(h2:j<its2.toArray.size),SeqAt.EqAt A.in1 s its.toArray[j] its2.toArray[j] (eqJ ds es j):=by
  intro ds es xs ys its its2 hd q1 q2 v1 v2 j j1 j2
  have l1:its.length=ds.length:=by rw[←v1.length,q1.length]
  have l2:its2.length=es.length:=by rw[←v2.length,q2.length]
  have hj:j<ds.length:=by simpa[l1]using j1
  have hj2:j<es.length:=by simpa[l2]using j2
  obtain⟨z1,a1,b1⟩:=q1.get (y3 hj)
  obtain⟨z2,a2,b2⟩:=q2.get (y3 hj2)
  obtain⟨u1,c1,d1⟩:=v1.get a1
  obtain⟨u2,c2,d2⟩:=v2.get a2
  have e1:its.toArray[j]=u1:=by have:=(z0.mp c1).2;simpa using this
  have e2:its2.toArray[j]=u2:=by have:=(z0.mp c2).2;simpa using this
  rw[e1,e2]
  have e3:eqJ ds es j=eqD ds[j] es[j]:=by simp[eqJ,List.getD,hj,hj2]
  rw[e3]
  have hd':=dB (y3 hj)
  exact ih ds[j] es[j] %[|0] I b1 b2 d1 d2 (by show A.units+1+n<cLine;omega)
 cases r1 with
 | non=>
   cases ru
   cases r2 with
   | non=>cases ru';exact⟨SeqAt.RcAt.none_none,SeqAt.RcNeAt.none_none⟩
   | bl b=>cases ru';exact⟨SeqAt.RcAt.none_bool b,SeqAt.RcNeAt.none_bool b⟩
   | int i=>obtain⟨t',rfl⟩:=ru';exact⟨SeqAt.RcAt.none_int i t',SeqAt.RcNeAt.none_int i t'⟩
   | str i=>obtain⟨t',rfl⟩:=ru';exact⟨SeqAt.RcAt.none_str i t',SeqAt.RcNeAt.none_str i t'⟩
   | tup h2 q2=>
     cases ru';obtain⟨its2,v2,p2,_⟩:=I.tuple h2
     exact⟨SeqAt.RcAt.none_tuple (show s.heap.IsTuple _ its2.toArray from p2) hu0,SeqAt.RcNeAt.none_tuple (show s.heap.IsTuple _ its2.toArray from p2) hu0⟩
   | lst h2 q2=>
     cases ru';obtain⟨its2,v2,p2,_⟩:=I.list h2
     exact⟨SeqAt.RcAt.none_list p2.isList hu0,SeqAt.RcNeAt.none_list p2.isList hu0⟩
 | bl a=>
   cases ru
   cases r2 with
   | non=>cases ru';exact⟨SeqAt.RcAt.bool_none a,SeqAt.RcNeAt.bool_none a⟩
   | bl b=>cases ru';exact⟨SeqAt.RcAt.bool_bool a b,SeqAt.RcNeAt.bool_bool a b⟩
   | int i=>obtain⟨t',rfl⟩:=ru';exact⟨SeqAt.RcAt.bool_int a i t',SeqAt.RcNeAt.bool_int a i t'⟩
   | str i=>obtain⟨t',rfl⟩:=ru';exact⟨SeqAt.RcAt.bool_str a i t',SeqAt.RcNeAt.bool_str a i t'⟩
   | tup h2 q2=>
     cases ru';obtain⟨its2,v2,p2,_⟩:=I.tuple h2
     exact⟨SeqAt.RcAt.bool_tuple a (show s.heap.IsTuple _ its2.toArray from p2) hu0,SeqAt.RcNeAt.bool_tuple a (show s.heap.IsTuple _ its2.toArray from p2) hu0⟩
   | lst h2 q2=>
     cases ru';obtain⟨its2,v2,p2,_⟩:=I.list h2
     exact⟨SeqAt.RcAt.bool_list a p2.isList hu0,SeqAt.RcNeAt.bool_list a p2.isList hu0⟩
 | int a=>
   obtain⟨t,rfl⟩:=ru
   cases r2 with
   | non=>cases ru';exact⟨SeqAt.RcAt.int_none a t,SeqAt.RcNeAt.int_none a t⟩
   | bl b=>cases ru';exact⟨SeqAt.RcAt.int_bool a t b,SeqAt.RcNeAt.int_bool a t b⟩
   | int i=>obtain⟨t',rfl⟩:=ru';exact⟨SeqAt.RcAt.int_int a t i t',SeqAt.RcNeAt.int_int a t i t'⟩
   | str i=>obtain⟨t',rfl⟩:=ru';exact⟨SeqAt.RcAt.int_str a t i t',SeqAt.RcNeAt.int_str a t i t'⟩
   | tup h2 q2=>
     cases ru';obtain⟨its2,v2,p2,_⟩:=I.tuple h2
     exact⟨SeqAt.RcAt.int_tuple a t (show s.heap.IsTuple _ its2.toArray from p2) hu0,SeqAt.RcNeAt.int_tuple a t (show s.heap.IsTuple _ its2.toArray from p2) hu0⟩
   | lst h2 q2=>
     cases ru';obtain⟨its2,v2,p2,_⟩:=I.list h2
     exact⟨SeqAt.RcAt.int_list a t p2.isList hu0,SeqAt.RcNeAt.int_list a t p2.isList hu0⟩
 | str a=>
   obtain⟨t,rfl⟩:=ru
   cases r2 with
   | non=>cases ru';exact⟨SeqAt.RcAt.str_none a t,SeqAt.RcNeAt.str_none a t⟩
   | bl b=>cases ru';exact⟨SeqAt.RcAt.str_bool a t b,SeqAt.RcNeAt.str_bool a t b⟩
   | int i=>obtain⟨t',rfl⟩:=ru';exact⟨SeqAt.RcAt.str_int a t i t',SeqAt.RcNeAt.str_int a t i t'⟩
   | str i=>obtain⟨t',rfl⟩:=ru';exact⟨SeqAt.RcAt.str_str a t i t',SeqAt.RcNeAt.str_str a t i t'⟩
   | tup h2 q2=>
     cases ru';obtain⟨its2,v2,p2,_⟩:=I.tuple h2
     exact⟨SeqAt.RcAt.str_tuple a t (show s.heap.IsTuple _ its2.toArray from p2) hu0,SeqAt.RcNeAt.str_tuple a t (show s.heap.IsTuple _ its2.toArray from p2) hu0⟩
   | lst h2 q2=>
     cases ru';obtain⟨its2,v2,p2,_⟩:=I.list h2
     exact⟨SeqAt.RcAt.str_list a t p2.isList hu0,SeqAt.RcNeAt.str_list a t p2.isList hu0⟩
 | @tup a xs ds h1 q1=>
   cases ru
   obtain⟨its,v1,p1,_⟩:=I.tuple h1
   have p1:s.heap.IsTuple a its.toArray:=p1
   cases r2 with
   | non=>cases ru';exact⟨SeqAt.RcAt.tuple_none p1 hu0,SeqAt.RcNeAt.tuple_none p1 hu0⟩
   | bl b=>cases ru';exact⟨SeqAt.RcAt.tuple_bool b p1 hu0,SeqAt.RcNeAt.tuple_bool b p1 hu0⟩
   | int i=>obtain⟨t',rfl⟩:=ru';exact⟨SeqAt.RcAt.tuple_int i t' p1 hu0,SeqAt.RcNeAt.tuple_int i t' p1 hu0⟩
   | str i=>obtain⟨t',rfl⟩:=ru';exact⟨SeqAt.RcAt.tuple_str i t' p1 hu0,SeqAt.RcNeAt.tuple_str i t' p1 hu0⟩
   | @tup b ys es h2 q2=>
     cases ru'
     obtain⟨its2,v2,p2,_⟩:=I.tuple h2
     have p2:s.heap.IsTuple b its2.toArray:=p2
     have l1:its.toArray.size=ds.length:=by rw[x4,←v1.length,q1.length]
     have l2:its2.toArray.size=es.length:=by rw[x4,←v2.length,q2.length]
     have hd:aU ds≤n:=by simp[deep]at hx;exact hx
     have a1:=SeqAt.RcAt.tuples (e:=eqJ ds es) p1 p2 hu0 (part hd q1 q2 v1 v2)
     have a2:=SeqAt.RcNeAt.tuples (e:=eqJ ds es) p1 p2 hu0 (part hd q1 q2 v1 v2)
     rw[l1,l2,j6]at a1 a2
     rw[Qt]
     exact⟨a1,a2⟩
   | lst h2 q2=>
     cases ru';obtain⟨its2,v2,p2,_⟩:=I.list h2
     exact⟨SeqAt.RcAt.tuple_list p1 p2.isList hu0,SeqAt.RcNeAt.tuple_list p1 p2.isList hu0⟩
 | @lst a xs ds h1 q1=>
   cases ru
   obtain⟨its,v1,p1,_⟩:=I.list h1
   have p1:=p1.isList
   cases r2 with
   | non=>cases ru';exact⟨SeqAt.RcAt.list_none p1 hu0,SeqAt.RcNeAt.list_none p1 hu0⟩
   | bl b=>cases ru';exact⟨SeqAt.RcAt.list_bool b p1 hu0,SeqAt.RcNeAt.list_bool b p1 hu0⟩
   | int i=>obtain⟨t',rfl⟩:=ru';exact⟨SeqAt.RcAt.list_int i t' p1 hu0,SeqAt.RcNeAt.list_int i t' p1 hu0⟩
   | str i=>obtain⟨t',rfl⟩:=ru';exact⟨SeqAt.RcAt.list_str i t' p1 hu0,SeqAt.RcNeAt.list_str i t' p1 hu0⟩
   | tup h2 q2=>
     cases ru';obtain⟨its2,v2,p2,_⟩:=I.tuple h2
     exact⟨SeqAt.RcAt.list_tuple p1 (show s.heap.IsTuple _ its2.toArray from p2) hu0,SeqAt.RcNeAt.list_tuple p1 (show s.heap.IsTuple _ its2.toArray from p2) hu0⟩
   | @lst b ys es h2 q2=>
     cases ru'
     obtain⟨its2,v2,p2,_⟩:=I.list h2
     have p2:=p2.isList
     have l1:its.toArray.size=ds.length:=by rw[x4,←v1.length,q1.length]
     have l2:its2.toArray.size=es.length:=by rw[x4,←v2.length,q2.length]
     have hd:aU ds≤n:=by simp[deep]at hx;exact hx
     rw[QL]
     by_cases hl:ds.length=es.length
     . have a1:=SeqAt.RcAt.lists (e:=eqJ ds es) p1 p2 (by rw[l1,l2,hl]) hu0 (part hd q1 q2 v1 v2)
       have a2:=SeqAt.RcNeAt.lists (e:=eqJ ds es) p1 p2 (by rw[l1,l2,hl]) hu0 (part hd q1 q2 v1 v2)
       rw[l1,Ks hl]at a1 a2
       exact⟨a1,a2⟩
     . have z:(its.toArray.size !=its2.toArray.size)=true:=by rw[l1,l2];simpa using hl
       rw[Oo hl]
       exact⟨SeqAt.RcAt.lists_lengths p1 p2 z hu0,SeqAt.RcNeAt.lists_lengths p1 p2 z hu0⟩
theorem yN:∀{K:PySem.W.Frag}{H:Hp}{v:V}{x:D},Sn K H v x->ak x=true:=by
 intro K H v x h
 refine Sn.rec (motive_1:=λ v x _=>ak x=true) (motive_2:=λ vs xs _=>aj xs=true) ?_ ?_ ?_ ?_ ?_ ?_ ?_ ?_ h
 . simp[ak]
 . intro b;simp[ak]
 . intro b;simp[ak]
 . intro b;simp[ak]
 . intro a xs ds h r ih;simpa[ak]using ih
 . intro a xs ds h r ih;simpa[ak]using ih
 . simp[aj]
 . intro v d vs ds r t ih1 ih2;simp[aj,ih1,ih2]
theorem Gz (n:Nat):∀(x y:D),deep x≤n->∀{pins:Pins}{s:Shared}{σ:DL.St}{H:Hp}{v w:V}{u u':Value}{A:Around},%[|5]->Sn X.K H v x->Sn X.K H w y->RelV v u->RelV w u'->A.units+n<cLine->SeqAt.EqAt A s u u' (eqD x y):=by
 induction n with
 | zero=>
   intro x y hx pins s σ H v w u u' A I r1 r2 ru ru' hu
   cases r1 with
   | non=>
     cases ru
     cases r2 with
     | non=>cases ru';exact SeqAt.EqAt.same _
     | bl b=>cases ru';exact SeqAt.EqAt.none_bool b
     | int i=>obtain⟨t',rfl⟩:=ru';exact SeqAt.EqAt.none_int i t'
     | str i=>obtain⟨t',rfl⟩:=ru';exact SeqAt.EqAt.none_str i t'
     | tup h2 q2=>cases ru';obtain⟨its2,v2,p2,_⟩:=I.tuple h2;exact SeqAt.EqAt.none_tuple (show s.heap.IsTuple _ its2.toArray from p2) %[|0]
     | lst h2 q2=>cases ru';obtain⟨its2,v2,p2,_⟩:=I.list h2;exact SeqAt.EqAt.none_list p2.isList %[|0]
   | bl a=>
     cases ru
     cases r2 with
     | non=>cases ru';exact SeqAt.EqAt.bool_none a
     | bl b=>cases ru';exact SeqAt.EqAt.bool_bool a b
     | int i=>obtain⟨t',rfl⟩:=ru';exact SeqAt.EqAt.bool_int a i t'
     | str i=>obtain⟨t',rfl⟩:=ru';exact SeqAt.EqAt.bool_str a i t'
     | tup h2 q2=>cases ru';obtain⟨its2,v2,p2,_⟩:=I.tuple h2;exact SeqAt.EqAt.bool_tuple a (show s.heap.IsTuple _ its2.toArray from p2) %[|0]
     | lst h2 q2=>cases ru';obtain⟨its2,v2,p2,_⟩:=I.list h2;exact SeqAt.EqAt.bool_list a p2.isList %[|0]
   | int a=>
     obtain⟨t,rfl⟩:=ru
     cases r2 with
     | non=>cases ru';exact SeqAt.EqAt.int_none a t
     | bl b=>cases ru';exact SeqAt.EqAt.int_bool a t b
     | int i=>obtain⟨t',rfl⟩:=ru';exact SeqAt.EqAt.int_int a t i t'
     | str i=>obtain⟨t',rfl⟩:=ru';exact SeqAt.EqAt.int_str a t i t'
     | tup h2 q2=>cases ru';obtain⟨its2,v2,p2,_⟩:=I.tuple h2;exact SeqAt.EqAt.int_tuple a t (show s.heap.IsTuple _ its2.toArray from p2) %[|0]
     | lst h2 q2=>cases ru';obtain⟨its2,v2,p2,_⟩:=I.list h2;exact SeqAt.EqAt.int_list a t p2.isList %[|0]
   | str a=>
     obtain⟨t,rfl⟩:=ru
     cases r2 with
     | non=>cases ru';exact SeqAt.EqAt.str_none a t
     | bl b=>cases ru';exact SeqAt.EqAt.str_bool a t b
     | int i=>obtain⟨t',rfl⟩:=ru';exact SeqAt.EqAt.str_int a t i t'
     | str i=>obtain⟨t',rfl⟩:=ru';exact SeqAt.EqAt.str_str a t i t'
     | tup h2 q2=>cases ru';obtain⟨its2,v2,p2,_⟩:=I.tuple h2;exact SeqAt.EqAt.str_tuple a t (show s.heap.IsTuple _ its2.toArray from p2) %[|0]
     | lst h2 q2=>cases ru';obtain⟨its2,v2,p2,_⟩:=I.list h2;exact SeqAt.EqAt.str_list a t p2.isList %[|0]
   | tup _ _=>simp[deep]at hx
   | lst _ _=>simp[deep]at hx
 | succ n ih=>
   intro x y hx pins s σ H v w u u' A I r1 r2 ru ru' hu
   by_cases h0:deep x≤n
   . exact ih x y h0 I r1 r2 ru ru' %[|0]
   . have both:=rM ih x y hx I r1 r2 ru ru' hu
     cases r1 with
     | non=>simp[deep]at h0
     | bl b=>simp[deep]at h0
     | int b=>simp[deep]at h0
     | str b=>simp[deep]at h0
     | @tup a xs ds h1 q1=>
       cases ru
       obtain⟨its,v1,p1,_⟩:=I.tuple h1
       have p1:s.heap.IsTuple a its.toArray:=p1
       cases r2 with
       | non=>cases ru';exact SeqAt.EqAt.tuple_none p1 %[|0]
       | bl b=>cases ru';exact SeqAt.EqAt.tuple_bool b p1 %[|0]
       | int i=>obtain⟨t',rfl⟩:=ru';exact SeqAt.EqAt.tuple_int i t' p1 %[|0]
       | str i=>obtain⟨t',rfl⟩:=ru';exact SeqAt.EqAt.tuple_str i t' p1 %[|0]
       | @tup b ys es h2 q2=>
         cases ru'
         by_cases e:a=b
         . subst e
           have e2:=qN I (.tup h1 q1) (.tup h2 q2)
           rw[←e2,jT _ (yN (.tup h1 q1))]
           exact SeqAt.EqAt.same _
         . exact SeqAt.EqAt.of_refs e both.1
       | @lst b ys es h2 q2=>
         cases ru';obtain⟨its2,v2,p2,_⟩:=I.list h2;exact SeqAt.EqAt.tuple_list p1 p2.isList %[|0]
     | @lst a xs ds h1 q1=>
       cases ru
       obtain⟨its,v1,p1,_⟩:=I.list h1
       have p1:=p1.isList
       cases r2 with
       | non=>cases ru';exact SeqAt.EqAt.list_none p1 %[|0]
       | bl b=>cases ru';exact SeqAt.EqAt.list_bool b p1 %[|0]
       | int i=>obtain⟨t',rfl⟩:=ru';exact SeqAt.EqAt.list_int i t' p1 %[|0]
       | str i=>obtain⟨t',rfl⟩:=ru';exact SeqAt.EqAt.list_str i t' p1 %[|0]
       | tup h2 q2=>cases ru';obtain⟨its2,v2,p2,_⟩:=I.tuple h2;exact SeqAt.EqAt.list_tuple p1 (show s.heap.IsTuple _ its2.toArray from p2) %[|0]
       | @lst b ys es h2 q2=>
         cases ru'
         by_cases e:a=b
         . subst e
           have e2:=qN I (.lst h1 q1) (.lst h2 q2)
           rw[←e2,jT _ (yN (.lst h1 q1))]
           exact SeqAt.EqAt.same _
         . exact SeqAt.EqAt.of_refs e both.1
def vw(S:Store):D->D
 | .loc k=>match S[k]? with | some ds=>.lst ds | none=>.loc k
 | d=>d
def Ei(S:Store)(x y:D):Prop:=okD (vw S x)=true/\okD (vw S y)=true/\deep (vw S x)≤50
theorem iC{K:PySem.W.Frag}{O:Own}{H:Hp}{v:V}(st:StOk K O H S)(r:Rep K O H v x)(h:okD (vw S x)=true):Sn K H v (vw S x):=by
 cases r with
 | @loc a k hk=>
   simp only[vw]at h ⊢
   have hl:k<S.length:=by rw[←st.len];exact(z0.mp hk).1
   obtain⟨xs,hx,q⟩:=st.obj k a S[k] hk (y3 hl)
   rw[y3 hl]at h ⊢
   exact .lst (SqL.of hx) (nC (by simpa[okD]using h) q)
 | non=>exact .non
 | bl b=>exact .bl b
 | int i=>exact .int i
 | str i=>exact .str i
 | tup h1 q1=>exact lQ h (.tup h1 q1)
 | lst h1 q1=>exact lQ h (.lst h1 q1)
 | dic h1 e1=>simp[vw,okD]at h
 | dlo h1 _=>simp[vw,okD]at h
theorem U7(hu:X.A.units+60<cLine)(h:Ei S x y)(w:W (eqD (vw S x) (vw S y)) S):bj X .Eq x y S (asB W):=by
 intro pins s σ H O v w' u u' I st r1 r2 r3 r4
 obtain⟨h1,h2,h3⟩:=h
 have:=(rM (n:=50) (A:=X.A) (Gz 50) (vw S x) (vw S y) %[|0] I (iC st r1 h1) (iC st r2 h2) r3 r4 %[|0]).1
 exact this _ _ _ _ ⟨.bl _,H,I,rfl,QG.here ⟨_,rfl,w⟩ st (.bl _)⟩
theorem Um(hu:X.A.units+60<cLine)(h:Ei S x y)(w:W (!eqD (vw S x) (vw S y)) S):bj X .NotEq x y S (asB W):=by
 intro pins s σ H O v w' u u' I st r1 r2 r3 r4
 obtain⟨h1,h2,h3⟩:=h
 have:=(rM (n:=50) (A:=X.A) (Gz 50) (vw S x) (vw S y) %[|0] I (iC st r1 h1) (iC st r2 h2) r3 r4 %[|0]).2
 exact this _ _ _ _ ⟨.bl _,H,I,rfl,QG.here ⟨_,rfl,w⟩ st (.bl _)⟩
theorem pM:∀{xs:List V}{its:List Value}{i:Nat}{v:V},Vals xs its->xs[i]? =some v->∃y,its[i]? =some y/\RelV v y
 | _,_,_,_,.nil,e=>by simp at e
 | _,_,0,_,.cons a _,e=>by simp at e;subst e;exact⟨_,rfl,a⟩
 | _,_,i+1,v,.cons _ t,e=>by
   obtain⟨y,h1,h2⟩:=pM (i:=i) (v:=v) t (by simpa using e)
   exact⟨y,by simpa using h1,h2⟩
theorem Dt{pins:Pins}{s:Shared}{σ:DL.St}{H:Hp}{v w':V}{u u':Value}(hu:X.A.units+60<cLine)(I:%[|5])(sx:Sn X.K H v x)(sy:Sn X.K H w' (.lst ds))(r3:RelV v u)(r4:RelV w' u')(h3:aU ds≤50):
 ∃(l:Addr) (its:List Value) (e:Value->Bool),u'=.ref l/\s.heap.IsList l its.toArray/\(∀y,y∈its.toArray->SeqAt.EqAt X.A.in1 s y u (e y))/\its.toArray.any e=ds.any λ d=>eqD d x:=by
 classical
 cases sy with
 | @lst a xs _ h1 q1=>
   cases r4
   obtain⟨its,rv,pl,hz⟩:=I.list h1
   let e:Value->Bool:=λ y=>decide (∃(v':V) (d:D),RelV v' y/\Sn X.K H v' d/\eqD d x=true)
   have ev:∀(y:Value)(v':V)(d:D),RelV v' y->Sn X.K H v' d->e y=eqD d x:=by
    intro y v' d hr hs
    cases hd:eqD d x with
    | true=>exact ZG ⟨v',d,hr,hs,hd⟩
    | false=>
      refine ZH ?_
      rintro⟨v2,d2,hr2,hs2,hd2⟩
      have ev':=hr2.inj hr
      subst ev'
      have:=qN I hs2 hs
      subst this
      rw[hd]at hd2;cases hd2
   refine⟨a,its,e,rfl,pl.isList,?_,?_⟩
   . intro y hy
     have hy':y∈its:=by simpa using hy
     obtain⟨i,hi⟩:=ZR hy'
     have hlt:i<xs.length:=by rw[rv.length];exact(z0.mp hi).1
     obtain⟨d,hd⟩:∃d,ds[i]? =some d:=⟨_,y3 (by rw[←q1.length];exact hlt)⟩
     obtain⟨v',hv',hs⟩:=q1.get hd
     obtain⟨y',hy2,hr⟩:=pM rv hv'
     rw[hi]at hy2;cases hy2
     rw[ev y v' d hr hs]
     exact Gz 50 d x (Nat.le_trans (dB hd) h3) I hs sx hr r3 (by show X.A.units+1+50<cLine;omega)
   . have hlen:its.length=ds.length:=by rw[←rv.length,q1.length]
     have main:∀(xs:List V)(its:List Value)(ds:List D),Vals xs its->Sns X.K H xs ds->its.any e=ds.any λ d=>eqD d x:=by
      intro xs its ds rv q1
      induction rv generalizing ds with
      | nil=>cases q1;rfl
      | cons hr _ ih=>
        cases q1 with
        | cons hs ht=>rw[List.any_cons,List.any_cons,ev _ _ _ hr hs,ih _ ht]
     rw[List.any_toArray]
     exact main xs its ds rv q1
theorem Ut(hu:X.A.units+60<cLine)(hy:vw S y=.lst ds)(h1:okD (vw S x)=true)(h2:bR ds=true)(h3:aU ds≤50)(w:W (ds.any λ d=>eqD d (vw S x)) S):bj X .In x y S (asB W):=by
 intro pins s σ H O v w' u u' I st r1 r2 r3 r4
 have sy:=iC st r2 (by rw[hy];simpa[okD]using h2)
 rw[hy]at sy
 obtain⟨l,its,e,rfl,hl,he,ha⟩:=Dt hu I (iC st r1 h1) sy r3 r4 h3
 refine SeqAt.in_listAt e hl he ?_
 rw[ha]
 exact⟨.bl _,H,I,rfl,QG.here ⟨_,rfl,w⟩ st (.bl _)⟩
theorem T4(hu:X.A.units+60<cLine)(hy:vw S y=.lst ds)(h1:okD (vw S x)=true)(h2:bR ds=true)(h3:aU ds≤50)(w:W (!(ds.any λ d=>eqD d (vw S x))) S):bj X .NotIn x y S (asB W):=by
 intro pins s σ H O v w' u u' I st r1 r2 r3 r4
 have sy:=iC st r2 (by rw[hy];simpa[okD]using h2)
 rw[hy]at sy
 obtain⟨l,its,e,rfl,hl,he,ha⟩:=Dt hu I (iC st r1 h1) sy r3 r4 h3
 refine SeqAt.notIn_listAt e hl he ?_
 rw[ha]
 exact⟨.bl _,H,I,rfl,QG.here ⟨_,rfl,w⟩ st (.bl _)⟩
end
end RF
namespace RF
open PySem PySem.Spec L2 DL
open PyProof.Rows
variable {X : Cx}
def isN:D->Bool
 | .non=>true
 | _=>false
theorem Q4{a b:Bool}{S:Store}{W:Bool->%[|4]}(w:W (a==b) S):bj X .Is (.bl a) (.bl b) S (asB W):=by
 intro pins s σ H O v w' u u' I st r1 r2 r3 r4
 cases r1;cases r2;cases r3;cases r4
 refine wpAny_is_plain rfl ?_
 have e:(Value.bool a==Value.bool b)=(a==b):=by cases a<;>cases b<;>rfl
 rw[e]
 exact⟨.bl _,H,I,rfl,QG.here ⟨_,rfl,w⟩ st (.bl _)⟩
theorem HR{a b:Bool}{S:Store}{W:Bool->%[|4]}(w:W (!(a==b)) S):bj X .IsNot (.bl a) (.bl b) S (asB W):=by
 intro pins s σ H O v w' u u' I st r1 r2 r3 r4
 cases r1;cases r2;cases r3;cases r4
 refine wpAny_isNot_plain rfl ?_
 have e:(Value.bool a==Value.bool b)=(a==b):=by cases a<;>cases b<;>rfl
 rw[e]
 exact⟨.bl _,H,I,rfl,QG.here ⟨_,rfl,w⟩ st (.bl _)⟩
def bEq(x y:D)(ki:Int->Int->Prop)(kb:Bool->Bool->Prop)(g:Prop):Prop:=match x with
 | .int i=>(match y with
   | .int j=>ki i j
   | _=>g)
 | .bl i=>(match y with
   | .bl j=>kb i j
   | _=>g)
 | _=>g
theorem Dm{x y:D}{ki:Int->Int->Prop}{kb:Bool->Bool->Prop}{g:Prop}(h:bEq x y ki kb g):(∃i j,x=.int i/\y=.int j/\ki i j)∨(∃i j,x=.bl i/\y=.bl j/\kb i j)∨g:=by
 cases x<;>first | exact .inr (.inr h) | (cases y<;>first | exact .inr (.inr h) | exact .inl ⟨_,_,rfl,rfl,h⟩ | exact .inr (.inl ⟨_,_,rfl,rfl,h⟩))
def bIs(x y:D)(n:Prop)(kb:Bool->Bool->Prop):Prop:=match y with
 | .non=>n
 | .bl j=>(match x with
   | .bl i=>kb i j
   | _=>False)
 | _=>False
theorem Ed{x y:D}{n:Prop}{kb:Bool->Bool->Prop}(h:bIs x y n kb):(y=.non/\n)∨∃i j,x=.bl i/\y=.bl j/\kb i j:=by
 cases y<;>first | exact h.elim | exact .inl ⟨rfl,h⟩ | (cases x<;>first | exact h.elim | exact .inr ⟨_,_,rfl,rfl,h⟩)
@[irreducible] noncomputable def aQ(op:CmpOp)(x y:D)(S:Store)(W:Bool->%[|4]):Prop:=match op with
  | .Lt=>bII x y λ i j=>W (decide (i<j)) S
  | .LtE=>bII x y λ i j=>W (decide (i≤j)) S
  | .Gt=>bII x y λ i j=>W (decide (j<i)) S
  | .GtE=>bII x y λ i j=>W (decide (j≤i)) S
  | .Eq=>bEq x y (λ i j=>W (decide (i=j)) S) (λ i j=>W (i==j) S) (Ei S x y/\W (eqD (vw S x) (vw S y)) S)
  | .NotEq=>bEq x y (λ i j=>W (!decide (i=j)) S) (λ i j=>W (!(i==j)) S) ((Ei S x y/\W (!eqD (vw S x) (vw S y)) S)∨(x=y/\ak x=true/\deep x≤50/\W false S))
  | .Is=>bIs x y (W (isN x) S) λ i j=>W (i==j) S
  | .IsNot=>bIs x y (W (!isN x) S) λ i j=>W (!(i==j)) S
  | .In=>∃ds,vw S y=.lst ds/\okD (vw S x)=true/\bR ds=true/\aU ds≤50/\W (ds.any λ d=>eqD d (vw S x)) S
  | .NotIn=>∃ds,vw S y=.lst ds/\okD (vw S x)=true/\bR ds=true/\aU ds≤50/\W (!(ds.any λ d=>eqD d (vw S x))) S
theorem cj{op:CmpOp}{x y:D}{S:Store}{W:Bool->%[|4]}{b:Bool}(h:∀V:WD,V (.bl b) S->bj X op x y S V)(w:W b S):bj X op x y S (asB W):=h (asB W) ⟨b,rfl,w⟩
theorem fc{op:CmpOp}{x y:D}{S:Store}{W:Bool->%[|4]}(hu:X.A.units+60<cLine)(h:aQ op x y S W):bj X op x y S (asB W):=by
 unfold aQ at h
 cases op with
 | Lt=>obtain⟨i,j,rfl,rfl,h⟩:=dG h;exact cj (λ _=>Vx) h
 | LtE=>obtain⟨i,j,rfl,rfl,h⟩:=dG h;exact cj (λ _=>VH) h
 | Gt=>obtain⟨i,j,rfl,rfl,h⟩:=dG h;exact cj (λ _=>V5) h
 | GtE=>obtain⟨i,j,rfl,rfl,h⟩:=dG h;exact cj (λ _=>V6) h
 | Eq=>
   rcases Dm h with⟨i,j,rfl,rfl,h⟩ | ⟨i,j,rfl,rfl,h⟩ | h
   . exact cj (λ _=>Vn) h
   . exact cj (λ _=>Vk) h
   . exact U7 hu h.1 h.2
 | NotEq=>
   rcases Dm h with⟨i,j,rfl,rfl,h⟩ | ⟨i,j,rfl,rfl,h⟩ | h | ⟨rfl,h1,h2,h3⟩
   . exact cj (λ _=>Uz) h
   . exact cj (λ _=>Uy) h
   . exact Um hu h.1 h.2
   . exact KR hu h1 h2 ⟨false,rfl,h3⟩
 | Is=>
   rcases Ed h with⟨rfl,h⟩ | ⟨i,j,rfl,rfl,h⟩
   . exact cj (λ V w=>Vq w) h
   . exact Q4 h
 | IsNot=>
   rcases Ed h with⟨rfl,h⟩ | ⟨i,j,rfl,rfl,h⟩
   . refine cj (λ V w=>Qh ?_) h
     cases x<;>exact w
   . exact HR h
 | In=>obtain⟨ds,h1,h2,h3,h4,h5⟩:=h;exact Ut hu h1 h2 h3 h4 h5
 | NotIn=>obtain⟨ds,h1,h2,h3,h4,h5⟩:=h;exact T4 hu h1 h2 h3 h4 h5
section
variable {i j : Int} {a b : Bool} {x y : D} {S : Store} {W : Bool -> Store -> Prop}
theorem cLt(w:W (decide (i<j)) S):aQ .Lt (.int i) (.int j) S W:=by unfold aQ;exact w
theorem cLe(w:W (decide (i≤j)) S):aQ .LtE (.int i) (.int j) S W:=by unfold aQ;exact w
theorem cGt(w:W (decide (j<i)) S):aQ .Gt (.int i) (.int j) S W:=by unfold aQ;exact w
theorem cEqI(w:W (decide (i=j)) S):aQ .Eq (.int i) (.int j) S W:=by unfold aQ;exact w
theorem cNeI(w:W (!decide (i=j)) S):aQ .NotEq (.int i) (.int j) S W:=by unfold aQ;exact w
theorem cIsNot(w:W (!isN x) S):aQ .IsNot x .non S W:=by unfold aQ;cases x<;>exact w
theorem cIn{ds:List D}(h1:vw S y=.lst ds)(h2:okD (vw S x)=true)(h3:bR ds=true)(h4:aU ds≤50)(w:W (ds.any λ d=>eqD d (vw S x)) S):aQ .In x y S W:=by unfold aQ;cases x<;>exact⟨ds,h1,h2,h3,h4,w⟩
theorem Rc{ds:List D}(h1:vw S y=.lst ds)(h2:okD (vw S x)=true)(h3:bR ds=true)(h4:aU ds≤50)(w:W (!(ds.any λ d=>eqD d (vw S x))) S):aQ .NotIn x y S W:=by unfold aQ;cases x<;>exact⟨ds,h1,h2,h3,h4,w⟩
end
set_option genInjectivity false in
structure Ex(Ω:Wd) where
 lev:Nat
 chk:Bool->%[|2]->Nm->Expr->Bool
 wp:Gam->Store->WD->Prop
 sound:∀{X:Cx}{r:Nat}{top:Bool}{N:%[|2]}{nm:Nm}{e:Expr}{Γ:Gam}{S:Store}{W:WD},At Ω X r top N nm->lev≤r->chk top N nm e=true->wp Γ S W->Ev X Γ S e W
set_option genInjectivity false in
structure Te(Ω:Wd) where
 lev:Nat
 chk:Bool->%[|2]->Nm->Expr->Bool
 wp:Gam->Store->(Bool->%[|4])->Prop
 sound:∀{X:Cx}{r:Nat}{top:Bool}{N:%[|2]}{nm:Nm}{e:Expr}{Γ:Gam}{S:Store}{W:Bool->%[|4]},At Ω X r top N nm->lev≤r->chk top N nm e=true->wp Γ S W->Ts X Γ S e W
set_option genInjectivity false in
structure Ar(Ω:Wd) where
 lev:Nat
 chk:Bool->%[|2]->Nm->List Expr->Bool
 wp:Gam->Store->(List D->%[|4])->Prop
 plain:∀{top:Bool}{N:%[|2]}{nm:Nm}{es:List Expr},chk top N nm es=true->es.all okE=true
 sound:∀{X:Cx}{r:Nat}{top:Bool}{N:%[|2]}{nm:Nm}{es:List Expr}{Γ:Gam}{S:Store}{W:List D->%[|4]},At Ω X r top N nm->lev≤r->chk top N nm es=true->wp Γ S W->EvA X Γ S es W
set_option genInjectivity false in
structure Bo(Ω:Wd) where
 lev:Nat
 chk:Bool->%[|2]->Nm->List Expr->Bool
 wpA:Gam->Store->WD->Prop
 wpO:Gam->Store->WD->Prop
 ne:∀{top:Bool}{N:%[|2]}{nm:Nm}{es:List Expr},chk top N nm es=true->∃b rest,es=b::rest
 soundA:∀{X:Cx}{r:Nat}{top:Bool}{N:%[|2]}{nm:Nm}{es:List Expr}{Γ:Gam}{S:Store}{W:WD}{pos:Pos},At Ω X r top N nm->lev≤r->chk top N nm es=true->wpA Γ S W->Ev X Γ S (.BoolOp .And es pos) W
 soundO:∀{X:Cx}{r:Nat}{top:Bool}{N:%[|2]}{nm:Nm}{es:List Expr}{Γ:Gam}{S:Store}{W:WD}{pos:Pos},At Ω X r top N nm->lev≤r->chk top N nm es=true->wpO Γ S W->Ev X Γ S (.BoolOp .Or es pos) W
set_option genInjectivity false in
structure Bt(Ω:Wd) where
 lev:Nat
 chk:Bool->%[|2]->Nm->List Expr->Bool
 wpA:Gam->Store->(Bool->%[|4])->Prop
 wpO:Gam->Store->(Bool->%[|4])->Prop
 ne:∀{top:Bool}{N:%[|2]}{nm:Nm}{es:List Expr},chk top N nm es=true->∃b rest,es=b::rest
 soundA:∀{X:Cx}{r:Nat}{top:Bool}{N:%[|2]}{nm:Nm}{es:List Expr}{Γ:Gam}{S:Store}{W:Bool->%[|4]}{pos:Pos},At Ω X r top N nm->lev≤r->chk top N nm es=true->wpA Γ S W->TsW X Γ S (.BoolOp .And es pos) W
 soundO:∀{X:Cx}{r:Nat}{top:Bool}{N:%[|2]}{nm:Nm}{es:List Expr}{Γ:Gam}{S:Store}{W:Bool->%[|4]}{pos:Pos},At Ω X r top N nm->lev≤r->chk top N nm es=true->wpO Γ S W->TsW X Γ S (.BoolOp .Or es pos) W
theorem At.hu{Ω:Wd}{r:Nat}{top:Bool}{N:%[|2]}{nm:Nm}(A:At Ω X r top N nm):X.A.units+60<cLine:=by have:=A.room.un;omega
theorem lv2{a b r:Nat}(h:max a b≤r):a≤r/\b≤r:=%[|0]
variable {Ω : Wd}
def Ex.var(i:Nat):Ex Ω where
 lev:=0
 chk _ N nm e:=match e with | .Name x _=>(N[i]? ==some x)&&(vis nm x&&okN x) | _=>false
 wp Γ S W:=match Γ[i]? with | some (some d)=>W d S | _=>False
 sound:=by
  intro X r top N nm e Γ S W A _ hc hw
  cases e with
  | Name x pos=>
    obtain⟨h1,h2⟩:=aa hc
    obtain⟨h2,h3⟩:=aa h2
    obtain⟨d1,d2,_⟩:=gU h3
    have h1:N[i]? =some x:=ZI h1
    cases hΓ:Γ[i]? with
    | none=>rw[hΓ]at hw;exact hw.elim
    | some o=>
      cases o with
      | none=>rw[hΓ]at hw;exact hw.elim
      | some d=>
        rw[hΓ]at hw
        exact Q0 i hΓ hw (by rw[A.n];exact h1) (A.vis h2) d1 d2
  | _=>exact fE hc
def Ex.int(i:Int):Ex Ω where
 lev:=0
 chk _ _ _ e:=match e with | .Constant (.int j) _ _=>j==i | _=>false
 wp _ S W:=W (.int i) S
 sound:=by
  intro X r top N nm e Γ S W A _ hc hw
  cases e with
  | Constant c k pos=>
    cases c with
    | int j=>have e:j=i:=ZI hc;subst e;exact R0 hw
    | _=>exact fE hc
  | _=>exact fE hc
def Ex.bl(i:Bool):Ex Ω where
 lev:=0
 chk _ _ _ e:=match e with | .Constant (.bool j) _ _=>j==i | _=>false
 wp _ S W:=W (.bl i) S
 sound:=by
  intro X r top N nm e Γ S W A _ hc hw
  cases e with
  | Constant c k pos=>
    cases c with
    | bool j=>have e:j=i:=ZI hc;subst e;exact U3 hw
    | _=>exact fE hc
  | _=>exact fE hc
def Ex.non:Ex Ω where
 lev:=0
 chk _ _ _ e:=match e with | .Constant .none _ _=>true | _=>false
 wp _ S W:=W .non S
 sound:=by
  intro X r top N nm e Γ S W A _ hc hw
  cases e with
  | Constant c k pos=>
    cases c with
    | none=>exact Rv hw
    | _=>exact fE hc
  | _=>exact fE hc
def Ex.gint{x:Str}{i:Int}(h:∃t,Ω.mg x=some (.int i t)):Ex Ω where
 lev:=0
 chk _ _ nm e:=match e with | .Name y _=>(y==x)&&(glb nm x&&okN x) | _=>false
 wp _ S W:=W (.int i) S
 sound:=by
  intro X r top N nm e Γ S W A _ hc hw
  cases e with
  | Name y pos=>
    obtain⟨h1,h2⟩:=aa hc
    obtain⟨h2,h3⟩:=aa h2
    have e:y=x:=ZI h1
    subst e
    obtain⟨t,h⟩:=h
    exact Km (by rw[A.g];exact h) hw (A.glb h2) (gU h3).1
  | _=>exact fE hc
def Ex.bin(op:Operator)(a b:Ex Ω):Ex Ω where
 lev:=max a.lev b.lev
 chk top N nm e:=match e with | .BinOp l o r _=>(o==op)&&(a.chk top N nm l&&b.chk top N nm r) | _=>false
 wp Γ S W:=a.wp Γ S λ x S1=>b.wp Γ S1 λ y S2=>Nv op x y S2 W
 sound:=by
  intro X r top N nm e Γ S W A hl hc hw
  obtain⟨l1,l2⟩:=lv2 hl
  cases e with
  | BinOp l o r' pos=>
    obtain⟨h1,h2⟩:=aa hc
    obtain⟨h2,h3⟩:=aa h2
    have e:o=op:=ZI h1
    subst e
    exact qM ((a.sound A l1 h2 hw).mono λ x S1 q=>(b.sound A l2 h3 q).mono λ y S2 q=>KC q)
  | _=>exact fE hc
def Ex.cmp(op:CmpOp)(a b:Ex Ω):Ex Ω where
 lev:=max a.lev b.lev
 chk top N nm e:=match e with | .Compare l [o] [r] _=>(o==op)&&(okE r&&(a.chk top N nm l&&b.chk top N nm r)) | _=>false
 wp Γ S W:=a.wp Γ S λ x S1=>b.wp Γ S1 λ y S2=>aQ op x y S2 λ c S3=>W (.bl c) S3
 sound:=by
  intro X r top N nm e Γ S W A hl hc hw
  obtain⟨l1,l2⟩:=lv2 hl
  cases e with
  | Compare l os rs pos=>
    match os,rs,hc with
    | [o],[r'],hc=>
      obtain⟨h1,h2⟩:=aa hc
      obtain⟨h0,h2⟩:=aa h2
      obtain⟨h2,h3⟩:=aa h2
      have e:o=op:=ZI h1
      subst e
      exact RN ((a.sound A l1 h2 hw).mono λ x S1 q=>(b.sound A l2 h3 q).mono λ y S2 q=>(fc A.hu q).mono λ d S3 ⟨c,e,w⟩=>by subst e;exact w) (gk h0)
    | [],_,hc=>exact fE hc
    | [_],[],hc=>exact fE hc
    | [_],_::_::_,hc=>exact fE hc
    | _::_::_,_,hc=>exact fE hc
  | _=>exact fE hc
def Te.cmp(op:CmpOp)(a b:Ex Ω):Te Ω where
 lev:=max a.lev b.lev
 chk top N nm e:=match e with | .Compare l [o] [r] _=>(o==op)&&(okE r&&(a.chk top N nm l&&b.chk top N nm r)) | _=>false
 wp Γ S W:=a.wp Γ S λ x S1=>b.wp Γ S1 λ y S2=>aQ op x y S2 W
 sound:=by
  intro X r top N nm e Γ S W A hl hc hw
  obtain⟨l1,l2⟩:=lv2 hl
  cases e with
  | Compare l os rs pos=>
    match os,rs,hc with
    | [o],[r'],hc=>
      obtain⟨h1,h2⟩:=aa hc
      obtain⟨h0,h2⟩:=aa h2
      obtain⟨h2,h3⟩:=aa h2
      have e:o=op:=ZI h1
      subst e
      exact Ii ((a.sound A l1 h2 hw).mono λ x S1 q=>(b.sound A l2 h3 q).mono λ y S2 q=>fc A.hu q) (gk h0)
    | [],_,hc=>exact fE hc
    | [_],[],hc=>exact fE hc
    | [_],_::_::_,hc=>exact fE hc
    | _::_::_,_,hc=>exact fE hc
  | _=>exact fE hc
abbrev Nb(a:Ex Ω)(o1:CmpOp)(b:Ex Ω)(o2:CmpOp)(c:Ex Ω)(Γ:Gam)(S:Store)(W:Bool->%[|4]):Prop:=
 a.wp Γ S λ x S1=>b.wp Γ S1 λ y S2=>aQ o1 x y S2 λ k S3=>(k=false->W false S3)/\(k=true->c.wp Γ S3 λ t S4=>aQ o2 y t S4 W)
def Ex.ch2(a:Ex Ω)(o1:CmpOp)(b:Ex Ω)(o2:CmpOp)(c:Ex Ω):Ex Ω where
 lev:=max (max a.lev b.lev) c.lev
 chk top N nm e:=match e with | .Compare l [p1,p2] [m,r] _=>(p1==o1)&&((p2==o2)&&(okE r&&(a.chk top N nm l&&(b.chk top N nm m&&c.chk top N nm r)))) | _=>false
 wp Γ S W:=Nb a o1 b o2 c Γ S λ k S1=>W (.bl k) S1
 sound:=by
  intro X r top N nm e Γ S W A hl hc hw
  obtain⟨l1,l3⟩:=lv2 hl
  obtain⟨l1,l2⟩:=lv2 l1
  cases e with
  | Compare l os rs pos=>
    match os,rs,hc with
    | [p1,p2],[m,r'],hc=>
      obtain⟨h1,h2⟩:=aa hc
      obtain⟨h2,h3⟩:=aa h2
      obtain⟨h0,h3⟩:=aa h3
      obtain⟨h3,h4⟩:=aa h3
      obtain⟨h4,h5⟩:=aa h4
      have e:p1=o1:=ZI h1
      subst e
      have e:p2=o2:=ZI h2
      subst e
      refine LK ((a.sound A l1 h3 hw).mono λ x S1 q=>(b.sound A l2 h4 q).mono λ y S2 q=>(fc A.hu q).mono λ d S3 ⟨k,e,w⟩=>⟨k,e,w.1,λ hk=>(c.sound A l3 h5 (w.2 hk)).mono λ t S4 q=>(fc A.hu q).mono λ d S3 ⟨c,e,w⟩=>by subst e;exact w⟩) (gk h0)
    | [],_,hc=>exact fE hc
    | [_],_,hc=>exact fE hc
    | [_,_],[],hc=>exact fE hc
    | [_,_],[_],hc=>exact fE hc
    | [_,_],_::_::_::_,hc=>exact fE hc
    | _::_::_::_,_,hc=>exact fE hc
  | _=>exact fE hc
def Te.ch2(a:Ex Ω)(o1:CmpOp)(b:Ex Ω)(o2:CmpOp)(c:Ex Ω):Te Ω where
 lev:=max (max a.lev b.lev) c.lev
 chk top N nm e:=match e with | .Compare l [p1,p2] [m,r] _=>(p1==o1)&&((p2==o2)&&(okE r&&(a.chk top N nm l&&(b.chk top N nm m&&c.chk top N nm r)))) | _=>false
 wp Γ S W:=Nb a o1 b o2 c Γ S W
 sound:=by
  intro X r top N nm e Γ S W A hl hc hw
  obtain⟨l1,l3⟩:=lv2 hl
  obtain⟨l1,l2⟩:=lv2 l1
  cases e with
  | Compare l os rs pos=>
    match os,rs,hc with
    | [p1,p2],[m,r'],hc=>
      obtain⟨h1,h2⟩:=aa hc
      obtain⟨h2,h3⟩:=aa h2
      obtain⟨h0,h3⟩:=aa h3
      obtain⟨h3,h4⟩:=aa h3
      obtain⟨h4,h5⟩:=aa h4
      have e:p1=o1:=ZI h1
      subst e
      have e:p2=o2:=ZI h2
      subst e
      refine Je ((a.sound A l1 h3 hw).mono λ x S1 q=>(b.sound A l2 h4 q).mono λ y S2 q=>(fc A.hu q).mono λ d S3 ⟨k,e,w⟩=>⟨k,e,w.1,λ hk=>(c.sound A l3 h5 (w.2 hk)).mono λ t S4 q=>fc A.hu q⟩) (gk h0)
    | [],_,hc=>exact fE hc
    | [_],_,hc=>exact fE hc
    | [_,_],[],hc=>exact fE hc
    | [_,_],[_],hc=>exact fE hc
    | [_,_],_::_::_::_,hc=>exact fE hc
    | _::_::_::_,_,hc=>exact fE hc
  | _=>exact fE hc
def Te.val(a:Ex Ω):Te Ω where
 lev:=a.lev
 chk top N nm e:=TY e&&a.chk top N nm e
 wp Γ S W:=a.wp Γ S λ d S1=>match d with | .bl c=>W c S1 | _=>False
 sound:=by
  intro X r top N nm e Γ S W A hl hc hw
  obtain⟨h1,h2⟩:=aa hc
  refine Rx ((a.sound A hl h2 hw).mono λ d S1 q=>?_) (RX h1 _)
  cases d<;>first | exact⟨_,rfl,q⟩ | exact q.elim
def Te.not(t:Te Ω):Te Ω where
 lev:=t.lev
 chk top N nm e:=match e with | .UnaryOp .Not a _=>t.chk top N nm a | _=>false
 wp Γ S W:=t.wp Γ S λ c S1=>W (!c) S1
 sound:=by
  intro X r top N nm e Γ S W A hl hc hw
  cases e with
  | UnaryOp o a pos=>
    cases o with
    | Not=>exact Sd (t.sound A hl hc hw)
    | _=>exact fE hc
  | _=>exact fE hc
def Bt.one(t:Te Ω):Bt Ω where
 lev:=t.lev
 chk top N nm es:=match es with | [e]=>t.chk top N nm e | _=>false
 wpA Γ S W:=t.wp Γ S W
 wpO Γ S W:=t.wp Γ S W
 ne:=by
  intro top N nm es hc
  match es,hc with
  | [e],_=>exact⟨_,_,rfl⟩
  | [],hc=>exact fE hc
  | _::_::_,hc=>exact fE hc
 soundA:=by
  intro X r top N nm es Γ S W pos A hl hc hw
  match es,hc with
  | [e],hc=>exact tw_and1 (t.sound A hl hc hw)
  | [],hc=>exact fE hc
  | _::_::_,hc=>exact fE hc
 soundO:=by
  intro X r top N nm es Γ S W pos A hl hc hw
  match es,hc with
  | [e],hc=>exact tw_or1 (t.sound A hl hc hw)
  | [],hc=>exact fE hc
  | _::_::_,hc=>exact fE hc
def Bt.cons(t:Te Ω)(r:Bt Ω):Bt Ω where
 lev:=max t.lev r.lev
 chk top N nm es:=match es with | e::es=>t.chk top N nm e&&r.chk top N nm es | _=>false
 wpA Γ S W:=t.wp Γ S λ c S1=>(c=true->r.wpA Γ S1 W)/\(c=false->W false S1)
 wpO Γ S W:=t.wp Γ S λ c S1=>(c=true->W true S1)/\(c=false->r.wpO Γ S1 W)
 ne:=by
  intro top N nm es hc
  match es,hc with
  | _::_,_=>exact⟨_,_,rfl⟩
  | [],hc=>exact fE hc
 soundA:=by
  intro X r' top N nm es Γ S W pos A hl hc hw
  obtain⟨l1,l2⟩:=lv2 hl
  match es,hc with
  | e::es,hc=>
    obtain⟨h1,h2⟩:=aa hc
    obtain⟨b,rest,rfl⟩:=r.ne h2
    exact tw_and (Ts.mono (t.sound A l1 h1 hw) λ c S1 q=>⟨λ hk=>r.soundA A l2 h2 (q.1 hk),q.2⟩)
  | [],hc=>exact fE hc
 soundO:=by
  intro X r' top N nm es Γ S W pos A hl hc hw
  obtain⟨l1,l2⟩:=lv2 hl
  match es,hc with
  | e::es,hc=>
    obtain⟨h1,h2⟩:=aa hc
    obtain⟨b,rest,rfl⟩:=r.ne h2
    exact tw_or (Ts.mono (t.sound A l1 h1 hw) λ c S1 q=>⟨q.1,λ hk=>r.soundO A l2 h2 (q.2 hk)⟩)
  | [],hc=>exact fE hc
def Te.and(l:Bt Ω):Te Ω where
 lev:=l.lev
 chk top N nm e:=match e with | .BoolOp .And es _=>l.chk top N nm es | _=>false
 wp Γ S W:=l.wpA Γ S W
 sound:=by
  intro X r top N nm e Γ S W A hl hc hw
  cases e with
  | BoolOp o es pos=>
    cases o with
    | And=>exact(l.soundA A hl hc hw).ts
    | _=>exact fE hc
  | _=>exact fE hc
def Te.or(l:Bt Ω):Te Ω where
 lev:=l.lev
 chk top N nm e:=match e with | .BoolOp .Or es _=>l.chk top N nm es | _=>false
 wp Γ S W:=l.wpO Γ S W
 sound:=by
  intro X r top N nm e Γ S W A hl hc hw
  cases e with
  | BoolOp o es pos=>
    cases o with
    | Or=>exact(l.soundO A hl hc hw).ts
    | _=>exact fE hc
  | _=>exact fE hc
def Bo.one(t:Ex Ω):Bo Ω where
 lev:=t.lev
 chk top N nm es:=match es with | [e]=>t.chk top N nm e | _=>false
 wpA Γ S W:=t.wp Γ S W
 wpO Γ S W:=t.wp Γ S W
 ne:=by
  intro top N nm es hc
  match es,hc with
  | [e],_=>exact⟨_,_,rfl⟩
  | [],hc=>exact fE hc
  | _::_::_,hc=>exact fE hc
 soundA:=by
  intro X r top N nm es Γ S W pos A hl hc hw
  match es,hc with
  | [e],hc=>exact Hr (t.sound A hl hc hw)
  | [],hc=>exact fE hc
  | _::_::_,hc=>exact fE hc
 soundO:=by
  intro X r top N nm es Γ S W pos A hl hc hw
  match es,hc with
  | [e],hc=>exact Hr (t.sound A hl hc hw)
  | [],hc=>exact fE hc
  | _::_::_,hc=>exact fE hc
def Bo.cons(t:Ex Ω)(r:Bo Ω):Bo Ω where
 lev:=max t.lev r.lev
 chk top N nm es:=match es with | e::es=>t.chk top N nm e&&r.chk top N nm es | _=>false
 wpA Γ S W:=t.wp Γ S λ d S1=>match d with | .bl c=>(c=true->r.wpA Γ S1 W)/\(c=false->W (.bl false) S1) | _=>False
 wpO Γ S W:=t.wp Γ S λ d S1=>match d with | .bl c=>(c=true->W (.bl true) S1)/\(c=false->r.wpO Γ S1 W) | _=>False
 ne:=by
  intro top N nm es hc
  match es,hc with
  | _::_,_=>exact⟨_,_,rfl⟩
  | [],hc=>exact fE hc
 soundA:=by
  intro X r' top N nm es Γ S W pos A hl hc hw
  obtain⟨l1,l2⟩:=lv2 hl
  match es,hc with
  | e::es,hc=>
    obtain⟨h1,h2⟩:=aa hc
    obtain⟨b,rest,rfl⟩:=r.ne h2
    refine Rz ((t.sound A l1 h1 hw).mono λ d S1 q=>?_)
    cases d<;>first | exact⟨_,rfl,λ hk=>r.soundA A l2 h2 (q.1 hk),q.2⟩ | exact q.elim
  | [],hc=>exact fE hc
 soundO:=by
  intro X r' top N nm es Γ S W pos A hl hc hw
  obtain⟨l1,l2⟩:=lv2 hl
  match es,hc with
  | e::es,hc=>
    obtain⟨h1,h2⟩:=aa hc
    obtain⟨b,rest,rfl⟩:=r.ne h2
    refine Vv ((t.sound A l1 h1 hw).mono λ d S1 q=>?_)
    cases d<;>first | exact⟨_,rfl,q.1,λ hk=>r.soundO A l2 h2 (q.2 hk)⟩ | exact q.elim
  | [],hc=>exact fE hc
def Ex.and(l:Bo Ω):Ex Ω where
 lev:=l.lev
 chk top N nm e:=match e with | .BoolOp .And es _=>l.chk top N nm es | _=>false
 wp Γ S W:=l.wpA Γ S W
 sound:=by
  intro X r top N nm e Γ S W A hl hc hw
  cases e with
  | BoolOp o es pos=>
    cases o with
    | And=>exact l.soundA A hl hc hw
    | _=>exact fE hc
  | _=>exact fE hc
def Ex.or(l:Bo Ω):Ex Ω where
 lev:=l.lev
 chk top N nm e:=match e with | .BoolOp .Or es _=>l.chk top N nm es | _=>false
 wp Γ S W:=l.wpO Γ S W
 sound:=by
  intro X r top N nm e Γ S W A hl hc hw
  cases e with
  | BoolOp o es pos=>
    cases o with
    | Or=>exact l.soundO A hl hc hw
    | _=>exact fE hc
  | _=>exact fE hc
def Ex.not(a:Ex Ω):Ex Ω where
 lev:=a.lev
 chk top N nm e:=match e with | .UnaryOp .Not b _=>a.chk top N nm b | _=>false
 wp Γ S W:=a.wp Γ S λ d S1=>match d with | .bl c=>W (.bl (!c)) S1 | _=>False
 sound:=by
  intro X r top N nm e Γ S W A hl hc hw
  cases e with
  | UnaryOp o b pos=>
    cases o with
    | Not=>
      refine Sh ((a.sound A hl hc hw).mono λ d S1 q=>?_)
      cases d<;>first | exact⟨_,rfl,q⟩ | exact q.elim
    | _=>exact fE hc
  | _=>exact fE hc
def Ex.neg(a:Ex Ω):Ex Ω where
 lev:=a.lev
 chk top N nm e:=match e with | .UnaryOp .USub b _=>a.chk top N nm b | _=>false
 wp Γ S W:=a.wp Γ S λ d S1=>match d with | .int c=>W (.int (-c)) S1 | _=>False
 sound:=by
  intro X r top N nm e Γ S W A hl hc hw
  cases e with
  | UnaryOp o b pos=>
    cases o with
    | USub=>
      refine R8 ((a.sound A hl hc hw).mono λ d S1 q=>?_)
      cases d<;>first | exact⟨_,rfl,q⟩ | exact q.elim
    | _=>exact fE hc
  | _=>exact fE hc
def Ar.nil:Ar Ω where
 lev:=0
 chk _ _ _ es:=match es with | []=>true | _=>false
 wp _ S W:=W [] S
 plain:=by
  intro top N nm es hc
  match es,hc with
  | [],_=>rfl
  | _::_,hc=>exact fE hc
 sound:=by
  intro X r top N nm es Γ S W A _ hc hw
  match es,hc with
  | [],_=>exact jD hw
  | _::_,hc=>exact fE hc
def Ar.cons(a:Ex Ω)(r:Ar Ω):Ar Ω where
 lev:=max a.lev r.lev
 chk top N nm es:=match es with | e::es=>okE e&&(a.chk top N nm e&&r.chk top N nm es) | _=>false
 wp Γ S W:=a.wp Γ S λ d S1=>r.wp Γ S1 λ ds S2=>W (d::ds) S2
 plain:=by
  intro top N nm es hc
  match es,hc with
  | e::es,hc=>
    obtain⟨h1,h2⟩:=aa hc
    obtain⟨h2,h3⟩:=aa h2
    rw[List.all_cons,h1,r.plain h3];rfl
  | [],hc=>exact fE hc
 sound:=by
  intro X r' top N nm es Γ S W A hl hc hw
  obtain⟨l1,l2⟩:=lv2 hl
  match es,hc with
  | e::es,hc=>
    obtain⟨h1,h2⟩:=aa hc
    obtain⟨h2,h3⟩:=aa h2
    exact cG ((a.sound A l1 h2 hw).mono λ d S1 q=>r.sound A l2 h3 q) (aA h1 _ _)
  | [],hc=>exact fE hc
def Ex.tup(as:Ar Ω):Ex Ω where
 lev:=as.lev
 chk top N nm e:=match e with | .Tuple es _ _=>as.chk top N nm es | _=>false
 wp Γ S W:=as.wp Γ S λ ds S1=>ds.length≤1000000/\W (.tup ds) S1
 sound:=by
  intro X r top N nm e Γ S W A hl hc hw
  cases e with
  | Tuple es k pos=>exact Uc (as.sound A hl hc hw)
  | _=>exact fE hc
def Ex.lst(as:Ar Ω):Ex Ω where
 lev:=as.lev
 chk top N nm e:=match e with | .List es _=>as.chk top N nm es | _=>false
 wp Γ S W:=as.wp Γ S λ ds S1=>ds.length≤1000000/\W (.lst ds) S1
 sound:=by
  intro X r top N nm e Γ S W A hl hc hw
  cases e with
  | List es pos=>exact TF (as.sound A hl hc hw)
  | _=>exact fE hc
def Ex.own(as:Ar Ω):Ex Ω where
 lev:=as.lev
 chk top N nm e:=match e with | .List es _=>as.chk top N nm es | _=>false
 wp Γ S W:=as.wp Γ S λ ds S1=>ds.length≤1000000/\W (.loc S1.length) (S1++[ds])
 sound:=by
  intro X r top N nm e Γ S W A hl hc hw
  cases e with
  | List es pos=>exact Ql (as.sound A hl hc hw)
  | _=>exact fE hc
def Ex.ix(a b:Ex Ω):Ex Ω where
 lev:=max a.lev b.lev
 chk top N nm e:=match e with | .Subscript l r _=>okE r&&(a.chk top N nm l&&b.chk top N nm r) | _=>false
 wp Γ S W:=a.wp Γ S λ x S1=>b.wp Γ S1 λ y S2=>My x y S2 W
 sound:=by
  intro X r top N nm e Γ S W A hl hc hw
  obtain⟨l1,l2⟩:=lv2 hl
  cases e with
  | Subscript l r' pos=>
    obtain⟨h1,h2⟩:=aa hc
    obtain⟨h2,h3⟩:=aa h2
    exact U0 ((a.sound A l1 h2 hw).mono λ x S1 q=>(b.sound A l2 h3 q).mono λ y S2 q=>Nx q) (yS h1)
  | _=>exact fE hc
set_option genInjectivity false in
structure Po(Ω:Wd) where
 lev:Nat
 chk:Bool->%[|2]->Nm->Option Expr->Bool
 wp:Gam->Store->(Option Int->%[|4])->Prop
 sound:∀{X:Cx}{r:Nat}{top:Bool}{N:%[|2]}{nm:Nm}{e:Option Expr}{Γ:Gam}{S:Store}{W:Option Int->%[|4]},At Ω X r top N nm->lev≤r->chk top N nm e=true->wp Γ S W->PoD X Γ S e W
def Po.no:Po Ω where
 lev:=0
 chk _ _ _ e:=match e with | none=>true | _=>false
 wp _ S W:=W none S
 sound:=by
  intro X r top N nm e Γ S W A hl hc hw
  cases e with
  | none=>exact Vw hw
  | some e=>exact fE hc
def Po.so(a:Ex Ω):Po Ω where
 lev:=a.lev
 chk top N nm e:=match e with | some e=>a.chk top N nm e | _=>false
 wp Γ S W:=a.wp Γ S λ d S1=>match d with | .int i=>W (some i) S1 | _=>False
 sound:=by
  intro X r top N nm e Γ S W A hl hc hw
  cases e with
  | some e=>
    refine VJ ((a.sound A hl hc hw).mono λ d S1 q=>?_)
    cases d<;>first | exact⟨_,rfl,q⟩ | exact q.elim
  | none=>exact fE hc
theorem PoD.mono{Γ:Gam}{S:Store}{e:Option Expr}{W W':Option Int->%[|4]}(h:PoD X Γ S e W)(k:∀c S',W c S'->W' c S'):PoD X Γ S e W':=by
 cases e with
 | none=>exact k _ _ h
 | some e=>exact Ev.mono h λ d S1 ⟨i,e,w⟩=>⟨i,e,k _ _ w⟩
def Ex.sl(a:Ex Ω)(lo hi:Po Ω):Ex Ω where
 lev:=max a.lev (max lo.lev hi.lev)
 chk top N nm e:=match e with | .Subscript l (.Slice x y none _) _=>a.chk top N nm l&&(lo.chk top N nm x&&hi.chk top N nm y) | _=>false
 wp Γ S W:=a.wp Γ S λ x S1=>lo.wp Γ S1 λ l S2=>hi.wp Γ S2 λ h S3=>Mq x l h S3 W
 sound:=by
  intro X r top N nm e Γ S W A hl hc hw
  obtain⟨l1,l2⟩:=lv2 hl
  obtain⟨l2,l3⟩:=lv2 l2
  cases e with
  | Subscript l sl pos=>
    cases sl with
    | Slice x y z p2=>
      cases z with
      | none=>
        obtain⟨h1,h2⟩:=aa hc
        obtain⟨h2,h3⟩:=aa h2
        exact K4 ((a.sound A l1 h1 hw).mono λ x S1 q=>PoD.mono (lo.sound A l2 h2 q) λ l S2 q=>PoD.mono (hi.sound A l3 h3 q) λ h S3 q=>Qi q)
      | some _=>exact fE hc
    | _=>exact fE hc
  | _=>exact fE hc
def Ex.call{x:Str}{k n:Nat}{F:Ct}(C:Callee Ω.P Ω.w Ω.K Ω.mg Ω.base x k n F)(as:Ar Ω):Ex Ω where
 lev:=max k as.lev
 chk top N nm e:=match e with | .Call (.Name y _) (a::es) [] _=>(y==x)&&(glb nm x&&(okN x&&as.chk top N nm (a::es))) | _=>false
 wp Γ S W:=as.wp Γ S λ ds S1=>ds.length=n/\F ds S1 W
 sound:=by
  intro X r top N nm e Γ S W A hl hc hw
  obtain⟨l1,l2⟩:=lv2 hl
  cases e with
  | Call f es ks pos=>
    cases f with
    | Name y p=>
      match es,ks,hc with
      | a::es,[],hc=>
        obtain⟨h1,h2⟩:=aa hc
        obtain⟨h2,h3⟩:=aa h2
        obtain⟨h3,h4⟩:=aa h3
        have e:y=x:=ZI h1
        subst e
        have pl:=as.plain h4
        rw[List.all_cons]at pl
        obtain⟨p1,p2⟩:=aa pl
        have C':Callee X.prog X.w X.K X.mg X.base y k n F:=by rw[A.p,A.w,A.k,A.g,A.b];exact C
        exact Qa C' (A.room.mono l1) (as.sound A l2 h4 hw) (A.glb h2) (gU h3).1 (aA p1 _ _) (qL p2 _ _)
      | [],_,hc=>exact fE hc
      | _::_,_::_,hc=>exact fE hc
    | _=>exact fE hc
  | _=>exact fE hc
set_option genInjectivity false in
structure Bf where
 x:Str
 id:String
 boot:bootBuiltins x=some (.builtin id)
 wp:List D->Store->WD->Prop
 sound:∀{X:Cx}{ds:List D}{S:Store}{W:WD},X.calm=true->Room 0 X.A->wp ds S W->dM X (.builtin id) ds S W
def Ex.blt(b:Bf)(hm:Ω.mg b.x=none)(as:Ar Ω):Ex Ω where
 lev:=as.lev
 chk top N nm e:=match e with | .Call (.Name y _) (a::es) [] _=>(y==b.x)&&(glb nm b.x&&(okN b.x&&as.chk top N nm (a::es))) | _=>false
 wp Γ S W:=as.wp Γ S λ ds S1=>b.wp ds S1 W
 sound:=by
  intro X r top N nm e Γ S W A hl hc hw
  cases e with
  | Call f es ks pos=>
    cases f with
    | Name y p=>
      match es,ks,hc with
      | a::es,[],hc=>
        obtain⟨h1,h2⟩:=aa hc
        obtain⟨h2,h3⟩:=aa h2
        obtain⟨h3,h4⟩:=aa h3
        have e:y=b.x:=ZI h1
        subst e
        have pl:=as.plain h4
        rw[List.all_cons]at pl
        obtain⟨p1,p2⟩:=aa pl
        exact M3 (EvA.mono (as.sound A hl h4 hw) λ ds S1 q=>b.sound A.calm (A.room.mono (Nat.zero_le _)) q) (by rw[A.g];exact hm) b.boot (A.glb h2) (gU h3).2.2 (gU h3).1 (aA p1 _ _) (qL p2 _ _)
      | [],_,hc=>exact fE hc
      | _::_,_::_,hc=>exact fE hc
    | _=>exact fE hc
  | _=>exact fE hc
set_option genInjectivity false in
structure Bc where
 x:Str
 id:String
 boot:bootBuiltins x=some (.type id)
 wp:List D->Store->WD->Prop
 sound:∀{X:Cx}{ds:List D}{S:Store}{W:WD},X.calm=true->Room 0 X.A->wp ds S W->dM X (.type id) ds S W
def Ex.typ(b:Bc)(hm:Ω.mg b.x=none)(as:Ar Ω):Ex Ω where
 lev:=as.lev
 chk top N nm e:=match e with | .Call (.Name y _) (a::es) [] _=>(y==b.x)&&(glb nm b.x&&(okN b.x&&as.chk top N nm (a::es))) | _=>false
 wp Γ S W:=as.wp Γ S λ ds S1=>b.wp ds S1 W
 sound:=by
  intro X r top N nm e Γ S W A hl hc hw
  cases e with
  | Call f es ks pos=>
    cases f with
    | Name y p=>
      match es,ks,hc with
      | a::es,[],hc=>
        obtain⟨h1,h2⟩:=aa hc
        obtain⟨h2,h3⟩:=aa h2
        obtain⟨h3,h4⟩:=aa h3
        have e:y=b.x:=ZI h1
        subst e
        have pl:=as.plain h4
        rw[List.all_cons]at pl
        obtain⟨p1,p2⟩:=aa pl
        exact LR (EvA.mono (as.sound A hl h4 hw) λ ds S1 q=>b.sound A.calm (A.room.mono (Nat.zero_le _)) q) (by rw[A.g];exact hm) b.boot (A.glb h2) (gU h3).2.2 (gU h3).1 (aA p1 _ _) (qL p2 _ _)
      | [],_,hc=>exact fE hc
      | _::_,_::_,hc=>exact fE hc
    | _=>exact fE hc
  | _=>exact fE hc
def Ex.isi(hm:Ω.mg "isinstance"=none)(a:Ex Ω)(T:Ty)(hT:Ω.mg T.nm=none):Ex Ω where
 lev:=a.lev
 chk top N nm e:=iz e λ y es=>two2 es λ b c=>anB (nameV c) λ t=>(y==("isinstance":Str))&&(glb nm "isinstance"&&((t==T.nm)&&(glb nm T.nm&&(okE b&&a.chk top N nm b))))
 wp Γ S W:=a.wp Γ S λ d S1=>W (.bl (isD T d)) S1
 sound:=by
  intro X r top N nm e Γ S W A hl hc hw
  obtain⟨y,p,es,pos,rfl,hc_1⟩:=dD hc
  obtain⟨b,c,rfl,hc_2⟩:=two2_of hc_1
  obtain⟨t,hn,hc_3⟩:=mV hc_2
  obtain⟨q,rfl⟩:=qj hn
  have hc:=hc_3
  . skip
    obtain⟨h1,g2⟩:=aa hc
    obtain⟨h2,g3⟩:=aa g2
    obtain⟨h3,g4⟩:=aa g3
    obtain⟨h4,g5⟩:=aa g4
    obtain⟨h5,h6⟩:=aa g5
    have e:y="isinstance":=ZI h1
    subst e
    have e:t=T.nm:=ZI h3
    subst e
    exact Rp (Tn:=T.id) ((a.sound A hl h6 hw).mono λ d S1 q=>by rw[Ub];exact q) T.isT T.boot (by rw[A.g];exact hm) (by rw[A.g];exact hT) (A.glb h2) (A.glb h4) T.ok.2 T.ok.1 (aA h5 _ _) (aA (e:=.Name T.nm q) rfl [] _)
end RF
namespace RF
open PySem PySem.Spec L2 DL
open PyProof.Rows
variable {Γ : Gam}
inductive Tg where
 | nm(i:Nat) | tup(is:List Nat)
def setAll:Gam->List Nat->List D->Gam
 | Γ,i::is,d::ds=>setAll (Γ.set i (some d)) is ds
 | Γ,_,_=>Γ
def Tg.wp:Tg->D->Gam->(Gam->Prop)->Prop
 | .nm i,d,Γ,W=>W (Γ.set i (some d))
 | .tup is,.tup ds,Γ,W=>ds.length=is.length/\W (setAll Γ is ds)
 | .tup _,_,_,_=>False
def Tg.slots:Tg->List Nat
 | .nm i=>[i]
 | .tup is=>is
def wB(top:Bool)(N:%[|2])(nm:Nm)(i:Nat)(e:Expr):Bool:=match e with | .Name x _=>(N[i]? ==some x)&&lcl top nm x | _=>false
def fD(top:Bool)(N:%[|2])(nm:Nm):List Nat->List Expr->Bool
 | [],[]=>true
 | i::is,e::es=>wB top N nm i e&&fD top N nm is es
 | _,_=>false
def Tg.chk(t:Tg)(top:Bool)(N:%[|2])(nm:Nm)(e:Expr):Bool:=match t with
 | .nm i=>wB top N nm i e
 | .tup is=>match e with | .Tuple es _ _=>fD top N nm is es | _=>false
section
variable {Ω : Wd} {X : Cx} {r : Nat} {top : Bool} {N : %[|2]} {nm : Nm}
theorem Jb(A:At Ω X r top N nm){i:Nat}{e:Expr}{d:D}{Γ:Gam}{S:Store}{W:Gam->%[|4]}(hc:wB top N nm i e=true)(hw:W (Γ.set i (some d)) S):BdW X e d Γ S W:=by
 cases e with
 | Name x pos=>
   obtain⟨h1,h2⟩:=aa hc
   have h1:N[i]? =some x:=ZI h1
   obtain⟨l1,l2⟩:=A.lcl h2
   exact Oh i hw (by rw[A.n];exact A.nd) (by rw[A.n];exact h1) l1 l2
 | _=>exact fE hc
theorem wX{i:Nat}{is:List Nat}{es:List Expr}(h:fD top N nm (i::is) es=true):∃x p es',es=.Name x p::es'/\wB top N nm i (.Name x p)=true/\fD top N nm is es'=true:=by
 cases es with
 | nil=>exact(y6 h).elim
 | cons e es=>
   obtain⟨h1,h2⟩:=aa h
   cases e with
   | Name x p=>exact⟨x,p,es,rfl,h1,h2⟩
   | _=>exact(y6 h1).elim
theorem DY{es:List Expr}(h:fD top N nm [] es=true):es=[]:=by
 cases es with
 | nil=>rfl
 | cons e es=>exact(y6 h).elim
theorem Jy(A:At Ω X r top N nm){S:Store}{W:Gam->%[|4]}:∀{is:List Nat}{es:List Expr}{ds:List D}{Γ:Gam},fD top N nm is es=true->ds.length=is.length->W (setAll Γ is ds) S->xT X es ds Γ S W
 | [],es,ds,Γ,hc,hl,hw=>by
   have e:=DY hc
   subst e
   have e:ds=[]:=by simpa using hl
   subst e
   exact Ot hw
 | i::is,es,ds,Γ,hc,hl,hw=>by
   obtain⟨x,p,es',rfl,h1,h2⟩:=wX hc
   cases ds with
   | nil=>simp at hl
   | cons d ds=>exact Lj (Jb A h1 (Jy A h2 (by simpa using hl) hw)) rfl
theorem CZ:∀{is:List Nat}{es:List Expr},fD top N nm is es=true->∀env:Env,(assignEach es env).length=is.length/\(assignEach es env).findIdx? (·.1)=none
 | [],es,hc,env=>by
   have e:=DY hc
   subst e
   exact⟨rfl,rfl⟩
 | i::is,es,hc,env=>by
   obtain⟨x,p,es',rfl,h1,h2⟩:=wX hc
   obtain⟨a,b⟩:=CZ h2 env
   have e:assignEach (.Name x p::es') env=(false,assign (.Name x p) env)::assignEach es' env:=rfl
   rw[e]
   refine⟨by simp[a],?_⟩
   rw[List.findIdx?_cons,b]
   rfl
theorem Tg.sound(A:At Ω X r top N nm){t:Tg}{e:Expr}{d:D}{Γ:Gam}{S:Store}{W:Gam->%[|4]}(hc:t.chk top N nm e=true)(hw:t.wp d Γ λ Γ'=>W Γ' S):BdW X e d Γ S W:=by
 cases t with
 | nm i=>exact Jb A hc hw
 | tup is=>
   cases e with
   | Tuple es k pos=>
     have hc:fD top N nm is es=true:=hc
     cases d with
     | tup ds=>
       obtain⟨hl,hw⟩:ds.length=is.length/\W (setAll Γ is ds) S:=hw
       obtain⟨a,b⟩:=CZ hc X.env
       exact Rk (Jy A hc hl hw) A.calm (a.trans hl.symm) b
     | _=>exact hw.elim
   | _=>exact fE hc
end
theorem Sub.setAll{Γ:Gam}:∀{is:List Nat}{ds:List D}{Γ':Gam},Sub Γ Γ'->(∀i∈is,Γ[i]? =some none)->Sub Γ (RF.setAll Γ' is ds)
 | [],ds,Γ',h,_=>by cases ds<;>exact h
 | i::is,[],Γ',h,_=>h
 | i::is,d::ds,Γ',h,hi=>show Sub Γ (RF.setAll (Γ'.set i (some d)) is ds)from Sub.setAll (Γ':=Γ'.set i (some d)) (h.set i (some d) (hi i x5)) λ j hj=>hi j (x3 _ hj)
theorem JR{cap:List (Option Nat)}{i:Nat}(h:cap[i]? =some none):(capt cap Γ)[i]? =some none:=by
 unfold capt
 rw[y8,h];rfl
set_option genInjectivity false in
structure Itb(Ω:Wd) where
 lev:Nat
 chk:Bool->%[|2]->Nm->Expr->Expr->Bool
 wp:Gam->Store->(List D->%[|4])->Prop
 sound:∀{X:Cx}{r:Nat}{top:Bool}{N:%[|2]}{nm:Nm}{tg e:Expr}{Γ:Gam}{S:Store}{W:List D->%[|4]},At Ω X r top N nm->lev≤r->chk top N nm tg e=true->wp Γ S W->ItW X Γ S tg e W
theorem Rh{X:Cx}{S:Store}{tg e:Expr}{W:List D->%[|4]}(h:Ev X Γ S e λ d S1=>match d with | .lst ds=>W ds S1 | .tup ds=>W ds S1 | _=>False):ItW X Γ S tg e W:=by
 intro pins s σ H O I env st
 refine thn (h pins s σ H O I env st) λ u s1 hq_=>?_
 obtain⟨v,H1,I1,r1,O1,d,S1,w,st1,ok1,rep⟩:=hq_
 cases rep with
 | @lst a xs ds h1 q1=>
   cases r1
   obtain⟨its,rv,p,hz⟩:=I1.list h1.sq
   refine wpAny_pyIter_list p.isList ?_
   refine⟨s1.heap.objs.size,[s1.heap.objs.size],_,_,H1,rfl,I1.kept (t':=s1.toks) λ b o e=>ZC _ e,mJ a _,⟨_,ZD _ rfl,rfl,rfl⟩,λ b hb=>?_,O1,ds,S1,w,st1,ok1,oW h1 q1⟩
   have e:b=s1.heap.objs.size:=by simpa using hb
   subst e
   exact I1.fpOk (y9 _) (I1.hok.fresh (y9 _))
 | @tup a xs ds h1 q1=>
   cases r1
   obtain⟨its,rv,p,hz⟩:=I1.tuple h1.sq
   refine wpAny_pyIter_tuple (show s1.heap.IsTuple a its.toArray from p) ?_
   refine⟨s1.heap.objs.size,[s1.heap.objs.size],_,_,H1,rfl,I1.kept (t':=s1.toks) λ b o e=>ZC _ e,rm a _,⟨_,ZD _ rfl,rfl,rfl⟩,λ b hb=>?_,O1,ds,S1,w,st1,ok1,qW h1 q1⟩
   have e:b=s1.heap.objs.size:=by simpa using hb
   subst e
   exact I1.fpOk (y9 _) (I1.hok.fresh (y9 _))
 | _=>exact w.elim
variable {Ω : Wd}
def Itb.seq(a:Ex Ω):Itb Ω where
 lev:=a.lev
 chk top N nm _ e:=a.chk top N nm e
 wp Γ S W:=a.wp Γ S λ d S1=>match d with | .lst ds=>W ds S1 | .tup ds=>W ds S1 | _=>False
 sound:=by
  intro X r top N nm tg e Γ S W A hl hc hw
  exact Rh (a.sound A hl hc hw)
def Itb.rng1(hm:Ω.mg "range"=none)(a:Ex Ω):Itb Ω where
 lev:=a.lev
 chk top N nm _ e:=iz e λ y es=>tM es λ b=>(y==("range":Str))&&(glb nm "range"&&(okE b&&a.chk top N nm b))
 wp Γ S W:=a.wp Γ S λ d S1=>match d with | .int j=>(-(2 ^ 62)≤j/\j<2 ^ 62)/\W (upTo 0 j.toNat) S1 | _=>False
 sound:=by
  intro X r top N nm tg e Γ S W A hl hc hw
  obtain⟨y,p,es,pos,rfl,hc_1⟩:=dD hc
  obtain⟨b,rfl,hc_2⟩:=jk hc_1
  have hc:=hc_2
  . skip
    obtain⟨h1,g2⟩:=aa hc
    obtain⟨h2,g3⟩:=aa g2
    obtain⟨h3,h4⟩:=aa g3
    have e:y="range":=ZI h1
    subst e
    refine Il ((a.sound A hl h4 hw).mono λ d S1 q=>?_) (by rw[A.g];exact hm) (A.glb h2) (aA h3 [] _)
    cases d<;>first | exact⟨_,rfl,q.1.1,q.1.2,q.2⟩ | exact q.elim
def Itb.rng2(hm:Ω.mg "range"=none)(a b:Ex Ω):Itb Ω where
 lev:=max a.lev b.lev
 chk top N nm _ e:=iz e λ y es=>two2 es λ l r=>(y==("range":Str))&&(glb nm "range"&&((okE l&&okE r)&&(a.chk top N nm l&&b.chk top N nm r)))
 wp Γ S W:=a.wp Γ S λ d S1=>b.wp Γ S1 λ d' S2=>match d,d' with | .int i,.int j=>(-(2 ^ 62)≤i/\i<2 ^ 62/\ -(2 ^ 62)≤j/\j<2 ^ 62)/\W (upTo i (j-i).toNat) S2 | _,_=>False
 sound:=by
  intro X r top N nm tg e Γ S W A hl hc hw
  obtain⟨l1,l2⟩:=lv2 hl
  obtain⟨y,p,es,pos,rfl,hc_1⟩:=dD hc
  obtain⟨l,r',rfl,hc_2⟩:=two2_of hc_1
  have hc:=hc_2
  . skip
    obtain⟨h1,g2⟩:=aa hc
    obtain⟨h2,g3⟩:=aa g2
    obtain⟨h3,h4⟩:=aa g3
    obtain⟨h5,h6⟩:=aa h3
    obtain⟨h7,h8⟩:=aa h4
    have e:y="range":=ZI h1
    subst e
    refine Hu ((a.sound A l1 h7 hw).mono λ d S1 q=>(b.sound A l2 h8 q).mono λ d' S2 q=>?_) (by rw[A.g];exact hm) (A.glb h2) (by rw[aA h5,aA h6];rfl) (aA h6 [] _)
    cases d<;>first | exact q.elim | (cases d'<;>first | exact⟨_,_,rfl,rfl,q.1,q.2⟩ | exact q.elim)
set_option genInjectivity false in
structure Cd(Ω:Wd) where
 lev:Nat
 chk:Bool->%[|2]->Nm->List Expr->Bool
 wp:Gam->Store->(Bool->%[|4])->Prop
 sound:∀{X:Cx}{r:Nat}{top:Bool}{N:%[|2]}{nm:Nm}{es:List Expr}{Γ:Gam}{S:Store}{W:Bool->%[|4]},At Ω X r top N nm->lev≤r->chk top N nm es=true->wp Γ S W->TsA X Γ S es W
def Cd.no:Cd Ω where
 lev:=0
 chk _ _ _ es:=match es with | []=>true | _=>false
 wp _ S W:=W true S
 sound:=by
  intro X r top N nm es Γ S W A hl hc hw
  match es,hc with
  | [],_=>exact hw
  | _::_,hc=>exact fE hc
def Cd.so(t:Te Ω):Cd Ω where
 lev:=t.lev
 chk top N nm es:=match es with | [e]=>t.chk top N nm e | _=>false
 wp Γ S W:=t.wp Γ S W
 sound:=by
  intro X r top N nm es Γ S W A hl hc hw
  match es,hc with
  | [e],hc=>exact U8 (t.sound A hl hc hw)
  | [],hc=>exact fE hc
  | _::_::_,hc=>exact fE hc
@[irreducible] noncomputable def nq(cap:List (Option Nat))(Γ:Gam)(elt:Ex Ω)(tg:Tg)(cd:Cd Ω)(W:WD)(ds:List D)(C0:%[|4])(S1:Store):Prop:=
  ds.length≤1000000/\∃Pv:Nat->List D->%[|4],Pv 0 [] S1/\(∀i acc S',Pv i acc S'->C0 S')/\
   (∀i d acc S',ds[i]? =some d->Pv i acc S'->tg.wp d (capt cap Γ) λ Γ2=>cd.wp Γ2 S' λ ok S3=>(ok=true->elt.wp Γ2 S3 λ y S4=>Pv (i+1) (acc++[y]) S4)/\(ok=false->Pv (i+1) acc S3))/\
   ∀acc S',Pv ds.length acc S'->W (.lst acc) S'∨W (.loc S'.length) (S'++[acc])
abbrev nu(cap:List (Option Nat))(Γ:Gam)(elt:Ex Ω)(tg:Tg)(cd:Cd Ω)(W:WD)(ds:List D)(S1:Store):Prop:=nq cap Γ elt tg cd W ds (λ _=>True) S1
theorem yX{cap:List (Option Nat)}{elt:Ex Ω}{tg:Tg}{cd:Cd Ω}{W:WD}{ds:List D}{C0:%[|4]}{S1:Store}(h:ds.length≤1000000/\∃Pv:Nat->List D->%[|4],Pv 0 [] S1/\(∀i acc S',Pv i acc S'->C0 S')/\
 (∀i d acc S',ds[i]? =some d->Pv i acc S'->tg.wp d (capt cap Γ) λ Γ2=>cd.wp Γ2 S' λ ok S3=>(ok=true->elt.wp Γ2 S3 λ y S4=>Pv (i+1) (acc++[y]) S4)/\(ok=false->Pv (i+1) acc S3))/\
 ∀acc S',Pv ds.length acc S'->W (.lst acc) S'∨W (.loc S'.length) (S'++[acc])):nq cap Γ elt tg cd W ds C0 S1:=by unfold nq;exact h
theorem f9{cap:List (Option Nat)}{elt:Ex Ω}{tg:Tg}{cd:Cd Ω}{W:WD}{ds:List D}{S1:Store}(h:ds.length≤1000000/\∃Pv:Nat->List D->%[|4],Pv 0 [] S1/\
 (∀i d acc S',ds[i]? =some d->Pv i acc S'->tg.wp d (capt cap Γ) λ Γ2=>cd.wp Γ2 S' λ ok S3=>(ok=true->elt.wp Γ2 S3 λ y S4=>Pv (i+1) (acc++[y]) S4)/\(ok=false->Pv (i+1) acc S3))/\
 ∀acc S',Pv ds.length acc S'->W (.lst acc) S'):nu cap Γ elt tg cd W ds S1:=by
 obtain⟨hz,Pv,p0,pt,pe⟩:=h
 exact yX ⟨hz,Pv,p0,λ _ _ _ _=>trivial,pt,λ acc S' q=>.inl (pe acc S' q)⟩
def m5(N':%[|2])(cap:List (Option Nat))(elt:Ex Ω)(tg:Tg)(it:Itb Ω)(cd:Cd Ω)(top:Bool)(N:%[|2])(nm:Nm)(e:Expr):Bool:=match e with
 | .ListComp x [⟨t,i,cs,0⟩] sc _=>(sc.kind==.function)&&(yo sc.names&&(freeOk nm sc.names&&((sc.names.all λ y=>!(y.2==.local)||(sc.names.lookup y.1==some .local))&&(bc N nm N' sc.names cap N'&&
  (okE i&&((tg.slots.all λ j=>cap[j]? ==some none)&&(decide N'.Nodup&&(it.chk top N nm t i&&(tg.chk false N' sc.names t&&(cd.chk false N' sc.names cs&&elt.chk false N' sc.names x))))))))))
 | _=>false
section
variable {X : Cx} {r : Nat} {top : Bool} {N : %[|2]} {nm : Nm}
theorem uH(A:At Ω X r top N nm){x:Str}(h:nm.lookup x=some .cell∨nm.lookup x=some .free):X.env.scope.names.lookup x=some .cell∨X.env.scope.names.lookup x=some .free:=by
 rcases h with h | h
 . rcases A.look x _ h with q | ⟨q,_⟩
   . exact .inl q
   . exact nomatch q
 . rcases A.look x _ h with q | ⟨_,q⟩
   . exact .inr q
   . exact .inl q
theorem uT(A:At Ω X r top N nm){names:Nm}(h:freeOk nm names=true):freeOk X.env.scope.names names=true:=by
 unfold freeOk
 refine List.all_eq_true.mpr λ y hy=>?_
 by_cases e:y.2=.free
 . have:=uH A (mq h y hy e)
   rcases this with q | q<;>simp[q]
 . simp[e]
theorem jF(A:At Ω X r top N nm){N':%[|2]}{names':Nm}:∀{cap:List (Option Nat)}{t:%[|2]},bc N nm N' names' cap t=true->bc X.N X.env.scope.names N' names' cap t=true
 | [],[],_=>rfl
 | [],_::_,h=>by simp[bc]at h
 | none::_,[],h=>by simp[bc]at h
 | some _::_,[],h=>by simp[bc]at h
 | none::r,_::t,h=>by simp only[bc]at h ⊢;exact jF A h
 | some j::r,x::t,h=>by
   simp only[bc,Bool.and_eq_true,Bool.or_eq_true,beq_iff_eq]at h ⊢
   exact⟨⟨⟨by rw[A.n];exact h.1.1.1,uH A h.1.1.2⟩,h.1.2⟩,jF A h.2⟩
theorem Q5(A:At Ω X r top N nm){sc:Scope}{N':%[|2]}{C:Addr}{s:Shared}{H:Hp}{ex:List Addr}{cl:List (Str×Addr)}(hk:sc.kind=.function)(nd:N'.Nodup):At Ω (fB X sc N' C s H ex cl) r false N' sc.names where
 cd:=λ h=>nomatch h
 p:=A.p
 w:=A.w
 k:=A.k
 g:=A.g
 b:=A.b
 room:=A.room
 xe:=A.xe
 calm:=A.calm
 n:=rfl
 nd:=nd
 kind:=hk
 look:=by
  intro x k h
  show(relabel sc X.env).names.lookup x=some k∨_
  rw[jZ,dO,h]
  rcases pG X.env x k with q | ⟨q1,q2⟩
  . exact .inl (congrArg some q)
  . refine .inr ⟨q1,?_⟩
    show(relabel sc X.env).names.lookup x=some .cell
    rw[jZ,dO,h]
    exact congrArg some q2
 fn:=λ x h=>by show(sc.names.lookup x==some .cell)=true;rw[h];rfl
theorem rF(A:At Ω X r top N nm){sc:Scope}{N':%[|2]}{cap:List (Option Nat)}{elt:Ex Ω}{tg:Tg}{cd:Cd Ω}{x t:Expr}{cs:List Expr}{Γ:Gam}{W:WD}{ds:List D}{C0:%[|4]}{S1:Store}(le:elt.lev≤r)(lc:cd.lev≤r)(hk:sc.kind=.function)(nd:N'.Nodup)(hs:(tg.slots.all λ j=>cap[j]? ==some none)=true)
 (ht:tg.chk false N' sc.names t=true)(hcd:cd.chk false N' sc.names cs=true)(he:elt.chk false N' sc.names x=true)(h:nq cap Γ elt tg cd W ds C0 S1):ww X sc N' cap Γ x t cs W ds C0 S1:=by
 unfold nq at h
 obtain⟨hz,Pv,p0,pC,pt,pe⟩:=h
 refine⟨hz,Pv,p0,pC,λ i d acc S' hd hp C s H ex cl=>?_,pe⟩
 have B:=Q5 A (C:=C) (s:=s) (H:=H) (ex:=ex) (cl:=cl) hk nd
 have sl:∀j∈tg.slots,(capt cap Γ)[j]? =some none:=λ j hj=>JR (by
  have:=List.all_eq_true.mp hs j hj
  exact ZI this)
 have base:=pt i d acc S' hd hp
 have go:∀Γ2,(cd.wp Γ2 S' λ ok S3=>(ok=true->elt.wp Γ2 S3 λ y S4=>Pv (i+1) (acc++[y]) S4)/\(ok=false->Pv (i+1) acc S3))->
  TsA (fB X sc N' C s H ex cl) Γ2 S' cs λ ok S3=>(ok=true->Ev (fB X sc N' C s H ex cl) Γ2 S3 x λ y S4=>Pv (i+1) (acc++[y]) S4)/\(ok=false->Pv (i+1) acc S3):=by
  intro Γ2 q
  have:=cd.sound B lc hcd q
  match cs,this with
  | [],this=>exact⟨λ hk=>elt.sound B le he (this.1 hk),this.2⟩
  | [c],this=>exact Ts.mono this λ ok S3 z=>⟨λ hk=>elt.sound B le he (z.1 hk),z.2⟩
  | _::_::_,this=>exact this.elim
 refine Tg.sound B (W:=λ Γ2 S2=>Sub (capt cap Γ) Γ2/\TsA (fB X sc N' C s H ex cl) Γ2 S2 cs λ ok S3=>(ok=true->Ev (fB X sc N' C s H ex cl) Γ2 S3 x λ y S4=>Pv (i+1) (acc++[y]) S4)/\(ok=false->Pv (i+1) acc S3)) ht ?_
 cases tg with
 | nm j=>exact⟨(Sub.refl _).set j _ (sl j (by simp[Tg.slots])),go _ base⟩
 | tup is=>
   cases d with
   | tup es=>exact⟨base.1,Sub.setAll (Sub.refl _) sl,go _ base.2⟩
   | _=>exact base.elim
end
def Ex.comp(N':%[|2])(cap:List (Option Nat))(elt:Ex Ω)(tg:Tg)(it:Itb Ω)(cd:Cd Ω):Ex Ω where
 lev:=max elt.lev (max it.lev cd.lev)
 chk top N nm e:=m5 N' cap elt tg it cd top N nm e
 wp Γ S W:=it.wp Γ S λ ds S1=>nu cap Γ elt tg cd W ds S1
 sound:=by
  intro X r top N nm e Γ S W A hl hc hw
  obtain⟨l1,l2⟩:=lv2 hl
  obtain⟨l2,l3⟩:=lv2 l2
  unfold m5 at hc
  split at hc
  . rename_i x t i cs sc pos
    obtain⟨h1,hc⟩:=aa hc
    obtain⟨h2,hc⟩:=aa hc
    obtain⟨h3,hc⟩:=aa hc
    obtain⟨h4,hc⟩:=aa hc
    obtain⟨h5,hc⟩:=aa hc
    obtain⟨h6,hc⟩:=aa hc
    obtain⟨h7,hc⟩:=aa hc
    obtain⟨h8,hc⟩:=aa hc
    obtain⟨h9,hc⟩:=aa hc
    obtain⟨h10,hc⟩:=aa hc
    obtain⟨h11,h12⟩:=aa hc
    have hk:sc.kind=.function:=ZI h1
    refine Oz N' cap (ItW.toC (ItW.mono (it.sound A l2 h9 hw) λ ds S1 q=>rF A l1 l3 hk (ZF h8) h7 h10 h11 h12 q)) A.xe A.calm hk h2 (uT A h3) (λ y hy e=>?_) (jF A h5) (nA h6 _)
    . have:=List.all_eq_true.mp h4 y hy
      simpa[e]using this
  . exact fE hc
end RF
namespace RF
open PySem PySem.Spec L2 DL
open PyProof.Rows
variable {Ω : Wd}
theorem uR{e:Expr}(h:noC e=true)(t:Expr)(l:Nat)(env:Env):swapsWithSole [t] e l env=pure false:=by
 unfold swapsWithSole
 exact kh h (some t) l env
set_option genInjectivity false in
structure Sm(Ω:Wd) where
 lev:Nat
 chk:Bool->%[|2]->Nm->Stmt->Bool
 wp:Gam->Store->DL.Fin->Prop
 sound:∀{X:Cx}{r:Nat}{top:Bool}{N:%[|2]}{nm:Nm}{st:Stmt}{Γ:Gam}{S:Store}{W:DL.Fin},At Ω X r top N nm->lev≤r->chk top N nm st=true->wp Γ S W->Rn X Γ S st W
set_option genInjectivity false in
structure Bl(Ω:Wd) where
 lev:Nat
 chk:Bool->%[|2]->Nm->List Stmt->Bool
 wp:Gam->Store->DL.Fin->Prop
 sound:∀{X:Cx}{r:Nat}{top:Bool}{N:%[|2]}{nm:Nm}{sts:List Stmt}{Γ:Gam}{S:Store}{W:DL.Fin},At Ω X r top N nm->lev≤r->chk top N nm sts=true->wp Γ S W->Rns X Γ S sts W
def Bl.nil:Bl Ω where
 lev:=0
 chk _ _ _ sts:=match sts with | []=>true | _=>false
 wp Γ S W:=W.nx Γ S
 sound:=by
  intro X r top N nm sts Γ S W A hl hc hw
  match sts,hc with
  | [],_=>exact SX hw
  | _::_,hc=>exact fE hc
def Bl.cons(s:Sm Ω)(b:Bl Ω):Bl Ω where
 lev:=max s.lev b.lev
 chk top N nm sts:=match sts with | st::sts=>s.chk top N nm st&&b.chk top N nm sts | _=>false
 wp Γ S W:=s.wp Γ S {W with nx:=λ Γ1 S1=>b.wp Γ1 S1 W}
 sound:=by
  intro X r top N nm sts Γ S W A hl hc hw
  obtain⟨l1,l2⟩:=lv2 hl
  match sts,hc with
  | st::sts,hc=>
    obtain⟨h1,h2⟩:=aa hc
    exact QS (Rn.mono (s.sound A l1 h1 hw) (λ G S1 q=>b.sound A l2 h2 q) (λ _ _ q=>q) (λ _ _ q=>q) λ _ _ q=>q)
  | [],hc=>exact fE hc
def Sm.ret(a:Ex Ω):Sm Ω where
 lev:=a.lev
 chk top N nm st:=match st with | .Return (some e) _=>a.chk top N nm e | _=>false
 wp Γ S W:=a.wp Γ S W.rt
 sound:=by
  intro X r top N nm st Γ S W A hl hc hw
  cases st with
  | Return o pos=>
    cases o with
    | some e=>exact Vi (a.sound A hl hc hw)
    | none=>exact fE hc
  | _=>exact fE hc
def Sm.expr(a:Ex Ω):Sm Ω where
 lev:=a.lev
 chk top N nm st:=match st with | .Expr e _=>noC e&&a.chk top N nm e | _=>false
 wp Γ S W:=a.wp Γ S λ _ S1=>W.nx Γ S1
 sound:=by
  intro X r top N nm st Γ S W A hl hc hw
  cases st with
  | Expr e pos=>
    obtain⟨h1,h2⟩:=aa hc
    exact RT (a.sound A hl h2 hw) (kh h1 _ _ _)
  | _=>exact fE hc
def Sm.ite(c:Te Ω)(a b:Bl Ω):Sm Ω where
 lev:=max c.lev (max a.lev b.lev)
 chk top N nm st:=match st with | .If t xs ys _=>c.chk top N nm t&&(a.chk top N nm xs&&b.chk top N nm ys) | _=>false
 wp Γ S W:=c.wp Γ S λ k S1=>(k=true->a.wp Γ S1 W)/\(k=false->b.wp Γ S1 W)
 sound:=by
  intro X r top N nm st Γ S W A hl hc hw
  obtain⟨l1,l2⟩:=lv2 hl
  obtain⟨l2,l3⟩:=lv2 l2
  cases st with
  | If t xs ys pos=>
    obtain⟨h1,h2⟩:=aa hc
    obtain⟨h2,h3⟩:=aa h2
    exact VN (Ts.mono (c.sound A l1 h1 hw) λ k S1 q=>⟨λ hk=>a.sound A l2 h2 (q.1 hk),λ hk=>b.sound A l3 h3 (q.2 hk)⟩)
  | _=>exact fE hc
def Sm.set(i:Nat)(a:Ex Ω):Sm Ω where
 lev:=a.lev
 chk top N nm st:=setB st λ x e=>(N[i]? ==some x)&&(lcl top nm x&&(noC e&&a.chk top N nm e))
 wp Γ S W:=a.wp Γ S λ d S1=>W.nx (Γ.set i (some d)) S1
 sound:=by
  intro X r top N nm st Γ S W A hl hc hw
  obtain⟨x,xp,e,sp,rfl,hc_1⟩:=Qc hc
  have hc:=hc_1
  . obtain⟨h1,h2⟩:=aa hc
    obtain⟨h2,h3⟩:=aa h2
    obtain⟨h3,h4⟩:=aa h3
    obtain⟨l1,l2⟩:=A.lcl h2
    exact Nt i (a.sound A hl h4 hw) (by rw[A.n];exact A.nd) (by rw[A.n];exact ZI h1) l1 (kh h3 _ _ _) l2
def Sm.setC(i:Nat)(N':%[|2])(cap:List (Option Nat))(elt:Ex Ω)(tg:Tg)(it:Itb Ω)(cd:Cd Ω):Sm Ω where
 lev:=max elt.lev (max it.lev cd.lev)
 chk top N nm st:=match st with | .Assign [.Name x p] e _=>(N[i]? ==some x)&&(lcl top nm x&&(top&&(m5 N' cap elt tg it cd top N nm e))) | _=>false
 wp Γ S W:=it.wp Γ S λ ds S1=>nu cap Γ elt tg cd (λ d S2=>W.nx (Γ.set i (some d)) S2) ds S1
 sound := by
  intro X r top N nm st Γ S W A hl hc hw
  split at hc
  . rename_i x p e spos
    obtain⟨k1,q1⟩:=aa hc
    obtain⟨k2,q2⟩:=aa q1
    obtain⟨k0,hcomp⟩:=aa q2
    obtain⟨l1,l2⟩:=A.lcl k2
    have hN:X.N[i]? =some x:=by rw[A.n];exact ZI k1
    have nd:X.N.Nodup:=by rw[A.n];exact A.nd
    have hc2:=hcomp
    obtain⟨le,l3⟩:=lv2 hl
    obtain⟨li,lc⟩:=lv2 l3
    unfold m5 at hc2
    split at hc2
    . rename_i x' t i' cs sc pos
      obtain⟨h1,hc⟩:=aa hc2
      obtain⟨h2,hc⟩:=aa hc
      obtain⟨h3,hc⟩:=aa hc
      obtain⟨h4,hc⟩:=aa hc
      obtain⟨h5,hc⟩:=aa hc
      obtain⟨h6,hc⟩:=aa hc
      obtain⟨h7,hc⟩:=aa hc
      obtain⟨h8,hc⟩:=aa hc
      obtain⟨h9,hc⟩:=aa hc
      obtain⟨h10,hc⟩:=aa hc
      obtain⟨h11,h12⟩:=aa hc
      have hk:sc.kind=.function:=ZI h1
      by_cases hb:(X.env.blockKind==.function&&X.env.kindOf x==some .local&&p.line==(Expr.ListComp x' [⟨t,i',cs,0⟩] sc pos).pos.line&& !(sc.names.any λ(n,k)=>n==x&&(k==.local||k==.cell)))=true
      . refine HY i N' cap (ItW.toC (ItW.mono (it.sound A li h9 hw) λ ds S1 q=>rF A le lc hk (ZF h8) h7 h10 h11 h12 q)) nd hN l1 ?_ l2 A.xe A.calm hk h2 (uT A h3) (λ y hy e=>?_) (jF A h5) (nA h6 _)
        . show(pure (X.env.blockKind==.function&&X.env.kindOf x==some .local&&p.line==(Expr.ListComp x' [⟨t,i',cs,0⟩] sc pos).pos.line&& !(sc.names.any λ(n,k)=>n==x&&(k==.local||k==.cell))):Sem Bool)=pure true
          rw[hb]
        . have:=List.all_eq_true.mp h4 y hy
          simpa[e]using this
      . have hb:_=false:=Bool.eq_false_iff.mpr hb
        refine Nt i ((Ex.comp N' cap elt tg it cd).sound A hl hcomp hw) nd hN l1 ?_ l2
        show(pure (X.env.blockKind==.function&&X.env.kindOf x==some .local&&p.line==(Expr.ListComp x' [⟨t,i',cs,0⟩] sc pos).pos.line&& !(sc.names.any λ(n,k)=>n==x&&(k==.local||k==.cell))):Sem Bool)=pure false
        rw[hb]
    . exact(y6 hc2).elim
  . exact fE hc
def Sm.setIx(o i a:Ex Ω):Sm Ω where
 lev:=max a.lev (max o.lev i.lev)
 chk top N nm st:=match st with | .Assign [.Subscript x y _] e _=>noC e&&(okE y&&(a.chk top N nm e&&(o.chk top N nm x&&i.chk top N nm y))) | _=>false
 wp Γ S W:=a.wp Γ S λ d S1=>o.wp Γ S1 λ x S2=>i.wp Γ S2 λ y S3=>match x,y with | .loc k,.int n=>∃ds j,S3[k]? =some ds/\ixN ds.length n=some j/\W.nx Γ (S3.set k (ds.set j d)) | _,_=>False
 sound:=by
  intro X r top N nm st Γ S W A hl hc hw
  obtain⟨l1,l2⟩:=lv2 hl
  obtain⟨l2,l3⟩:=lv2 l2
  split at hc
  . rename_i x y p e spos
    obtain⟨h1,hc⟩:=aa hc
    obtain⟨h2,hc⟩:=aa hc
    obtain⟨h3,hc⟩:=aa hc
    obtain⟨h4,h5⟩:=aa hc
    refine Qo ((a.sound A l1 h3 hw).mono λ d S1 q=>(o.sound A l2 h4 q).mono λ x S2 q=>(i.sound A l3 h5 q).mono λ y S3 q=>?_) ?_ (uR h1 _ _ _) ?_ rfl
    . cases x<;>first | exact q.elim | (cases y<;>first | exact q.elim | (obtain⟨ds,j,a,b,c⟩:=q;exact⟨_,_,ds,j,rfl,rfl,a,b,c⟩))
    . intro v
      cases y<;>first | rfl | exact(y6 h2).elim
    . rfl
  . exact fE hc
theorem MT{X:Cx}{Γ:Gam}{S:Store}{tg e:Expr}{pos:Pos}{W:DL.Fin}(h:Ev X Γ S e λ d S1=>BdW X tg d Γ S1 W.nx)(hs:swapsWithSole [tg] e pos.line X.env=pure false)(hw:swappedStores [tg] e X.env=pure none)(h1:(assignEach [tg] X.env).map (·.2)=[assign tg X.env]):Rn X Γ S (.Assign [tg] e pos) W:=by
 intro pins s σ H O I env ok
 refine wpAny_Assign_stores (thn (h pins s σ H O I env ok) λ u s1 hq_=>?_) hs hw
 obtain⟨v,H1,I1,r1,O1,d,S1,w1,st1,ok1,rep1⟩:=hq_
 rw[h1]
 show wpAny _ _ (assign tg X.env u) _ _ _
 refine thn (w1 pins s1 σ H1 O1 v u I1 (env.mono st1) ok1 rep1 r1) λ _ s2 ⟨σ',H',I',q⟩=>⟨σ',H',I',QN.pre st1 q⟩
def Vg:Expr->Bool
 | .Tuple .. =>false
 | e=>noC e
def Sm.unpack(t:List Nat)(a:Ex Ω):Sm Ω where
 lev:=a.lev
 chk top N nm st:=match st with | .Assign [.Tuple es k p] e _=>Vg e&&((Tg.tup t).chk top N nm (.Tuple es k p)&&a.chk top N nm e) | _=>false
 wp Γ S W:=a.wp Γ S λ d S1=>(Tg.tup t).wp d Γ λ Γ1=>W.nx Γ1 S1
 sound:=by
  intro X r top N nm st Γ S W A hl hc hw
  split at hc
  . rename_i es k p e spos
    obtain⟨h1,hc⟩:=aa hc
    obtain⟨h2,h3⟩:=aa hc
    have hnc:noC e=true:=by cases e<;>first | rfl | exact(y6 h1).elim
    refine MT ((a.sound A hl h3 hw).mono λ d S1 q=>Tg.sound A (W:=W.nx) h2 q) (uR hnc _ _ _) ?_ rfl
    cases e<;>first | rfl | exact(y6 h1).elim
  . exact fE hc
@[irreducible] noncomputable def jg(Γ:Gam)(tg:Tg)(body:Bl Ω)(W:DL.Fin)(ds:List D)(S1:Store):Prop:=
  ∃Pv:Nat->Gam->%[|4],Pv 0 Γ S1/\(∀i d Γ' S',ds[i]? =some d->Pv i Γ' S'->tg.wp d Γ' λ Γ2=>body.wp Γ2 S' {W with nx:=Pv (i+1),ct:=Pv (i+1),bk:=W.nx})/\(∀Γ' S',Pv ds.length Γ' S'->W.nx Γ' S')
theorem aZ{Γ:Gam}{tg:Tg}{body:Bl Ω}{W:DL.Fin}{ds:List D}{S1:Store}(h:∃Pv:Nat->Gam->%[|4],Pv 0 Γ S1/\(∀i d Γ' S',ds[i]? =some d->Pv i Γ' S'->tg.wp d Γ' λ Γ2=>body.wp Γ2 S' {W with nx:=Pv (i+1),ct:=Pv (i+1),bk:=W.nx})/\(∀Γ' S',Pv ds.length Γ' S'->W.nx Γ' S')):jg Γ tg body W ds S1:=by unfold jg;exact h
def Sm.for(tg:Tg)(it:Itb Ω)(body:Bl Ω):Sm Ω where
 lev:=max it.lev body.lev
 chk top N nm st:=match st with | .For t i b [] _=>okE i&&(tg.chk top N nm t&&(it.chk top N nm t i&&body.chk top N nm b)) | _=>false
 wp Γ S W:=it.wp Γ S λ ds S1=>jg Γ tg body W ds S1
 sound:=by
  intro X r top N nm st Γ S W A hl hc hw
  obtain⟨l1,l2⟩:=lv2 hl
  split at hc
  . rename_i t i b pos
    obtain⟨h1,hc⟩:=aa hc
    obtain⟨h2,hc⟩:=aa hc
    obtain⟨h3,h4⟩:=aa hc
    refine Uo (ItW.mono (it.sound A l1 h3 hw) λ ds S1 q=>?_) (by rw[A.xe];exact PassesOwn.never) A.calm (nA h1 _)
    unfold jg at q
    obtain⟨Pv,p0,pt,pe⟩:=q
    refine⟨Pv,p0,λ i d Γ' S' hd hp=>BdW.mono (Tg.sound A (W:=λ Γ2 S2=>body.wp Γ2 S2 {W with nx:=Pv (i+1),ct:=Pv (i+1),bk:=W.nx}) h2 (pt i d Γ' S' hd hp)) λ Γ2 S2 q=>body.sound A l2 h4 q,pe⟩
  . exact fE hc
def Uw(N ps:%[|2])(sm:Stmt)(k:Nat)(body:Bl Ω):Bool:=
 ((aL sm).kind==.function)&&(!(aL sm).isCoroutine&&(!(aL sm).isGenerator&&(decide N.Nodup&&(decide (N.take ps.length=ps)&&((ps.all λ x=>(aL sm).names.lookup x==some .local||(aL sm).names.lookup x==some .cell)&&
   (((aL sm).names.all λ y=>!(y.2==.free))&&(Nat.ble body.lev k&&body.chk true N (aL sm).names (cA sm))))))))
theorem az(N0:Ω.cd=none){x qual:Str}{sm:Stmt}{f:Addr}{fd:FuncData}{N ps:%[|2]}{k:Nat}{F:Ct}(FF:Fun Ω.K x qual sm f fd)(body:Bl Ω)(hc:Uw N ps sm k body=true)
 (vc:∀(ds:List D)(S:Store)(W:WD),F ds S W->ds.length=ps.length->body.wp (ds.map some++List.replicate (N.length-ds.length) none) S {nx:=λ _ S1=>W .non S1,rt:=W}):FnOk Ω.P Ω.w Ω.K Ω.mg Ω.base CX0 (k+1) f fd ps (spC Ω.K ps.length F):=by
 obtain⟨h1,hc⟩:=aa hc
 obtain⟨h2,hc⟩:=aa hc
 obtain⟨h3,hc⟩:=aa hc
 obtain⟨h4,hc⟩:=aa hc
 obtain⟨h5,hc⟩:=aa hc
 obtain⟨h6,hc⟩:=aa hc
 obtain⟨h7,hc⟩:=aa hc
 obtain⟨h8,h9⟩:=aa hc
 have nd:N.Nodup:=ZF h4
 have sc:FnScope N ps (aL sm):=⟨ZI h1,nt h2,nt h3,nd,ZF h5,λ x hx=>by
  have:=List.all_eq_true.mp h6 x hx
  simpa using this,λ y hy e=>by
  have:=List.all_eq_true.mp h7 y hy
  simp[e]at this⟩
 refine Vh FF sc λ cdv A outer s H E ds S W _ hr hl h=>?_
 refine body.sound (r:=k) (top:=true) (N:=N) (nm:=(aL sm).names) ⟨rfl,rfl,rfl,rfl,rfl,hr,rfl,rfl,rfl,nd,sc.kind,λ x kk h=>.inl h,λ _ _=>rfl,λ _ p q=>nomatch (N0.symm.trans q)⟩ (Nat.le_of_ble_eq_true h8) h9 (vc ds S W h hl)
theorem callee{x qual:Str}{sm:Stmt}{f:Addr}{fd:FuncData}{ps:%[|2]}{k n:Nat}{F:Ct}(FF:Fun Ω.K x qual sm f fd)(h:FnOk Ω.P Ω.w Ω.K Ω.mg Ω.base CX0 k f fd ps (spC Ω.K n F))(hm:Ω.mg x=some (.ref f))(b:Binds Ω.K fd ps []):Callee Ω.P Ω.w Ω.K Ω.mg Ω.base x k n F:=⟨f,fd,ps,h,hm,FF.kp,b⟩
end RF
namespace RF
open PySem PySem.Spec L2 DL
open PyProof.Rows
def cT:Bf where
 x:="len"
 id:="len"
 boot:=by decide+kernel
 wp ds S W:=match ds with
  | [.tup ds]=>W (.int ds.length) S
  | [.lst ds]=>W (.int ds.length) S
  | [.loc k]=>∃ds,S[k]? =some ds/\W (.int ds.length) S
  | _=>False
 sound:=by
  intro X ds S W hc hr h
  split at h
  . exact Ro h
  . exact Rq h
  . obtain⟨ds,h1,h2⟩:=h;exact TQ h1 h2
  . exact h.elim
def fO:Bf where
 x:="all"
 id:="all"
 boot:=by decide+kernel
 wp ds S W:=match ds with
  | [.lst ds]=>∃bs:List Bool,ds=bs.map .bl/\W (.bl (bs.all id)) S
  | _=>False
 sound:=by
  intro X ds S W hc hr h
  split at h
  . obtain⟨bs,rfl,h⟩:=h;exact k_all h hc
  . exact h.elim
def TJ:Bf where
 x:="abs"
 id:="abs"
 boot:=by decide+kernel
 wp ds S W:=match ds with
  | [.int i]=>W (.int (if i<0 then-i else i)) S
  | _=>False
 sound:=by
  intro X ds S W hc hr h
  split at h
  . refine cJ KQ λ O H vs st r=>?_
    obtain⟨v,rfl,r'⟩:=dw r
    cases r'
    exact⟨_,rfl,QG.here h st (.int _)⟩
  . exact h.elim
theorem Ni{K:PySem.W.Frag}{O:Own}{H:Hp}{vs:List V}{d e:D}(r:Reps K O H vs [d,e]):∃v w,vs=[v,w]/\Rep K O H v d/\Rep K O H w e:=by
 cases r with
 | cons a t=>
   cases t with
   | cons b t=>cases t;exact⟨_,_,rfl,a,b⟩
def VM:Bf where
 x:="min"
 id:="min"
 boot:=by decide+kernel
 wp ds S W:=match ds with
  | [.int i,.int j]=>W (.int (if j<i then j else i)) S
  | _=>False
 sound:=by
  intro X ds S W hc hr h
  split at h
  . refine cJ (GP hc) λ O H vs st r=>?_
    obtain⟨v,w,rfl,r1,r2⟩:=Ni r
    cases r1
    cases r2
    exact⟨_,_,rfl,QG.here h st (.int _)⟩
  . exact h.elim
def V3:Bf where
 x:="max"
 id:="max"
 boot:=by decide+kernel
 wp ds S W:=match ds with
  | [.int i,.int j]=>W (.int (if j>i then j else i)) S
  | _=>False
 sound:=by
  intro X ds S W hc hr h
  split at h
  . refine cJ (Ij hc) λ O H vs st r=>?_
    obtain⟨v,w,rfl,r1,r2⟩:=Ni r
    cases r1
    cases r2
    exact⟨_,_,rfl,QG.here h st (.int _)⟩
  . exact h.elim
def bu:Bc where
 x:="tuple"
 id:="tuple"
 boot:=by decide+kernel
 wp ds S W:=match ds with
  | [.lst ds]=>W (.tup ds) S
  | [.loc k]=>∃ds,S[k]? =some ds/\W (.tup ds) S
  | _=>False
 sound:=by
  intro X ds S W hc hr h
  split at h
  . exact R3 h
  . obtain⟨ds,h1,h2⟩:=h;exact QX h1 h2
  . exact h.elim
def VR:Bc where
 x:="int"
 id:="int"
 boot:=by decide+kernel
 wp ds S W:=match ds with
  | [.int i]=>W (.int i) S
  | [.bl k]=>W (.int (if k then 1 else 0)) S
  | _=>False
 sound:=by
  intro X ds S W hc hr h
  split at h
  . refine cJ vf λ O H vs st r=>?_
    obtain⟨v,rfl,r'⟩:=dw r
    cases r'
    exact .inl ⟨_,rfl,QG.here h st (.int _)⟩
  . refine cJ vf λ O H vs st r=>?_
    obtain⟨v,rfl,r'⟩:=dw r
    cases r'
    exact .inr ⟨_,rfl,QG.here h st (.int _)⟩
  . exact h.elim
section
variable {X : Cx} {Γ : Gam} {S : Store} {e : Expr} {pos : Pos}
theorem Ow{elts:List Expr}{k:Nat}{tp p:Pos}{W:List D->%[|4]}(h:Ev X Γ S e λ d S1=>match d with | .lst ds=>W (ds.mapIdx λ i d=>.tup [.int i,d]) S1 | .tup ds=>W (ds.mapIdx λ i d=>.tup [.int i,d]) S1 | _=>False)(hm:X.mg "enumerate"=none)(hg:Gl X "enumerate")(hs:starEach [e] X.env=[(false,eval e X.env)]):
 ItW X Γ S (.Tuple elts k tp) (.Call (.Name "enumerate" p) [e] [] pos) W:=by
 intro pins s σ H O I env st
 refine Call_ (cz I hg hm boot_enumerate (PyProof.Rows.callWith_type1 (thn (nH h.pe xF hs pos pins s σ H (λ vs H'=>∃v,vs=[v]/\QG X.K O H (λ d S1=>match d with | .lst ds=>W (ds.mapIdx λ i d=>.tup [.int i,d]) S1 | .tup ds=>W (ds.mapIdx λ i d=>.tup [.int i,d]) S1 | _=>False) v H') I ⟨O,env,st,λ v H' q=>⟨v,rfl,q⟩⟩) λ us s1 hq_=>?_) hs rfl))
 obtain⟨vs,H1,I1,r1,v,ev,O1,d,S1,w,st1,ok1,rep⟩:=hq_
 subst ev
 obtain⟨u,rfl,ru⟩:=vals1 r1
 cases rep with
 | @lst a xs ds h1 q1=>
   cases ru
   obtain⟨its,rv,pl,hz⟩:=I1.list h1.sq
   refine call_enumerate_list pl.isList λ h' he hi _ kp=>Eh (Nj X.prog X.w X.K) I1 he hi kp ⟨O1,_,S1,w,st1,ok1,oU _ λ O' H' cv=>⟨xs,(h1.conv cv).sq,q1.conv cv⟩⟩
 | @tup a xs ds h1 q1=>
   cases ru
   obtain⟨its,rv,pl,hz⟩:=I1.tuple h1.sq
   obtain⟨⟨c,dct,dt,sl⟩,hl,hc,n,hd⟩:=pl
   replace hc:c=.type "tuple":=hc
   replace hd:dt=.seq its.toArray n:=hd
   subst hc hd
   refine callType_new F.called_enumerate %[|3] (F.typeCall_enumerate_1 _) (F.newCall_enumerate_1 _) (λ obj=>F.args_object_init_2 obj _) F.entry_enumerate_new (HF a its.toArray n dct sl) ⟨hl,?_⟩
   have hz:(s1.heap.push {cls:=.type "tuple_iterator",data:=.fields #[.ref a,.int 0 0]}).objs.size=s1.heap.objs.size+1:=Heap.size_push ..
   show _/\_
   rw[hz]
   have he:IsEnum ((s1.heap.push {cls:=.type "tuple_iterator",data:=.fields #[.ref a,.int 0 0]}).push {cls:=.type "enumerate",data:=.fields #[.none,.bool false,.ref s1.heap.objs.size,rawInt 0,.none,.none]}) (s1.heap.objs.size+1) s1.heap.objs.size 0 .none:=by
    have:=ZD (s1.heap.push {cls:=.type "tuple_iterator",data:=.fields #[.ref a,.int 0 0]}) (o:={cls:=.type "enumerate",data:=.fields #[.none,.bool false,.ref s1.heap.objs.size,rawInt 0,.none,.none]}) rfl
    rw[hz]at this
    exact this
   have hi:Heap.IsTupleIter ((s1.heap.push {cls:=.type "tuple_iterator",data:=.fields #[.ref a,.int 0 0]}).push {cls:=.type "enumerate",data:=.fields #[.none,.bool false,.ref s1.heap.objs.size,rawInt 0,.none,.none]}) s1.heap.objs.size a 0:=
    ⟨_,ZC _ (ZD _ rfl),rfl,rfl⟩
   exact⟨⟨_,he,rfl⟩,Eh (Ep X.prog X.w X.K) I1 he hi (λ b o e=>ZC _ (ZC _ e)) ⟨O1,_,S1,w,st1,ok1,oU _ λ O' H' cv=>⟨xs,(h1.conv cv).sq,q1.conv cv⟩⟩⟩
 | _=>exact w.elim
end
variable {Ω : Wd}
def Itb.enm(hm:Ω.mg "enumerate"=none)(a:Ex Ω):Itb Ω where
 lev:=a.lev
 chk top N nm tg e:=Gy tg&&iz e λ y es=>tM es λ b=>(y==("enumerate":Str))&&(glb nm "enumerate"&&(okE b&&a.chk top N nm b))
 wp Γ S W:=a.wp Γ S λ d S1=>match d with | .lst ds=>W (ds.mapIdx λ i d=>.tup [.int i,d]) S1 | .tup ds=>W (ds.mapIdx λ i d=>.tup [.int i,d]) S1 | _=>False
 sound:=by
  intro X r top N nm tg e Γ S W A hl hc hw
  obtain⟨h0,hc_1⟩:=aa hc
  obtain⟨ts,k,tp,rfl⟩:=Dj h0
  obtain⟨y,p,es,pos,rfl,hc_2⟩:=dD hc_1
  obtain⟨b,rfl,hc_3⟩:=jk hc_2
  have hc:=hc_3
  . obtain⟨h1,h2⟩:=aa hc
    obtain⟨h2,h3⟩:=aa h2
    obtain⟨h3,h4⟩:=aa h3
    have e:=ZI h1
    subst e
    exact Ow (a.sound A hl h4 hw) (by rw[A.g];exact hm) (A.glb h2) (aA h3 [] _)
def Itb.zip(hm:Ω.mg "zip"=none)(a b:Ex Ω):Itb Ω where
 lev:=max a.lev b.lev
 chk top N nm tg e:=Gy tg&&iz e λ y es=>two2 es λ l r=>(y==("zip":Str))&&(glb nm "zip"&&((okE l&&okE r)&&(a.chk top N nm l&&b.chk top N nm r)))
 wp Γ S W:=a.wp Γ S λ d S1=>b.wp Γ S1 λ d' S2=>match d,d' with | .tup ds,.tup es=>W (List.zipWith (λ x y=>.tup [x,y]) ds es) S2 | _,_=>False
 sound:=by
  intro X r top N nm tg e Γ S W A hl hc hw
  obtain⟨l1,l2⟩:=lv2 hl
  obtain⟨h0,hc_1⟩:=aa hc
  obtain⟨ts,k,tp,rfl⟩:=Dj h0
  obtain⟨y,p,es,pos,rfl,hc_2⟩:=dD hc_1
  obtain⟨l',r',rfl,hc_3⟩:=two2_of hc_2
  have hc:=hc_3
  . obtain⟨h1,h2⟩:=aa hc
    obtain⟨h2,h3⟩:=aa h2
    obtain⟨h3,h4⟩:=aa h3
    obtain⟨h5,h6⟩:=aa h3
    obtain⟨h7,h8⟩:=aa h4
    have e:=ZI h1
    subst e
    refine Ml ((a.sound A l1 h7 hw).mono λ d S1 q=>(b.sound A l2 h8 q).mono λ d' S2 q=>?_) (by rw[A.g];exact hm) (A.glb h2) (aA h5 _ _) (aA h6 [] _)
    cases d<;>first | exact q.elim | (cases d'<;>first | exact⟨_,_,rfl,rfl,q⟩ | exact q.elim)
end RF
namespace RF
theorem ff{P:Prop}(h:false=true):P:=(y6 h).elim
theorem tf{P:Prop}(h:true=false):P:=(y6 h.symm).elim
open PySem PySem.Spec L2 DL
open PyProof.Rows
abbrev Cal(Ω:Wd)(x:Str)(k n:Nat)(F:Ct):Prop:=Callee Ω.P Ω.w Ω.K Ω.mg Ω.base x k n F
abbrev Ok(Ω:Wd)(k:Nat)(f:Addr)(fd:FuncData)(ps:%[|2])(F:Ct):Prop:=FnOk Ω.P Ω.w Ω.K Ω.mg Ω.base CX0 k f fd ps (spC Ω.K ps.length F)
def nD:Ct:=λ ds S W=>∃ns,ds=[.lst (List.map .int ns)]/\ns.length≤63/\(∀S',W (.bl true) S')/\S=[]
theorem R5{K:PySem.W.Frag}{H:Hp}{a:Addr}{ns:%[|1]}{E:XK}(hl:ns.length≤63)(hS:SqL K H a (ns.map V.int)):spC K 1 nD [.ref a] H (λ v _=>v=.bl true) E:=by
 refine⟨⟨[],[]⟩,[.lst (ns.map .int)],[],λ d _=>d=.bl true,rfl,.cons (.lst (xs:=ns.map V.int) ?_ (Reps.of_ints ns)) .nil,?_,⟨ns,rfl,hl,λ _=>rfl,rfl⟩,λ v H' q=>?_⟩
 . rcases hS with h | h
   . exact .inl ⟨λ z=>by rcases z with z | z<;>exact absurd (show a∈([]:List Addr)from z) (by simp),h⟩
   . exact .inr (.inr h)
 . exact⟨List.nodup_nil,rfl,λ k a ds e=>by simp at e,λ k a ds e=>by simp at e,λ a h=>absurd (show a∈([]:List Addr)from h) (by simp),λ a h=>absurd (show a∈([]:List Addr)from h) (by simp)⟩
 . obtain⟨O',d,S',w,_,_,r⟩:=q
   subst w
   cases r
   rfl
theorem walk{lev:Nat}{x:Str}{l:PySem.W.OpenLaw}{q:Program}{loose:%[|2]}{XP:(Str->Option Value)->Heap->Prop}{YP:World->Heap->Prop}{d:DefRec}{K:Params->PySem.W.Frag}(hn:l.most=some 63)(hdf:d.params.defaults=[])(hr:Room lev callerA)
 (hY:∀(w:World)(h:Heap),YP w h->(K w.params).In h)
 (F:∀(w:World)(mg:Str->Option Value)(fa:Addr)(h:Heap),(K w.params).In h->h.Ns mainGlobals mg->mg d.name=some (.ref fa)->
  ∃fd:FuncData,(∀(s:Shared)(u:Value),BindsTo s fd ⟨[u],[]⟩ [(x,u)])/\∀base:Heap,(K w.params).In base->base.Ns mainGlobals mg->FnOk l.prog w (K w.params) mg base CX0 lev fa fd [x] (spC (K w.params) 1 nD)):
 PySem.W.WalkO q loose XP YP l.row.toRowW d [] (λ f vs=>PySem.call f vs):=
 L2.walk_of (n:=63) (k:=lev) (x:=x) (CX:=λ _=>CX0) (sp:=λ w=>spC (K w.params) 1 nD) hn %[|3] hdf hr hY F (λ _ _ a ns hl _ hS=>R5 hl hS) λ _ _ _ _ _ z=>z
theorem Tg.mono{t:Tg}{d:D}{Γ:Gam}{W W':Gam->Prop}(h:t.wp d Γ W)(k:∀G,W G->W' G):t.wp d Γ W':=by
 cases t with
 | nm i=>exact k _ h
 | tup is=>
   cases d with
   | tup ds=>exact⟨h.1,k _ h.2⟩
   | _=>exact h.elim
section
variable {Ω : Wd} {cap : List (Option Nat)} {Γ : Gam} {elt : Ex Ω} {tg : Tg} {cd : Cd Ω} {W : WD} {ds : List D} {S1 : Store}
theorem du(f:D->D)(hz:ds.length≤1000000)(h:∀(i:Nat)(d:D),ds[i]? =some d->∀Q:WD,Q (f d) S1->tg.wp d (capt cap Γ) λ Γ2=>elt.wp Γ2 S1 Q)(w:W (.lst (ds.map f)) S1):nu cap Γ elt tg (Cd.no (Ω:=Ω)) W ds S1:=by
 refine f9 ⟨hz,λ i acc S'=>acc=(ds.take i).map f/\S'=S1,⟨rfl,rfl⟩,?_,?_⟩
 . rintro i d acc S' hd ⟨rfl,rfl⟩
   refine Tg.mono (h i d hd (λ y S4=>(ds.take i).map f++[y]=(ds.take (i+1)).map f/\S4=S') ⟨?_,rfl⟩) λ G q=>⟨λ _=>q,λ z=>tf z⟩
   rw[aC hd,v3];rfl
 . rintro acc S' ⟨rfl,rfl⟩
   rw[List.take_length];exact w
theorem mU(P:Nat->D->Prop)(Q:%[|4])(hz:ds.length≤1000000)(q0:Q S1)(h:∀(i:Nat)(d:D)(S':Store),ds[i]? =some d->Q S'->∀R:WD,(∀y S4,P i y->Q S4->R y S4)->tg.wp d (capt cap Γ) λ Γ2=>elt.wp Γ2 S' R)
 (w:∀(ys:List D)(S':Store),ys.length=ds.length->(∀i y,ys[i]? =some y->P i y)->Q S'->W (.lst ys) S'):nu cap Γ elt tg (Cd.no (Ω:=Ω)) W ds S1:=by
 refine f9 ⟨hz,λ i acc S'=>(acc.length=i/\∀j y,acc[j]? =some y->P j y)/\Q S',⟨⟨rfl,λ j y e=>by simp at e⟩,q0⟩,?_,λ acc S' h=>w acc S' h.1.1 h.1.2 h.2⟩
 rintro i d acc S' hd ⟨⟨hl,ha⟩,q⟩
 refine Tg.mono (h i d S' hd q (λ y S4=>((acc++[y]).length=i+1/\∀j y',(acc++[y])[j]? =some y'->P j y')/\Q S4) λ y S4 hy q4=>⟨⟨by simp[hl],λ j y' e=>?_⟩,q4⟩) λ G q=>⟨λ _=>q,λ z=>tf z⟩
 by_cases hj:j<acc.length
 . rw[x8 hj]at e;exact ha j y' e
 . rw[List.getElem?_append_right %[|0]]at e
   have:j-acc.length=0:=by
    have:=(z0.mp e).1
    simp at this;omega
   rw[this]at e
   simp at e
   subst e
   have:j=i:=%[|0]
   rw[this];exact hy
end
theorem bT{A B:Prop}(h:A):(true=true->A)/\(true=false->B):=⟨λ _=>h,λ z=>tf z⟩
theorem bF{A B:Prop}(h:B):(false=true->A)/\(false=false->B):=⟨λ z=>ff z,λ _=>h⟩
theorem dT{A B:Prop}(h:B):(true=false->A)/\(true=true->B):=⟨λ z=>tf z,λ _=>h⟩
variable {ds : List D} {W : WD} {S : Store} {i : Int}
mutual
theorem cQ{K:PySem.W.Frag}{O O':Own}{H:Hp}(h:∀a,¬O.has a->¬O'.has a):∀{v:V}{d:D},ak d=true->Rep K O H v d->Rep K O' H v d
 | _,_,_,.non=>.non
 | _,_,_,.bl b=>.bl b
 | _,_,_,.int i=>.int i
 | _,_,_,.str x=>.str x
 | _,_,n,.tup h1 r=>.tup ⟨h _ h1.1,h1.2⟩ (b7 h (by simpa[ak]using n) r)
 | _,_,n,.lst h1 r=>.lst (h1.imp (λ q=>⟨h _ q.1,q.2⟩) id) (b7 h (by simpa[ak]using n) r)
 | _,_,n,.loc _=>by simp[ak]at n
 | _,_,n,.dlo _ _=>by simp[ak]at n
 | _,_,_,.dic h1 e=>.dic (h _ h1) e
theorem b7{K:PySem.W.Frag}{O O':Own}{H:Hp}(h:∀a,¬O.has a->¬O'.has a):∀{vs:List V}{ds:List D},aj ds=true->Reps K O H vs ds->Reps K O' H vs ds
 | _,_,_,.nil=>.nil
 | _,_,n,.cons r t=>by
   simp only[aj,Bool.and_eq_true]at n
   exact .cons (cQ h n.1 r) (b7 h n.2 t)
end
theorem zg{K:PySem.W.Frag}{O O':Own}{H:Hp}(h:∀a,¬O.has a->¬O'.has a):∀{vs:List (List Key×V)}{ds:List D},aj ds=true->Kps K O H vs ds->Kps K O' H vs ds
 | _,_,_,.nil=>.nil
 | _,_,n,.cons r t=>by
   simp only[aj,ak,Bool.and_eq_true]at n
   exact .cons (cQ h n.1.2.1 r) (zg h n.2 t)
theorem pD{K:PySem.W.Frag}{O O':Own}{H:Hp}(h:∀a,¬O.has a->¬O'.has a):∀{vs:Cy}{ds:List D},aj ds=true->Kcs K O H vs ds->Kcs K O' H vs ds
 | _,_,_,.nil=>.nil
 | _,_,n,.cons e rk rv r t=>by
   simp only[aj,ak,Bool.and_eq_true]at n
   exact .cons e (cQ h n.1.1 rk) rv (cQ h n.1.2.1 r) (pD h n.2 t)
theorem zm{K:PySem.W.Frag}{O O':Own}{H:Hp}(h:∀a,¬O.has a->¬O'.has a):∀{vs:Oy}{ds:List D},aj ds=true->Kos K O H vs ds->Kos K O' H vs ds
 | _,_,_,.nil=>.nil
 | _,_,n,.cons e rv r t=>by
   simp only[aj,ak,Bool.and_eq_true]at n
   exact .cons e rv (cQ h n.1.2.1 r) (zm h n.2 t)
theorem qd{K:PySem.W.Frag}{O O':Own}{H:Hp}{a:Addr}(h:∀a,¬O.has a->¬O'.has a)(n:aj ds=true)(b:DOb K O H a ds):DOb K O' H a ds:=by
 cases b with
 | t kvs e r=>exact .t kvs e (zg h n r)
 | c ys z e r=>exact .c ys z e (pD h n r)
 | o ys z e r=>exact .o ys z e (zm h n r)
 | m ys d' hd e r=>subst hd;exact .m ys d' rfl e (pD h (by simpa[aj,ak]using n) r)
 | p ps z b l c y q k e hd g=>exact .p ps z b l c y q k e hd (g.imp id λ⟨g1,x,g2,g3,g4⟩=>⟨g1,x,g2,h _ g3,g4⟩)
def flat(S:Store):Prop:=∀l∈S,aj l=true
theorem gH{A:List (Addr×Bool)}{n:Nat}{a:Addr}(h:a∈adr (A.take n)):a∈adr A:=by
 obtain⟨x,hx,rfl⟩:=ZO.mp h
 exact ZO.mpr ⟨x,List.mem_of_mem_take hx,rfl⟩
theorem gr{K:PySem.W.Frag}{O O':Own}{H H':Hp}{S':Store}{J:List (List D)}(st:Step O O' H H')(ok:StOk K O' H' (S'++J))(hl:O.A.length≤S'.length)(hS:flat S'):
 Step O ⟨O'.A.take S'.length,O'.B⟩ H H'/\StOk K ⟨O'.A.take S'.length,O'.B⟩ H' S'/\(∀b,¬O'.has b->¬(⟨O'.A.take S'.length,O'.B⟩:Own).has b)/\∀j a,S'.length≤j->∀{q:Bool},O'.A[j]? =some (a,q)->¬(⟨O'.A.take S'.length,O'.B⟩:Own).has a:=by
 obtain⟨N,eA,fN⟩:=st.ext
 have len:O'.A.length=S'.length+J.length:=by have:=ok.len;simpa using this
 have sub:∀b,¬O'.has b->¬(⟨O'.A.take S'.length,O'.B⟩:Own).has b:=λ b hb z=>hb (z.imp gH id)
 have nd:(adr (O'.A.take S'.length)).Nodup:=by
  show(List.map _ (List.take _ _)).Nodup
  rw[List.map_take]
  exact ok.nd.sublist (List.take_sublist _ _)
 refine⟨⟨st.kept,st.dom,⟨N.take (S'.length-O.A.length),by
  show O'.A.take S'.length=_
  rw[eA,List.take_append,List.take_of_length_le %[|0]],λ b hb=>fN b (gH hb)⟩,st.hid⟩,⟨nd,by simp[len],λ k b es e1 e2=>?_,λ k b es e1 e2=>?_,λ b hb=>ok.apart b (gH hb),ok.hidden⟩,sub,λ j a hj q ha z=>?_⟩
 . have hk:k<S'.length:=(z0.mp e2).1
   have e1':(O'.A.take S'.length)[k]? =some (b,false):=e1
   rw[List.getElem?_take,if_pos hk]at e1'
   obtain⟨ys,hy,r'⟩:=ok.obj k b es e1' (by rw[x8 hk];exact e2)
   exact⟨ys,hy,b7 sub (hS es (y4 e2)) r'⟩
 . have hk:k<S'.length:=(z0.mp e2).1
   have e1':(O'.A.take S'.length)[k]? =some (b,true):=e1
   rw[List.getElem?_take,if_pos hk]at e1'
   exact qd sub (hS es (y4 e2)) (ok.dob k b es e1' (by rw[x8 hk];exact e2))
 . rcases z with z | z
   . obtain⟨⟨a',q'⟩,hm,rfl⟩:=ZO.mp z
     obtain⟨i,hi⟩:=ZR hm
     rw[List.getElem?_take]at hi
     split at hi
     . rename_i hlt
       exact qI ok.nd hi ha %[|0] rfl
     . cases hi
   . exact ok.apart a (bZ ha) z
def Frz(n:Nat)(W:WD):WD:=λ d S1=>W d S1∨∃ds S',d=.loc S'.length/\S1=S'++[ds]/\n≤S'.length/\aj ds=true/\flat S'/\W (.lst ds) S'
theorem QG.frz{K:PySem.W.Frag}{O:Own}{H H':Hp}{v:V}{n:Nat}(hn:O.A.length=n)(q:QG K O H (Frz n W) v H'):QG K O H W v H':=by
 obtain⟨O',d,S1,w,st,ok,r⟩:=q
 rcases w with w | ⟨ds,S',rfl,rfl,hl,hd,hS,w⟩
 . exact⟨O',d,S1,w,st,ok,r⟩
 . obtain⟨st2,ok2,sub,na⟩:=gr st ok %[|0] hS
   cases r with
   | @loc a _ ha=>
     obtain⟨xs,hx,q1⟩:=ok.obj S'.length a ds ha (by simp)
     exact⟨_,.lst ds,S',w,st2,ok2,.lst (.inl ⟨na _ a (y9 _) ha,.inl hx⟩) (b7 sub hd q1)⟩
theorem Pn{X:Cx}{Γ:Gam}{sts:List Stmt}{W:DL.Fin}(h:Rns X Γ S sts {W with rt:=Frz S.length W.rt}):Rns X Γ S sts W:=λ pins s σ H O I env ok=>
 thn (h pins s σ H O I env ok) λ f s' q=>by
  cases f with
  | next=>exact q
  | brk=>exact q
  | cont=>exact q
  | ret u=>obtain⟨v,σ',H',I',r,q⟩:=q;exact⟨v,σ',H',I',r,QG.frz ok.len q⟩
variable {Ω : Wd}
def Bl.frz(b:Bl Ω):Bl Ω where
 lev:=b.lev
 chk:=b.chk
 wp Γ S W:=b.wp Γ S {W with rt:=Frz S.length W.rt}
 sound:=by
  intro X r top N nm sts Γ S W A hl hc hw
  exact Pn (b.sound A hl hc hw)
def hand(W:WD)(ds:List D)(S:Store):Prop:=W (.lst ds) S∨W (.loc S.length) (S++[ds])
theorem qe(h:hand W ds S)(hd:aj ds=true)(hS:flat S):Frz S.length W (.loc S.length) (S++[ds]):=by
 rcases h with h | h
 . exact .inr ⟨ds,S,rfl,rfl,y9 _,hd,hS,h⟩
 . exact .inl h
theorem Jh{X:Cx}{Γ:Gam}{o e:Expr}{apos cpos:Pos}(h:Ev X Γ S o λ x S1=>∃k,x=.loc k/\Ev X Γ S1 e λ d S2=>∃ds,S2[k]? =some ds/\ds.length<1000000/\W .non (S2.set k (ds++[d])))
 (hbase:attributeBase o "append" X.env (eval o X.env)=eval o X.env)(hs:starEach [e] X.env=[(false,eval e X.env)])(hline:(apos.endLine==cpos.line)=true):Ev X Γ S (.Call (.Attribute o "append" apos) [e] [] cpos) W:=by
 intro pins s σ H O I env st
 have hty:∀(O1:Own)(x:D)(v:V)(H1:Hp)(S1:Store),(∃k,x=.loc k)->StOk X.K O1 H1 S1->Rep X.K O1 H1 v x->tyV X.K "list" v H1:=by
  rintro O1 x v H1 S1 ⟨k,rfl⟩ ok r
  cases r with
  | @loc a _ ha=>
    have hl:k<S1.length:=by rw[←ok.len];exact(z0.mp ha).1
    obtain⟨xs,hx,_⟩:=ok.obj k a S1[k] ha (y3 hl)
    exact .inl ⟨rfl,xs,SqL.of hx⟩
 have hA:PA X [e] (λ σ H Q=>∃O Γ S W',EnvOk X.K O H σ Γ/\StOk X.K O H S/\Ev X Γ S e W'/\∀v H',QG X.K O H W' v H'->Q [v] H'):=by
  rintro pos pins s σ H Q I ⟨O,Γ,S,W',env,st,he,k⟩
  rw[hs]
  show wpAny _ _ (spliced ((false,eval e X.env)::backTo pos (starEach [] X.env))) _ _ s
  refine Calls.spliced_cons (thn (he pins s σ H O I env st) λ u s1 hq_=>?_)
  obtain⟨v,H1,I1,r1,q⟩:=hq_
  exact Calls.spliced_nil ⟨[v],H1,I1,.cons r1 .nil,k v H1 q⟩
 refine Nf (T:="list") PySem.F.plainAttrs_list PySem.F.slot_list_append PySem.F.type_list_append vg (h.pe) hA hbase (by rw[hs];rfl) hline hs rfl pins s σ H _ I ⟨O,env,st,λ v H' q=>?_⟩
 obtain⟨O1,x,S1,⟨k,rfl,he⟩,st1,ok1,rep1⟩:=q
 refine⟨hty O1 _ v H' S1 ⟨k,rfl⟩ ok1 rep1,O1,Γ,S1,_,env.mono st1,ok1,he,λ v2 H2 q2=>?_⟩
 obtain⟨O2,d,S2,⟨ds,hk,hz,w⟩,st2,ok2,rep2⟩:=q2
 have r:=rep1.mono st2
 cases r with
 | @loc a _ ha=>
   obtain⟨xs,hx,q1⟩:=ok2.obj k a ds ha hk
   exact⟨a,xs,v2,rfl,rfl,hx,by rw[q1.length];exact x9 hz %[|3],O2,.non,_,w,(st1.trans st2).trans (Step.put (bZ ha) _),ok2.put ha (q1.append (.cons rep2 .nil)),.non⟩
def nameE:Expr->Bool
 | .Name .. =>true
 | _=>false
def Ex.m_append(o a:Ex Ω):Ex Ω where
 lev:=max o.lev a.lev
 chk top N nm e:=match e with | .Call (.Attribute x m p) [y] [] q=>(m==("append":Str))&&(nameE x&&((p.endLine==q.line)&&(okE y&&(o.chk top N nm x&&a.chk top N nm y)))) | _=>false
 wp Γ S W:=o.wp Γ S λ x S1=>match x with | .loc k=>a.wp Γ S1 λ d S2=>∃ds,S2[k]? =some ds/\ds.length<1000000/\W .non (S2.set k (ds++[d])) | _=>False
 sound:=by
  intro X r top N nm e Γ S W A hl hc hw
  obtain⟨l1,l2⟩:=lv2 hl
  split at hc
  . rename_i x m p y q
    obtain⟨h1,g⟩:=aa hc
    obtain⟨h2,g⟩:=aa g
    obtain⟨h3,g⟩:=aa g
    obtain⟨h4,g⟩:=aa g
    obtain⟨h5,h6⟩:=aa g
    have e:=ZI h1
    subst e
    refine Jh ((o.sound A l1 h5 hw).mono λ x S1 q=>?_) ?_ (aA h4 [] _) h3
    . cases x<;>first | exact q.elim | exact⟨_,rfl,a.sound A l2 h6 q⟩
    . cases x<;>first | rfl | exact ff h2
  . exact ff hc
def Sm.never:Sm Ω where
 lev:=0
 chk _ _ _ st:=match st with | .Raise _ _ _=>true | _=>false
 wp _ _ _:=False
 sound:=λ _ _ _ h=>h.elim
theorem aX(S:Store)(x:List D):(S++[x])[S.length]? =some x:=by simp
theorem bN(S:Store)(x y:List D):(S++[x]).set S.length y=S++[y]:=by simp
theorem bH{α β:Type}{xs:List α}{f:α->β}{i:Nat}{e:β}(h:(xs.map f)[i]? =some e):∃x,xs[i]? =some x/\e=f x:=by
 rw[y8]at h
 cases e1:xs[i]? with
 | none=>rw[e1]at h;cases h
 | some x=>rw[e1]at h;cases h;exact⟨x,rfl,rfl⟩
theorem NK{α β:Type}{xs:List α}{f:Nat->α->β}{i:Nat}{e:β}(h:(xs.mapIdx f)[i]? =some e):∃x,xs[i]? =some x/\e=f i x:=by
 rw[List.getElem?_mapIdx]at h
 cases e1:xs[i]? with
 | none=>rw[e1]at h;cases h
 | some x=>rw[e1]at h;cases h;exact⟨x,rfl,rfl⟩
theorem gP{cap:List (Option Nat)}{Γ:Gam}{elt:Ex Ω}{tg:Tg}{S1:Store}{α:Type}{xs:List α}{enc:α->D}(f:α->D)(hz:xs.length≤1000000)(h:∀(i:Nat)(x:α),xs[i]? =some x->∀Q:WD,Q (f x) S1->tg.wp (enc x) (capt cap Γ) λ Γ2=>elt.wp Γ2 S1 Q)
 (w:W (.lst (xs.map f)) S1):nu cap Γ elt tg (Cd.no (Ω:=Ω)) W (xs.map enc) S1:=by
 refine f9 ⟨by rw[y7];exact hz,λ i acc S'=>acc=(xs.take i).map f/\S'=S1,⟨rfl,rfl⟩,?_,?_⟩
 . rintro i d acc S' hd ⟨rfl,rfl⟩
   obtain⟨x,hx,rfl⟩:=bH hd
   refine Tg.mono (h i x hx (λ y S4=>(xs.take i).map f++[y]=(xs.take (i+1)).map f/\S4=S') ⟨?_,rfl⟩) λ G q=>⟨λ _=>q,λ z=>tf z⟩
   rw[aC hx,v3];rfl
 . rintro acc S' ⟨rfl,rfl⟩
   rw[y7,List.take_length];exact w
theorem wM1{j:Int}{P:Prop}(h:L2.CMul i j)(p:P):L2.CMul i j/\P:=⟨h,p⟩
theorem wM2{j:Int}{P:Prop}(h:L2.CPow i j)(p:P):L2.CPow i j/\P:=⟨h,p⟩
theorem wM3{j:Int}{P:Prop}(h:0<i/\i<j)(p:P):(0<i/\i<j)/\P:=⟨h,p⟩
theorem wM4{P:Prop}(h:0<i)(p:P):0<i/\P:=⟨h,p⟩
theorem wM5{α:Type}{l:List α}{P:Prop}(h:l.length≤1000000)(p:P):l.length≤1000000/\P:=⟨h,p⟩
theorem wM7{k j:Nat}{n:Int}{Q:List D->Nat->Prop}(h:S[k]? =some ds)(g:L2.ixN ds.length n=some j)(q:Q ds j):∃ds j,S[k]? =some ds/\L2.ixN ds.length n=some j/\Q ds j:=⟨ds,j,h,g,q⟩
theorem wM8{k:Nat}{n:Int}{d:D}{Q:List D->D->Prop}(h:S[k]? =some ds)(g:L2.atI ds n=some d)(q:Q ds d):∃ds d,S[k]? =some ds/\L2.atI ds n=some d/\Q ds d:=⟨ds,d,h,g,q⟩
theorem wM9{n:Int}{d:D}{Q:D->Prop}(g:L2.atI ds n=some d)(q:Q d):∃d,L2.atI ds n=some d/\Q d:=⟨d,g,q⟩
end RF
namespace RF
open PySem PySem.Spec L2 DL
open PyProof.Rows
section
variable {prog : Program} {w : World} {A : Around} {E : Value -> Shared -> Prop} {s : Shared}
def ltF(fin:Bool):%[|1]->%[|1]->Bool
 | x::xs,y::ys=>if x=y then ltF fin xs ys else decide (x<y)
 | _,_=>fin
def ltI(xs ys:%[|1]):Bool:=ltF (decide (xs.length<ys.length)) xs ys
theorem O9{flag:Bool}{a b:Int}{t u:Tok}{Q:Bool->%[|8]}(h:Q (decide (a<b)) s):wpAny (model prog w) A (oneLt' flag (.int a t) (.int b u)) Q E s:=by
 cases flag with
 | true=>exact oneLt_int h
 | false=>exact PySem.W.kat_one _ _ (wpAny_lt_int h)
def dI(h:Heap)(v:Value)(ns:%[|1]):Prop:=∃b o xs k,v=.ref b/\h.get? b=some o/\o.cls=.type "tuple"/\o.data=.seq xs k/\IntsAre xs.toList ns
end
def t7(k:Nat)(ds:List D):Option D->Option D
 | some (.loc j)=>if j=k then some (.lst ds)else some (.loc j)
 | o=>o
def atTop(Γ:Gam):Prop:=∀(i:Nat)(d:D),Γ[i]? =some (some d)->ak d=true∨∃j,d=.loc j
def Ua(n:Nat)(W:Gam->%[|4]):Gam->%[|4]:=λ Γ S1=>W Γ S1∨∃ds S',S1=S'++[ds]/\n≤S'.length/\aj ds=true/\flat S'/\atTop Γ/\W (Γ.map (t7 S'.length ds)) S'
theorem QN.frz {K:PySem.W.Frag}{O:Own}{H H':Hp}{W:Gam->%[|4]}{σ:DL.St}{n:Nat}(hn:O.A.length=n)(q:QN K O H (Ua n W) σ H'):QN K O H W σ H':=by
 obtain⟨O',Γ,S1,w,st,ok,r⟩:=q
 rcases w with w | ⟨ds,S',rfl,hl,hd,hS,ht,w⟩
 . exact⟨O',Γ,S1,w,st,ok,r⟩
 . obtain ⟨st2,ok2,sub,na⟩:=gr st ok %[|0] hS
   have len:O'.A.length=S'.length+1:=by have:=ok.len;simpa using this
   refine⟨⟨O'.A.take S'.length,O'.B⟩,_,S',w,st2,ok2,⟨by rw[y7];exact r.len,λ i d e=>?_⟩⟩
   . rw [y8] at e
     cases e1:Γ[i]? with
     | none=>rw[e1]at e;cases e
     | some o=>
       rw[e1]at e
       cases o with
       | none=>cases e
       | some d0=>
         obtain⟨v,hv,rv⟩:=r.at_ i d0 e1
         rcases ht i d0 e1 with nl | ⟨j,rfl⟩
         . have e2:d0=d:=by
            cases d0 with
            | loc j=>simp[ak]at nl
            | _=>simpa[t7]using e
           subst e2
           exact⟨v,hv,cQ sub nl rv⟩
         . cases rv with
           | @loc a _ ha=>
             by_cases hj:j=S'.length
             . subst hj
               have e2:d=.lst ds:=by simpa[t7]using e.symm
               subst e2
               obtain⟨xs,hx,q1⟩:=ok.obj S'.length a ds ha (by simp)
               exact⟨_,hv,.lst (.inl ⟨na _ a (y9 _) ha,.inl hx⟩) (b7 sub hd q1)⟩
             . have e2:d=.loc j:=by simpa[t7,hj]using e.symm
               subst e2
               refine⟨_,hv,.loc ?_⟩
               have:j<O'.A.length:=(z0.mp ha).1
               show(O'.A.take S'.length)[j]? =some (a,false)
               rw[List.getElem?_take,if_pos %[|0]];exact ha
section
variable {Ω : Wd}
def Bl.fzl(b:Bl Ω):Bl Ω where
 lev:=b.lev
 chk:=b.chk
 wp Γ S W:=b.wp Γ S {W with nx:=Ua S.length W.nx}
 sound:=by
  intro X r top N nm sts Γ S W A hl hc hw pins s σ H O I env ok
  refine thn (b.sound A hl hc hw pins s σ H O I env ok) λ f s' q=>?_
  cases f with
  | next=>obtain⟨σ,H',I,q⟩:=q;exact⟨σ,H',I,QN.frz ok.len q⟩
  | brk=>exact q
  | cont=>exact q
  | ret u=>exact q
end
theorem Fg{K:PySem.W.Frag}{O:Own}{H:Hp}{a:Addr}{k:Nat}{ds:List D}(h:O.A[k]? =some (a,false)):nO K (Itl K a) O H (λ S=>S[k]? =some ds) ds:=by
 intro O' H' S' st ok hS i
 have h':O'.A[k]? =some (a,false):=st.lc k _ h
 obtain⟨xs,hx,r⟩:=ok.obj k a ds h' hS
 have hq:SqL K H' a xs:=SqL.of hx
 refine⟨λ d hd=>?_,λ hi=>⟨xs,hq,by rw[r.length];exact Nat.le_of_eq hi.symm⟩⟩
 obtain⟨v,hv,rv⟩:=r.get hd
 refine⟨⟨xs,v,hq,hv⟩,λ x H'' y=>?_⟩
 obtain⟨e,y⟩:=y
 subst e
 have e:=y xs hq
 rw[hv]at e
 cases e
 exact⟨c7.refl _,rv⟩
abbrev itC(W:List D->%[|4]->%[|4]):WD:=λ d S1=>match d with
 | .lst ds=>W ds (λ _=>True) S1
 | .tup ds=>W ds (λ _=>True) S1
 | .loc k=>∃ds,S1[k]? =some ds/\W ds (λ S=>S[k]? =some ds) S1
 | _=>False
theorem Rg{X:Cx}{Γ:Gam}{S:Store}{tg e:Expr}{W:List D->%[|4]->%[|4]}(h:Ev X Γ S e (itC W)):ItC X Γ S tg e W:=by
 intro pins s σ H O I env st
 refine thn (h pins s σ H O I env st) λ u s1 hq_=>?_
 obtain⟨v,H1,I1,r1,O1,d,S1,w,st1,ok1,rep⟩:=hq_
 cases rep with
 | @lst a xs ds h1 q1=>
   cases r1
   obtain⟨its,rv,p,hz⟩:=I1.list h1.sq
   refine wpAny_pyIter_list p.isList ?_
   refine⟨s1.heap.objs.size,[s1.heap.objs.size],_,_,H1,rfl,I1.kept (t':=s1.toks) λ b o e=>ZC _ e,mJ a _,⟨_,ZD _ rfl,rfl,rfl⟩,λ b hb=>?_,O1,ds,_,S1,w,st1,ok1,pH (oW h1 q1)⟩
   have e:b=s1.heap.objs.size:=by simpa using hb
   subst e
   exact I1.fpOk (y9 _) (I1.hok.fresh (y9 _))
 | @tup a xs ds h1 q1=>
   cases r1
   obtain⟨its,rv,p,hz⟩:=I1.tuple h1.sq
   refine wpAny_pyIter_tuple (show s1.heap.IsTuple a its.toArray from p) ?_
   refine⟨s1.heap.objs.size,[s1.heap.objs.size],_,_,H1,rfl,I1.kept (t':=s1.toks) λ b o e=>ZC _ e,rm a _,⟨_,ZD _ rfl,rfl,rfl⟩,λ b hb=>?_,O1,ds,_,S1,w,st1,ok1,pH (qW h1 q1)⟩
   have e:b=s1.heap.objs.size:=by simpa using hb
   subst e
   exact I1.fpOk (y9 _) (I1.hok.fresh (y9 _))
 | @loc a k h1=>
   cases r1
   obtain⟨ds,hk,w⟩:=w
   obtain⟨xs,hx,q1⟩:=ok1.obj k a ds h1 hk
   obtain⟨its,rv,p,hz⟩:=I1.list (SqL.of hx)
   refine wpAny_pyIter_list p.isList ?_
   refine⟨s1.heap.objs.size,[s1.heap.objs.size],_,_,H1,rfl,I1.kept (t':=s1.toks) λ b o e=>ZC _ e,mJ a _,⟨_,ZD _ rfl,rfl,rfl⟩,λ b hb=>?_,O1,ds,_,S1,w,st1,ok1,Fg h1⟩
   have e:b=s1.heap.objs.size:=by simpa using hb
   subst e
   exact I1.fpOk (y9 _) (I1.hok.fresh (y9 _))
 | _=>exact w.elim
theorem Jl{X:Cx}{Γ:Gam}{S:Store}{W:DL.Fin}{pos:Pos}{tg iter:Expr}{body:List Stmt}(h:ItC X Γ S tg iter λ ds C S1=>∃Pv:Nat->Gam->%[|4],Pv 0 Γ S1/\(∀i Γ' S',Pv i Γ' S'->C S')/\
 (∀i d Γ' S',ds[i]? =some d->Pv i Γ' S'->BdW X tg d Γ' S' λ Γ2 S2=>Rns X Γ2 S2 body {W with nx:=Pv (i+1),ct:=Pv (i+1),bk:=W.nx})/\(∀Γ' S',Pv ds.length Γ' S'->W.nx Γ' S'))
 (hp:PassesOwn %[|6] X.A X.env X.xe)(hc:X.calm=true)(hs:∀x,foldedSetIterable iter X.env x=pure x):Rn X Γ S (.For tg iter body [] pos) W:=by
 intro pins s σ H O I env ok
 let WI:List D->%[|4]->%[|4]:=λ ds C S1=>∃Pv:Nat->Gam->%[|4],Pv 0 Γ S1/\(∀i Γ' S',Pv i Γ' S'->C S')/\
     (∀i d Γ' S',ds[i]? =some d->Pv i Γ' S'->BdW X tg d Γ' S' λ Γ2 S2=>Rns X Γ2 S2 body {W with nx:=Pv (i+1),ct:=Pv (i+1),bk:=W.nx})/\(∀Γ' S',Pv ds.length Γ' S'->W.nx Γ' S')
 have hI:PI X tg iter (λ σ H R=>∃O,EnvOk X.K O H σ Γ/\StOk X.K O H S/\∀J H',QIc X.K O H WI J H'->R J H'):=λ pins s σ H R I hh=>by
  obtain⟨O,env,st,k⟩:=hh
  refine thn (h pins s σ H O I env st) λ _ _ q=>thn q λ _ _ q2=>?_
  obtain⟨it,fp,tn,J,H',e1,e2,e3,e4,e5,e6⟩:=q2
  exact⟨it,fp,tn,J,H',e1,e2,e3,e4,e5,k J H' e6⟩
 have hG:PG X tg (λ v σ H Q=>∃O d Γ S W',EnvOk X.K O H σ Γ/\StOk X.K O H S/\Rep X.K O H v d/\BdW X tg d Γ S W'/\∀σ' H',QN X.K O H W' σ' H'->Q σ' H'):=λ pins s σ H v u Q I ru hh=>by
  obtain⟨O,d,Γ,S,W',env,st,r,b,k⟩:=hh
  refine thn (b pins s σ H O v u I env st r ru) λ _ _ q2=>?_
  obtain⟨σ',H',I',q⟩:=q2
  exact⟨σ',H',I',k σ' H' q⟩
 have hB:PSs X body (λ D σ H=>∃O Γ S W',EnvOk X.K O H σ Γ/\StOk X.K O H S/\Rns X Γ S body W'/\(∀σ' H',QN X.K O H W'.nx σ' H'->D.nx σ' H')/\(∀v H',QG X.K O H W'.rt v H'->D.rt v H')/\(∀σ' H',QN X.K O H W'.bk σ' H'->D.bk σ' H')/\∀σ' H',QN X.K O H W'.ct σ' H'->D.ct σ' H'):=
  λ pins s σ H D I hh=>by
   obtain⟨O,Γ,S,W',env,st,b,k1,k2,k3,k4⟩:=hh
   refine thn (b pins s σ H O I env st) λ f s' q=>?_
   cases f with
   | next=>obtain⟨σ',H',I',q⟩:=q;exact⟨σ',H',I',k1 σ' H' q⟩
   | brk=>obtain⟨σ',H',I',q⟩:=q;exact⟨σ',H',I',k3 σ' H' q⟩
   | cont=>obtain⟨σ',H',I',q⟩:=q;exact⟨σ',H',I',k4 σ' H' q⟩
   | ret u=>obtain⟨v,σ',H',I',r,q⟩:=q;exact⟨v,σ',H',I',r,k2 v H' q⟩
 refine IV hp hc hI hG hB hs pins s σ H _ I ⟨O,env,ok,λ J H1 q=>?_⟩
 obtain⟨O1,ds,C,S1,⟨Pv,p0,pC,pt,pe⟩,st1,ok1,yl⟩:=q
 refine⟨λ i m σ' H'=>m=ds.length-i/\i≤ds.length/\∃O' Γ' S',Pv i Γ' S'/\Step O1 O' H1 H'/\StOk X.K O' H' S'/\EnvOk X.K O' H' σ' Γ',⟨ds.length,by simp,Nat.zero_le _,O1,Γ,S1,p0,Step.refl _ _,ok1,env.mono st1⟩,?_⟩
 rintro i m σ2 H2 ⟨rfl,hi,O2,Γ2,S2,p2,st2,ok2,env2⟩
 obtain⟨y1,y2⟩:=yl O2 H2 S2 st2.conv ok2 (pC _ _ _ p2) i
 by_cases hlt:i<ds.length
 . obtain⟨go,yy⟩:=y1 ds[i] (y3 hlt)
   refine .inr ⟨go,λ σ' H'=>i+1≤ds.length/\∃O' Γ' S',Pv (i+1) Γ' S'/\Step O1 O' H1 H'/\StOk X.K O' H' S'/\EnvOk X.K O' H' σ' Γ',λ σ' H' q=>⟨ds.length-(i+1),%[|0],rfl,q.1,q.2⟩,λ x H3 y=>?_⟩
   obtain⟨sm,rx⟩:=yy x H3 y
   have st3:=Step.same (O:=O2) sm
   refine⟨O2,ds[i],Γ2,S2,_,env2.mono st3,ok2.same sm,rx,pt i ds[i] Γ2 S2 (y3 hlt) p2,λ σ4 H4 q4=>?_⟩
   obtain⟨O4,Γ4,S4,w4,st4,ok4,env4⟩:=q4
   have stA:=(st2.trans st3).trans st4
   refine⟨O4,Γ4,S4,_,env4,ok4,w4,?_,?_,?_,?_⟩
   . rintro σ5 H5 ⟨O5,Γ5,S5,w5,st5,ok5,env5⟩
     exact⟨hlt,O5,Γ5,S5,w5,stA.trans st5,ok5,env5⟩
   . exact λ v H' q=>QG.pre (st1.trans stA) q
   . exact λ σ' H' q=>QN.pre (st1.trans stA) q
   . rintro σ5 H5 ⟨O5,Γ5,S5,w5,st5,ok5,env5⟩
     exact⟨hlt,O5,Γ5,S5,w5,stA.trans st5,ok5,env5⟩
 . have e:i=ds.length:=%[|0]
   subst e
   exact .inl ⟨y2 rfl,O2,Γ2,S2,pe Γ2 S2 p2,st1.trans st2,ok2,env2⟩
section
variable {Ω : Wd}
@[irreducible] noncomputable def Tc(Γ:Gam)(tg:Tg)(body:Bl Ω)(W:DL.Fin)(k:Nat)(ds:List D)(S1:Store):Prop:=
  ∃Pv:Nat->Gam->%[|4],Pv 0 Γ S1/\(∀i Γ' S',Pv i Γ' S'->S'[k]? =some ds)/\(∀i d Γ' S',ds[i]? =some d->Pv i Γ' S'->tg.wp d Γ' λ Γ2=>body.wp Γ2 S' {W with nx:=Pv (i+1),ct:=Pv (i+1),bk:=W.nx})/\(∀Γ' S',Pv ds.length Γ' S'->W.nx Γ' S')
def Sm.forL(tg:Tg)(it:Ex Ω)(body:Bl Ω):Sm Ω where
 lev:=max it.lev body.lev
 chk top N nm st:=match st with | .For t i b [] _=>okE i&&(tg.chk top N nm t&&(it.chk top N nm i&&body.chk top N nm b)) | _=>false
 wp Γ S W:=it.wp Γ S λ d S1=>match d with
  | .lst ds=>jg Γ tg body W ds S1
  | .tup ds=>jg Γ tg body W ds S1
  | .loc k=>∃ds,S1[k]? =some ds/\Tc Γ tg body W k ds S1
  | _=>False
 sound:=by
  intro X r top N nm st Γ S W A hl hc hw
  obtain⟨l1,l2⟩:=lv2 hl
  split at hc
  . rename_i t i b pos
    obtain⟨h1,hc⟩:=aa hc
    obtain⟨h2,hc⟩:=aa hc
    obtain⟨h3,h4⟩:=aa hc
    have step:∀(Pv:Nat->Gam->%[|4])(ds:List D),(∀i d Γ' S',ds[i]? =some d->Pv i Γ' S'->tg.wp d Γ' λ Γ2=>body.wp Γ2 S' {W with nx:=Pv (i+1),ct:=Pv (i+1),bk:=W.nx})->∀i d Γ' S',ds[i]? =some d->Pv i Γ' S'->BdW X t d Γ' S' λ Γ2 S2=>Rns X Γ2 S2 b {W with nx:=Pv (i+1),ct:=Pv (i+1),bk:=W.nx}:=
     λ Pv ds pt i d Γ' S' hd hp=>BdW.mono (Tg.sound A (W:=λ Γ2 S2=>body.wp Γ2 S2 {W with nx:=Pv (i+1),ct:=Pv (i+1),bk:=W.nx}) h2 (pt i d Γ' S' hd hp)) λ Γ2 S2 q=>body.sound A l2 h4 q
    refine Jl (Rg (Ev.mono (it.sound A l1 h3 hw) λ d S1 q=>?_)) (by rw[A.xe];exact PassesOwn.never) A.calm (nA h1 _)
    cases d with
    | lst ds=>
      have q:jg Γ tg body W ds S1:=q
      unfold jg at q
      obtain⟨Pv,p0,pt,pe⟩:=q
      exact⟨Pv,p0,λ _ _ _ _=>trivial,step Pv ds pt,pe⟩
    | tup ds=>
      have q:jg Γ tg body W ds S1:=q
      unfold jg at q
      obtain⟨Pv,p0,pt,pe⟩:=q
      exact⟨Pv,p0,λ _ _ _ _=>trivial,step Pv ds pt,pe⟩
    | loc k=>
      obtain⟨ds,hk,q⟩:=q
      unfold Tc at q
      obtain⟨Pv,p0,pC,pt,pe⟩:=q
      exact⟨ds,hk,Pv,p0,pC,step Pv ds pt,pe⟩
    | _=>exact(show False from q).elim
  . exact fE hc
end
theorem QF{Ω:Wd}{cap:List (Option Nat)}{Γ:Gam}{elt:Ex Ω}{tg:Tg}{W:WD}{S1:Store}{C0:%[|4]}{α:Type}{xs:List α}{enc:α->D}(f:α->D)(hz:xs.length≤1000000)(hC:C0 S1)(h:∀(i:Nat)(x:α),xs[i]? =some x->∀Q:WD,Q (f x) S1->tg.wp (enc x) (capt cap Γ) λ Γ2=>elt.wp Γ2 S1 Q)
 (w:W (.lst (xs.map f)) S1∨W (.loc S1.length) (S1++[xs.map f])):nq cap Γ elt tg (Cd.no (Ω:=Ω)) W (xs.map enc) C0 S1:=by
 refine yX ⟨by rw[y7];exact hz,λ i acc S'=>acc=(xs.take i).map f/\S'=S1,⟨rfl,rfl⟩,λ i acc S' q=>by rw[q.2];exact hC,?_,?_⟩
 . rintro i d acc S' hd ⟨rfl,rfl⟩
   obtain⟨x,hx,rfl⟩:=bH hd
   refine Tg.mono (h i x hx (λ y S4=>(xs.take i).map f++[y]=(xs.take (i+1)).map f/\S4=S') ⟨?_,rfl⟩) λ G q=>⟨λ _=>q,λ z=>tf z⟩
   rw[aC hx,v3];rfl
 . rintro acc S' ⟨rfl,rfl⟩
   rw[y7,List.take_length];exact w
variable {ds : List D}
def jj(S:Store):D->Option (List D)
 | .lst ds=>some ds
 | .loc k=>S[k]?
 | _=>none
def putL(own:Bool)(W:WD)(ds:List D)(S:Store):Prop:=match own with
 | true=>W (.loc S.length) (S++[ds])
 | false=>W (.lst ds) S
section
variable {X : Cx} {S : Store} {W : WD}
theorem wA{pins:Pins}{s:Shared}{σ:DL.St}{H:Hp}{O:Own}{v:V}{d:D}(st:StOk X.K O H S)(r:Rep X.K O H v d)(h:jj S d=some ds):∃a xs,v=.ref a/\SqL X.K H a xs/\Reps X.K O H xs ds:=by
 cases r with
 | @lst a xs _ h1 q1=>cases h;exact⟨a,xs,rfl,h1.sq,q1⟩
 | @loc a k h1=>
   obtain⟨xs,hx,q1⟩:=st.obj k a ds h1 h
   exact⟨a,xs,rfl,SqL.of hx,q1⟩
 | _=>cases h
theorem Ie{own:Bool}{K:PySem.W.Frag}{O:Own}{H:Hp}{p:Addr}{xs:List V}(w:putL own W ds S)(st:StOk K O H S)(h:H p=none)(r:Reps K O H xs ds):QG K O H W (.ref p) (upd H p (.lst xs)):=by
 cases own with
 | true=>exact Hn w st h r
 | false=>exact jx w st h r
theorem R4{own:Bool}{x y:D}{es:List D}(hx:jj S x=some ds)(hy:jj S y=some es)(hz:ds.length+es.length≤1000000)(w:putL own W (ds++es) S):cW X .Add x y S W:=by
 intro pins s σ H O v w' u u' I st r1 r2 r3 r4
 obtain⟨a,xs,rfl,h1,q1⟩:=wA (pins:=pins) (s:=s) (σ:=σ) st r1 hx
 obtain⟨b,ys,rfl,h2,q2⟩:=wA (pins:=pins) (s:=s) (σ:=σ) st r2 hy
 cases r3
 cases r4
 obtain⟨its,v1,p1,_⟩:=I.list h1
 obtain⟨its2,v2,p2,_⟩:=I.list h2
 obtain⟨⟨cls,dd,data,sl⟩,n,ho,hc,hdd,hd⟩:=id p1
 obtain⟨⟨cls2,dd2,data2,sl2⟩,n2,ho2,hc2,hdd2,hd2⟩:=id p2
 simp only at hc hd hc2 hd2
 subst hc hd hc2 hd2
 have z:its.length+its2.length≤sizeLine:=by rw[←v1.length,←v2.length,q1.length,q2.length];exact small hz
 refine concat_meets ⟨_,ho,rfl⟩ ⟨_,ho2,rfl⟩ noFill_list_add seq_list_add PySem.F.slot_list_add PySem.F.entry_list_add (PySem.F.args_list_add_2 _ _)
  (list_addW a b its.toArray its2.toArray n n2 dd dd2 sl sl2 (by simpa using z)) ⟨ho,ho2,?_⟩
 have ea:its.toArray++its2.toArray=(its++its2).toArray:=by simp
 rw[ea]
 exact⟨.ref s.heap.objs.size,_,I.lnew (t':=s.toks) (v1.append v2) (by rw[x6,q1.length,q2.length];exact small hz),rfl,Ie w st I.fresh (q1.append q2)⟩
theorem Rr{own:Bool}{x:D}{k:Int}(hx:jj S x=some ds)(hk: -(2 ^ 63)≤k/\k<2 ^ 63)(hz:ds.length*k.toNat≤1000000)(w:putL own W (List.replicate k.toNat ds).flatten S):cW X .Mult x (.int k) S W:=by
 intro pins s σ H O v w' u u' I st r1 r2 r3 r4
 obtain⟨a,xs,rfl,h1,q1⟩:=wA (pins:=pins) (s:=s) (σ:=σ) st r1 hx
 cases r2
 cases r3
 obtain⟨t,rfl⟩:=r4
 obtain⟨its,v1,p1,_⟩:=I.list h1
 obtain⟨⟨cls,dd,data,sl⟩,n,ho,hc,hdd,hd⟩:=id p1
 simp only at hc hd
 subst hc hd
 have l1:its.length=ds.length:=by rw[←v1.length,q1.length]
 have big:its.length*k.toNat≤1000000:=by rw[l1];exact hz
 have sz:(1000000:Nat)≤sizeLine:=%[|3]
 refine PySem.wpAny_binaryOp_repeat_ref (T:="list") (U:="int") %[|3] ⟨_,ho,rfl⟩ (λ s'=>typeIs_int s' k t) PySem.noFill_list_mul F.fills_int_mul F.slot_int_rmul PySem.repeat_list F.slot_int_index.lookup
  (call_meets F.slot_int_rmul (typeIs_int s k t) F.entry_int_rmul (F.args_int_rmul_2 _ _) (PySem.lm_int_rmul_list_any k t a its.toArray n dd sl) ⟨ho,rfl,⟨_,ho,rfl⟩,?_⟩)
 refine call_meets F.slot_list_mul ⟨_,ho,rfl⟩ F.entry_list_mul (F.args_list_mul_2 _ _) (PySem.lm_list_mul_any a its.toArray n dd sl k t ?_ ?_ ?_) ⟨ho,?_⟩
 . have c1:Builtin.List.listFitsIndex k=true:=by
    unfold Builtin.List.listFitsIndex
    rw[ZG %[|0],ZG %[|0]];rfl
   rw[c1];decide
 . rw[x4];omega
 . rw[x4]
   unfold Builtin.List.listTooLong
   rw[decide_eq_true_eq];omega
 . have ez:(List.replicate (if its.toArray.isEmpty=true then 0 else k.toNat) its.toArray).foldl (λ x1 x2=>x1++x2) #[]=(List.replicate k.toNat its).flatten.toArray:=by
    have fz:∀m:Nat,(List.replicate m its.toArray).foldl (λ x1 x2=>x1++x2) #[]=(List.replicate m its).flatten.toArray:=λ m=>by
     have:=foldl_rep its m []
     rw[List.nil_append]at this
     exact this
    rw[fz]
    by_cases e:its=[]
    . subst e;simp
    . have:its.toArray.isEmpty=false:=by simpa using e
      rw[this];rfl
   rw[ez]
   exact⟨.ref s.heap.objs.size,_,I.lnew (t':=s.toks) (v1.rep _) (by rw[len_rep,q1.length,Nat.mul_comm];exact small hz),rfl,Ie w st I.fresh (Reps.rep q1 _)⟩
theorem RM{ns:%[|1]}(w:W (.int ns.sum) S)(hc:X.calm=true):dM X (.builtin "sum") [.tup (ns.map .int)] S W:=by
 intro pins s σ H O vs us I st r ru
 obtain⟨v,rfl,r'⟩:=dw r
 obtain⟨u,rfl,ru'⟩:=vals1 ru
 cases r' with
 | @tup a xs _ h1 q1=>
   cases ru'
   obtain⟨its,rv,pl,hz⟩:=I.tuple h1.sq
   have ex:=q1.ints
   subst ex
   have hi:IntsAre its ns:=intsAre_of rv
   obtain⟨zs,ez⟩:=hi.allInts.items
   have hT:s.heap.IsTuple a its.toArray:=pl
   rw[ez]at hT
   have hlt:a<s.heap.objs.size:=by obtain⟨_,e,_⟩:=hT;exact ZE e
   refine call_sum_walkG (wpAny_pyIter_tuple hT ?_)
   refine⟨_,_,_,_,_,_,numAt zs,rfl,Walks.tuple (A:=X.A.in1) (I.ok.hd hc) _ a (w9 hlt) (intItems zs),⟨⟨_,ZD _ rfl,rfl,rfl⟩,hT.push _⟩,(λ b hb=>?_),(λ _ _=>intItems_at),λ h' tk t' hk=>?_⟩
   . show b<(s.heap.push _).objs.size
     rw[Heap.size_push]
     rcases ZJ.mp hb with rfl | hb
     . exact Nat.lt_succ_self _
     . rcases ZJ.mp hb with rfl | hb
       . exact Nat.lt_succ_of_lt hlt
       . cases hb
   . have e:preSum (numAt zs) (intItems zs).size=ns.sum:=by
      rw[show(intItems zs).size=zs.size by simp[intItems],preSum_eq,List.take_of_length_le (by simp),←nums_intItems,←ez]
      exact congrArg List.sum hi.numsOf
     rw[e]
     refine⟨.int _,H,I.kept (λ b o q=>hk b o (λ z=>?_) (ZC _ q)),⟨_,rfl⟩,QG.here w st (.int _)⟩
     have z':b=s.heap.objs.size:=by simpa using z
     exact absurd (ZE q) (by rw[z'];exact Nat.lt_irrefl _)
end
def wz:Bf where
 x:="sum"
 id:="sum"
 boot:=by decide+kernel
 wp ds S W:=match ds with
  | [.lst ds]=>∃ns:%[|1],ds=ns.map .int/\W (.int ns.sum) S
  | [.tup ds]=>∃ns:%[|1],ds=ns.map .int/\W (.int ns.sum) S
  | _=>False
 sound:=by
  intro X ds S W hc hr h
  split at h
  . obtain⟨bs,rfl,h⟩:=h;exact Vr h hc
  . obtain⟨bs,rfl,h⟩:=h;exact RM h hc
  . exact h.elim
def xg(own:Bool)(op:Operator)(x y:D)(S:Store)(W:WD):Prop:=match op with
 | .Add=>∃ds es,jj S x=some ds/\jj S y=some es/\ds.length+es.length≤1000000/\putL own W (ds++es) S
 | .Mult=>∃ds k,jj S x=some ds/\y=.int k/\(-(2 ^ 63)≤k/\k<2 ^ 63)/\ds.length*k.toNat≤1000000/\putL own W (List.replicate k.toNat ds).flatten S
 | _=>False
theorem Jo{X:Cx}{own:Bool}{op:Operator}{x y:D}{S:Store}{W:WD}(h:xg own op x y S W):cW X op x y S W:=by
 unfold xg at h
 split at h
 . obtain⟨ds,es,h1,h2,h3,h4⟩:=h;exact R4 h1 h2 h3 h4
 . obtain⟨ds,k,h1,rfl,h3,h4,h5⟩:=h;exact Rr h1 h3 h4 h5
 . exact h.elim
section
variable {Ω : Wd}
def Ex.binL(own:Bool)(op:Operator)(a b:Ex Ω):Ex Ω where
 lev:=max a.lev b.lev
 chk top N nm e:=match e with | .BinOp l o r _=>(o==op)&&(a.chk top N nm l&&b.chk top N nm r) | _=>false
 wp Γ S W:=a.wp Γ S λ x S1=>b.wp Γ S1 λ y S2=>xg own op x y S2 W
 sound:=by
  intro X r top N nm e Γ S W A hl hc hw
  obtain⟨l1,l2⟩:=lv2 hl
  cases e with
  | BinOp l o r' pos=>
    obtain⟨h1,h2⟩:=aa hc
    obtain⟨h2,h3⟩:=aa h2
    have e:o=op:=ZI h1
    subst e
    exact qM ((a.sound A l1 h2 hw).mono λ x S1 q=>(b.sound A l2 h3 q).mono λ y S2 q=>Jo q)
  | _=>exact fE hc
def Ex.fdiv(a b:Ex Ω):Ex Ω where
 lev:=max a.lev b.lev
 chk top N nm e:=match e with | .BinOp l o r _=>(o==.FloorDiv)&&(a.chk top N nm l&&b.chk top N nm r) | _=>false
 wp Γ S W:=a.wp Γ S λ x S1=>b.wp Γ S1 λ y S2=>match x,y with
  | .int i,.int j=>(0<j/\j<1000000000000000000000000000000000000000000000000000000000000)/\W (.int (i/j)) S2
  | _,_=>False
 sound:=by
  intro X r top N nm e Γ S W A hl hc hw
  obtain⟨l1,l2⟩:=lv2 hl
  cases e with
  | BinOp l o r' pos=>
    obtain⟨h1,h2⟩:=aa hc
    obtain⟨h2,h3⟩:=aa h2
    have e:o=.FloorDiv:=ZI h1
    subst e
    refine qM ((a.sound A l1 h2 hw).mono λ x S1 q=>(b.sound A l2 h3 q).mono λ y S2 q=>?_)
    split at q
    . rename_i i j
      refine fZ (C:=λ _ j=>0<j/\j<1000000000000000000000000000000000000000000000000000000000000) (g:=λ i j=>i/j) (opI λ i j _ _ _ _ _ hc q=>?_) q.1 q.2
      have h1:(0:Int)<j:=hc.1
      have h2:j<1000000000000000000000000000000000000000000000000000000000000:=hc.2
      refine floordiv_int %[|0] (by rw[Int.fdiv_eq_ediv_of_nonneg i %[|0]];exact q) (.inl (PyProof.noPylong_of_log2 ?_))
      have h3:j.natAbs<2 ^ 200:=%[|0]
      have:j.natAbs.log2<200:=(Nat.log2_lt %[|0]).mpr h3
      omega
    . exact q.elim
  | _=>exact fE hc
end
end RF
namespace RF
open PySem PySem.Spec L2 DL
open PyProof.Rows
def iK(n:Nat)(J:List (List D)):Option D->Option D
 | some (.loc j)=>if j<n then some (.loc j)else(J[j-n]?).map .lst
 | o=>o
def yO(n:Nat)(W:Gam->%[|4]):Gam->%[|4]:=λ Γ S1=>W Γ S1∨∃J S',S1=S'++J/\n≤S'.length/\flat J/\flat S'/\atTop Γ/\W (Γ.map (iK S'.length J)) S'
theorem QN.frzJ{K:PySem.W.Frag}{O:Own}{H H':Hp}{W:Gam->%[|4]}{σ:DL.St}{n:Nat}(hn:O.A.length=n)(q:QN K O H (yO n W) σ H'):QN K O H W σ H':=by
 obtain⟨O',Γ,S1,w,st,ok,r⟩:=q
 rcases w with w | ⟨J,S',rfl,hl,hd,hS,ht,w⟩
 . exact⟨O',Γ,S1,w,st,ok,r⟩
 . obtain ⟨st2,ok2,sub,na⟩:=gr st ok %[|0] hS
   refine⟨_,_,S',w,st2,ok2,⟨by rw[y7];exact r.len,λ i d e=>?_⟩⟩
   rw[y8]at e
   cases e1:Γ[i]? with
   | none=>rw[e1]at e;cases e
   | some o=>
     rw[e1]at e
     cases o with
     | none=>cases e
     | some d0 =>
       obtain⟨v,hv,rv⟩:=r.at_ i d0 e1
       rcases ht i d0 e1 with nl | ⟨j,rfl⟩
       . have e2:d0=d:=by
          cases d0 with
          | loc j=>simp[ak]at nl
          | _=>simpa[iK]using e
         subst e2
         exact⟨v,hv,cQ sub nl rv⟩
       . cases rv with
         | @loc a _ ha=>
           by_cases hj:j<S'.length
           . have e2:d=.loc j:=by simpa[iK,hj]using e.symm
             subst e2
             refine⟨_,hv,.loc ?_⟩
             show(O'.A.take S'.length)[j]? =some (a,false)
             rw[List.getElem?_take,if_pos hj];exact ha
           . cases e3:J[j-S'.length]? with
             | none=>simp[iK,hj,e3]at e
             | some ds=>
               have e2:d=.lst ds:=by simpa[iK,hj,e3]using e.symm
               subst e2
               obtain⟨xs,hx,q1⟩:=ok.obj j a ds ha (by rw[List.getElem?_append_right %[|0]];exact e3)
               exact⟨_,hv,.lst (.inl ⟨na j a %[|0] ha,.inl hx⟩) (b7 sub (hd ds (y4 e3)) q1)⟩
def Drp(n:Nat)(W:WD):WD:=λ d S1=>W d S1∨∃J S',S1=S'++J/\n≤S'.length/\ak d=true/\flat S'/\W d S'
theorem QG.drp{K:PySem.W.Frag}{O:Own}{H H':Hp}{W:WD}{v:V}{n:Nat}(hn:O.A.length=n)(q:QG K O H (Drp n W) v H'):QG K O H W v H':=by
 obtain⟨O',d,S1,w,st,ok,r⟩:=q
 rcases w with w | ⟨J,S',rfl,hl,hd,hS,w⟩
 . exact⟨O',d,S1,w,st,ok,r⟩
 . obtain⟨st2,ok2,sub,na⟩:=gr st ok %[|0] hS
   exact⟨_,d,S',w,st2,ok2,cQ sub hd r⟩
section
variable {Ω : Wd}
def Bl.fza(b:Bl Ω):Bl Ω where
 lev:=b.lev
 chk:=b.chk
 wp Γ S W:=b.wp Γ S {W with nx:=yO S.length W.nx}
 sound:=by
  intro X r top N nm sts Γ S W A hl hc hw pins s σ H O I env ok
  refine thn (b.sound A hl hc hw pins s σ H O I env ok) λ f s' q=>?_
  cases f with
  | next=>obtain⟨σ,H',I,q⟩:=q;exact⟨σ,H',I,QN.frzJ ok.len q⟩
  | brk=>exact q
  | cont=>exact q
  | ret u=>exact q
def Bl.drp(b:Bl Ω):Bl Ω where
 lev:=b.lev
 chk:=b.chk
 wp Γ S W:=b.wp Γ S {W with rt:=Drp S.length W.rt}
 sound:=by
  intro X r top N nm sts Γ S W A hl hc hw pins s σ H O I env ok
  refine thn (b.sound A hl hc hw pins s σ H O I env ok) λ f s' q=>?_
  cases f with
  | next=>exact q
  | brk=>exact q
  | cont=>exact q
  | ret u=>obtain⟨v,σ',H',I',r,q⟩:=q;exact⟨v,σ',H',I',r,QG.drp ok.len q⟩
end
def M5(op:Operator)(n:Int)(d:D)(k:Int->Prop):Prop:=match op,d with
 | .Add,.int m=>k (n+m)
 | .Sub,.int m=>k (n-m)
 | .Mult,.int m=>CMul n m/\k (n*m)
 | _,_=>False
theorem UV{X:Cx}{Γ:Gam}{S:Store}{W:DL.Fin}{pos pos':Pos}{op:Operator}{e:Expr}(hop:(op==.Add||(op==.Sub||op==.Mult))=true)(i:Nat){x:Str}{n:Int}(hΓ:Γ[i]? =some (some (.int n)))(h:Ev X Γ S e λ d S1=>M5 op n d λ z=>W.nx (Γ.set i (some (.int z))) S1)(hN:X.N.Nodup)(hi:X.N[i]? =some x)(hx:Loc X.env.scope x)
 (hf:X.fn x=true∨X.env.scope.names.lookup x=some .local):Rn X Γ S (.AugAssign (.Name x pos') op e pos) W:=by
 intro pins s σ H O I env ok
 obtain⟨v,e1,r⟩:=env.at_ i (.int n) hΓ
 cases r
 have fin:∀(O1:Own)(S1:Store)(H1:Hp)(z:Int),Step O O1 H H1->StOk X.K O1 H1 S1->W.nx (Γ.set i (some (.int z))) S1->QN X.K O H W.nx (σ.set i (some (.int z))) H1:=λ O1 S1 H1 z st1 ok1 w=>⟨O1,_,S1,w,st1,ok1,(env.mono st1).set (.int z) i⟩
 cases op with
 | Add=>
   refine yG hN hi hx h.pe QR hf pins s σ H _ I ⟨.int n,e1,O,env,ok,λ y H1 q=>?_⟩
   obtain⟨O1,d,S1,w,st1,ok1,rep⟩:=q
   cases rep<;>first | exact(show False from w).elim | skip
   exact⟨n,_,rfl,rfl,fin O1 S1 H1 _ st1 ok1 w⟩
 | Sub=>
   refine yG hN hi hx h.pe QK hf pins s σ H _ I ⟨.int n,e1,O,env,ok,λ y H1 q=>?_⟩
   obtain⟨O1,d,S1,w,st1,ok1,rep⟩:=q
   cases rep<;>first | exact(show False from w).elim | skip
   exact⟨n,_,rfl,rfl,fin O1 S1 H1 _ st1 ok1 w⟩
 | Mult=>
   refine yG hN hi hx h.pe NQ hf pins s σ H _ I ⟨.int n,e1,O,env,ok,λ y H1 q=>?_⟩
   obtain⟨O1,d,S1,w,st1,ok1,rep⟩:=q
   cases rep<;>first | exact(show False from w).elim | skip
   exact⟨n,_,rfl,rfl,w.1,fin O1 S1 H1 _ st1 ok1 w.2⟩
 | _=>exact absurd hop %[|3]
section
variable {Ω : Wd}
def Sm.aug(i:Nat)(op:Operator)(a:Ex Ω):Sm Ω where
 lev:=a.lev
 chk top N nm st:=match st with | .AugAssign (.Name x _) o e _=>(o==op)&&((o==.Add||(o==.Sub||o==.Mult))&&((N[i]? ==some x)&&(lcl top nm x&&a.chk top N nm e))) | _=>false
 wp Γ S W:=match Γ[i]? with
  | some (some (.int n))=>a.wp Γ S λ d S1=>M5 op n d λ z=>W.nx (Γ.set i (some (.int z))) S1
  | _=>False
 sound:=by
  intro X r top N nm st Γ S W A hl hc hw
  split at hc
  . obtain⟨h0,hc⟩:=aa hc
    obtain⟨h00,hc⟩:=aa hc
    obtain⟨h1,hc⟩:=aa hc
    obtain⟨h2,h4⟩:=aa hc
    obtain⟨l1,l2⟩:=A.lcl h2
    have e:=ZI h0
    subst e
    split at hw
    . rename_i n hΓ
      exact UV h00 i hΓ (a.sound A hl h4 hw) (by rw[A.n];exact A.nd) (by rw[A.n];exact ZI h1) l1 l2
    . exact hw.elim
  . exact fE hc
end
variable {v : Value} {c : Int × %[|1]} {b : Addr} {ns : %[|1]} {n : Nat} {Q : Bool -> Shared -> Prop}
def aG(h:Heap)(v:Value)(c:Int×%[|1]):Prop:=
 ∃b o k tk u,v=.ref b/\h.get? b=some o/\o.cls=.type "tuple"/\o.data=.seq #[.int c.1 tk,u] k/\dI h u c.2
theorem aG.keep{h h':Heap}(k:∀b o,h.get? b=some o->o.cls=.type "tuple"->h'.get? b=some o)(hc:aG h v c):aG h' v c:=by
 obtain⟨b,o,n,tk,u,e1,e2,e3,e4,b',o',xs,n',e5,e6,e7,e8,e9⟩:=hc
 exact⟨b,o,n,tk,u,e1,k _ _ e2 e3,e3,e4,b',o',xs,n',e5,k _ _ e6 e7,e7,e8,e9⟩
section
variable {prog : Program} {w : World} {A : Around} {E : Value -> Shared -> Prop} {s : Shared}
theorem kI:∀{vs:List Value}{ns:%[|1]},IntsAre vs ns->ItemsAre (intKind prog w) ns vs
 | _,_,.nil=>.nil
 | _,_,.cons n t r=>.cons (intKind_is _ _ _ _) (kI r)
theorem yu{h:Heap}(ht:dI h (.ref b) ns):IsTupleKey (intKind prog w) h ns b:=by
 obtain⟨b',o,xs,k,e,e1,e2,e3,e4⟩:=ht
 cases e
 exact⟨o,xs,k,e1,e2,e3,kI e4⟩
theorem oO:∀{vs:List Value}{ns ms:%[|1]},IntsAre vs ns->IntsAre vs ms->ns=ms
 | _,_,_,.nil,.nil=>rfl
 | _,_,_,.cons _ _ r,.cons _ _ r'=>by rw[oO r r']
theorem zV{h:Heap}{ms:%[|1]}(x:dI h v ns)(y:dI h v ms):ns=ms:=by
 obtain⟨b,o,xs,k,rfl,e1,e2,e3,e4⟩:=x
 obtain⟨b',o',xs',k',e,e1',e2',e3',e4'⟩:=y
 cases e
 obtain rfl:o=o':=Option.some.inj (e1.symm.trans e1')
 have e5:=e3.symm.trans e3'
 injection e5 with e5 _
 subst e5
 exact oO e4 e4'
def hC(prog:Program)(w:World)(c:Int×%[|1]):Int:=reduceHash (Builtin.Tuple.tupleHashOf [(intKind prog w).hash c.1,tupleKeyHash (intKind prog w) c.2])
theorem uI{Q:Int->%[|8]}(hu:A.units+5<cLine)(hc:aG s.heap v c)(h:Q (hC prog w c) {s with toks:=s.toks+(c.2.length+3)}):wpAny (model prog w) A (pyHash v) Q E s:=by
 obtain⟨a,o,n,tk,u,rfl,ho,hcl,hd,hu'⟩:=hc
 have hT:s.TypeIs (.ref a) "tuple":=⟨o,ho,hcl⟩
 have hk:∀b,u=.ref b->IsTupleKey (intKind prog w) s.heap c.2 b:=λ b e=>yu (e▸hu')
 obtain⟨b,_,_,_,rfl,_⟩:=id hu'
 have hk:=hk b rfl
 unfold pyHash
 first | unfold pyHashByItsType | skip
 first | refine ZA (wpAny_cRoomFor_or (.inr %[|0]) ?_) | skip
 refine ZA (wpAny_specialOf hT F.slot_tuple_hash.lookup ?_)
 show wpAny _ _ (if(some (Value.builtin "tuple.__hash__")==some Value.none)=true then _ else _) Q E s
 rw[if_neg (by rw[beq_builtin_none];exact y6)]
 refine ZA (wpAny_specialOf hT F.slot_tuple_hash.lookup ?_)
 show wpAny _ _ (callSpecialIfBoundUnlessNone? (.ref a) "__hash__" _>>=_) Q E s
 refine ZA (wpAny_callSpecialIfBoundUnlessNone?_slot hT F.slot_tuple_hash (ZP F.slot_tuple_hash hT F.entry_tuple_hash ?_ (F.args_tuple_hash_1 _)))
 show wpAny _ _ (Builtin.Tuple.tupleItemsOf (.ref a)>>=_) _ _ s
 refine ZA (wpAny_tupleItemsOf ho hd ?_)
 refine ZA ?_
 rw[←Array.forIn_toList]
 refine wpAny_forIn_list _
  (λ rest (b':Array Int) s'=>∃n,s'={s with toks:=s.toks+n}/\((rest=[.int c.1 tk,.ref b]/\b'=#[]/\n=0)∨(rest=[.ref b]/\b'=#[(intKind prog w).hash c.1]/\n=1)∨(rest=[]/\n=c.2.length+2/\b'=#[(intKind prog w).hash c.1,tupleKeyHash (intKind prog w) c.2])))
  _ ?_ ?_ _ _ ⟨0,rfl,.inl ⟨rfl,rfl,rfl⟩⟩
 . rintro x rest b' s' ⟨n,rfl,⟨e,rfl,rfl⟩ | ⟨e,rfl,rfl⟩ | ⟨e,rfl,rfl⟩⟩
   . cases e
     refine ZA ((intKind prog w).pyHash (intKind_is _ _ _ _) ?_)
     first
      | exact ZB ⟨1,rfl,.inr (.inl ⟨rfl,rfl,rfl⟩)⟩
      | exact ZA (ZB (ZB ⟨1,rfl,.inr (.inl ⟨rfl,rfl,rfl⟩)⟩))
   . cases e
     refine ZA (wpAny_pyHash_tuple (knd:=intKind prog w) ?_ hk ?_)
     . show A.units+1<cLine
       omega
     . first
       | exact ZB ⟨1+(c.2.length+1),by simp[Nat.add_assoc],.inr (.inr ⟨rfl,%[|0],rfl⟩)⟩
       | exact ZA (ZB (ZB ⟨1+(c.2.length+1),by simp[Nat.add_assoc],.inr (.inr ⟨rfl,%[|0],rfl⟩)⟩))
   . cases e
 . rintro b' s' ⟨n,rfl,⟨e,rfl,rfl⟩ | ⟨e,rfl,rfl⟩ | ⟨e,rfl,rfl⟩⟩
   . cases e
   . cases e
   show wpAny _ _ (retInt (Builtin.Tuple.tupleHashOf [(intKind prog w).hash c.1,tupleKeyHash (intKind prog w) c.2])) _ _ _
   refine wpAny_ret_mkInt ?_
   show wpAny _ _ (if(decide (-(2:Int) ^ 63≤Builtin.Tuple.tupleHashOf _)&&decide (Builtin.Tuple.tupleHashOf _<2 ^ 63))=true then _ else _) Q E _
   unfold hC reduceHash at h
   split
   . rename_i hr
     rw[if_pos hr]at h
     exact ZB h
   . rename_i hr
     rw[if_neg hr]at h
     exact ZA (wpAny_rule (ZB h))
theorem Ae{Q:Int->%[|8]}(hu:A.units+5<cLine)(hc:aG s.heap v c)(h:∀n,Q (hC prog w c) {s with toks:=s.toks+n}):wpAny (model prog w) A (pyHash v) Q E s:=uI hu hc (h _)
theorem lM{h:Heap}(ht:dI h (.ref b) ns):∃o xs k,h.get? b=some o/\o.cls=.type "tuple"/\o.data=.seq xs k/\∀v∈xs.toList,∃i t,v=Value.int i t:=by
 obtain⟨b',o,xs,k,e,e1,e2,e3,e4⟩:=ht
 cases e
 refine⟨o,xs,k,e1,e2,e3,λ v hv=>?_⟩
 obtain⟨i,hi⟩:=ZR hv
 obtain⟨t,e⟩:=IntsAre.int_at e4 i v hi
 exact⟨_,t,e⟩
theorem Hv(ht:dI s.heap (.ref b) ns)(h:Q true s):wpAny (model prog w) A (eqIsQuiet (n+1) (.ref b)) Q E s:=by
 obtain⟨o,xs,k,ho,hc,hd,hi⟩:=lM ht
 have hT:s.TypeIs (.ref b) "tuple":=⟨o,ho,hc⟩
 unfold eqIsQuiet
 refine ZA (wpAny_specialOf hT F.slot_tuple_eq.lookup ?_)
 show wpAny _ _ (isInstance (.ref b) (.type "tuple")>>=_) _ _ s
 refine ZA (wpAny_isInstance hT isSubtype_tuple_tuple ?_)
 simp only[Bool.not_true,Bool.false_eq_true,if_false]
 refine ZA (wpAny_seqItems ho hd ?_)
 refine ZA ?_
 show wpAny _ _ (forIn xs _ _) _ _ s
 rw[←Array.forIn_toList]
 refine wpAny_forIn_list _ (λ rest r s'=>r.1=none/\s'=s/\∀v∈rest,∃i t,v=Value.int i t) _ ?_ ?_ _ _ ⟨rfl,rfl,hi⟩
 . rintro v rest r s' ⟨hr,rfl,hall⟩
   obtain⟨i,t,rfl⟩:=hall v x5
   rw[eqIsQuiet_byValue _ (by rfl)]
   refine ZA (ZB ?_)
   simp only[Bool.not_true,Bool.false_eq_true,if_false]
   exact ZB ⟨rfl,rfl,λ u hu'=>hall u (x3 _ hu')⟩
 . rintro⟨r1,r2⟩ s' ⟨hr,rfl,_⟩
   simp only at hr
   subst hr
   exact ZB h
theorem mK(ht:aG s.heap (.ref b) c)(h:Q true s):wpAny (model prog w) A (eqIsQuiet (n+2) (.ref b)) Q E s:=by
 obtain⟨a,o,k,tk,u,e,ho,hc,hd,hu'⟩:=ht
 cases e
 obtain⟨b',_,_,_,rfl,_⟩:=id hu'
 have hT:s.TypeIs (.ref b) "tuple":=⟨o,ho,hc⟩
 unfold eqIsQuiet
 refine ZA (wpAny_specialOf hT F.slot_tuple_eq.lookup ?_)
 show wpAny _ _ (isInstance (.ref b) (.type "tuple")>>=_) _ _ s
 refine ZA (wpAny_isInstance hT isSubtype_tuple_tuple ?_)
 simp only[Bool.not_true,Bool.false_eq_true,if_false]
 refine ZA (wpAny_seqItems ho hd ?_)
 refine ZA ?_
 show wpAny _ _ (forIn #[Value.int c.1 tk,.ref b'] _ _) _ _ s
 rw[←Array.forIn_toList]
 refine wpAny_forIn_list _ (λ rest r s'=>r.1=none/\s'=s/\∀v∈rest,v=Value.int c.1 tk∨v=.ref b') _ ?_ ?_ _ _ ⟨rfl,rfl,by simp⟩
 . rintro v rest r s' ⟨hr,rfl,hall⟩
   rcases hall v x5 with rfl | rfl
   . rw[eqIsQuiet_byValue _ (by rfl)]
     refine ZA (ZB ?_)
     simp only[Bool.not_true,Bool.false_eq_true,if_false]
     exact ZB ⟨rfl,rfl,λ u hu'=>hall u (x3 _ hu')⟩
   . refine ZA (Hv hu' ?_)
     simp only[Bool.not_true,Bool.false_eq_true,if_false]
     exact ZB ⟨rfl,rfl,λ u hu'=>hall u (x3 _ hu')⟩
 . rintro⟨r1,r2⟩ s' ⟨hr,rfl,_⟩
   simp only at hr
   subst hr
   exact ZB h
theorem Dk(n:Nat)(i:Int)(t:Tok):hashByValue n (.int i t)=pure true:=by cases n<;>rfl
theorem Oi(ht:dI s.heap (.ref b) ns)(h:Q true s):wpAny (model prog w) A (hashByValue (n+1) (.ref b)) Q E s:=by
 obtain⟨o,xs,k,ho,hc,hd,hi⟩:=lM ht
 have hT:s.TypeIs (.ref b) "tuple":=⟨o,ho,hc⟩
 unfold hashByValue
 refine ZA (wpAny_specialOf hT F.slot_tuple_hash.lookup ?_)
 show wpAny _ _ (seqItems? (.ref b)>>=_) _ _ s
 refine ZA (wpAny_seqItems ho hd ?_)
 refine ZA ?_
 show wpAny _ _ (forIn xs _ _) _ _ s
 rw[←Array.forIn_toList]
 refine wpAny_forIn_list _ (λ rest r s'=>r.1=none/\s'=s/\∀v∈rest,∃i t,v=Value.int i t) _ ?_ ?_ _ _ ⟨rfl,rfl,hi⟩
 . rintro v rest r s' ⟨hr,rfl,hall⟩
   obtain⟨i,t,rfl⟩:=hall v x5
   rw[Dk]
   refine ZA (ZB ?_)
   simp only[Bool.not_true,Bool.false_eq_true,if_false]
   exact ZB ⟨rfl,rfl,λ u hu'=>hall u (x3 _ hu')⟩
 . rintro⟨r1,r2⟩ s' ⟨hr,rfl,_⟩
   simp only at hr
   subst hr
   exact ZB h
theorem sH(ht:aG s.heap (.ref b) c)(h:Q true s):wpAny (model prog w) A (hashByValue (n+2) (.ref b)) Q E s:=by
 obtain⟨a,o,k,tk,u,e,ho,hc,hd,hu'⟩:=ht
 cases e
 obtain⟨b',_,_,_,rfl,_⟩:=id hu'
 have hT:s.TypeIs (.ref b) "tuple":=⟨o,ho,hc⟩
 unfold hashByValue
 refine ZA (wpAny_specialOf hT F.slot_tuple_hash.lookup ?_)
 show wpAny _ _ (seqItems? (.ref b)>>=_) _ _ s
 refine ZA (wpAny_seqItems ho hd ?_)
 refine ZA ?_
 show wpAny _ _ (forIn #[Value.int c.1 tk,.ref b'] _ _) _ _ s
 rw[←Array.forIn_toList]
 refine wpAny_forIn_list _ (λ rest r s'=>r.1=none/\s'=s/\∀v∈rest,v=Value.int c.1 tk∨v=.ref b') _ ?_ ?_ _ _ ⟨rfl,rfl,by simp⟩
 . rintro v rest r s' ⟨hr,rfl,hall⟩
   rcases hall v x5 with rfl | rfl
   . rw[Dk]
     refine ZA (ZB ?_)
     simp only[Bool.not_true,Bool.false_eq_true,if_false]
     exact ZB ⟨rfl,rfl,λ u hu'=>hall u (x3 _ hu')⟩
   . refine ZA (Oi hu' ?_)
     simp only[Bool.not_true,Bool.false_eq_true,if_false]
     exact ZB ⟨rfl,rfl,λ u hu'=>hall u (x3 _ hu')⟩
 . rintro⟨r1,r2⟩ s' ⟨hr,rfl,_⟩
   simp only at hr
   subst hr
   exact ZB h
theorem Eg(n:Nat)(i:Int)(t:Tok):ofAClassStatement n (.int i t)=pure false:=by cases n<;>rfl
theorem Pb(ht:dI s.heap (.ref b) ns)(h:Q false s):wpAny (model prog w) A (ofAClassStatement (n+1) (.ref b)) Q E s:=by
 obtain⟨o,xs,k,ho,hc,hd,hi⟩:=lM ht
 have hT:s.TypeIs (.ref b) "tuple":=⟨o,ho,hc⟩
 unfold ofAClassStatement
 refine ZA (wpAny_typeOf hT ?_)
 show wpAny _ _ ((pure true:Sem Bool)>>=_) _ _ s
 refine ZA (ZB ?_)
 simp only[Bool.not_true,Bool.false_eq_true,if_false]
 refine ZA (wpAny_seqItems ho hd ?_)
 refine ZA ?_
 show wpAny _ _ (forIn xs _ _) _ _ s
 rw[←Array.forIn_toList]
 refine wpAny_forIn_list _ (λ rest r s'=>r.1=none/\s'=s/\∀v∈rest,∃i t,v=Value.int i t) _ ?_ ?_ _ _ ⟨rfl,rfl,hi⟩
 . rintro v rest r s' ⟨hr,rfl,hall⟩
   obtain⟨i,t,rfl⟩:=hall v x5
   rw[Eg]
   refine ZA (ZB ?_)
   simp only[Bool.false_eq_true,if_false]
   exact ZB ⟨rfl,rfl,λ u hu'=>hall u (x3 _ hu')⟩
 . rintro⟨r1,r2⟩ s' ⟨hr,rfl,_⟩
   simp only at hr
   subst hr
   exact ZB h
theorem Dl(ht:aG s.heap (.ref b) c)(h:Q false s):wpAny (model prog w) A (ofAClassStatement (n+2) (.ref b)) Q E s:=by
 obtain⟨a,o,k,tk,u,e,ho,hc,hd,hu'⟩:=ht
 cases e
 obtain⟨b',_,_,_,rfl,_⟩:=id hu'
 have hT:s.TypeIs (.ref b) "tuple":=⟨o,ho,hc⟩
 unfold ofAClassStatement
 refine ZA (wpAny_typeOf hT ?_)
 show wpAny _ _ ((pure true:Sem Bool)>>=_) _ _ s
 refine ZA (ZB ?_)
 simp only[Bool.not_true,Bool.false_eq_true,if_false]
 refine ZA (wpAny_seqItems ho hd ?_)
 refine ZA ?_
 show wpAny _ _ (forIn #[Value.int c.1 tk,.ref b'] _ _) _ _ s
 rw[←Array.forIn_toList]
 refine wpAny_forIn_list _ (λ rest r s'=>r.1=none/\s'=s/\∀v∈rest,v=Value.int c.1 tk∨v=.ref b') _ ?_ ?_ _ _ ⟨rfl,rfl,by simp⟩
 . rintro v rest r s' ⟨hr,rfl,hall⟩
   rcases hall v x5 with rfl | rfl
   . rw[Eg]
     refine ZA (ZB ?_)
     simp only[Bool.false_eq_true,if_false]
     exact ZB ⟨rfl,rfl,λ u hu'=>hall u (x3 _ hu')⟩
   . refine ZA (Pb hu' ?_)
     simp only[Bool.false_eq_true,if_false]
     exact ZB ⟨rfl,rfl,λ u hu'=>hall u (x3 _ hu')⟩
 . rintro⟨r1,r2⟩ s' ⟨hr,rfl,_⟩
   simp only at hr
   subst hr
   exact ZB h
theorem LC{x:Value}{ys:List Value}(hx:aG s.heap x c)(hy:∀y∈ys,∃d,aG s.heap y d)(h:Q false s):wpAny (model prog w) A (searchCouldBeSeen x ys) Q E s:=by
 have hx0:=hx
 obtain⟨a,_,_,_,_,rfl,_⟩:=hx
 unfold searchCouldBeSeen
 refine ZA ?_
 refine wpAny_forIn_list _ (λ rest r s'=>r.1=none/\s'=s/\∀v∈rest,∃d,aG s.heap v d) _ ?_ ?_ _ _ ⟨rfl,rfl,hy⟩
 . rintro v rest r s' ⟨hr,rfl,hall⟩
   obtain⟨d,hd⟩:=hall v x5
   have hd0:=hd
   obtain⟨b,_,_,_,_,rfl,_⟩:=hd
   have tl:∀v∈rest,∃d,aG s'.heap v d:=λ u hu'=>hall u (x3 _ hu')
   dsimp only
   split
   . exact ZB ⟨rfl,rfl,tl⟩
   . refine ZA (mK hx0 ?_)
     simp only[Bool.not_true,Bool.false_eq_true,if_false]
     refine ZA (mK hd0 ?_)
     simp only[Bool.not_true,Bool.false_eq_true,if_false]
     refine ZA (Dl hx0 ?_)
     simp only[Bool.false_eq_true,if_false]
     refine ZA (Dl hd0 ?_)
     simp only[Bool.false_eq_true,if_false]
     exact ZB ⟨rfl,rfl,tl⟩
 . rintro⟨r1,r2⟩ s' ⟨hr,rfl,_⟩
   simp only at hr
   subst hr
   exact ZB h
theorem yx{u:Value}{ms:%[|1]}(hu:A.units<cLine)(hx:dI s.heap u ns)(hy:dI s.heap v ms):SeqAt.EqAt A s u v (decide (ns=ms)):=by
 intro prog w E Q h
 obtain⟨a,_,_,_,rfl,_⟩:=id hx
 obtain⟨b,_,_,_,rfl,_⟩:=id hy
 exact wpAny_eqBool_tuple (knd:=intKind prog w) hu (yu hx) (yu hy) h
theorem wQ{u:Value}{d:Int×%[|1]}(hu:A.units+2<cLine)(hx:aG s.heap u c)(hy:aG s.heap v d):SeqAt.EqAt A s u v (decide (c=d)):=by
 obtain⟨a,o,k,tk,u,rfl,ho,hc,hd,hu'⟩:=hx
 obtain⟨a2,o2,k2,tk2,u2,rfl,ho2,hc2,hd2,hu2⟩:=hy
 by_cases e:a=a2
 . subst e
   obtain rfl:o=o2:=Option.some.inj (ho.symm.trans ho2)
   have e1:=hd.symm.trans hd2
   injection e1 with e1 _
   have e2:[Value.int c.1 tk,u]=[Value.int d.1 tk2,u2]:=congrArg Array.toList e1
   injection e2 with e3 e4
   injection e3 with e3 _
   injection e4 with e4 _
   subst e4
   obtain⟨b,_,_,_,rfl,_⟩:=id hu'
   have e5:c.2=d.2:=zV hu' hu2
   have e6:c=d:=Prod.ext e3 e5
   rw[ZG e6]
   exact SeqAt.EqAt.same _
 . have key:=SeqAt.RcAt.tuples (A:=A) (s:=s) (e:=λ j=>if j=0 then decide (c.1=d.1)else decide (c.2=d.2)) ⟨o,ho,hc,k,hd⟩ ⟨o2,ho2,hc2,k2,hd2⟩ %[|0] (λ j h1 h2=>by
    match j,h1,h2 with
    | 0,_,_=>
      have:=SeqAt.EqAt.int_int (A:=A.in1) (s:=s) c.1 tk d.1 tk2
      rw[show(c.1==d.1)=decide (c.1=d.1)from by rw[Bool.eq_iff_iff];simp]at this
      exact this
    | 1,_,_=>exact yx (by show A.units+1<_;omega) hu' hu2
    | j+2,h1,_=>exact absurd h1 (by simp))
   have e2:((List.range (min #[Value.int c.1 tk,u].size #[Value.int d.1 tk2,u2].size)).all (λ j=>if j=0 then decide (c.1=d.1)else decide (c.2=d.2))&&#[Value.int c.1 tk,u].size==#[Value.int d.1 tk2,u2].size)=decide (c=d):=by
    rw[Bool.eq_iff_iff]
    simp[List.range_succ,Prod.ext_iff]
   rw[e2]at key
   exact SeqAt.EqAt.of_refs e key
end
end RF
namespace RF
open PySem PySem.Spec L2 DL
open PyProof.Rows
variable {ps : List Nat} {j0 ep : Nat} {h : Int} {a : Addr} {v v0 : Value} {c c0 : Int × %[|1]}
abbrev tbl(led:Bool)(ps:List Nat):SetTable:={mask:=7,place:=ps.toArray,dummies:=#[],finger:=0,led:=led,moves:=0,plain:=true}
abbrev bQ(led:Bool)(es:List (Int×Value))(ps:List Nat)(ep:Nat):Obj:={cls:=.type "set",dict:=none,data:=.set es.toArray ep (tbl led ps),slots:=#[]}
theorem rH(j0 j:Nat):SetTable.below #[j0] j=if j0<j then 1 else 0:=by
 simp[SetTable.below,SetTable.below.go]
theorem oZ(led:Bool)(j0 j:Nat):(tbl led [j0]).slot j=if j=j0 then .live 0 else .empty:=by
 unfold SetTable.slot
 show(if(#[j0][SetTable.below #[j0] j]? ==some j)=true then SetTable.Slot.live (SetTable.below #[j0] j)else if SetTable.has #[] j=true then .dummy else .empty)=_
 rw[rH]
 by_cases h:j=j0
 . subst h
   rw[if_neg (Nat.lt_irrefl _),if_pos rfl,if_pos (by simp)]
 . rw[if_neg h]
   have hd:SetTable.has #[] j=false:=rfl
   rw[hd]
   by_cases h2:j0<j
   . rw[if_pos h2];simp
   . rw[if_neg h2]
     have:¬j0=j:=λ e=>h e.symm
     simp[this]
structure Std(p:SetTable.Probe)(k:Nat):Prop where
 ji:p.j=p.i
 lt:p.i<8
 more:p.more=0
 dummy:p.dummy=none
 small:p.perturb<32 ^ k
theorem Mp(i:Nat):SetTable.runEnd 7 i=i:=by unfold SetTable.runEnd;rw[if_neg %[|0]]
theorem uB(led:Bool)(ps:List Nat)(h:Int):Std ((tbl led ps).probeStart h) 13:=by
 have hb:SetTable.bits h<2 ^ 64:=by
  unfold SetTable.bits
  have h1:=Int.emod_nonneg h (b:=2 ^ 64) %[|3]
  have h2:=Int.emod_lt_of_pos h (b:=2 ^ 64) %[|3]
  omega
 refine⟨rfl,Nat.mod_lt _ (Nat.succ_pos _),?_,rfl,?_⟩
 . show SetTable.runEnd 7 _-_=0
   rw[Mp];omega
 . show SetTable.bits h<32 ^ 13
   exact x9 hb %[|3]
theorem yP{led:Bool}{p:SetTable.Probe}{k:Nat}(s:Std p (k+1)):Std ((tbl led ps).advance p) k:=by
 unfold SetTable.advance
 rw[if_neg (by rw[s.more];exact Nat.lt_irrefl _)]
 refine⟨rfl,Nat.mod_lt _ (Nat.succ_pos _),?_,s.dummy,?_⟩
 . show SetTable.runEnd 7 _-_=0
   rw[Mp];omega
 . show p.perturb/32<32 ^ k
   have:=s.small
   rw[Nat.pow_succ]at this
   exact Nat.div_lt_of_lt_mul %[|0]
theorem Ab{led:Bool}{p:SetTable.Probe}(s:Std p 0):Std ((tbl led ps).advance p) 0/\((tbl led ps).advance p).j≠p.j:=by
 have hp:p.perturb=0:=by have:=s.small;simpa using this
 unfold SetTable.advance
 rw[if_neg (by rw[s.more];exact Nat.lt_irrefl _)]
 refine⟨⟨rfl,Nat.mod_lt _ (Nat.succ_pos _),?_,s.dummy,?_⟩,?_⟩
 . show SetTable.runEnd 7 _-_=0
   rw[Mp];omega
 . show p.perturb/32<32 ^ 0
   rw[hp];decide
 . show(p.i*5+1+p.perturb/32) % (7+1)≠p.j
   rw[s.ji,hp]
   have:=s.lt
   omega
theorem ju{led:Bool}{n:Nat}{hs:Nat->Int}{p:SetTable.Probe}(hj:p.j≠j0):SetTable.probe.go (tbl led [j0]) hs h (n+1) p=some (.empty p.j p.dummy):=by
 unfold SetTable.probe.go
 rw[oZ,if_neg hj]
theorem jo{led:Bool}{n:Nat}{hs:Nat->Int}{p:SetTable.Probe}(hj:p.j=j0):SetTable.probe.go (tbl led [j0]) hs h (n+1) p=if hs 0==h then some (.candidate p.j 0 ((tbl led [j0]).advance p))else SetTable.probe.go (tbl led [j0]) hs h n ((tbl led [j0]).advance p):=by
 conv=>lhs;unfold SetTable.probe.go
 rw[oZ,if_pos hj]
theorem ye{led:Bool}{j0:Nat}{hs:Nat->Int}{h:Int}(hne:(hs 0==h)=false):∀(k n:Nat)(p:SetTable.Probe),Std p k->k+2≤n->∃j,j≠j0/\j<8/\SetTable.probe.go (tbl led [j0]) hs h n p=some (.empty j none)
 | k,0,p,s,hn=>%[|0]
 | 0,n+1,p,s,hn=>by
   by_cases hj:p.j=j0
   . obtain⟨s1,ne⟩:=Ab (led:=led) (ps:=[j0]) s
     obtain⟨m,rfl⟩:∃m,n=m+1:=⟨n-1,%[|0]⟩
     refine⟨((tbl led [j0]).advance p).j,by rw[←hj];exact ne,by rw[s1.ji];exact s1.lt,?_⟩
     rw[jo hj,hne]
     show SetTable.probe.go _ _ _ _ _=_
     rw[ju (by rw[←hj];exact ne),s1.dummy]
   . exact⟨p.j,hj,by rw[s.ji];exact s.lt,by rw[ju hj,s.dummy]⟩
 | k +1,n+1,p,s,hn=>by
   by_cases hj:p.j=j0
   . obtain⟨j,h1,h2,h3⟩:=ye hne k n _ (yP (led:=led) (ps:=[j0]) s) %[|0]
     refine⟨j,h1,h2,?_⟩
     rw[jo hj,hne]
     exact h3
   . exact⟨p.j,hj,by rw[s.ji];exact s.lt,by rw[ju hj,s.dummy]⟩
theorem Mv{led:Bool}{hs:Nat->Int}{n:Nat}{p:SetTable.Probe}(hne:(hs 0==h)=false):SetTable.probe.go (tbl led [j0]) hs h n p=SetTable.probe.go (tbl led [j0]) (λ _=>h+1) h n p:=by
 induction n generalizing p with
 | zero=>rfl
 | succ n ih=>
   by_cases hj:p.j=j0
   . have h1:(h+1==h)=false:=by simp;omega
     rw[jo hj,jo hj,hne,h1]
     exact ih
   . rw[ju hj,ju hj]
section
variable {prog : Program} {w : World} {A : Around} {E : Value -> Shared -> Prop} {s : Shared}
theorem gO{led:Bool}{es:List (Int×Value)}(h:ps.length=es.length)(h7:ps.length≤7):(tbl led ps).fits es.toArray.size=true:=by
 unfold SetTable.fits SetTable.fill
 simp[h]
 omega
theorem bK{led:Bool}{es:List (Int×Value)}{Q:(Array (Int×Value)×Nat×SetTable)->%[|8]}(ho:s.heap.get? a=some (bQ led es ps ep))(h:ps.length=es.length)(h7:ps.length≤7)(hq:Q (es.toArray,ep,tbl led ps) s):
 wpAny (model prog w) A (setState a) Q E s:=wpAny_setState_of ho rfl (gO h h7) hq
theorem zW{M:Model}{b:Addr}{Q:Bool->%[|8]}(h:Q true s):wpAny M A (isSame (.ref b) (.ref b)) Q E s:=by
 unfold isSame
 dsimp only
 rw[if_pos (beq_self_eq_true b)]
 exact ZB h
theorem iT{led:Bool}{m:Nat}{st:Option SetTable.Probe}{Q:SetFound->%[|8]}(hu:A.units+2<cLine)(ho:s.heap.get? a=some (bQ led [(h,v0)] [j0] ep))(hv:aG s.heap v c)(hv0:aG s.heap v0 c0)
 (hd:(st.getD ((tbl led [j0]).probeStart h)).dummy=none)
 (h0:(st.getD ((tbl led [j0]).probeStart h)).j≠j0->Q (.free (st.getD ((tbl led [j0]).probeStart h)).j false) s)
 (h1:c=c0->Q (.there none) s)
 (h2:c≠c0->(st.getD ((tbl led [j0]).probeStart h)).j=j0->wpAny (model prog w) A (setSearchFrom a v h true m (some ((tbl led [j0]).advance (st.getD ((tbl led [j0]).probeStart h))))) Q E s):
 wpAny (model prog w) A (setSearchFrom a v h true (m+1) st) Q E s:=by
 have hv1:=hv0
 obtain⟨b0,_,_,_,_,rfl,_⟩:=hv1
 have state:∀{Q:(Array (Int×Value)×Nat×SetTable)->%[|8]},Q ([(h,Value.ref b0)].toArray,ep,tbl led [j0]) s->wpAny (model prog w) A (setState a) Q E s:=λ hq=>bK ho rfl (Nat.le_of_ble_eq_true rfl) hq
 unfold setSearchFrom
 refine ZA (state ?_)
 dsimp only
 rw[if_neg (show ¬(SetTable.gaveWay (tbl led [j0])=true)from by simp[SetTable.gaveWay])]
 unfold SetTable.probe
 rw[show 10*SetTable.turns (tbl led [j0]).mask=219+1 from rfl]
 by_cases hj:(st.getD ((tbl led [j0]).probeStart h)).j=j0
 . rw [jo hj,if_pos (by show(h==h)=true;exact beq_self_eq_true h)]
   dsimp only
   have hs:∀y∈List.map (λ x:Int×Value=>x.2) (Array.filter (λ x=>x.fst==h) #[(h,Value.ref b0)]).toList,∃d,aG s.heap y d:=by
    intro y hy
    rw[List.mem_map]at hy
    obtain⟨e,he,rfl⟩:=hy
    have:e∈#[(h,Value.ref b0)]:=(Array.mem_filter.mp (Array.mem_toList_iff.mp he)).1
    have:e=(h,Value.ref b0):=by simpa using this
    subst this
    exact⟨c0,hv0⟩
   have eqq:SeqAt.EqAt A s (Value.ref b0) v (decide (c0=c)):=wQ hu hv0 hv
   have slq:(tbl led [j0]).slot (st.getD ((tbl led [j0]).probeStart h)).j=.live 0:=by rw[oZ,if_pos hj]
   cases led
   . rw[if_pos (show(!false)=true from rfl)]
     refine ZA (LC hv hs ?_)
     rw[if_neg y6]
     have e0:#[(h,Value.ref b0)][0]? =some (h,Value.ref b0):=rfl
     rw[e0]
     dsimp only
     refine ZA (ZQ (eqq prog w E _ ?_))
     refine ZA (state ?_)
     by_cases ec:c0=c
     . rw[ZG ec]
       exact ZB (h1 ec.symm)
     . rw[ZH ec]
       dsimp only
       rw[if_neg (show ¬((true&&false)=true)from y6)]
       have e1:SetTable.sameMemory (tbl false [j0]) 0 7=some true:=rfl
       rw[e1]
       dsimp only
       rw[if_pos rfl,slq]
       dsimp only
       rw[e0]
       dsimp only
       refine ZA (zW ?_)
       refine ZA (ZB ?_)
       exact h2 (λ e=>ec e.symm) hj
   . rw[if_neg (show ¬(!true)=true from y6)]
     have e0:#[(h,Value.ref b0)][0]? =some (h,Value.ref b0):=rfl
     rw[e0]
     dsimp only
     refine ZA (ZQ (eqq prog w E _ ?_))
     refine ZA (state ?_)
     by_cases ec:c0=c
     . rw[ZG ec]
       exact ZB (h1 ec.symm)
     . rw[ZH ec]
       dsimp only
       rw[if_neg (show ¬((true&&false)=true)from y6)]
       have e1:SetTable.sameMemory (tbl true [j0]) 0 7=some true:=rfl
       rw[e1]
       dsimp only
       rw[if_pos rfl,slq]
       dsimp only
       rw[e0]
       dsimp only
       refine ZA (zW ?_)
       refine ZA (ZB ?_)
       exact h2 (λ e=>ec e.symm) hj
 . rw[ju hj,hd]
   dsimp only
   exact ZB (h0 hj)
theorem BW{led:Bool}{Q:SetFound->%[|8]}(hu:A.units+2<cLine)(ho:s.heap.get? a=some (bQ led [(h,v0)] [j0] ep))(hv:aG s.heap v c)(hv0:aG s.heap v0 c0)
 (h1:c=c0->Q (.there none) s)(h2:c≠c0->∀j,j≠j0->j<8->Q (.free j false) s)(ne:c=c0->((tbl led [j0]).probeStart h).j=j0):
 ∀(k fuel:Nat)(st:Option SetTable.Probe),Std (st.getD ((tbl led [j0]).probeStart h)) k->(st.isSome=true->c≠c0)->k+2≤fuel->wpAny (model prog w) A (setSearchFrom a v h true fuel st) Q E s:=by
 intro k
 induction k with
 | zero=>
   intro fuel st sd hst hf
   obtain⟨m,rfl⟩:∃m,fuel=m+1+1:=⟨fuel-2,%[|0]⟩
   refine iT hu ho hv hv0 sd.dummy (λ hj=>?_) h1 λ nc hj=>?_
   . by_cases ec:c=c0
     . cases st with
       | none=>exact absurd (ne ec) hj
       | some p=>exact absurd ec (hst rfl)
     . exact h2 ec _ hj (by rw[sd.ji];exact sd.lt)
   . obtain⟨s1,ne⟩:=Ab (led:=led) (ps:=[j0]) sd
     rw[hj]at ne
     exact iT hu ho hv hv0 s1.dummy (λ hj=>h2 nc _ hj (by rw[Option.getD_some,s1.ji];exact s1.lt)) h1 λ _ hj=>absurd hj ne
 | succ k ih=>
   intro fuel st sd hst hf
   obtain⟨m,rfl⟩:∃m,fuel=m+1:=⟨fuel-1,%[|0]⟩
   refine iT hu ho hv hv0 sd.dummy (λ hj=>?_) h1 λ nc hj=>?_
   . by_cases ec:c=c0
     . cases st with
       | none=>exact absurd (ne ec) hj
       | some p=>exact absurd ec (hst rfl)
     . exact h2 ec _ hj (by rw[sd.ji];exact sd.lt)
   . exact ih m _ (yP sd) (λ _=>nc) %[|0]
theorem An{led:Bool}{h0:Int}{Q:SetFound->%[|8]}(hu:A.units+2<cLine)(hj0:j0=SetTable.bits h0 % 8)(hh:c=c0->h0=h)(ho:s.heap.get? a=some (bQ led [(h0,v0)] [j0] ep))(hv:aG s.heap v c)(hv0:aG s.heap v0 c0)
 (h1:c=c0->Q (.there none) s)(h2:c≠c0->∀j,j≠j0->j<8->Q (.free j false) s):wpAny (model prog w) A (setSearch a v h true) Q E s:=by
 unfold setSearch
 generalize hf:(100000:Nat)=fuel
 by_cases he:h0=h
 . subst he
   exact BW hu ho hv hv0 h1 h2 (λ _=>hj0.symm) 13 fuel none (uB _ _ _) (λ h=>nomatch h) %[|0]
 . have nc:c≠c0:=λ e=>he (hh e)
   obtain⟨m,rfl⟩:∃m,fuel=m+1:=⟨fuel-1,%[|0]⟩
   unfold setSearchFrom
   refine ZA (bK ho rfl (Nat.le_of_ble_eq_true rfl) ?_)
   dsimp only
   rw[if_neg (show ¬(SetTable.gaveWay (tbl led [j0])=true)from by simp[SetTable.gaveWay])]
   unfold SetTable.probe
   rw[Mv (by show(h0==h)=false;simpa using he)]
   obtain⟨j,h3,h4,h5⟩:=ye (led:=led) (j0:=j0) (hs:=λ _=>h+1) (h:=h) (by simp;omega) 13 (10*SetTable.turns (tbl led [j0]).mask) _ (uB led [j0] h) (by show 15≤220;decide)
   simp only[Option.getD_none]
   rw[h5]
   exact ZB (h2 nc j h3 h4)
theorem Fl{led:Bool}{Q:SetFound->%[|8]}(ho:s.heap.get? a=some (bQ led [] [] ep))
 (h1:Q (.free (SetTable.bits h % 8) false) s):wpAny (model prog w) A (setSearch a v h true) Q E s:=by
 unfold setSearch
 generalize hf:(100000:Nat)=fuel
 obtain⟨m,rfl⟩:∃m,fuel=m+1:=⟨fuel-1,%[|0]⟩
 unfold setSearchFrom
 refine ZA (bK ho rfl (Nat.zero_le _) ?_)
 dsimp only
 rw[if_neg (show ¬(SetTable.gaveWay (tbl led [])=true)from by simp[SetTable.gaveWay])]
 exact ZB h1
theorem mO{led:Bool}{es:List (Int×Value)}{es':List (Int×Value)}{ps':List Nat}{Q:Unit->%[|8]}(ho:s.heap.get? a=some (bQ led es ps ep))(hz:es'.length≤7)
 (h:∀h',Heap.SameBut a s.heap h'->h'.get? a=some (bQ led es' ps' (ep+1))->Q () {s with heap:=h'}):wpAny (model prog w) A (storeSet a es'.toArray (tbl led ps')) Q E s:=by
 refine wpAny_storeSet_of ho rfl (h _ (Heap.SameBut.update s.heap a _) ?_) (Nat.le_trans (by rw[x4];exact hz) (%[|3]:7≤sizeLine))
 have:=Heap.get?_update_self (Obj.putSet es'.toArray (tbl led ps')) ho (by rw[putSet_of _ _ rfl];rfl)
 rw[putSet_of _ _ rfl]at this
 exact this
theorem Pz{led:Bool}{Q:Bool->%[|8]}(hu:A.units+5<cLine)(ho:s.heap.get? a=some (bQ led [] [] ep))(hv:aG s.heap v c)
 (h:∀h' tk b,Heap.SameBut a s.heap h'->h'.get? a=some (bQ led [(hC prog w c,v)] [SetTable.bits (hC prog w c) % 8] (ep+1))->Q b {s with heap:=h',toks:=s.toks+tk}):
 wpAny (model prog w) A (setAdd a v) Q E s:=by
 unfold setAdd
 refine ZQ (ZA (Ae hu hv λ n=>?_))
 unfold setAddHashed
 refine ZQ ?_
 generalize hf:(100000:Nat)=fuel
 obtain⟨m,rfl⟩:∃m,fuel=m+1:=⟨fuel-1,%[|0]⟩
 unfold setAddHashedIn
 refine ZA (bK (s:={s with toks:=s.toks+n}) ho rfl (Nat.zero_le _) ?_)
 have hv1:=hv
 obtain⟨b0,_,_,_,_,rfl,_⟩:=hv1
 dsimp only
 rw[if_neg (show ¬(byScan (.ref b0) _=true)from y6)]
 refine ZA (Fl (s:={s with toks:=s.toks+n}) ho ?_)
 dsimp only
 refine ZA (bK (s:={s with toks:=s.toks+n}) ho rfl (Nat.zero_le _) ?_)
 have e1:(tbl led []).put (SetTable.bits (hC prog w c) % 8)=(tbl led [SetTable.bits (hC prog w c) % 8],0):=rfl
 rw[e1]
 dsimp only
 rw[if_pos rfl]
 refine ZA (sH (s:={s with toks:=s.toks+n}) (n:=6) hv ?_)
 rw[if_pos rfl]
 refine ZA (mO (s:={s with toks:=s.toks+n}) (es':=[(hC prog w c,Value.ref b0)]) ho (by simp) λ h' k1 k2=>?_)
 rw[if_neg (by simp[SetTable.tooFull,SetTable.fill])]
 exact ZB (h h' n true k1 k2)
theorem Pj(led:Bool)(j0 j:Nat)(hj:j≠j0):(tbl led [j0]).put j=if j0<j then(tbl led [j0,j],1)else(tbl led [j,j0],0):=by
 unfold SetTable.put
 show((⟨7,SetTable.insertAt #[j0] (SetTable.below #[j0] j) j,if SetTable.has #[] j=true then _ else #[],0,led,0,true⟩:SetTable),SetTable.below #[j0] j)=_
 rw[if_neg (show ¬SetTable.has #[] j=true from y6),rH]
 by_cases h:j0<j
 . rw[if_pos h,if_pos h];rfl
 . rw[if_neg h,if_neg h];rfl
theorem Qq{led:Bool}{Q:Bool->%[|8]}(hu:A.units+5<cLine)(ho:s.heap.get? a=some (bQ led [(hC prog w c0,v0)] [SetTable.bits (hC prog w c0) % 8] ep))(hv:aG s.heap v c)(hv0:aG s.heap v0 c0)
 (h1:c=c0->∀tk b,Q b {s with toks:=s.toks+tk})
 (h2:c≠c0->∀h' tk b es ps,Heap.SameBut a s.heap h'->h'.get? a=some (bQ led es ps (ep+1))->(∃e1 e2 v1 v2 j1 j2,es=[(e1,v1),(e2,v2)]/\ps=[j1,j2]/\j1<j2/\j2<8/\(v1=v0/\v2=v∨v1=v/\v2=v0))->Q b {s with heap:=h',toks:=s.toks+tk}):
 wpAny (model prog w) A (setAdd a v) Q E s:=by
 unfold setAdd
 refine ZQ (ZA (Ae hu hv λ n=>?_))
 unfold setAddHashed
 refine ZQ ?_
 generalize hf:(100000:Nat)=fuel
 obtain⟨m,rfl⟩:∃m,fuel=m+1:=⟨fuel-1,%[|0]⟩
 have hh:c=c0->hC prog w c0=hC prog w c:=λ e=>by rw[e]
 generalize hC prog w c=h at hh ⊢
 generalize hC prog w c0=h0 at hh ho ⊢
 unfold setAddHashedIn
 refine ZA (bK (s:={s with toks:=s.toks+n}) ho rfl (Nat.le_of_ble_eq_true rfl) ?_)
 have hv1:=hv
 obtain⟨b0,_,_,_,_,rfl,_⟩:=hv1
 dsimp only
 rw[if_neg (show ¬(byScan (.ref b0) _=true)from y6)]
 refine ZA (An (s:={s with toks:=s.toks+n}) %[|0] rfl hh ho hv hv0 (λ e=>?_) λ nc j hj h8=>?_)
 . exact ZB (h1 e n false)
 dsimp only
 refine ZA (bK (s:={s with toks:=s.toks+n}) ho rfl (Nat.le_of_ble_eq_true rfl) ?_)
 have hb0:SetTable.bits h0 % 8<8:=Nat.mod_lt _ %[|3]
 generalize SetTable.bits h0 % 8=j0 at ho hj hb0 ⊢
 dsimp only
 rw[Pj led j0 j hj]
 by_cases hlt:j0<j
 . rw[if_pos hlt]
   dsimp only
   rw[if_pos rfl]
   refine ZA (sH (s:={s with toks:=s.toks+n}) (n:=6) hv ?_)
   rw[if_pos rfl]
   refine ZA (mO (s:={s with toks:=s.toks+n}) (es':=[(h0,v0),(h,Value.ref b0)]) ho (by simp) λ h' k1 k2=>?_)
   rw[if_neg (by simp[SetTable.tooFull,SetTable.fill])]
   exact ZB (h2 nc h' n true _ _ k1 k2 ⟨_,_,_,_,_,_,rfl,rfl,hlt,h8,.inl ⟨rfl,rfl⟩⟩)
 . rw[if_neg hlt]
   dsimp only
   rw[if_pos rfl]
   refine ZA (sH (s:={s with toks:=s.toks+n}) (n:=6) hv ?_)
   rw[if_pos rfl]
   refine ZA (mO (s:={s with toks:=s.toks+n}) (es':=[(h,Value.ref b0),(h0,v0)]) ho (by simp) λ h' k1 k2=>?_)
   rw[if_neg (by simp[SetTable.tooFull,SetTable.fill])]
   exact ZB (h2 nc h' n true _ _ k1 k2 ⟨_,_,_,_,_,_,rfl,rfl,%[|0],hb0,.inr ⟨rfl,rfl⟩⟩)
end
end RF
namespace RF
open PySem PySem.Spec L2 DL
open PyProof.Rows
section
variable {prog : Program} {w : World} {A : Around} {R : Result -> Shared -> Prop} {I : Addr} {fp wr : List Addr} {G : Array GenState -> Array GenState -> Prop} {n : Nat} {P : Nat -> Value -> Prop} {St : Nat -> Shared -> Prop}
theorem Kq(W:WalksS prog w A.in1 I fp wr G n P St)(S:Addr)(hSf:S∉fp)(SS:Nat->Heap->Prop)
 (hframe:∀i h h',SS i h->(∀b o,b∉wr->h.get? b=some o->h'.get? b=some o)->SS i h')
 (hadd:∀i v(s:Shared)(Q:Bool->%[|8])(E:%[|7]),i<n->P i v->SS i s.heap->(∀b h' tk,Heap.SameBut S s.heap h'->SS (i+1) h'->Q b {s with heap:=h',toks:=s.toks+tk})->wpAny (model prog w) A.in1 (setAdd S v) Q E s):
 ∀ (k i:Nat)(s:Shared),n-i=k->i≤n->St i s->SS i s.heap->
   (∀s',Moved (S::wr) G s s'->SS n s'.heap->R (.ok (.ret .none)) s')->
   codeAny (model prog w) A (.builtin "set.update.loop" ⟨[.ref S,.ref I],[]⟩) R s:=by
 have hSw:S∉wr:=λ h=>hSf (W.sub _ h)
 have hsub:∀b∈wr,b∈S::wr:=λ b hb=>x3 _ hb
 intro k
 induction k with
 | zero=>
   intro i s hk hi hst hS hR
   have hin:i=n:=%[|0]
   subst hin
   refine codeAny_builtin F.entry_set_update_loop ?_
   rw[Around.under_plainId F.plain_set_update_loop _]
   show wpAny _ A.in1 (pyNext (.ref I)>>=_) _ _ s
   refine ZA (W.done s _ _ hst λ s' hm=>?_)
   show wpAny _ A.in1 (ret Value.none) _ _ s'
   exact ZB (hR s' (hm.mono hsub) (hframe _ _ _ hS hm.heap))
 | succ k ih=>
   intro i s hk hi hst hS hR
   have hlt:i<n:=%[|0]
   refine codeAny_builtin F.entry_set_update_loop ?_
   rw[Around.under_plainId F.plain_set_update_loop _]
   show wpAny _ A.in1 (pyNext (.ref I)>>=_) _ _ s
   refine ZA (W.item i s _ _ hlt hst λ v s' hP hst' hm=>?_)
   have hS':=hframe _ _ _ hS hm.heap
   show wpAny _ A.in1 (holding [v] (setAdd S v)>>=_) _ _ s'
   refine ZA (ZQ (hadd i v s' _ _ hlt hP hS' λ b h' tk hsb hS2=>?_))
   refine ZB ⟨plainId_quiet F.plain_set_update_loop _,ih (i+1) _ %[|0] hlt (W.frame _ s' _ _ hst' (Nat.le_add_right _ _) λ b hb o e=>?_) hS2 λ s'' hm'' hS''=>?_⟩
   . rw[hsb.2 b (λ h:b=S=>hSf (by rw[←h];exact hb))];exact e
   . refine hR s'' (Moved.trans W.gtrans ((hm.mono hsub).then_heap (Nat.le_add_right _ _) λ b o hb e=>?_) hm'') hS''
     rw[hsb.2 b (λ h:b=S=>hb (by rw[h];exact x5))];exact e
end
def Lies(prog:Program)(w:World)(its:List Value)(cs:List (Int×%[|1]))(i:Nat)(es:List (Int×Value))(ps:List Nat):Prop:=
 match i with
 | 0=>es=[]/\ps=[]
 | 1=>∃v c,its[0]? =some v/\cs[0]? =some c/\es=[(hC prog w c,v)]/\ps=[SetTable.bits (hC prog w c) % 8]
 | _ =>∃v0 v c0 c,its=[v0,v]/\cs=[c0,c]/\((c=c0/\es=[(hC prog w c0,v0)]/\ps=[SetTable.bits (hC prog w c0) % 8])∨
     (c≠c0/\∃e1 e2 v1 v2 j1 j2,es=[(e1,v1),(e2,v2)]/\ps=[j1,j2]/\j1<j2/\j2<8/\(v1=v0/\v2=v∨v1=v/\v2=v0)))
section
variable {prog : Program} {w : World} {A : Around} {E : Value -> Shared -> Prop} {s : Shared}
abbrev dz(w:World):Bool:=!(w.params.followText "set-order")
theorem yM(a:Value){Q₁:%[|7]}
 (h:Q₁ (.ref s.heap.objs.size) {s with heap:=s.heap.push {cls:=.type "set",dict:=none,data:=.set #[] 0 (.fresh 0 0 (dz w))}}):
 codeAny (model prog w) A (.call (.builtin "set.__new__") ⟨[.type "set",a],[]⟩) (wants Q₁ E) s:=by
 refine codeAny_of_tree ?_
 show wpAny _ A.in1 (do checkBuiltinCall "set.__new__" ⟨[.type "set",a],[]⟩;again (.builtin "set.__new__" ⟨[.type "set",a],[]⟩)) _ _ s
 refine ZA (wpAny_of_eq (F.newCall_set_1 a) (ZB ⟨plainId_quiet F.plain_set_new _,codeAny_builtin F.entry_set_new ?_⟩))
 rw[Around.under_plainId F.plain_set_new _]
 unfold Builtin.«set.__new__» Builtin.Frozenset.newClass
 have hsub:=sub_set_self
 obtain⟨hp,g,d,tk,os⟩:=s
 dsimp only
 wp_walk
 refine wpAny_askSetting (ZB ?_)
 dsimp only
 simp only[newObj]
 refine ZA (wpAny_alloc (ZB ?_))
 exact ZB h
theorem two_at{α:Type}{l:List α}{a b:α}(h:l.length≤2)(h0:l[0]? =some a)(h1:l[1]? =some b):l=[a,b]:=by
 cases l with
 | nil=>cases h0
 | cons x l=>cases l with
   | nil=>cases h1
   | cons y l=>cases l with
     | nil=>cases h0;cases h1;rfl
     | cons=>simp at h
theorem PT{α:Type}{l:List α}(h:l.length=2):∃a b,l=[a,b]:=by
 cases l with
 | nil=>cases h
 | cons x l=>cases l with
   | nil=>cases h
   | cons y l=>cases l with
     | nil=>exact⟨x,y,rfl⟩
     | cons=>simp at h
set_option maxHeartbeats 8000000 in
theorem xV {l:Addr}{its:List Value}{cs:List (Int×%[|1])}{Q:%[|7]}
 (hh:A.handled=none)(hu:A.units+12<cLine)(hl:s.heap.IsList l its.toArray)(hlen:its.length=cs.length)(hc:∀(i:Nat)(v:Value)(c:Int×%[|1]),its[i]? =some v->cs[i]? =some c->aG s.heap v c)(hb:its.length≤2)
 (h:∀(h':Heap)(tk:Nat)(es:List (Int×Value))(ps:List Nat)(ep:Nat),h'.get? s.heap.objs.size=some (bQ (dz w) es ps ep)->Lies prog w its cs its.length es ps->
  (∀b o,b<s.heap.objs.size->s.heap.get? b=some o->h'.get? b=some o)->Q (.ref s.heap.objs.size) {s with heap:=h',toks:=tk}):
 wpAny (model prog w) A (call (.type "set") [.ref l]) Q E s:=by
 obtain⟨c,tl,hmro⟩:=F.called_set.mro
 have hmade:=F.called_set.made
 have hsub:=F.called_set.sub
 refine wpAny_call (codeAny_of_tree ?_)
 show wpAny _ _ (callAny (.type "set") _) _ _ _
 refine ZB ⟨Code.quiet_builtin _ (by decide+kernel),codeAny_builtin F.entry_type_call ?_⟩
 rw[Around.under_plain (weight_type_call_type "set" [.ref l] []) rfl]
 have h1:=F.called_set.notType
 have h2:=F.called_set.canCreate
 have hct:=F.typeCall_set_1 (.ref l)
 repeat(any_goals (first | assumption | wp_step))
 refine codeAny_mono (yM (.ref l) (E:=E) (Q₁:=λ obj s₁=>∃led:Bool,led=dz w/\obj=.ref s.heap.objs.size/\s₁={s with heap:=s.heap.push {cls:=.type "set",dict:=none,data:=.set #[] 0 (.fresh 0 0 led)}}) ⟨_,rfl,rfl,rfl⟩) λ r s₁ hr=>?_
 cases r with
 | error e=>exact hr
 | ok fl =>
   cases fl with
   | next=>exact hr.elim
   | brk=>exact hr.elim
   | cont=>exact hr.elim
   | ret obj=>
     obtain⟨led,hled,rfl,rfl⟩:=hr
     have hS:(s.heap.push {cls:=.type "set",dict:=none,data:=.set #[] 0 (.fresh 0 0 led)}).get? s.heap.objs.size=some {cls:=.type "set",dict:=none,data:=.set #[] 0 (.fresh 0 0 led)}:=ZD _ rfl
     have hT:Shared.TypeIs {s with heap:=s.heap.push {cls:=.type "set",dict:=none,data:=.set #[] 0 (.fresh 0 0 led)}} (.ref s.heap.objs.size) "set":=⟨_,hS,rfl⟩
     have hli:=F.called_set.init.lookup
     have hbi:=F.called_set.init.bind (.ref s.heap.objs.size)
     repeat(any_goals (first | assumption | wp_step))
     refine codeAny_mono (codeAny_call_builtin (R:=wants (λ r s₂=>r=.none/\∃h' tk es ps ep,s₂={s with heap:=h',toks:=tk}/\
      h'.get? s.heap.objs.size=some (bQ led es ps ep)/\Lies prog w its cs its.length es ps/\
      (∀b o,b<s.heap.objs.size->s.heap.get? b=some o->h'.get? b=some o)) E) F.called_set.init.plain F.entry_set_init (check_set_init_1 hT ?_)) λ r₂ s₂ hr₂=>?_
     . obtain⟨ol,hol,hcl,nl,hdl⟩:=hl
       obtain⟨ocls,odict,odata,oslots⟩:=ol
       simp only at hcl hdl
       subst hcl;subst hdl
       have hol':(s.heap.push {cls:=.type "set",dict:=none,data:=.set #[] 0 (.fresh 0 0 led)}).get? l=some {cls:=.type "list",dict:=odict,data:=.seq its.toArray nl,slots:=oslots}:=ZC _ hol
       have hsls:=F.sub_list_set
       have hslf:=F.sub_list_frozenset
       have hne:(Value.type "list"==Value.type "dict")=false:=%[|3]
       have hl1:(s.heap.push {cls:=.type "set",dict:=none,data:=.set #[] 0 (.fresh 0 0 led)}).IsList l its.toArray:=⟨_,hol',rfl,nl,rfl⟩
       unfold Builtin.«set.__init__» noKeywords Builtin.Frozenset.updateFrom
       generalize hPI:pyIter=PI
       wp_walk
       subst hPI
       refine wpAny_pyIter_list hl1 ?_
       refine ZA (wpAny_runValue ?_)
       have hlS:l<s.heap.objs.size:=ZE hol
       have hh3:A.in1.in1.in1.handled=none:=by simp[hh]
       have hneI:l≠(s.heap.push {cls:=.type "set",dict:=none,data:=.set #[] 0 (.fresh 0 0 led)}).objs.size:=by
        rw[Heap.size_push];exact w9 (Nat.lt_succ_of_lt hlS)
       have hSf:s.heap.objs.size∉[(s.heap.push {cls:=.type "set",dict:=none,data:=.set #[] 0 (.fresh 0 0 led)}).objs.size,l]:=by
        rw[Heap.size_push];simp only[List.mem_cons,List.mem_singleton,List.not_mem_nil,or_false,not_or]
        exact⟨w9 (Nat.lt_succ_self _),Nat.ne_of_gt hlS⟩
       have hI:(s.heap.push {cls:=.type "set",dict:=none,data:=.set #[] 0 (.fresh 0 0 led)}).objs.size=s.heap.objs.size+1:=by rw[Heap.size_push]
       refine Kq ((Walks.list hh3 _ l hneI its.toArray).toS) s.heap.objs.size hSf
        (λ i h'=>(∀b o,b<s.heap.objs.size->s.heap.get? b=some o->h'.get? b=some o)/\∃es ps ep,h'.get? s.heap.objs.size=some (bQ led es ps ep)/\Lies prog w its cs i es ps)
        ?hfr ?hadd (its.toArray.size-0) 0 _ %[|0] (Nat.zero_le _)
        ⟨⟨_,ZD _ rfl,rfl,rfl⟩,(hl1.push _)⟩ ?hS0 ?hR
       case hfr=>
        rintro i h1 h2 ⟨k1,es,ps,ep,k2,k3⟩ k
        refine⟨λ b o hb e=>k b o ?_ (k1 b o hb e),es,ps,ep,k _ _ ?_ k2,k3⟩
        . intro z;have:=ZL.mp z;rw[hI]at this;exact absurd this (w9 (Nat.lt_succ_of_lt hb))
        . intro z;have:=ZL.mp z;rw[hI]at this;exact absurd this (w9 (Nat.lt_succ_self _))
       case hadd=>
        rintro i v s1 Q1 E1 hi hv ⟨k1,es,ps,ep,k2,k3⟩ hq
        have hi':i<its.length:=by simpa using hi
        have hv':its[i]? =some v:=by simpa using hv
        obtain⟨c,hci⟩:∃c,cs[i]? =some c:=⟨_,y3 %[|0]⟩
        have cel:∀(i:Nat)(v:Value)(c:Int×%[|1]),its[i]? =some v->cs[i]? =some c->aG s1.heap v c:=λ i v c e1 e2=>(hc i v c e1 e2).keep λ b o e _=>k1 b o (ZE e) e
        have hu1:A.in1.in1.in1.in1.units+5<cLine:=by show A.units+1+1+1+1+5<cLine;omega
        match i,hi',k3 with
        | 0,_,k3=>
          obtain⟨rfl,rfl⟩:=k3
          refine Pz (by first | exact hu1 | (show A.units+1+1+1+5<cLine;omega)) k2 (cel 0 v c hv' hci) λ h' tk b sb g=>hq b h' tk sb ⟨λ b' o' hb' e'=>?_,_,_,_,g,v,c,hv',hci,rfl,rfl⟩
          rw[sb.2 b' (w9 hb')];exact k1 b' o' hb' e'
        | 1,hi',k3=>
          obtain⟨v0,c0,e1,e2,rfl,rfl⟩:=k3
          have e3:its=[v0,v]:=two_at (by simpa using hb) e1 hv'
          have e4:cs=[c0,c]:=by
           have:cs.length=2:=by rw[←hlen,e3];rfl
           exact two_at (Nat.le_of_eq this) e2 hci
          refine Qq (by first | exact hu1 | (show A.units+1+1+1+5<cLine;omega)) k2 (cel 1 v c hv' hci) (cel 0 v0 c0 e1 e2) (λ ec tk b=>?_) λ nc h' tk b es ps sb g z=>?_
          . exact hq b s1.heap tk (Heap.SameBut.refl _ _) ⟨k1,_,_,_,k2,v0,v,c0,c,e3,e4,.inl ⟨ec,rfl,rfl⟩⟩
          . refine hq b h' tk sb ⟨λ b' o' hb' e'=>?_,_,_,_,g,v0,v,c0,c,e3,e4,.inr ⟨nc,z⟩⟩
            rw[sb.2 b' (w9 hb')];exact k1 b' o' hb' e'
        | i+2,hi',_=>omega
       case hS0=>
        refine⟨λ b o hb e=>ZC _ (ZC _ e),[],[],0,ZC _ hS,rfl,rfl⟩
       case hR=>
        intro s' hm hS'
        obtain⟨h',g',d',tk',os'⟩:=s'
        have eg:g'=s.gens:=hm.gens
        have ed:d'=s.drawn:=hm.drawn
        have eo:os'=s.os:=hm.os
        subst eg;subst ed;subst eo
        obtain⟨k1,es,ps,ep,k2,k3⟩:=hS'
        show wpAny _ _ _ _ _ _
        refine ZB ?_
        show wpAny _ _ (ret Value.none) _ _ _
        refine ZB ⟨rfl,h',tk',es,ps,ep,rfl,k2,by simpa using k3,k1⟩
     . cases r₂ with
       | error e=>exact hr₂
       | ok fl₂=>
         cases fl₂ with
         | next=>exact hr₂.elim
         | brk=>exact hr₂.elim
         | cont=>exact hr₂.elim
         | ret r=>
           obtain⟨rfl,h',tk,es,ps,ep,rfl,k2,k3,k1⟩:=hr₂
           repeat(any_goals (first | assumption | wp_step))
           exact h _ _ _ _ _ (hled▸k2) k3 k1
end
variable {es : List (Int × Value)} {ps : List Nat} {S I : Addr} {ep : Nat}
theorem sX:entryFor table "set.__iter__"=some Builtin.«frozenset.__iter__»:=
 entryFor_alias (id':="frozenset.__iter__") (by kernel_rfl) rfl (by decide+kernel) (by kernel_rfl)
theorem aV:Slot "set_iterator" "__next__" "set_iterator.__next__":=
 .of (owner:="set_iterator") (n:="__next__") (by rw[typeLookup_type,builtinLookup_eq_fast];kernel_rfl) (by decide+kernel) (by decide+kernel) (by decide+kernel)
  (by first | exact .inl (by decide+kernel) | exact .inr (by decide+kernel)) (by rw[isSubtype_type];kernel_rfl)
theorem cV:entryFor table "set_iterator.__next__"=some Builtin.«set_iterator.__next__»:=entryFor_of_tree (by kernel_rfl)
theorem fL:Manifest.owners.lookup (String.ofList ['r','o','t','a','r','e','t','i','_','t','e','s'].reverse)=some Manifest.sig_set_iterator:=by kernel_rfl
theorem cR(a:Value):argsOk "set_iterator.__next__" ⟨[a],[]⟩:=by
 unfold argsOk;rw[signature?_of (id:="set_iterator.__next__") (n:=['_','_','t','x','e','n','_','_']) (o:=['r','o','t','a','r','e','t','i','_','t','e','s']) (by kernel_rfl) fL];kernel_rfl
theorem dq:Slot "set_iterator" "__iter__" "set_iterator.__iter__":=
 .of (owner:="set_iterator") (n:="__iter__") (by rw[typeLookup_type,builtinLookup_eq_fast];kernel_rfl) (by decide+kernel) (by decide+kernel) (by decide+kernel)
  (by first | exact .inl (by decide+kernel) | exact .inr (by decide+kernel)) (by rw[isSubtype_type];kernel_rfl)
theorem ir:entryFor table "set_iterator.__iter__"=some Builtin.«dict_keyiterator.__iter__»:=
 entryFor_alias (id':="dict_keyiterator.__iter__") (by kernel_rfl) rfl (by decide+kernel) (by kernel_rfl)
theorem gG(a:Value):argsOk "set_iterator.__iter__" ⟨[a],[]⟩:=by
 unfold argsOk;rw[signature?_of (id:="set_iterator.__iter__") (n:=['_','_','r','e','t','i','_','_']) (o:=['r','o','t','a','r','e','t','i','_','t','e','s']) (by kernel_rfl) fL];kernel_rfl
def slotAt(ps:List Nat):Nat->Nat
 | 0=>0
 | i+1=>ps.getD i 0+1
theorem Gk:∀(ps:List Nat)(i:Nat),(ps=[]∨(∃j,ps=[j])∨∃j k,ps=[j,k]/\j<k)->i≤ps.length->SetTable.below ps.toArray (slotAt ps i)=i:=by
 rintro ps i (rfl | ⟨j,rfl⟩ | ⟨j,k,rfl,hjk⟩) hi
 . have:i=0:=by simpa using hi
   subst this
   rfl
 . match i,hi with
   | 0,_=>rw[show([j].toArray:Array Nat)=#[j]from rfl,rH];simp[slotAt]
   | 1,_=>rw[show([j].toArray:Array Nat)=#[j]from rfl,rH];simp[slotAt]
   | i+2,h=>simp at h
 . match i,hi with
   | 0,_=>simp[slotAt,SetTable.below,SetTable.below.go]
   | 1,_=>
     have h1:¬k<j+1:=%[|0]
     simp[slotAt,SetTable.below,SetTable.below.go,h1]
   | 2,_=>simp[slotAt,SetTable.below,SetTable.below.go]
   | i+3,h=>simp at h
def bh(w:World)(a:Addr)(ep:Nat)(es:List (Int×Value)):Array (Int×Value):=
 if w.params.followText "set-order"=true then pickOrder (w.params.setOrder a ep) es.toArray else es.toArray
abbrev cu(w:World)(ps:List Nat)(S:Addr)(n ep i:Nat):Obj:={cls:=.type "set_iterator",dict:=none,data:=.fields #[rawInt (if w.params.followText "set-order"=true then 0 else slotAt ps i:Nat),rawInt (i:Nat),.ref S,rawInt (n:Nat),rawInt (ep:Nat)],slots:=#[]}
structure Rise(es:List (Int×Value))(ps:List Nat):Prop where
 len:ps.length=es.length
 sh:ps=[]∨(∃j,ps=[j])∨∃j k,ps=[j,k]/\j<k
theorem Rise.seven(r:Rise es ps):ps.length≤7:=by
 rcases r.sh with rfl | ⟨j,rfl⟩ | ⟨j,k,rfl,_⟩<;>simp
section
variable {prog : Program} {w : World} {A : Around} {E : Value -> Shared -> Prop} {s : Shared}
theorem Af{i:Nat}{Q:Option (Value×Nat)->%[|8]}(r:Rise es ps)(hi:i≤es.length)(ho:s.heap.get? S=some (bQ (dz w) es ps ep))
 (h:Q (((bh w S ep es)[i]?).map λ e=>(e.2,if w.params.followText "set-order"=true then 0 else slotAt ps (i+1))) s):
 wpAny (model prog w) A (setNext S (if w.params.followText "set-order"=true then 0 else slotAt ps i) i ep) Q E s:=by
 unfold setNext
 refine ZA (bK ho r.len r.seven ?_)
 unfold setsByText
 dsimp only
 refine ZA (ZA (wpAny_askSetting (ZB ?_)))
 show wpAny _ _ (if w.params.followText "set-order"=true then _ else _) _ _ _
 unfold bh at h
 by_cases bt:w.params.followText "set-order"=true
 . rw[if_pos bt]
   rw[if_pos bt]at h
   simp only[if_pos bt]at h
   rw[if_neg (by simp)]
   unfold setWalk
   refine ZA (ZA (bK ho r.len r.seven ?_))
   unfold setsByText
   dsimp only
   refine ZA (ZA (wpAny_askSetting (ZB ?_)))
   show wpAny _ _ (if w.params.followText "set-order"=true then _ else _) _ _ _
   rw[if_pos bt]
   refine ZA (wpAny_askSetting (ZB (ZB ?_)))
   simp only[if_pos bt]
   exact h
 . rw [if_neg bt]
   rw[if_neg bt]at h
   simp only[if_neg bt]at h ⊢
   have hled:dz w=true:=by simp[dz,bt]
   split
   . exact absurd (by assumption) y6
   . refine ZA ?_
     show wpAny _ _ (if(!(dz w)&& !(es.toArray.isEmpty))=true then _ else pure PUnit.unit) _ _ _
     rw[hled,if_neg (show ¬((!true&& !(es.toArray.isEmpty))=true)from y6)]
     refine ZB ?_
     rw[Gk ps i r.sh (by rw[r.len];exact hi)]
     refine ZB ?_
     have e2:slotAt ps (i+1)=ps.getD i 0+1:=rfl
     rw[e2]at h
     rw[List.getElem?_toArray]at h
     rw[List.getElem?_toArray,List.getElem?_toArray]
     cases he:es[i]? with
     | none=>rw[he]at h;exact h
     | some e=>
       rw[he]at h
       have hlt:i<ps.length:=by rw[r.len];exact(z0.mp he).1
       rw[y3 hlt]
       rw[List.getD_eq_getElem?_getD,y3 hlt]at h
       exact h
theorem j9{n i:Nat}(ho:s.heap.get? I=some (cu w ps S n ep i)):s.TypeIs (.ref I) "set_iterator":=⟨_,ho,rfl⟩
theorem jL{h:Heap}{vs:Array Value}{k:Nat}{x:Value}(ho:h.get? I=some {cls:=.type "set_iterator",dict:=none,data:=.fields vs,slots:=#[]}):
 (h.update I (Obj.mapFields (·.setIfInBounds k x))).get? I=some {cls:=.type "set_iterator",dict:=none,data:=.fields (vs.setIfInBounds k x),slots:=#[]}:=Heap.get?_update_self _ ho rfl
theorem JG{i:Nat}{e:Int×Value}{Q:Option Value->%[|8]}(hne:S≠I)(r:Rise es ps)(hi:i<es.length)(hI:s.heap.get? I=some (cu w ps S es.length ep i))(ho:s.heap.get? S=some (bQ (dz w) es ps ep))
 (he:(bh w S ep es)[i]? =some e)(h:∀h',Heap.SameBut I s.heap h'->h'.get? I=some (cu w ps S es.length ep (i+1))->Q (some e.2) {s with heap:=h'}):
 wpAny (model prog w) A (pyNext (.ref I)) Q E s:=by
 have hT:=j9 hI
 unfold pyNext
 refine ZA (wpAny_attempt (wpAny_callSpecial?_slot (name:=Str.ofString "__next__") hT aV
  (ZP aV hT cV ?_ (cR _))))
 unfold Builtin.«set_iterator.__next__»
 refine ZA (ZB ?_)
 refine ZA (wpAny_fieldsOf hI rfl ?_)
 dsimp only
 refine ZA (wpAny_setEntries_of ho rfl (gO r.len r.seven) ?_)
 rw[if_neg (by simp)]
 refine ZA ?_
 simp only[rawInt,Int.toNat_natCast]
 refine Af r (Nat.le_of_lt hi) ho ?_
 rw[he]
 dsimp only[Option.map]
 refine ZA (wpAny_setField hI rfl (by simp) ?_)
 refine ZA (wpAny_setField (s:={s with heap:=_}) (jL hI) rfl (by simp) ?_)
 exact ZB ⟨_,rfl,ZB (h _ ((Heap.SameBut.update ..).trans (Heap.SameBut.update ..)) (by
  have:=jL (k:=1) (x:=rawInt (i+1)) (jL (k:=0) (x:=rawInt (if w.params.followText "set-order"=true then 0 else slotAt ps (i+1):Nat)) hI)
  exact this))⟩
theorem Hx{Q:Option Value->%[|8]}(hh:A.handled=none)(hne:S≠I)(r:Rise es ps)(hI:s.heap.get? I=some (cu w ps S es.length ep es.length))(ho:s.heap.get? S=some (bQ (dz w) es ps ep))
 (he:(bh w S ep es)[es.length]? =none)(h:∀h',Heap.ExtBut I s.heap h'->Q none {s with heap:=h'}):
 wpAny (model prog w) A (pyNext (.ref I)) Q E s:=by
 have hT:=j9 hI
 unfold pyNext
 refine ZA (wpAny_attempt (wpAny_callSpecial?_slot (name:=Str.ofString "__next__") hT aV
  (ZP aV hT cV ?_ (cR _))))
 unfold Builtin.«set_iterator.__next__»
 refine ZA (ZB ?_)
 refine ZA (wpAny_fieldsOf hI rfl ?_)
 dsimp only
 refine ZA (wpAny_setEntries_of ho rfl (gO r.len r.seven) ?_)
 rw[if_neg (by simp)]
 refine ZA ?_
 simp only[rawInt,Int.toNat_natCast]
 refine Af r (y9 _) ho ?_
 rw[he]
 dsimp only[Option.map]
 refine ZA (wpAny_setField hI rfl (by simp) ?_)
 show wpAny _ _ (newExc (.type "StopIteration") []>>=_) _ _ _
 refine ZA ?_
 simp only[newExc,newTuple]
 refine ZA (wpAny_newObj_type ?_ (by size_fits))
 refine ZA (m:=firstArgMember _ _) (wpAny_of_eq (a:=Value.none) (by first | rfl | (simp only[firstArgMember];rfl)) ?_)
 refine wpAny_newObj_type ?_ (by size_fits)
 simp only[raiseNew]
 refine ZA (wpAny_handled ?_)
 rw[show A.in1.handled=none from hh]
 refine ZA (ZB (wpAny_throw ?_))
 refine ZA (wpAny_isInstance (T:="StopIteration") (b:=true) ⟨_,ZD _ rfl,rfl⟩ isSubtype_stop ?_)
 exact ZB (h _ (((Heap.SameBut.update ..).extBut.push _).push _))
theorem fC(w:World)(S:Addr)(ep:Nat){es:List (Int×Value)}{ps:List Nat}(r:Rise es ps):
 (es=[]/\bh w S ep es=#[])∨(∃e,es=[e]/\bh w S ep es=#[e])∨∃e1 e2,es=[e1,e2]/\(bh w S ep es=#[e1,e2]∨bh w S ep es=#[e2,e1]):=by
 have hl:=r.len
 unfold bh
 rcases r.sh with rfl | ⟨j,rfl⟩ | ⟨j,k,rfl,_⟩
 . have:es=[]:=List.length_eq_zero_iff.mp hl.symm
   subst this
   exact .inl ⟨rfl,by split<;>rfl⟩
 . obtain⟨e,rfl⟩:∃e,es=[e]:=List.length_eq_one_iff.mp hl.symm
   refine .inr (.inl ⟨e,rfl,?_⟩)
   split
   . simp[pickOrder,pickOrder.go,Nat.mod_one]
   . rfl
 . obtain⟨e1,e2,rfl⟩:∃e1 e2,es=[e1,e2]:=PT (by rw[←hl];rfl)
   refine .inr (.inr ⟨e1,e2,rfl,?_⟩)
   split
   . rcases Nat.mod_two_eq_zero_or_one (w.params.setOrder S ep 0)with h | h
     . left;simp[pickOrder,pickOrder.go,h,Nat.mod_one]
     . right;simp[pickOrder,pickOrder.go,h,Nat.mod_one]
   . exact .inl rfl
theorem j7(w:World)(S:Addr)(ep:Nat){es:List (Int×Value)}{ps:List Nat}(r:Rise es ps):(bh w S ep es).size=es.length:=by
 rcases fC w S ep r with⟨h1,h2⟩ | ⟨e,h1,h2⟩ | ⟨e1,e2,h1,h2 | h2⟩<;>rw[h2,h1]<;>rfl
theorem Hm(hh:A.handled=none)(I S:Addr)(hne:S≠I)(es:List (Int×Value))(ps:List Nat)(ep:Nat)(r:Rise es ps):
 Walks prog w A I [I,S] [I] es.length (λ i v=>∃e,(bh w S ep es)[i]? =some e/\e.2=v) (λ i h=>h.get? I=some (cu w ps S es.length ep i)/\h.get? S=some (bQ (dz w) es ps ep)) where
 sub:=λ b hb=>by simp at hb;simp[hb]
 frame:=λ _ _ _ st hk=>⟨hk I (by simp) _ st.1,hk S (by simp) _ st.2⟩
 item:=λ i s Q E hi st hQ=>by
  obtain⟨e,he⟩:∃e,(bh w S ep es)[i]? =some e:=⟨_,Array.getElem?_eq_getElem (by rw[j7 w S ep r];exact hi)⟩
  refine JG hne r hi st.1 st.2 he λ h' sb g=>hQ e.2 h' s.toks ⟨e,he,rfl⟩ ⟨g,?_⟩ λ b o hb e=>sb.extBut b o (λ h=>hb (by simp[h])) e
  rw[sb.2 S hne];exact st.2
 done:=λ s Q E st hQ=>Hx hh hne r st.1 st.2 (Array.getElem?_eq_none (by rw[j7 w S ep r];exact y9 _)) λ h' he'=>hQ h' s.toks λ b o hb e=>he' b o (λ h=>hb (by simp[h])) e
 self:=λ _ s Q E st hQ=>by
  have hT:=j9 (s:=s) st.1
  refine wpAny_pyIter_slot hT dq (ZP dq hT ir ?_ (gG _))
  show wpAny _ _ (ret (.ref I)) _ _ s
  exact ZB ⟨_,rfl,"set_iterator",_,hT,aV.lookup,hQ⟩
theorem Kd{Q:%[|7]}(r:Rise es ps)(ho:s.heap.get? S=some (bQ (dz w) es ps ep))
 (h:Q (.ref s.heap.objs.size) {s with heap:=s.heap.push (cu w ps S es.length ep 0)}):wpAny (model prog w) A (pyIter (.ref S)) Q E s:=by
 have hT:s.TypeIs (.ref S) "set":=⟨_,ho,rfl⟩
 refine wpAny_pyIter_slot hT F.slot_set_iter (ZP F.slot_set_iter hT sX ?_ (F.args_set_iter_1 _))
 unfold Builtin.«frozenset.__iter__» Builtin.Frozenset.slot0 Builtin.Frozenset.sizeOf setDrawn
 refine ZA (ZA (ZB (ZB ?_)))
 refine ZA (ZA (wpAny_setEntries_of ho rfl (gO r.len r.seven) (ZB ?_)))
 refine ZA (ZA (bK ho r.len r.seven ?_))
 unfold setsByText
 dsimp only
 refine ZA (ZA (wpAny_askSetting (ZB (ZB ?_))))
 split
 . rename_i hx
   rw[Bool.and_eq_true]at hx
   exact absurd hx.2 y6
 . refine ZA (ZB ?_)
   refine ZA (wpAny_setEpoch_of ho rfl (gO r.len r.seven) ?_)
   refine ZA (wpAny_newObj_type ?_ (by size_fits))
   have hz:es.toArray.size=es.length:=x4
   have e1:((if w.params.followText "set-order"=true then 0 else slotAt ps 0:Nat))=0:=by split<;>rfl
   have key:cu w ps S es.length ep 0={cls:=.type "set_iterator",dict:=none,data:=.fields [rawInt 0,rawInt 0,.ref S,rawInt (es.toArray.size:Nat),rawInt (ep:Nat)].toArray,slots:=#[]}:=by
    unfold cu
    rw[e1,hz]
    rfl
   rw[key]at h
   exact ZB ⟨_,rfl,"set_iterator",_,⟨_,ZD _ rfl,rfl⟩,aV.lookup,h⟩
theorem Bh{Q:List Value->%[|8]}(hh:A.handled=none)(r:Rise es ps)(ho:s.heap.get? S=some (bQ (dz w) es ps ep))
 (h:∀h' tk,(∀b o,b<s.heap.objs.size->s.heap.get? b=some o->h'.get? b=some o)->s.heap.objs.size≤h'.objs.size->Q ((bh w S ep es).toList.map (·.2)) {s with heap:=h',toks:=tk}):wpAny (model prog w) A (collect (.ref S)) Q E s:=by
 have hS:S<s.heap.objs.size:=ZE ho
 have hSL:s.heap.objs.size≠S:=Nat.ne_of_gt hS
 unfold collect
 refine ZA (wpAny_runValue (codeAny_builtin F.entry_proto_collect ?_))
 rw[Around.under_plainId F.plain_proto_collect _]
 show wpAny _ A.in1 (newList []>>=λ l=>again (.builtin "list.__iadd__" ⟨[l,.ref S],[]⟩)) _ _ s
 refine ZA (wpAny_newObj_type ?_)
 refine ZB ⟨plainId_quiet F.plain_list_iadd _,codeAny_builtin F.entry_list_iadd ?_⟩
 rw[Around.under_plainId F.plain_list_iadd _]
 have ho1:(s.heap.push {cls:=.type "list",data:=.seq ([]:List Value).toArray}).get? S=some (bQ (dz w) es ps ep):=ZC _ ho
 have hT1:Shared.TypeIs {s with heap:=s.heap.push {cls:=.type "list",data:=.seq ([]:List Value).toArray}} (.ref S) "set":=⟨_,ho1,rfl⟩
 show wpAny _ A.in1 (Builtin.List.listExtendWith (.ref s.heap.objs.size) (.ref S) (.ref s.heap.objs.size)) _ _ _
 unfold Builtin.List.listExtendWith
 refine ZA (wpAny_typeOf hT1 ?_)
 have h1:Builtin.List.listSameRef (.ref s.heap.objs.size) (.ref S)=false:=by simp[Builtin.List.listSameRef,hSL]
 have h2:(Value.type "set"==Value.type "list")=false:=%[|3]
 have h3:(Value.type "set"==Value.type "tuple")=false:=%[|3]
 simp only[h1,h2,h3,Bool.or_false,Bool.false_eq_true,if_false]
 refine ZA (Kd (s:={s with heap:=s.heap.push {cls:=.type "list",data:=.seq ([]:List Value).toArray}}) r ho1 ?_)
 refine ZA (ZQ ?_)
 have sz1:(s.heap.push {cls:=.type "list",data:=.seq ([]:List Value).toArray}).objs.size=s.heap.objs.size+1:=size_push' _ _
 have ho2:((s.heap.push {cls:=.type "list",data:=.seq ([]:List Value).toArray}).push (cu w ps S es.length ep 0)).get? S=some (bQ (dz w) es ps ep):=ZC _ ho1
 have hI2:((s.heap.push {cls:=.type "list",data:=.seq ([]:List Value).toArray}).push (cu w ps S es.length ep 0)).get? (s.heap.objs.size+1)=some (cu w ps S es.length ep 0):=by
  rw[←sz1];exact ZD _ rfl
 have hT2:Shared.TypeIs {s with heap:=(s.heap.push {cls:=.type "list",data:=.seq ([]:List Value).toArray}).push (cu w ps S es.length ep 0)} (.ref S) "set":=⟨_,ho2,rfl⟩
 have hS₁:((s.heap.push {cls:=.type "list",data:=.seq ([]:List Value).toArray}).push (cu w ps S es.length ep 0)).get? s.heap.objs.size=some {cls:=.type "list",data:=.seq ([]:List Value).toArray}:=ZC _ (ZD _ rfl)
 show wpAny (model prog w) A.in1 (Builtin.List.listLengthHint (.ref S)) _ _ {s with heap:=(s.heap.push {cls:=.type "list",data:=.seq ([]:List Value).toArray}).push (cu w ps S es.length ep 0)}
 unfold Builtin.List.listLengthHint
 refine ZA (wpAny_specialOf hT2 F.slot_set_len.lookup ?_)
 have hsp:splitId "set.__len__"=some ("set","__len__"):=by kernel_rfl
 dsimp only
 rw[hsp]
 dsimp only
 refine ZA (wpAny_isInstance hT2 sub_set_self ?_)
 rw[if_neg (show ¬((!true)=true)from y6)]
 rw[if_pos]
 . refine ZA (wpAny_typeOf hT2 ?_)
   dsimp only
   refine ZB ?_
   rw[if_pos]
   . refine ZA (wpAny_rule ?_)
     refine ZA ?_
     show wpAny _ A.in1 (updateSeq s.heap.objs.size (·.push .none)>>=λ _=>updateSeq s.heap.objs.size (·.pop)) _ _ _
     refine ZA (wpAny_updateSeq hS₁ rfl ?_)
     have hS₂:=Heap.get?_update_self (Obj.mapSeq (·.push Value.none)) hS₁ rfl
     refine wpAny_updateSeq hS₂ rfl ?_
     have hS₃:=Heap.get?_update_self (Obj.mapSeq (·.pop)) hS₂ rfl
     have oth:∀b o,b≠s.heap.objs.size->((s.heap.push {cls:=.type "list",data:=.seq ([]:List Value).toArray}).push (cu w ps S es.length ep 0)).get? b=some o->
      ((((s.heap.push {cls:=.type "list",data:=.seq ([]:List Value).toArray}).push (cu w ps S es.length ep 0)).update s.heap.objs.size (Obj.mapSeq (·.push Value.none))).update s.heap.objs.size (Obj.mapSeq (·.pop))).get? b=some o:=
      λ b o hb e=>(Heap.get?_update_other _ _ (Ne.symm hb)).trans ((Heap.get?_update_other _ _ (Ne.symm hb)).trans e)
     have hSI:S≠s.heap.objs.size+1:=w9 (Nat.lt_succ_of_lt hS)
     have hLf:s.heap.objs.size∉[s.heap.objs.size+1,S]:=by
      intro z
      rcases ZJ.mp z with z | z
      . exact absurd z (w9 (Nat.lt_succ_self _))
      . exact hSL (ZL.mp z)
     have hn:es.length≤sizeLine:=by rw[←r.len];exact Nat.le_trans r.seven %[|3]
     rw[sz1]
     refine ZB ⟨plainId_quiet F.plain_extend_loop _,codeAny_extend_loopS (Hm (prog:=prog) (A:=A.in1) (by simpa using hh) (s.heap.objs.size+1) S hSI es ps ep r).toS hn _ hLf _ es.length 0 _ _ _ rfl (Nat.zero_le _)
      ⟨oth _ _ (Nat.ne_of_gt (Nat.lt_succ_self _)) hI2,oth _ _ hSL.symm ho2⟩ hS₃ (ItemsOf.nil _) λ s' acc' c' hm hS' hacc=>?_⟩
     show wpAny _ A (load s.heap.objs.size>>=_) _ _ s'
     refine ZA (wpAny_load hS' ?_)
     obtain⟨h',g',d',tk',os'⟩:=s'
     have eg:g'=s.gens:=hm.gens
     have ed:d'=s.drawn:=hm.drawn
     have eo:os'=s.os:=hm.os
     subst eg;subst ed;subst eo
     have eacc:acc'.toList=(bh w S ep es).toList.map (·.2):=by
      apply List.ext_getElem?
      intro j
      rw[y8,Array.getElem?_toList,Array.getElem?_toList]
      by_cases hj:j<es.length
      . have hj1:j<acc'.size:=by rw[hacc.1];exact hj
        obtain⟨e,he,hv⟩:=hacc.2 j acc'[j] (Array.getElem?_eq_getElem hj1)
        rw[Array.getElem?_eq_getElem hj1,he,←hv];rfl
      . rw[Array.getElem?_eq_none (by rw[hacc.1];omega),Array.getElem?_eq_none (by rw[j7 w S ep r];omega)];rfl
     refine ZB ?_
     show Q acc'.toList _
     rw[eacc]
     refine h h' tk' (λ b o hb e=>?_) ?_
     . refine hm.heap b o ?_ (oth b o (w9 hb) (ZC _ (ZC _ e)))
       intro z
       rcases ZJ.mp z with z | z
       . exact absurd z (w9 hb)
       . exact absurd (ZL.mp z) (w9 (Nat.lt_succ_of_lt hb))
     . exact Nat.le_of_lt (ZE hS')
   . decide
 . decide
end
end RF
namespace RF
open PySem PySem.Spec L2 DL
open PyProof.Rows
theorem Ih{α:Type}{l:List α}(h:l.length=2):∃a b,l=[a,b]:=by
 cases l with
 | nil=>cases h
 | cons x l=>cases l with
   | nil=>cases h
   | cons y l=>cases l with
     | nil=>exact⟨x,y,rfl⟩
     | cons=>simp at h
theorem yg(fin:Bool):∀ns:%[|1],ltF fin ns ns=fin
 | []=>rfl
 | n::ns=>by unfold ltF;rw[if_pos rfl];exact yg fin ns
theorem Ld(ns:%[|1]):ltI ns ns=false:=by unfold ltI;rw[yg];simp
def ltC(c d:Int×%[|1]):Bool:=if c.1=d.1 then ltI c.2 d.2 else decide (c.1<d.1)
section
variable {prog : Program} {w : World} {A : Around} {E : Value -> Shared -> Prop} {s : Shared}
theorem Qg{a b:Addr}{ns ms:%[|1]}{P:PySem.Fin->%[|8]}(hx:dI s.heap (.ref a) ns)(hy:dI s.heap (.ref b) ms)(h:P (.done (.ret (.bool (ltI ns ms)))) s):
 wpAny (model prog w) A (Builtin.«tuple.__lt__» ⟨[.ref a,.ref b],[]⟩) P E s:=by
 obtain⟨a',oa,xs,na,e,hoa,hca,hda,hia⟩:=hx
 cases e
 obtain⟨b',ob,ys,nb,e,hob,hcb,hdb,hib⟩:=hy
 cases e
 have hTb:s.TypeIs (.ref b) "tuple":=⟨ob,hob,hcb⟩
 show wpAny _ _ (isInstance (.ref b) (.type "tuple")>>=_) _ _ s
 refine ZA (wpAny_isInstance hTb isSubtype_tuple_tuple ?_)
 simp only[Bool.not_true,Bool.false_eq_true,if_false]
 refine ZA (wpAny_tupleItemsOf hoa hda ?_)
 refine ZA (wpAny_tupleItemsOf hob hdb ?_)
 refine ZA ?_
 have l1:xs.size=ns.length:=by rw[←Array.length_toList];exact hia.length
 have l2:ys.size=ms.length:=by rw[←Array.length_toList];exact hib.length
 refine wpAny_forIn_list _
  (λ rest r s'=>r.1=none/\s'=s/\∃ns' ms' xs' ys',rest=List.zip xs' ys'/\IntsAre xs' ns'/\IntsAre ys' ms'/\ltF (decide (ns.length<ms.length)) ns' ms'=ltI ns ms)
  _ ?_ ?_ _ _ ⟨rfl,rfl,ns,ms,xs.toList,ys.toList,rfl,hia,hib,rfl⟩
 . rintro⟨u,v⟩ rest r s' ⟨hr,rfl,ns',ms',xs',ys',hz,hx',hy',hdec⟩
   cases hx' with
   | nil=>simp at hz
   | @cons k1 t1 xs'' ns'' hx''=>
     cases hy' with
     | nil=>simp at hz
     | @cons k2 t2 ys'' ms'' hy''=>
       simp only[List.zip_cons_cons,List.cons.injEq,Prod.mk.injEq]at hz
       obtain⟨⟨rfl,rfl⟩,rfl⟩:=hz
       refine ZA (wpAny_eqBool_int ?_)
       unfold ltF at hdec
       by_cases hk:k1=k2
       . subst hk
         rw[beq_self_eq_true]
         simp only[Bool.not_true,Bool.false_eq_true,if_false]
         rw[if_pos rfl]at hdec
         exact ZB ⟨rfl,rfl,_,_,_,_,rfl,hx'',hy'',hdec⟩
       . rw[if_neg hk]at hdec
         rw[show(k1==k2)=false from by simpa using hk]
         simp only[Bool.not_false,if_true]
         rw[←hdec]at h
         refine ZA (wpAny_rule ?_)
         refine ZA (show wpAny _ _ (compareOp .Lt _ _) _ _ _ from wpAny_lt_int ?_)
         exact ZA (ZB (ZB (ZB h)))
 . rintro⟨r1,r2⟩ s' ⟨hr,rfl,ns',ms',xs',ys',hz,hx',hy',hdec⟩
   simp only at hr
   subst hr
   refine ZB ?_
   have hfin:decide (xs.size<ys.size)=ltI ns ms:=by
    rw[←hdec,l1,l2]
    cases hx' with
    | nil=>rfl
    | cons _ _ _=>
      cases hy' with
      | nil=>rfl
      | cons _ _ _=>simp at hz
   show P (.done (.ret (.bool (decide (xs.size<ys.size))))) s'
   rw[hfin];exact h
theorem Gg{u v:Value}{ns ms:%[|1]}{Q:%[|7]}(hu:A.units<cLine)(hx:dI s.heap u ns)(hy:dI s.heap v ms)(h:Q (.bool (ltI ns ms)) s):wpAny (model prog w) A (compareOp .Lt u v) Q E s:=by
 obtain⟨a,oa,_,_,rfl,hoa,hca,_⟩:=id hx
 obtain⟨b,ob,_,_,rfl,hob,hcb,_⟩:=id hy
 exact wpAny_richCompare_same_room (op:=.Lt) ⟨oa,hoa,hca⟩ ⟨ob,hob,hcb⟩ F.slot_tuple_lt
  (ZP F.slot_tuple_lt ⟨oa,hoa,hca⟩ F.entry_tuple_lt (Qg hx hy ⟨_,rfl,(λ e=>nomatch e),h⟩) (F.args_tuple_lt_2 _ _)) hu
theorem G3{b:Bool}{v u:Value}{c d:Int×%[|1]}{Q:Bool->%[|8]}(hu:A.units+2<cLine)(hv:aG s.heap v c)(hw:aG s.heap u d)(h:Q (ltC c d) s):wpAny (model prog w) A (keyLt' (tuples' b) v u) Q E s:=by
 obtain⟨a,o,k,tk,x,rfl,ho,hc,hd,hx⟩:=hv
 obtain⟨a2,o2,k2,tk2,x2,rfl,ho2,hc2,hd2,hx2⟩:=hw
 refine PySem.W.kat_lt ho hd ho2 hd2 ?_
 show PySem.W.KatLex prog w A b _ Q [(Value.int c.1 tk,Value.int d.1 tk2),(x,x2)] 0 s
 refine PySem.W.kat_cons (wpAny_eqBool_int ?_)
 unfold ltC at h
 by_cases e:c.1=d.1
 . rw[e,beq_self_eq_true]
   rw[if_pos e]at h
   refine PySem.W.kat_yes (PySem.W.kat_cons (yx %[|0] hx hx2 prog w _ _ ?_))
   by_cases e2:c.2=d.2
   . rw[ZG e2]
     refine PySem.W.kat_yes (PySem.W.kat_nil ?_)
     rw[e2,Ld]at h
     exact h
   . rw[ZH e2]
     refine PySem.W.kat_no ?_
     rw[show(b&&0+1==0)=false from by cases b<;>rfl]
     exact PySem.W.kat_one _ _ (Gg %[|0] hx hx2 h)
 . rw[show(c.1==d.1)=false from by simpa using e]
   rw[if_neg e]at h
   exact PySem.W.kat_no (O9 h)
def jf:List Value->List (Int×%[|1])->List Value
 | [v1,v2],[c1,c2]=>if ltC c2 c1=true then[v2,v1]else[v1,v2]
 | vs,_=>vs
theorem vG{a:Addr}{vs:List Value}{n:Nat}{cs:List (Int×%[|1])}{P:PySem.Fin->%[|8]}(hu:A.units+2<cLine)(ho:s.heap.get? a=some (seqObj "list" vs.toArray n))
 (hl:vs.length=cs.length)(hr:∀(i:Nat)(v:Value)(c:Int×%[|1]),vs[i]? =some v->cs[i]? =some c->aG s.heap v c)(hsm:vs.length≤2)
 (h:P (.done (.ret .none)) {s with heap:=sortedHeap s.heap a vs (jf vs cs).toArray}):
 wpAny (model prog w) A (Builtin.«list.sort» ⟨[.ref a],[]⟩) P E s:=by
 rw[list_sort_plain]
 have hla:a<s.heap.objs.size:=ZE ho
 have hsl:vs.length≤sizeLine:=Nat.le_trans hsm %[|3]
 refine ZA (listItems_at ho rfl ?_)
 refine ZA (listUpdate_at ho rfl ?_ (by rw[x4];exact hsl) (Nat.zero_le _))
 obtain⟨e1,ho1⟩:∃e1,(s.heap.update a (Obj.mapSeq λ _=>#[])).get? a=some (seqObj "list" #[] e1):=⟨_,get?_update_seq ho (λ _=>#[])⟩
 refine ZA (seqEpoch_at ho1 rfl ?_)
 refine ZA (wpAny_newTuple ?_ (by show vs.length≤_;exact hsl))
 refine ZA (wpAny_newList ?_ (Nat.zero_le _))
 refine ZQ ?_
 have ho6:(((s.heap.update a (Obj.mapSeq λ _=>#[])).push (seqObj "tuple" vs.toArray 0)).push (seqObj "list" #[] 0)).get? a=some (seqObj "list" #[] e1):=by
  rw[Heap.get?_push_ne _ _ _ (by rw[size_push',Heap.size_update];exact w9 (Nat.lt_succ_of_lt hla)),Heap.get?_push_ne _ _ _ (by rw[Heap.size_update];exact w9 hla)]
  exact ho1
 show wpAny (model prog w) A _ P E {s with heap:=((s.heap.update a (Obj.mapSeq λ _=>#[])).push (seqObj "tuple" vs.toArray 0)).push (seqObj "list" #[] 0)}
 dsimp only
 have hout:(vs.toArray.zip vs.toArray).map (·.2)=vs.toArray:=by
  apply Array.toList_inj.mp
  simp[List.map_snd_zip]
 have hr':∀(i:Nat)(v:Value)(c:Int×%[|1]),vs[i]? =some v->cs[i]? =some c->aG (((s.heap.update a (Obj.mapSeq λ _=>#[])).push (seqObj "tuple" vs.toArray 0)).push (seqObj "list" #[] 0)) v c:=λ i v c q1 q2=>(hr i v c q1 q2).keep λ b o e c=>by
  have hba:b≠a:=by
   rintro rfl
   rw[ho]at e;cases e
   exact absurd (show Value.type "list"=Value.type "tuple" from c) %[|3]
  have hlb:b<s.heap.objs.size:=ZE e
  rw[Heap.get?_push_ne _ _ _ (by rw[size_push',Heap.size_update];exact w9 (Nat.lt_succ_of_lt hlb)),Heap.get?_push_ne _ _ _ (by rw[Heap.size_update];exact w9 hlb),Heap.get?_update_ne _ _ _ _ hba]
  exact e
 by_cases h2:vs.toArray.size<2
 . rw [if_pos h2,if_pos h2]
   refine ZA (ZB ?_)
   rw[StateT.run_pure]
   refine ZA (ZB ?_)
   dsimp only
   refine ZA (seqEpoch_at ho6 rfl ?_)
   rw[show arrOf (SortSt.mk' general' (vs.toArray.zip vs.toArray) #[] 7 none)=vs.toArray.zip vs.toArray from rfl,hout]
   refine ZA (listUpdate_at ho6 rfl ?_ (Nat.zero_le _) (by rw[x4];omega))
   simp only[bne_self_eq_false,Bool.false_eq_true,if_false]
   have es:jf vs cs=vs:=by
    cases vs with
    | nil=>unfold jf;simp
    | cons v vs=>cases vs with
      | nil=>unfold jf;simp
      | cons=>simp at h2;omega
   rw[es]at h
   exact ZB h
 . rw [if_neg h2,if_neg h2]
   obtain⟨v1,v2,c1,c2,rfl,rfl⟩:∃v1 v2 c1 c2,vs=[v1,v2]/\cs=[c1,c2]:=by
    obtain⟨v1,v2,rfl⟩:=Ih (l:=vs) (by simp at h2;omega)
    obtain⟨c1,c2,rfl⟩:=Ih (l:=cs) hl.symm
    exact⟨_,_,_,_,rfl,rfl⟩
   have q1:=hr' 0 v1 c1 rfl rfl
   have q2:=hr' 1 v2 c2 rfl rfl
   have q1':=q1
   have q2':=q2
   obtain⟨b1,o1,k1,tk1,u1,rfl,g1,g2,g3,g4⟩:=q1'
   obtain⟨b2,o2,k2,tk2,u2,rfl,f1,f2,f3,f4⟩:=q2'
   refine ZA (PySem.W.kat_kind (T:=.type "int") (PySem.W.KatTups.cons (f:=.int c1.1 tk1) g1 g2 g3 rfl (PySem.W.KatTups.cons (f:=.int c2.1 tk2) f1 f2 f3 rfl PySem.W.KatTups.nil)) (Nat.succ_pos _) (λ v hv=>?_) %[|3] ?_)
   . rcases ZJ.mp hv with rfl | hv
     . exact .now
     . rcases ZJ.mp hv with rfl | hv
       . exact .now
       . cases hv
   have hw:(PySem.W.kas_sort 2).kasWp (PySem.W.kas_ask prog w A (tuples' (Value.type "int" !=Value.type "tuple")) [Value.ref b1,Value.ref b2]) (λ p s'=>s'={s with heap:=((s.heap.update a (Obj.mapSeq λ _=>#[])).push (seqObj "tuple" [Value.ref b1,Value.ref b2].toArray 0)).push (seqObj "list" #[] 0)}/\p=if ltC c2 c1=true then #[1,0]else #[0,1]) {s with heap:=((s.heap.update a (Obj.mapSeq λ _=>#[])).push (seqObj "tuple" [Value.ref b1,Value.ref b2].toArray 0)).push (seqObj "list" #[] 0)}:=by
    show PySem.W.kas_ask prog w A _ [Value.ref b1,Value.ref b2] 1 0 _ _
    unfold PySem.W.kas_ask
    refine G3 (s:={s with heap:=((s.heap.update a (Obj.mapSeq λ _=>#[])).push (seqObj "tuple" [Value.ref b1,Value.ref b2].toArray 0)).push (seqObj "list" #[] 0)}) hu q2 q1 ?_
    cases hlt:ltC c2 c1 with
    | true=>exact⟨rfl,rfl⟩
    | false=>exact⟨rfl,rfl⟩
   refine ZA (wpAny_mono (PySem.W.kat_run (Q:=λ st' s'=>s'={s with heap:=((s.heap.update a (Obj.mapSeq λ _=>#[])).push (seqObj "tuple" [Value.ref b1,Value.ref b2].toArray 0)).push (seqObj "list" #[] 0)}/\failedOf st'=none/\(arrOf st').map (·.2)=(jf [Value.ref b1,Value.ref b2] [c1,c2]).toArray) rfl (y9 2) (by show 2<64;decide) (λ p st' s' a1 a2 a3 a4=>⟨a4.1,a3,?_⟩) hw) ?_ λ _ _ e=>e)
   . rw[PySem.W.kat_snds rfl a2,a4.2]
     show _=(if ltC c2 c1=true then[Value.ref b2,Value.ref b1]else[Value.ref b1,Value.ref b2]).toArray
     by_cases hlt:ltC c2 c1=true
     . rw[if_pos hlt,if_pos hlt];rfl
     . rw[if_neg hlt,if_neg hlt];rfl
   . rintro⟨⟨⟩,st'⟩ s' ⟨rfl,hf,hp⟩
     dsimp only
     refine ZA (seqEpoch_at ho6 rfl ?_)
     rw[hp]
     have hz:(jf [Value.ref b1,Value.ref b2] [c1,c2]).length=2:=by
      show(if ltC c2 c1=true then[Value.ref b2,Value.ref b1]else[Value.ref b1,Value.ref b2]).length=2
      split<;>rfl
     refine ZA (listUpdate_at ho6 rfl ?_ (Nat.zero_le _) (by rw[x4,hz];exact Nat.le_succ_of_le hsl))
     rw[hf]
     simp only[bne_self_eq_false,Bool.false_eq_true,if_false]
     exact ZB h
end
theorem uD{f g:Bool}(hfg:f=true->g=false):∀{ns ms:%[|1]},ltF f ns ms=true->ltF g ms ns=false
 | [],[],h=>by unfold ltF at h ⊢;exact hfg h
 | [],_::_,h=>by unfold ltF at h ⊢;exact hfg h
 | _::_,[],h=>by unfold ltF at h ⊢;exact hfg h
 | n ::ns,m::ms,h=>by
   unfold ltF at h ⊢
   by_cases e:n=m
   . rw[if_pos e]at h;rw[if_pos e.symm];exact uD hfg h
   . rw[if_neg e]at h;rw[if_neg (λ z=>e z.symm)]
     have:=ZF h
     exact ZH %[|0]
theorem Ju{ns ms:%[|1]}(h:ltI ns ms=true):ltI ms ns=false:=by
 unfold ltI at h ⊢
 exact uD (λ h1=>ZH (by have:=ZF h1;omega)) h
theorem uK{f g:Bool}:∀{ns ms:%[|1]},(ns.length<ms.length->f=true)->(ms.length<ns.length->g=true)->ltF f ns ms=false->ltF g ms ns=false->ns=ms
 | [],[],_,_,_,_=>rfl
 | [],_::_,hf,_,h,_=>by unfold ltF at h;rw[hf (by simp)]at h;cases h
 | _::_,[],_,hg,_,h=>by unfold ltF at h;rw[hg (by simp)]at h;cases h
 | n ::ns,m::ms,hf,hg,h1,h2=>by
   unfold ltF at h1 h2
   by_cases e:n=m
   . rw[if_pos e]at h1;rw[if_pos e.symm]at h2
     rw[e,uK (λ z=>hf (by simpa using z)) (λ z=>hg (by simpa using z)) h1 h2]
   . rw[if_neg e]at h1;rw[if_neg (λ z=>e z.symm)]at h2
     have a:=of_decide_eq_false h1
     have b:=of_decide_eq_false h2
     omega
theorem uX{ns ms:%[|1]}(h1:ltI ns ms=false)(h2:ltI ms ns=false):ns=ms:=by
 unfold ltI at h1 h2
 exact uK (λ h=>ZG h) (λ h=>ZG h) h1 h2
theorem uE{c d:Int×%[|1]}(h:ltC c d=true):ltC d c=false:=by
 unfold ltC at h ⊢
 by_cases e:c.1=d.1
 . rw[if_pos e]at h;rw[if_pos e.symm];exact Ju h
 . rw[if_neg e]at h;rw[if_neg (λ z=>e z.symm)]
   have:=ZF h
   exact ZH %[|0]
theorem Jw{c d:Int×%[|1]}(h1:ltC c d=false)(h2:ltC d c=false):c=d:=by
 unfold ltC at h1 h2
 by_cases e:c.1=d.1
 . rw[if_pos e]at h1;rw[if_pos e.symm]at h2
   exact Prod.ext e (uX h1 h2)
 . rw[if_neg e]at h1;rw[if_neg (λ z=>e z.symm)]at h2
   have a:=of_decide_eq_false h1
   have b:=of_decide_eq_false h2
   exact absurd %[|0] e
def sset{α:Type}(f:α->Int×%[|1]):List α->List α
 | [x,y]=>if f y=f x then[x]else if ltC (f y) (f x)=true then[y,x]else[x,y]
 | xs=>xs
section
variable {prog : Program} {w : World} {A : Around} {E : Value -> Shared -> Prop} {s : Shared}
theorem Bq{S:Addr}{ep:Nat}{its:List Value}{cs:List (Int×%[|1])}{es:List (Int×Value)}{ps:List Nat}(hl:its.length=cs.length)(h2:its.length≤2)(h:Lies prog w its cs its.length es ps):
 Rise es ps/\∃ds:List (Int×%[|1]),((bh w S ep es).toList.map (·.2)).length=ds.length/\(∀(i:Nat)(v:Value)(c:Int×%[|1]),((bh w S ep es).toList.map (·.2))[i]? =some v->ds[i]? =some c->(v,c)∈its.zip cs)/\
  jf ((bh w S ep es).toList.map (·.2)) ds=(sset (·.2) (its.zip cs)).map (·.1):=by
 match its,cs,hl,h2,h with
 | [],[],_,_,h=>
   obtain⟨rfl,rfl⟩:=h
   have r:Rise [] []:=⟨rfl,.inl rfl⟩
   refine⟨r,[],?_⟩
   rcases fC w S ep r with⟨_,h2⟩ | ⟨e,h1,_⟩ | ⟨e1,e2,h1,_⟩
   . rw[h2];exact⟨rfl,λ i v c e=>by simp at e,rfl⟩
   . cases h1
   . cases h1
 | [v],[c],_,_,h=>
   obtain⟨v',c',e1,e2,rfl,rfl⟩:=h
   cases e1;cases e2
   have r:Rise [(hC prog w c,v)] [SetTable.bits (hC prog w c) % 8]:=⟨rfl,.inr (.inl ⟨_,rfl⟩)⟩
   refine⟨r,[c],?_⟩
   rcases fC w S ep r with⟨h1,_⟩ | ⟨e,h1,h2⟩ | ⟨e1,e2,h1,_⟩
   . cases h1
   . cases h1
     rw[h2]
     refine⟨rfl,λ i v' c' e1 e2=>?_,rfl⟩
     match i with
     | 0=>simp at e1 e2;simp[e1,e2]
     | i+1=>simp at e1
   . cases h1
 | [v0, v], [c0,c],_,_,h=>
   obtain⟨v0',v',c0',c',e1,e2,h⟩:=h
   cases e1;cases e2
   rcases h with⟨rfl,rfl,rfl⟩ | ⟨nc,e1,e2,v1,v2,j1,j2,rfl,rfl,hj,h8,hv⟩
   . have r:Rise [(hC prog w c,v0)] [SetTable.bits (hC prog w c) % 8]:=⟨rfl,.inr (.inl ⟨_,rfl⟩)⟩
     refine⟨r,[c],?_⟩
     rcases fC w S ep r with⟨h1,_⟩ | ⟨e,h1,h2⟩ | ⟨e1,e2,h1,_⟩
     . cases h1
     . cases h1
       rw[h2]
       refine⟨rfl,λ i v' c' e1 e2=>?_,?_⟩
       . match i with
         | 0=>simp at e1 e2;simp[e1,e2]
         | i+1=>simp at e1
       . show[v0]=_
         simp[sset]
     . cases h1
   . have r :Rise [(e1,v1),(e2,v2)] [j1,j2]:=⟨rfl,.inr (.inr ⟨_,_,rfl,hj⟩)⟩
     refine⟨r,?_⟩
     have key:∀(x y:Value)(p q:Int×%[|1]),(bh w S ep [(e1,v1),(e2,v2)]).toList.map (·.2)=[x,y]->((x,p)=(v0,c0)/\(y,q)=(v,c)∨(x,p)=(v,c)/\(y,q)=(v0,c0))->
      ∃ ds:List (Int×%[|1]),((bh w S ep [(e1,v1),(e2,v2)]).toList.map (·.2)).length=ds.length/\(∀(i:Nat)(v':Value)(c':Int×%[|1]),((bh w S ep [(e1,v1),(e2,v2)]).toList.map (·.2))[i]? =some v'->ds[i]? =some c'->(v',c')∈[v0,v].zip [c0,c])/\
        jf ((bh w S ep [(e1,v1),(e2,v2)]).toList.map (·.2)) ds=(sset (·.2) ([v0,v].zip [c0,c])).map (·.1):=by
      intro x y p q hm hxy
      rw[hm]
      refine⟨[p,q],rfl,λ i v' c' g1 g2=>?_,?_⟩
      . match i with
        | 0=>
          simp at g1 g2;subst g1 g2
          rcases hxy with⟨a,b⟩ | ⟨a,b⟩<;>(rw[a];simp)
        | 1=>
          simp at g1 g2;subst g1 g2
          rcases hxy with⟨a,b⟩ | ⟨a,b⟩<;>(rw[b];simp)
        | i+2=>simp at g1
      . show(if ltC q p=true then[y,x]else[x,y])=(if c=c0 then[(v0,c0)]else if ltC c c0=true then[(v,c),(v0,c0)]else[(v0,c0),(v,c)]).map (·.1)
        rw[if_neg nc]
        rcases hxy with⟨a,b⟩ | ⟨a,b⟩
        . cases a;cases b
          split<;>rfl
        . cases a;cases b
          cases h1:ltC c0 c with
          | true=>rw[uE h1];rfl
          | false=>
            cases h2:ltC c c0 with
            | true=>rfl
            | false=>exact absurd (Jw h2 h1) nc
     rcases fC w S ep r with⟨h1,_⟩ | ⟨e,h1,_⟩ | ⟨f1,f2,h1,h2⟩
     . cases h1
     . cases h1
     . cases h1
       rcases hv with⟨rfl,rfl⟩ | ⟨rfl,rfl⟩
       . rcases h2 with h2 | h2
         . exact key v1 v2 c0 c (by rw[h2];rfl) (.inl ⟨rfl,rfl⟩)
         . exact key v2 v1 c c0 (by rw[h2];rfl) (.inr ⟨rfl,rfl⟩)
       . rcases h2 with h2 | h2
         . exact key v1 v2 c c0 (by rw[h2];rfl) (.inr ⟨rfl,rfl⟩)
         . exact key v2 v1 c0 c (by rw[h2];rfl) (.inl ⟨rfl,rfl⟩)
 | _::_::_::_,_,_,h2,_=>simp at h2
theorem EY{S:Addr}{vs:List Value}{cs:List (Int×%[|1])}{es:List (Int×Value)}{ps:List Nat}{ep:Nat}{Q:%[|7]}(hh:A.handled=none)(hu:A.units+8<cLine)(r:Rise es ps)(ho:s.heap.get? S=some (bQ (dz w) es ps ep))
 (hvs:vs=(bh w S ep es).toList.map (·.2))(hl:vs.length=cs.length)(h2:vs.length≤2)(hc:∀(i:Nat)(v:Value)(c:Int×%[|1]),vs[i]? =some v->cs[i]? =some c->aG s.heap v c)
 (h:∀h' tk a e,(∀b o,b<s.heap.objs.size->s.heap.get? b=some o->h'.get? b=some o)->s.heap.objs.size≤a->h'.get? a=some (seqObj "list" (jf vs cs).toArray e)->Q (.ref a) {s with heap:=h',toks:=tk}):
 wpAny (model prog w) A (call (.builtin "sorted") [.ref S]) Q E s:=by
 refine Calls.call_function_entry kind_sorted plain_sorted entry_sorted (args_sorted1 _) ?_
 unfold Builtin.«sorted»
 refine ZA (m:=checkCount "sorted" 1 1 _) (ZB ?_)
 refine ZA (Bh (by simpa using hh) r ho λ h' tk k1 k2=>?_)
 rw[←hvs]
 have hsl:vs.length≤sizeLine:=Nat.le_trans h2 %[|3]
 refine ZA (wpAny_newList ?_ hsl)
 have hoL:(h'.push (seqObj "list" vs.toArray 0)).get? h'.objs.size=some (seqObj "list" vs.toArray 0):=ZD _ rfl
 have keep:∀b o,s.heap.get? b=some o->(h'.push (seqObj "list" vs.toArray 0)).get? b=some o:=λ b o q=>ZC _ (k1 b o (ZE q) q)
 show wpAny _ _ _ _ _ {s with heap:=h'.push (seqObj "list" vs.toArray 0),toks:=tk}
 refine ZA (ZQ (ZP slot_list_sort ⟨_,hoL,rfl⟩ entry_list_sort (vG ?_ hoL hl (λ i v c e1 e2=>(hc i v c e1 e2).keep λ b o e _=>keep b o e) h2 ⟨_,rfl,?_⟩) (args_list_sort _)))
 . show A.units+1+1+2<cLine
   omega
 . obtain⟨e,he⟩:=sortedHeap_at (out:=(jf vs cs).toArray) hoL
   refine ZB ⟨_,rfl,h _ tk _ e (λ b o hb q=>?_) k2 he⟩
   have hlt:b<h'.objs.size:=x9 hb k2
   rw[sortedHeap_old (w9 hlt) (by rw[size_push'];exact Nat.lt_succ_of_lt hlt)]
   exact keep b o q
end
def cD(c:Int×%[|1]):D:=.tup [.int c.1,.tup (c.2.map .int)]
section
variable {X : Cx}
theorem jz {pins:List (Addr×Obj)}{σ:DL.St}{H:Hp}{s:Shared}{O:Own}(I:%[|5]){y:V}{u:Value}{c:Int×%[|1]}(r:Rep X.K O H y (cD c))(ru:RelV y u):aG s.heap u c:=by
 unfold cD at r
 cases r with
 | @tup a xs _ h1 q1=>
   cases ru
   obtain⟨js,rv,⟨o,p1,p2,n,p3⟩,hz⟩:=I.tuple h1.sq
   cases q1 with
   | cons r1 t1=>
     cases t1 with
     | cons r2 t2=>
       cases t2
       cases rv with
       | cons a1 b1=>
         cases b1 with
         | cons a2 b2=>
           cases b2
           cases r1
           obtain⟨tk,rfl⟩:=a1
           cases r2 with
           | @tup a' xs' _ h1' q1'=>
             cases a2
             obtain⟨js',rv',⟨o',p1',p2',n',p3'⟩,hz'⟩:=I.tuple h1'.sq
             have ex:=q1'.ints
             subst ex
             exact⟨a,o,n,tk,_,rfl,p1,p2,p3,_,o',_,n',rfl,p1',p2',p3',intsAre_of rv'⟩
theorem JC {K :PySem.W.Frag}{O:Own}{H:Hp}{cs:List (Int×%[|1])}{its:List Value}{xs:List V}(h2:cs.length≤2)(rv:Vals xs its)(hq:Reps K O H xs (cs.map cD)):
 ∃ys,Vals ys ((sset (·.2) (its.zip cs)).map (·.1))/\Reps K O H ys ((sset id cs).map cD)/\ys.length≤2:=by
 rcases cs with _ | ⟨c0,_ | ⟨c,_ | ⟨c',cs⟩⟩⟩
 . cases hq;cases rv;exact⟨[],.nil,.nil,Nat.zero_le _⟩
 . cases hq with
   | cons b1 t=>
     cases t
     cases rv with
     | cons a1 t=>
       cases t
       exact⟨[_],.cons a1 .nil,.cons b1 .nil,Nat.le_succ _⟩
 . cases hq with
   | cons b1 t=>
     cases t with
     | cons b2 t=>
       cases t
       cases rv with
       | cons a1 t=>
         cases t with
         | cons a2 t=>
           cases t
           rename_i y0 y x0 x
           have key:∃ys,Vals ys ((if c=c0 then[(x0,c0)]else if ltC c c0=true then[(x,c),(x0,c0)]else[(x0,c0),(x,c)]).map (·.1))/\Reps K O H ys ((if c=c0 then[c0]else if ltC c c0=true then[c,c0]else[c0,c]).map cD)/\ys.length≤2:=by
            by_cases e1:c=c0
            . rw[if_pos e1,if_pos e1];exact⟨[y0],.cons a1 .nil,.cons b1 .nil,Nat.le_succ _⟩
            . rw[if_neg e1,if_neg e1]
              by_cases e2:ltC c c0=true
              . rw[if_pos e2,if_pos e2];exact⟨[y,y0],.cons a2 (.cons a1 .nil),.cons b2 (.cons b1 .nil),y9 _⟩
              . rw[if_neg e2,if_neg e2];exact⟨[y0,y],.cons a1 (.cons a2 .nil),.cons b1 (.cons b2 .nil),y9 _⟩
           exact key
 . simp at h2
theorem Av{cs:List (Int×%[|1])}{S:Store}{W:WD}{d:D}(hc:X.calm=true)(hu:X.A.units+60<cLine)(h2:cs.length≤2)(hd:d=.lst (cs.map cD)∨∃k,d=.loc k/\S[k]? =some (cs.map cD))
 (w:∀(O:Own)(H:Hp)(p:Addr)(ys:List V),StOk X.K O H S->H p=none->Reps X.K O H ys ((sset id cs).map cD)->QG X.K O H W (.ref p) (upd H p (.lst ys)))
 {pins:Pins}{s:Shared}{σ:DL.St}{H:Hp}{O:Own}{v:V}{u:Value}(I:%[|5])(st:StOk X.K O H S)(r':Rep X.K O H v d)(ru':RelV v u):
 wpAny %[|6] X.A (call (.type "set") [u]) (λ u1 s1=>wpAny %[|6] X.A (call (.builtin "sorted") [u1]) (EP X pins σ (QG X.K O H W)) X.xe s1) X.xe s:=by
 have main:∀(a:Addr)(xs:List V),v=.ref a->SqL X.K H a xs->Reps X.K O H xs (cs.map cD)->wpAny %[|6] X.A (call (.type "set") [u]) (λ u1 s1=>wpAny %[|6] X.A (call (.builtin "sorted") [u1]) (EP X pins σ (QG X.K O H W)) X.xe s1) X.xe s:=by
  rintro a xs rfl hs hq
  cases ru'
  obtain⟨its,rv,pl,hz⟩:=I.list hs
  have l1:xs.length=cs.length:=by rw[hq.length,y7]
  have l2:its.length=cs.length:=by rw[←rv.length,l1]
  have cel:∀(i:Nat)(x:Value)(c:Int×%[|1]),its[i]? =some x->cs[i]? =some c->aG s.heap x c:=by
   intro i x c e1 e2
   have e3:(cs.map cD)[i]? =some (cD c):=by rw[y8,e2];rfl
   obtain⟨y,hy,ry⟩:=hq.get e3
   obtain⟨x',hx',rx⟩:=pM rv hy
   rw[e1]at hx';cases hx'
   exact jz I ry rx
  refine xV (I.ok.hd hc) %[|0] pl.isList l2 cel %[|0] λ h1 tk es ps ep g1 lies k1=>?_
  obtain⟨rise,ds,m1,m2,m3⟩:=Bq (S:=s.heap.objs.size) (ep:=ep) l2 %[|0] lies
  have hlt:∀b o,s.heap.get? b=some o->h1.get? b=some o:=λ b o e=>k1 b o (ZE e) e
  have sz1:s.heap.objs.size≤h1.objs.size:=Nat.le_of_lt (ZE g1)
  have m4:((bh X.w s.heap.objs.size ep es).toList.map (·.2)).length≤2:=by
   rw[y7,Array.length_toList,j7 _ _ _ rise]
   rcases rise.sh with e | ⟨j,e⟩ | ⟨j,k,e,_⟩<;>(have:=rise.len;rw[e]at this;simp at this;omega)
  refine EY (s:={s with heap:=h1,toks:=tk}) (I.ok.hd hc) %[|0] rise g1 rfl m1 m4 (λ i x c e1 e2=>?_) λ h2' tk2 p e k2 hp he=>?_
  . have hm:=m2 i x c e1 e2
    obtain⟨j,hj⟩:=ZR hm
    rw[List.getElem?_zip_eq_some]at hj
    exact(cel j x c hj.1 hj.2).keep λ b o e _=>hlt b o e
  . rw[m3]at he
    have hp':s.heap.objs.size≤p:=Nat.le_trans sz1 hp
    have hpn:H p=none:=I.hok.fresh hp'
    obtain⟨ys,vy,ry,ly⟩:=JC h2 rv hq
    have hys:ys.length≤sizeLine:=Nat.le_trans ly %[|3]
    refine⟨.ref p,_,I.laid (t':=tk2) (λ b o q=>k2 b o (x9 (ZE q) sz1) (hlt b o q)) hp' (show aK X.prog X.w _ _ _ (.lst ys)from⟨hys,_,e,vy,he⟩),rfl,w O H p ys st hpn ry⟩
 rcases hd with rfl | ⟨k,rfl,hk⟩
 . cases r' with
   | @lst a xs _ h1 q1=>exact main a xs rfl h1.sq q1
 . cases r' with
   | @loc p _ h1=>
     obtain⟨xs,hx,q1⟩:=st.obj k p _ h1 hk
     exact main p xs rfl (SqL.of hx) q1
theorem Ew{cs:List (Int×%[|1])}{S:Store}{W:WD}{d:D}(hc:X.calm=true)(hu:X.A.units+60<cLine)(h2:cs.length≤2)(hd:d=.lst (cs.map cD)∨∃k,d=.loc k/\S[k]? =some (cs.map cD))(w:W (.lst ((sset id cs).map cD)) S)
 {pins:Pins}{s:Shared}{σ:DL.St}{H:Hp}{O:Own}{v:V}{u:Value}(I:%[|5])(st:StOk X.K O H S)(r':Rep X.K O H v d)(ru':RelV v u):
 wpAny %[|6] X.A (call (.type "set") [u]) (λ u1 s1=>wpAny %[|6] X.A (call (.builtin "sorted") [u1]) (EP X pins σ (QG X.K O H W)) X.xe s1) X.xe s:=
 Av hc hu h2 hd (λ O H p ys st hp r=>jx w st hp r) I st r' ru'
end
section
variable {Ω : Wd}
def Ex.sset(hm:Ω.mg "sorted"=none)(hm2:Ω.mg "set"=none)(a:Ex Ω):Ex Ω where
 lev:=a.lev
 chk top N nm e:=match e with
  | .Call (.Name y _) [.Call (.Name z _) [b] [] _] [] _=>(y=="sorted")&&((z=="set")&&(glb nm "sorted"&&(glb nm "set"&&(okE b&&a.chk top N nm b))))
  | _=>false
 wp Γ S W:=a.wp Γ S λ d S1=>∃cs:List (Int×%[|1]),cs.length≤2/\(d=.lst (cs.map cD)∨∃k,d=.loc k/\S1[k]? =some (cs.map cD))/\W (.lst ((RF.sset id cs).map cD)) S1
 sound:=by
  intro X r top N nm e Γ S W A hl hc hw
  split at hc
  . rename_i y p z p' b pos' pos
    obtain⟨h1,hc⟩:=aa hc
    obtain⟨h2,hc⟩:=aa hc
    obtain⟨h3,hc⟩:=aa hc
    obtain⟨h4,hc⟩:=aa hc
    obtain⟨h5,h6⟩:=aa hc
    have e1:=ZI h1
    have e2:=ZI h2
    subst e1 e2
    intro pins s σ H O I env st
    refine wpAny_Call_Name_kw (cz I (A.glb h3) (by rw[A.g];exact hm) (show bootBuiltins "sorted"=some (.builtin "sorted")from by decide+kernel) ?_ %[|3] %[|3])
    refine PyProof.Rows.callWith_builtin1 ?_ rfl rfl
    show wpAny _ _ (spliced ((false,eval _ X.env)::backTo pos (starEach [] X.env))) _ _ s
    refine Calls.spliced_cons ?_
    refine wpAny_Call_Name_kw (cz I (A.glb h4) (by rw[A.g];exact hm2) (show bootBuiltins "set"=some (.type "set")from by decide+kernel) ?_ %[|3] %[|3])
    refine PyProof.Rows.callWith_type1 ?_ (aA h5 _ _) rfl
    rw[aA h5 [] X.env]
    show wpAny _ _ (spliced ((false,eval b X.env)::backTo pos' (starEach [] X.env))) _ _ s
    refine Calls.spliced_cons (thn (a.sound A hl h6 hw pins s σ H O I env st) λ u s1 hq_=>?_)
    obtain⟨v,H1,I1,r1,O1,x,S1,hb,st1,ok1,rep1⟩:=hq_
    obtain⟨cs,c1,c2,c3⟩:=hb
    refine Calls.spliced_nil ?_
    refine thn (Ew A.calm A.hu c1 c2 c3 I1 ok1 rep1 r1) λ u2 s2 q=>?_
    refine Calls.spliced_nil ?_
    exact thn q λ _ _ q=>dY st1 q
  . exact fE hc
end
def uc:V->List V->Hp->VK->Prop:=λ x vs H Q=>∃l xs i y,x=.ref l/\vs=[.int i,y]/\H l=some (.lst xs)/\0≤i/\i<2 ^ 62/\xs.length<sizeLine/\Q .non (upd H l (.lst (xs.take i.toNat++y::xs.drop i.toNat)))
section
variable {X : Cx}
theorem Hz{xs:List V}{us:List Value}(r:Vals xs us)(n:Nat):Vals (xs.take n) (us.take n):=by
 induction r generalizing n with
 | nil=>simp;exact .nil
 | cons a _ ih=>cases n with
   | zero=>simp;exact .nil
   | succ n=>exact .cons a (ih n)
theorem Iu{xs:List V}{us:List Value}(r:Vals xs us)(n:Nat):Vals (xs.drop n) (us.drop n):=by
 induction r generalizing n with
 | nil=>simp;exact .nil
 | cons a t ih=>cases n with
   | zero=>exact .cons a t
   | succ n=>exact ih n
theorem GR:MtM X "list.insert" uc:=by
 intro pins s σ H x vs v us Q I rx rv h
 obtain⟨l,xs,i,y,rfl,rfl,hH,h0,h1,hz,q⟩:=h
 cases rx
 cases rv with
 | cons a1 t=>
   cases t with
   | cons a2 t=>
     cases t
     obtain⟨tk,rfl⟩:=a1
     obtain⟨z,its,n,r,hl,e⟩:=I.lstM hH
     rename_i u
     refine call_meets F.slot_list_insert ⟨_,e,rfl⟩ F.entry_list_insert (F.args_list_insert_3 _ _ _) (AutoSeq1.list_insert_list_int_val_1 l its.toArray n i tk u (by rw[fitsIndex_both %[|0] %[|0]];decide) (by rw[x4];omega)) ⟨e,?_⟩
     refine⟨.non,_,I.lset (its':=its.take i.toNat++u::its.drop i.toNat) hH e ?_ ((Hz r _).append (.cons a2 (Iu r _))) ?_,rfl,q⟩
     . apply Array.toList_inj.mp
       simp only[if_neg (show ¬i<0 by omega)]
       by_cases hle:i.toNat≤its.length
       . simp[Nat.min_eq_left hle]
         exact List.take_of_length_le (by simp)
       . have e2:min i.toNat its.length=its.length:=%[|0]
         have e3:its.take i.toNat=its:=List.take_of_length_le %[|0]
         have e4:its.drop i.toNat=[]:=List.drop_eq_nil_of_le %[|0]
         simp[e2,e3,e4]
     . rw[x6,List.length_cons,List.length_take,List.length_drop]
       omega
theorem uZ{K:PySem.W.Frag}{O:Own}{H:Hp}{vs:List V}{ds:List D}(r:Reps K O H vs ds)(n:Nat):Reps K O H (vs.take n) (ds.take n):=by
 match vs,ds,r,n with
 | [],[],.nil,_=>simp;exact .nil
 | _::_,_::_,.cons a t,0=>simp;exact .nil
 | _::_,_::_,.cons a t,n+1=>exact .cons a (uZ t n)
theorem uA{K:PySem.W.Frag}{O:Own}{H:Hp}{vs:List V}{ds:List D}(r:Reps K O H vs ds)(n:Nat):Reps K O H (vs.drop n) (ds.drop n):=by
 match vs,ds,r,n with
 | [],[],.nil,_=>simp;exact .nil
 | _::_,_::_,.cons a t,0=>exact .cons a t
 | _::_,_::_,.cons a t,n+1=>exact uA t n
theorem Ug{Γ:Gam}{S:Store}{o e:Expr}{es:List Expr}{name:Str}{id:String}{r:V->List V->Hp->VK->Prop}{apos cpos:Pos}{W:WD}(slot:Slot "list" name id)(hty:typeOf (.builtin id)=pure (.type "method_descriptor"))(hm:MtM X id r)(hmo:∀{x:V}{vs:List V}{H:Hp}{Q Q':VK},r x vs H Q->(∀v H',Q v H'->Q' v H')->r x vs H Q')
 (h:Ev X Γ S o λ x S1=>∃k,x=.loc k/\EvA X Γ S1 (e::es) λ ds S2=>∃ds0,S2[k]? =some ds0/\∀(O:Own)(H:Hp)(a:Addr)(xs vs:List V),O.A[k]? =some (a,false)->H a=some (.lst xs)->Reps X.K O H xs ds0->Reps X.K O H vs ds->StOk X.K O H S2->r (.ref a) vs H (QG X.K O H W))
 (hbase:attributeBase o name X.env (eval o X.env)=eval o X.env)
 (hfew:((backTo cpos (starEach (e::es) X.env)).all (λ x=>!x.1)&&(backToKw cpos (keywordEach [] X.env)).all (λ x=>x.1.isSome)
  &&decide ((e::es).length+([]:List Keyword).length+(if([]:List Keyword).isEmpty then 0 else 1)<30))=true)
 (hline:(apos.endLine==cpos.line)=true)(hs:starEach (e::es) X.env=(false,eval e X.env)::starEach es X.env)(hplain:(backTo cpos (starEach es X.env)).any (·.1)=false):Ev X Γ S (.Call (.Attribute o name apos) (e::es) [] cpos) W:=by
 intro pins s σ H O I env st
 have hty':∀(O1:Own)(x:D)(v:V)(H1:Hp)(S1:Store),(∃k,x=.loc k)->StOk X.K O1 H1 S1->Rep X.K O1 H1 v x->tyV X.K "list" v H1:=by
  rintro O1 x v H1 S1 ⟨k,rfl⟩ ok r
  cases r with
  | @loc a _ ha=>
    have hl:k<S1.length:=by rw[←ok.len];exact(z0.mp ha).1
    obtain⟨xs,hx,_⟩:=ok.obj k a S1[k] ha (y3 hl)
    exact .inl ⟨rfl,xs,SqL.of hx⟩
 have hA:PA X (e::es) (λ σ H Q=>∃O Γ S W',EnvOk X.K O H σ Γ/\StOk X.K O H S/\EvA X Γ S (e::es) W'/\∀vs H',QA X.K O H W' vs H'->Q vs H'):=by
  rintro pos pins s σ H Q I ⟨O,Γ,S,W',env,st,he,k⟩
  exact thn (he pos pins s σ H O I env st) λ us s1 ⟨vs,H1,I1,r1,q⟩=>⟨vs,H1,I1,r1,k vs H1 q⟩
 refine Nf (T:="list") PySem.F.plainAttrs_list slot hty hm (h.pe) hA hbase hfew hline hs hplain pins s σ H _ I ⟨O,env,st,λ v H' q=>?_⟩
 obtain⟨O1,x,S1,⟨k,rfl,he⟩,st1,ok1,rep1⟩:=q
 refine⟨hty' O1 _ v H' S1 ⟨k,rfl⟩ ok1 rep1,O1,Γ,S1,_,env.mono st1,ok1,he,λ vs H2 q2=>?_⟩
 obtain⟨O2,ds,S2,⟨ds0,hk,w⟩,st2,ok2,rep2⟩:=q2
 have r':=rep1.mono st2
 cases r' with
 | @loc a _ ha=>
   obtain⟨xs,hx,q1⟩:=ok2.obj k a ds0 ha hk
   exact hmo (w O2 H2 a xs vs ha hx q1 rep2 ok2) λ v' H3 q3=>q3.pre (st1.trans st2)
theorem zF{x:V}{vs:List V}{H:Hp}{Q Q':VK}(h:uc x vs H Q)(k:∀v H',Q v H'->Q' v H'):uc x vs H Q':=by
 obtain⟨l,xs,i,y,e1,e2,e3,e4,e5,e6,q⟩:=h
 exact⟨l,xs,i,y,e1,e2,e3,e4,e5,e6,k _ _ q⟩
end
section
variable {Ω : Wd}
theorem VP{e f:Expr}{env:Env}{cpos:Pos}(h:okE e=true)(h':okE f=true):((backTo cpos (starEach [e,f] env)).all (λ x=>!x.1)&&(backToKw cpos (keywordEach [] env)).all (λ x=>x.1.isSome)
 &&decide ([e,f].length+([]:List Keyword).length+(if([]:List Keyword).isEmpty then 0 else 1)<30))=true:=by
 rw[aA h [f] env,aA h' [] env];rfl
def Ex.m_insert(o a b:Ex Ω):Ex Ω where
 lev:=max o.lev (max a.lev b.lev)
 chk top N nm e:=match e with | .Call (.Attribute x m p) [y,z] [] q=>(m==("insert":Str))&&(nameE x&&((p.endLine==q.line)&&(okE y&&(okE z&&(o.chk top N nm x&&(a.chk top N nm y&&b.chk top N nm z)))))) | _=>false
 wp Γ S W:=o.wp Γ S λ x S1=>match x with | .loc k=>a.wp Γ S1 λ d S2=>b.wp Γ S2 λ d' S3=>∃(i:Nat) (ds:List D),d=.int i/\S3[k]? =some ds/\i≤ds.length/\ds.length<1000000/\W .non (S3.set k (ds.take i++d'::ds.drop i)) | _=>False
 sound := by
  intro X r top N nm e Γ S W A hl hc hw
  obtain⟨l1,l2⟩:=lv2 hl
  obtain⟨l2,l3⟩:=lv2 l2
  split at hc
  . rename_i x m p y z q
    obtain⟨h1,g⟩:=aa hc
    obtain⟨h2,g⟩:=aa g
    obtain⟨h3,g⟩:=aa g
    obtain⟨h4,g⟩:=aa g
    obtain⟨h5,g⟩:=aa g
    obtain⟨h6,g⟩:=aa g
    obtain⟨h7,h8⟩:=aa g
    have e:=ZI h1
    subst e
    refine Ug F.slot_list_insert F.type_list_insert GR zF ((o.sound A l1 h6 hw).mono λ x S1 q=>?_) ?_ (VP h4 h5) h3 (aA h4 _ _) (by rw[aA h5 [] _];rfl)
    . cases x<;>first | exact q.elim | skip
      refine⟨_,rfl,cG ((a.sound A l2 h7 q).mono λ d S2 q=>cG ((b.sound A l3 h8 q).mono λ d' S3 q=>jD ?_) (aA h5 _ _)) (aA h4 _ _)⟩
      obtain⟨i,ds,rfl,hk,hi,hz,w⟩:=q
      refine⟨ds,hk,λ O H a xs vs ha hx rx rv st=>?_⟩
      cases rv with
      | cons r1 t=>
        cases t with
        | cons r2 t=>
          cases t
          cases r1
          refine⟨a,xs,_,_,rfl,rfl,hx,%[|0],%[|0],by rw[rx.length];exact x9 hz %[|3],O,.non,_,w,Step.put (bZ ha) _,?_,.non⟩
          rw[Int.toNat_natCast]
          exact st.put ha ((uZ rx i).append (.cons r2 (uA rx i)))
    . cases x<;>first | rfl | exact ff h2
  . exact ff hc
end
end RF
namespace XE
open PySem PySem.Spec L2 DL RF
open PyProof.Rows
abbrev WX:=Str->%[|4]
variable {Ω : Wd}
end XE
set_option maxHeartbeats 400000
set_option maxHeartbeats 1000000
namespace XE
open PySem PySem.Spec L2 DL RF
open PyProof.Rows
variable {Ω : Wd}
end XE
namespace RF
open PySem PySem.Spec L2 DL
open PyProof.Rows
section
variable {Ω : Wd}
def unl(ns:%[|1]):Nat:=(firstMet (λ i=>ns.getD i 0) ns.length).length
theorem xR{X:Cx}{ns:%[|1]}{S:Store}{W:WD}{d:D}(hc:X.calm=true)(hb:ns.length+1<scanBound)(hd:jj S d=some (ns.map .int))(w:W (.int (unl ns)) S)
 {pins:Pins}{s:Shared}{σ:DL.St}{H:Hp}{O:Own}{v:V}{u:Value}(I:%[|5])(st:StOk X.K O H S)(r':Rep X.K O H v d)(ru':RelV v u):
 wpAny %[|6] X.A (call (.type "set") [u]) (λ u1 s1=>wpAny %[|6] X.A (call (.builtin "len") [u1]) (EP X pins σ (QG X.K O H W)) X.xe s1) X.xe s:=by
 obtain⟨a,xs,rfl,hs,hq⟩:=wA (pins:=pins) (s:=s) (σ:=σ) (X:=X) st r' hd
 cases ru'
 obtain⟨its,rv,pl,hz⟩:=I.list hs
 have ex:xs=ns.map V.int:=hq.ints
 have hi:IntsAre its ns:=by
  rw[ex]at rv
  clear pl hz hs hq ex w hb hd
  induction ns generalizing its with
  | nil=>cases rv;exact .nil
  | cons n ns ih=>
    cases rv with
    | cons r1 r2=>obtain⟨t,rfl⟩:=r1;constructor;exact ih _ r2
 have hl:its.length=ns.length:=IntsAre.length hi
 refine call_set_list (items:=its.toArray) (ns:=ns) (I.ok.hd hc) pl.isList (by simpa using hi) (by rw[x4,hl];exact hb) λ h' tk hS hk=>?_
 have ez:its.toArray.size=ns.length:=by rw[x4,hl]
 rw[ez]at hS
 obtain⟨o,es,ep,t,ho,hex,hd',_,_,hsz,hf,hn⟩:=hS
 have I1:Inv X pins σ H {s with heap:=h',toks:=tk}:=I.kept (t':=tk) λ b o e=>hk b o (ZE e) e
 refine call_len_set (s:={s with heap:=h',toks:=tk}) ho hex hd' hf (by unfold scanBound at hsz;omega) ?_
 rw[hn]
 exact⟨.int _,H,I1.tok _,⟨_,rfl⟩,QG.here w st (.int _)⟩
def Ex.lset(hm:Ω.mg "len"=none)(hm2:Ω.mg "set"=none)(a:Ex Ω):Ex Ω where
 lev:=a.lev
 chk top N nm e:=iz e λ y es=>tM es λ c=>iz c λ z bs=>tM bs λ b=>(y=="len")&&((z=="set")&&(glb nm "len"&&(glb nm "set"&&(okE b&&a.chk top N nm b))))
 wp Γ S W:=a.wp Γ S λ d S1=>∃ns:%[|1],jj S1 d=some (ns.map .int)/\ns.length+1<scanBound/\W (.int (unl ns)) S1
 sound:=by
  intro X r top N nm e Γ S W A hl hc hw
  obtain⟨y,p,es,pos,rfl,hc_1⟩:=dD hc
  obtain⟨c,rfl,hc_2⟩:=jk hc_1
  obtain⟨z,p',bs,pos',rfl,hc_3⟩:=dD hc_2
  obtain⟨b,rfl,hc⟩:=jk hc_3
  obtain⟨h1,hc⟩:=aa hc
  obtain⟨h2,hc⟩:=aa hc
  obtain⟨h3,hc⟩:=aa hc
  obtain⟨h4,hc⟩:=aa hc
  obtain⟨h5,h6⟩:=aa hc
  have e1:=ZI h1
  have e2:=ZI h2
  subst e1 e2
  intro pins s σ H O I env st
  refine wpAny_Call_Name_kw (cz I (A.glb h3) (by rw[A.g];exact hm) (show bootBuiltins "len"=some (.builtin "len")from by decide+kernel) ?_ %[|3] %[|3])
  refine PyProof.Rows.callWith_builtin1 ?_ rfl rfl
  show wpAny _ _ (spliced ((false,eval _ X.env)::backTo pos (starEach [] X.env))) _ _ s
  refine Calls.spliced_cons ?_
  refine wpAny_Call_Name_kw (cz I (A.glb h4) (by rw[A.g];exact hm2) (show bootBuiltins "set"=some (.type "set")from by decide+kernel) ?_ %[|3] %[|3])
  refine PyProof.Rows.callWith_type1 ?_ (aA h5 _ _) rfl
  rw[aA h5 [] X.env]
  show wpAny _ _ (spliced ((false,eval b X.env)::backTo pos' (starEach [] X.env))) _ _ s
  refine Calls.spliced_cons (thn (a.sound A hl h6 hw pins s σ H O I env st) λ u s1 hq_=>?_)
  obtain⟨v,H1,I1,r1,O1,x,S1,hb,st1,ok1,rep1⟩:=hq_
  obtain⟨ns,c1,c2,c3⟩:=hb
  refine Calls.spliced_nil ?_
  refine thn (xR A.calm c2 c1 c3 I1 ok1 rep1 r1) λ u2 s2 q=>?_
  refine Calls.spliced_nil ?_
  exact thn q λ _ _ q=>dY st1 q
end
end RF
namespace XE
open PySem PySem.Spec L2 DL RF
open PyProof.Rows
variable {Ω : Wd}
end XE
namespace RF
open PySem PySem.Spec L2 DL
open PyProof.Rows
variable {Ω : Wd}
end RF
namespace RF
open PySem PySem.Spec L2 DL
open PyProof.Rows
variable {Ω : Wd}
theorem Ip(l1 l2:Addr)(xs ys:Array Value):
 Meets (Builtin.«zip.__new__» ⟨[.type "zip",.ref l1,.ref l2],[]⟩) (λ _ R s=>s.heap.IsTuple l1 xs/\s.heap.IsList l2 ys/\
  R (.ok (.ret (.ref (zh s.heap "tuple_iterator" "list_iterator" l1 l2).objs.size))) {s with heap:=zhz s.heap "tuple_iterator" "list_iterator" l1 l2}):=
 .of_wp λ prog w A R s h=>by
  obtain⟨hp,g,d,tk,os⟩:=s;obtain⟨a1,a2,h⟩:=h
  have hsub:=sub_zip
  have b1:Heap.IsTuple (Shared.heap ⟨hp,g,d,tk,os⟩) l1 xs:=a1
  have b2:Heap.IsList (Shared.heap ⟨hp.push {cls:=.type "tuple_iterator",data:=.fields #[.ref l1,.int 0 0]},g,d,tk,os⟩) l2 ys:=Heap.IsList.push a2 _
  wp_walk using wpAny_pyIter_tuple b1,wpAny_pyIter_list b2
  exact⟨_,rfl,h⟩
theorem Ka{X:Cx}{Γ:Gam}{S:Store}{pos:Pos}{e1 e2:Expr}{elts:List Expr}{k:Nat}{tp p:Pos}{W:List D->%[|4]}(h:Ev X Γ S e1 λ d S1=>Ev X Γ S1 e2 λ d' S2=>∃ds es,d=.tup ds/\d'=.lst es/\W (List.zipWith (λ x y=>.tup [x,y]) ds es) S2)(hm:X.mg "zip"=none)(hg:Gl X "zip")
 (hs:starEach [e1,e2] X.env=(false,eval e1 X.env)::starEach [e2] X.env)(hs2:starEach [e2] X.env=[(false,eval e2 X.env)]):
 ItW X Γ S (.Tuple elts k tp) (.Call (.Name "zip" p) [e1,e2] [] pos) W:=by
 intro pins s σ H O I env st
 have hA:EvA X Γ S [e1,e2] λ dd S2=>∃ds es,dd=[.tup ds,.lst es]/\W (List.zipWith (λ x y=>.tup [x,y]) ds es) S2:=
  cG (h.mono λ d S1 h1=>cG (h1.mono λ d' S2 ⟨ds,es,a,b,w⟩=>jD ⟨ds,es,by rw[a,b],w⟩) hs2) hs
 refine Call_ (cz I hg hm boot_zip (PyProof.Rows.callWith_type1 (thn (hA pos pins s σ H O I env st) λ us s1 hq_=>?_) hs (by rw[hs2];rfl)))
 obtain⟨vs,H1,I1,r1,O1,dd,S1,⟨ds,es,ed,w⟩,st1,ok1,rep⟩:=hq_
 subst ed
 cases rep with
 | cons ra rb=>
   cases rb with
   | cons rb rc=>
     cases rc
     obtain⟨u,u2,rfl,ru,ru2⟩:=vals2 r1
     cases ra with
     | @tup a xs _ h1 q1=>
       cases rb with
       | @lst b ys _ h2 q2=>
         cases ru
         cases ru2
         obtain⟨its,rv,pl,hz⟩:=I1.tuple h1.sq
         obtain⟨its2,rv2,pl2,hz2⟩:=I1.list h2.sq
         obtain⟨z4,p1,p2,p3,p4,p5,kp⟩:=zip_parts s1.heap "tuple_iterator" "list_iterator" a b
         refine callType_new F.called_zip %[|3] (F.typeCall_zip_2 _ _) (F.newCall_zip_2 _ _) (λ obj=>F.args_object_init_3 obj _ _) F.entry_zip_new (Ip a b its.toArray its2.toArray) ⟨pl,pl2.isList,?_⟩
         show _/\_
         rw[z4]
         refine⟨⟨_,p1,rfl⟩,Ib (Ep X.prog X.w X.K) (Nj X.prog X.w X.K) I1 ⟨_,p4,rfl,rfl⟩ ⟨_,p5,rfl,rfl⟩ ⟨O1,_,S1,w,st1,ok1,qC _ _ λ O' H' cv=>⟨xs,ys,(h1.conv cv).sq,q1.conv cv,(h2.conv cv).sq,q2.conv cv⟩⟩⟩
def Itb.zipTL(hm:Ω.mg "zip"=none)(a b:Ex Ω):Itb Ω where
 lev:=max a.lev b.lev
 chk top N nm tg e:=match tg,e with | .Tuple ..,.Call (.Name y _) [l,r] [] _=>(y==("zip":Str))&&(glb nm "zip"&&((okE l&&okE r)&&(a.chk top N nm l&&b.chk top N nm r))) | _,_=>false
 wp Γ S W:=a.wp Γ S λ d S1=>b.wp Γ S1 λ d' S2=>match d,d' with | .tup ds,.lst es=>W (List.zipWith (λ x y=>.tup [x,y]) ds es) S2 | _,_=>False
 sound:=by
  intro X r top N nm tg e Γ S W A hl hc hw
  obtain⟨l1,l2⟩:=lv2 hl
  split at hc
  . obtain⟨h1,h2⟩:=aa hc
    obtain⟨h2,h3⟩:=aa h2
    obtain⟨h3,h4⟩:=aa h3
    obtain⟨h5,h6⟩:=aa h3
    obtain⟨h7,h8⟩:=aa h4
    have e:=ZI h1
    subst e
    refine Ka ((a.sound A l1 h7 hw).mono λ d S1 q=>(b.sound A l2 h8 q).mono λ d' S2 q=>?_) (by rw[A.g];exact hm) (A.glb h2) (aA h5 _ _) (aA h6 [] _)
    cases d<;>first | exact q.elim | (cases d'<;>first | exact⟨_,_,rfl,rfl,q⟩ | exact q.elim)
  . exact fE hc
end RF
namespace RF
open PySem PySem.Spec L2 DL
open PyProof.Rows
variable {Ω : Wd}
end RF
namespace RF
open PySem PySem.Spec L2 DL
open PyProof.Rows
variable {Ω : Wd}
end RF
namespace RF
open PySem PySem.Spec L2 DL
open PyProof.Rows
def aW{α:Type}[DecidableEq α](kvs:List (α×D))(ns:α):Option D:=(kvs.find? λ kv=>decide (kv.1=ns)).map (·.2)
def putD{α:Type}[DecidableEq α](kvs:List (α×D))(ns:α)(d:D):List (α×D):=if(kvs.any λ kv=>decide (kv.1=ns))=true then kvs.map λ kv=>if kv.1=ns then(kv.1,d)else kv else kvs++[(ns,d)]
theorem oK:∀{a b:%[|1]},a.map D.int=b.map D.int->a=b
 | [],[],_=>rfl
 | [],_::_,h=>by cases h
 | _::_,[],h=>by cases h
 | x::a,y::b,h=>by
   have h:=List.cons.inj h
   rw[D.int.inj h.1,oK h.2]
theorem _root_.DL.DOb.typ{X:Cx}{pins:Pins}{σ:DL.St}{H:Hp}{s:Shared}{O:Own}{a:Addr}{ds:List D}(b:DOb X.K O H a ds)(nb:Abv X.K a)(I:%[|5]):
 s.TypeIs (.ref a) "dict"/\(∀b,Value.ref a=.ref b->∃ob,s.heap.get? b=some ob/\ob.dict=none)/\(a==sysModules)=false:=by
 cases b with
 | t kvs e r=>exact Q6 I (.inr ⟨kvs,.inl e⟩)
 | c ys n e r=>
   obtain⟨⟨_,hd,_,o,es,ep,h3,h4,_⟩,_,_⟩:=(show aK X.prog X.w H s.heap a (.ext (JW a ys))from I.hok a _ e)
   refine⟨⟨o,h3,h4.1⟩,λ b q=>?_,hd⟩
   cases q
   exact⟨o,h3,h4.2.1⟩
 | o ys n e r=>
   obtain⟨⟨_,hd,_,o,es,ep,h3,h4,_⟩,_,_⟩:=(show aK X.prog X.w H s.heap a (.ext (Le a ys))from I.hok a _ e)
   refine⟨⟨o,h3,h4.1⟩,λ b q=>?_,hd⟩
   cases q
   exact⟨o,h3,h4.2.1⟩
 | m ys d' hd e r=>
   obtain⟨⟨_,hd,_,o,es,h3,h4,_⟩,_,_⟩:=(show aK X.prog X.w H s.heap a (.ext (bD a ys))from I.hok a _ e)
   refine⟨⟨o,h3,h4.1⟩,λ b q=>?_,hd⟩
   cases q
   exact⟨o,h3,h4.2.1⟩
 | p _ n=>exact absurd nb n
section
variable {Ω : Wd}
theorem At.isLocal{X:Cx}{r:Nat}{top:Bool}{N:%[|2]}{nm:Nm}{x:Str}(A:At Ω X r top N nm)(h:(nm.lookup x==some .local)=true):X.env.scope.names.lookup x=some .local:=by
 have e:nm.lookup x=some .local:=ZI h
 rcases A.look x _ e with q | ⟨q,_⟩
 . exact q
 . exact nomatch q
theorem Qe{x y:Str}{px py pt p2:Pos}{kt k2:Nat}{a b:Expr}{env:Env}(hk:env.scope.kind=.function)(hx:env.scope.names.lookup x=some .local)(hy:env.scope.names.lookup y=some .local)(hl:(py.line==px.line)=true)(hn:(x==y)=false)(hb:okE b=true)(ha:okE a=true)(hz:foldedForSure 8 a=false)(hz2:constantsAlone 8 a=false):
 swappedStores [.Tuple [.Name x px,.Name y py] kt pt] (.Tuple [a,b] k2 p2) env=pure (some [x,y]):=by
 have e0:env.blockKind=.function:=by unfold Env.blockKind;rw[hk];rfl
 have e1:env.kindOf x=some .local:=hx
 have e2:env.kindOf y=some .local:=hy
 have e4:∀f:Expr->Bool,(∀c,okE c=true->f c=false)->List.any [a,b] f=false:=λ f h=>by simp[h a ha,h b hb]
 have e5:([Expr.Name x px,Expr.Name y py].filterMap fun
  | .Name id pos=>if env.kindOf id==some .local&&pos.line==px.line then some id else none
  | _=>none)=[x,y]:=by
  simp only[List.filterMap_cons,List.filterMap_nil,e1,e2,hl,beq_self_eq_true,Bool.and_self,if_true]
 have hn':(y==x)=false:=by cases h:(y==x)with | false=>rfl | true=>rw[ZI h]at hn;rw[beq_self_eq_true]at hn;cases hn
 have e6:([x,y].eraseDups).length=2:=by
  simp[List.eraseDups_cons,hn',hn]
 unfold swappedStores
 show(if(!(true||_)||_||(env.blockKind !=.function))=true then _ else _)=_
 rw[e0]
 show(if(List.any [a,b] _)=true then _ else _)=_
 refine(if_neg (λ h=>y6 ((e4 _ λ c hc=>by cases c<;>first | rfl | exact ff hc).symm.trans h))).trans ?_
 have tail:∀l:%[|2],l=[x,y]->∀c d:Bool,c=false->d=false->∀(u:Sem PUnit),(if((l.length !=2)||(l.eraseDups.length !=l.length))=true then(pure none:Sem (Option %[|2]))else if c=true then pure none else if d=true then(u>>=λ _=>pure (some l))else pure (some l))=pure (some [x,y]):=by
  rintro l rfl c d rfl rfl u
  rw[e6]
  rfl
 exact tail _ e5 _ _ (by show((foldedForSure 8 a)&&_)=false;rw[hz];rfl) (by show((constantsAlone 8 a)&&_)=false;rw[hz2];rfl) _
def Sm.par(i j:Nat)(as:Ar Ω):Sm Ω where
 lev:=as.lev
 chk top N nm st:=match st with
  | .Assign [.Tuple [.Name x p,.Name y q] _ _] (.Tuple [a,b] k t) _=>(N[i]? ==some x)&&((N[j]? ==some y)&&(((nm.lookup x==some .local)&&(nm.lookup y==some .local))&&(((q.line==p.line)&&(!(x==y)&&((okE b&&okE a)&&(!(foldedForSure 8 a)&& !(constantsAlone 8 a)))))&&as.chk top N nm [a,b])))
  | _=>false
 wp Γ S W:=as.wp Γ S λ ds S1=>match ds with | [d1,d2]=>W.nx ((Γ.set i (some d1)).set j (some d2)) S1 | _=>False
 sound := by
  intro X r top N nm st Γ S W A hl hc hw
  split at hc
  . rename_i x p y q kt pt a b k t spos
    obtain⟨h1,hc⟩:=aa hc
    obtain⟨h2,hc⟩:=aa hc
    obtain⟨h3,hc⟩:=aa hc
    obtain⟨hc,h8⟩:=aa hc
    obtain⟨h3,h4⟩:=aa h3
    obtain⟨h5,hc⟩:=aa hc
    obtain⟨h6,hc⟩:=aa hc
    obtain⟨h7,hc⟩:=aa hc
    obtain⟨h7,h7'⟩:=aa h7
    obtain⟨h9,h9'⟩:=aa hc
    have nt:∀{c:Bool},(!c)=true->c=false:=λ{c} h=>by cases c<;>first | rfl | exact ff h
    have hne:(x==y)=false:=by cases h:(x==y)with | false=>rfl | true=>rw[h]at h6;exact ff h6
    have hi:X.N[i]? =some x:=by rw[A.n];exact ZI h1
    have hj:X.N[j]? =some y:=by rw[A.n];exact ZI h2
    have hij:i≠j:=λ e=>by
     subst e
     rw[hi]at hj
     cases hj
     rw[beq_self_eq_true]at hne
     cases hne
    intro pins s σ H O I env ok
    refine RG A.calm (by rw[A.n];exact A.nd) hi hj hij (A.isLocal h3) (A.isLocal h4) ((as.sound A hl h8 hw).pa) (Qe A.kind (A.isLocal h3) (A.isLocal h4) h5 hne h7 h7' (nt h9) (nt h9')) rfl pins s σ H _ I ⟨O,env,ok,λ vs H1 qa=>?_⟩
    obtain⟨O1,ds,S1,w,st1,ok1,reps⟩:=qa
    split at w
    . cases reps with
      | cons r1 t=>
        cases t with
        | cons r2 t=>
          cases t
          exact⟨_,_,rfl,O1,_,S1,w,st1,ok1,((env.mono st1).set r1 i).set r2 j⟩
    . exact w.elim
  . exact ff hc
end
abbrev Kc:=List ((Int×%[|1])×D)
def encC(kv:(Int×%[|1])×D):D:=.tup [cD kv.1,kv.2]
theorem SN{c d:Int×%[|1]}(h:cD c=cD d):c=d:=by
 unfold cD at h
 have h:=D.tup.inj h
 have h1:=D.int.inj (List.cons.inj h).1
 have h2:=D.tup.inj (List.cons.inj (List.cons.inj h).2).1
 exact Prod.ext h1 (oK h2)
theorem Lr{h:Heap}{v:Value}{c d:Int×%[|1]}(x:aG h v c)(y:aG h v d):c=d:=by
 obtain⟨b,o,k,tk,u,rfl,ho,hc,hd,hu⟩:=x
 obtain⟨b2,o2,k2,tk2,u2,e,ho2,hc2,hd2,hu2⟩:=y
 cases e
 obtain rfl:o=o2:=Option.some.inj (ho.symm.trans ho2)
 have e1:=hd.symm.trans hd2
 injection e1 with e1 _
 have e2:[Value.int c.1 tk,u]=[Value.int d.1 tk2,u2]:=congrArg Array.toList e1
 injection e2 with e3 e4
 injection e3 with e3 _
 injection e4 with e4 _
 subst e4
 exact Prod.ext e3 (zV hu hu2)
theorem Gv{h h':Heap}{v:Value}{c:Int×%[|1]}{d:Addr}{o:Obj}{es ep}(hc:aG h v c)(ho:h.get? d=some o)(hd:o.data=.dict es ep)(hs:Heap.SameBut d h h'):aG h' v c:=by
 obtain⟨b,o1,n,tk,u,e1,e2,e3,e4,b',o',xs,n',e5,e6,e7,e8,e9⟩:=hc
 have k:∀(b:Addr)(o1:Obj)(xs:Array Value)(n:Nat),h.get? b=some o1->o1.data=.seq xs n->h'.get? b=some o1:=λ b o1 xs n g1 g2=>by
  refine(hs.2 b ?_).trans g1
  rintro rfl
  obtain rfl:o1=o:=Option.some.inj (g1.symm.trans ho)
  rw[hd]at g2
  exact nomatch g2
 exact⟨b,o1,n,tk,u,e1,k _ _ _ _ e2 e4,e3,e4,b',o',xs,n',e5,k _ _ _ _ e6 e8,e7,e8,e9⟩
def aY(prog:Program)(w:World):HeapKind prog w (Int×%[|1]) where
 is h c a:=aG h (.ref a) c
 hash:=hC0
 draws c:=c.2.length+3
 room A:=A.units+5<cLine
 inj hx hy:=Lr hx hy
 keeps x ho hd hs:=Gv x ho hd hs
 pyHash hu hk h:=uI hu hk h
 eqBool:=λ{A E s x y a b Q} hu hx hy h=>wQ %[|0] hx hy prog w E Q h
 quiet hk h:=mK (n:=6) hk h
section
variable {K : PySem.W.Frag} {O : Own} {H : Hp}
theorem _root_.DL.Kcs.inv{ys:Cy}{kv:(Int×%[|1])×D}{kcs:Kc}(r:Kcs K O H ys ((kv::kcs).map encC)):∃b u v ys',ys=(kv.1,b,u)::ys'/\Rep K O H (.ref b) (cD kv.1)/\RelV v u/\Rep K O H v kv.2/\Kcs K O H ys' (kcs.map encC):=by
 have r:Kcs K O H ys (.tup [cD kv.1,kv.2]::kcs.map encC):=r
 generalize hx:cD kv.1=x at r
 cases r with
 | @cons c b u v _ _ ys' _ e rk rv rd t=>
   subst hx
   have e:=SN (d:=c) e
   subst e
   exact⟨b,u,v,ys',rfl,rk,rv,rd,t⟩
theorem _root_.DL.Kcs.length{ys:Cy}{kcs:Kc}(r:Kcs K O H ys (kcs.map encC)):ys.length=kcs.length:=by
 induction kcs generalizing ys with
 | nil=>cases r;rfl
 | cons kv kcs ih=>
   obtain⟨b,u,v,ys',rfl,_,_,_,t⟩:=r.inv
   rw[List.length_cons,List.length_cons,ih t]
theorem _root_.DL.Kcs.look{ys:Cy}{kcs:Kc}(r:Kcs K O H ys (kcs.map encC))(c:Int×%[|1]):(aW kcs c=none/\atKey ys c=none)∨∃d b u v,aW kcs c=some d/\atKey ys c=some (b,u)/\RelV v u/\Rep K O H v d:=by
 induction kcs generalizing ys with
 | nil=>cases r;exact .inl ⟨rfl,rfl⟩
 | cons kv kcs ih=>
   obtain⟨b,u,v,ys',rfl,rk,rv,rd,t⟩:=r.inv
   by_cases e:kv.1=c
   . exact .inr ⟨kv.2,b,u,v,by simp[aW,e],by simp[atKey,e],rv,rd⟩
   . have e1:aW (kv::kcs) c=aW kcs c:=by simp[aW,List.find?_cons,e]
     have e2:atKey ((kv.1,b,u)::ys') c=atKey ys' c:=by simp[atKey,List.find?_cons,e]
     rw[e1,e2]
     exact ih t
theorem JT{α:Type}[DecidableEq α](kcs:List (α×D))(c:α):(kcs.any λ kv=>decide (kv.1=c))=(aW kcs c).isSome:=by
 induction kcs with
 | nil=>rfl
 | cons a l ih=>
   unfold aW at ih ⊢
   rw[List.any_cons,List.find?_cons,ih]
   cases decide (a.1=c)<;>rfl
theorem _root_.DL.Kcs.put{ys:Cy}{kcs:Kc}(r:Kcs K O H ys (kcs.map encC)){c:Int×%[|1]}{b:Addr}{u:Value}{v:V}{d:D}(rk:Rep K O H (.ref b) (cD c))(rv:RelV v u)(rd:Rep K O H v d):Kcs K O H (storedH ys c b u) ((putD kcs c d).map encC):=by
 have e:(kcs.any λ kv=>decide (kv.1=c))=(atKey ys c).isSome:=by
  rw[JT]
  rcases r.look c with⟨e1,e2⟩ | ⟨d,b,u,v,e1,e2,_⟩<;>rw[e1,e2]<;>rfl
 unfold putD storedH
 rw[e]
 split
 . rename_i hz
   clear e hz
   induction kcs generalizing ys with
   | nil=>cases r;exact .nil
   | cons kv kcs ih=>
     obtain⟨b',u',v',ys',rfl,rk',rv',rd',t⟩:=r.inv
     rw[List.map_cons,List.map_cons,List.map_cons]
     by_cases e:kv.1=c
     . have e1:putAt c u (kv.1,b',u')=(kv.1,b',u):=by unfold putAt;rw[if_pos e]
       rw[e1,if_pos e]
       exact .cons rfl rk' rv rd (ih t)
     . have e1:putAt c u (kv.1,b',u')=(kv.1,b',u'):=by unfold putAt;rw[if_neg e]
       rw[e1,if_neg e]
       exact .cons rfl rk' rv' rd' (ih t)
 . rename_i hz
   clear e hz
   induction kcs generalizing ys with
   | nil=>cases r;exact .cons rfl rk rv rd .nil
   | cons kv kcs ih=>
     obtain⟨b',u',v',ys',rfl,rk',rv',rd',t⟩:=r.inv
     exact .cons rfl rk' rv' rd' (ih t)
theorem Od{X:Cx}{pins:Pins}{σ:DL.St}{s:Shared}(I:%[|5]){ys:Cy}{kcs:Kc}(r:Kcs X.K O H ys (kcs.map encC)):∀x∈ys,aG s.heap (.ref x.2.1) x.1:=by
 induction kcs generalizing ys with
 | nil=>cases r;intro x hx;cases hx
 | cons kv kcs ih=>
   obtain⟨b,u,v,ys',rfl,rk,rv,rd,t⟩:=r.inv
   intro x hx
   rcases ZJ.mp hx with rfl | hx
   . exact jz I rk rfl
   . exact ih t x hx
theorem nJ{v:V}{ds:List D}(r:Rep K O H v (.tup ds)):∃b,v=.ref b:=by cases r;exact⟨_,rfl⟩
theorem Gx(ys:Cy)(c:Int×%[|1])(b:Addr)(u:Value):(storedH ys c b u).length≤ys.length+1:=by
 unfold storedH
 split<;>simp
end
def lq:Bool->Nat->D
 | true,k=>.dlo k
 | false,k=>.loc k
def OwQ(n:Nat)(W:WD):WD:=λ d S1=>W d S1∨∃(q:Bool) (J:List (List D)) (S':Store) (k:Nat) (ds:List D),d=lq q k/\S1=S'++J/\n≤S'.length/\S'.length≤k/\S1[k]? =some ds/\aj ds=true/\flat S'/\W (lq q S'.length) (S'++[ds])
theorem QG.owq{K:PySem.W.Frag}{O:Own}{H H':Hp}{W:WD}{v:V}{n:Nat}(hn:O.A.length=n)(q:QG K O H (OwQ n W) v H'):QG K O H W v H':=by
 obtain⟨O',d,S1,w,st,ok,r⟩:=q
 rcases w with w | ⟨q,J,S',k,ds,rfl,rfl,hl,hk,he,hd,hS,w⟩
 . exact⟨O',d,S1,w,st,ok,r⟩
 . obtain⟨a,rfl,ha,hq⟩:∃a,v=.ref a/\O'.A[k]? =some (a,q)/\(q=true->Abv K a):=by
    cases q
    . cases r;exact⟨_,rfl,by assumption,λ z=>nomatch z⟩
    . cases r;exact⟨_,rfl,by assumption,λ _=>by assumption⟩
   . obtain⟨st2,_,_,na⟩:=gr st ok %[|0] hS
     have hna:=na k a %[|0] ha
     have lt:(O'.A.take S'.length).length=S'.length:=by have:=ok.len;simp at this ⊢;omega
     have sub:∀b,¬O'.has b->¬(⟨O'.A.take S'.length++[(a,q)],O'.B⟩:Own).has b:=λ b hb z=>hb (z.imp (λ z=>by
      rw[bM]at z
      rcases ZK.mp z with z | z
      . exact gH z
      . rw[show b=a from by simpa using z];exact bZ ha) id)
     have hAt:∀(j:Nat),j<S'.length->(O'.A.take S'.length++[(a,q)])[j]? =O'.A[j]?:=λ j hj=>by
      rw[x8 %[|0],List.getElem?_take,if_pos hj]
     have hEnd:(O'.A.take S'.length++[(a,q)])[S'.length]? =some (a,q):=by
      rw[List.getElem?_append_right %[|0],lt];simp
     have ran:∀(j:Nat)(es:List D),(S'++[ds])[j]? =some es->(j<S'.length/\S'[j]? =some es)∨(j=S'.length/\es=ds):=λ j es e=>by
      rcases Nat.lt_trichotomy j S'.length with h | h | h
      . rw[x8 h]at e;exact .inl ⟨h,e⟩
      . subst h;rw[List.getElem?_append_right (y9 _)]at e;simp at e;exact .inr ⟨rfl,e.symm⟩
      . rw[List.getElem?_eq_none (by simp;omega)]at e;cases e
     refine⟨⟨O'.A.take S'.length++[(a,q)],O'.B⟩,lq q S'.length,S'++[ds],w,⟨st2.kept,st2.dom,?_,st2.hid⟩,⟨?_,by simp[lt],λ j b es e1 e2=>?_,λ j b es e1 e2=>?_,λ b hb=>?_,ok.hidden⟩,by cases q with | false=>exact .loc hEnd | true=>exact .dlo hEnd (hq rfl)⟩
     . obtain⟨N,eN,fN⟩:=st2.ext
       obtain⟨N',eN',fN'⟩:=st.ext
       have eN:O'.A.take S'.length=O.A++N:=eN
       refine⟨N++[(a,q)],by show O'.A.take S'.length++[(a,q)]=_;rw[eN,List.append_assoc],λ b hb=>?_⟩
       rw[bM]at hb
       rcases ZK.mp hb with hb | hb
       . exact fN b hb
       . rw[show b=a from by simpa using hb]
         rw[eN',List.getElem?_append_right %[|0]]at ha
         exact fN' a (bZ ha)
     . show(adr (O'.A.take S'.length++[(a,q)])).Nodup
       rw[bM,List.nodup_append]
       refine⟨?_,by simp[adr],λ x hx y hy=>?_⟩
       . show(List.map _ (List.take _ _)).Nodup
         rw[List.map_take]
         exact ok.nd.sublist (List.take_sublist _ _)
       . rw[show y=a from by simpa using hy]
         exact λ z=>hna (.inl (z▸hx))
     . rcases ran j es e2 with⟨hj,e2⟩ | ⟨rfl,rfl⟩
       . have e1:(O'.A.take S'.length++[(a,q)])[j]? =some (b,false):=e1
         rw[hAt j hj]at e1
         obtain⟨ys,hy,r'⟩:=ok.obj j b es e1 (by rw[x8 hj];exact e2)
         exact⟨ys,hy,b7 sub (hS es (y4 e2)) r'⟩
       . have e1:(O'.A.take S'.length++[(a,q)])[S'.length]? =some (b,false):=e1
         rw[hEnd]at e1
         cases e1
         obtain⟨xs,hx,q1⟩:=ok.obj k a es ha he
         exact⟨xs,hx,b7 sub hd q1⟩
     . rcases ran j es e2 with⟨hj,e2⟩ | ⟨rfl,rfl⟩
       . have e1:(O'.A.take S'.length++[(a,q)])[j]? =some (b,true):=e1
         rw[hAt j hj]at e1
         exact qd sub (hS es (y4 e2)) (ok.dob j b es e1 (by rw[x8 hj];exact e2))
       . have e1:(O'.A.take S'.length++[(a,q)])[S'.length]? =some (b,true):=e1
         rw[hEnd]at e1
         cases e1
         exact qd sub hd (ok.dob k a es ha he)
     . have hb:b∈adr (O'.A.take S'.length++[(a,q)]):=hb
       rw[bM]at hb
       rcases ZK.mp hb with hb | hb
       . exact ok.apart b (gH hb)
       . rw[show b=a from by simpa using hb];exact ok.apart a (bZ ha)
section
variable {Ω : Wd}
def Bl.owq(b:Bl Ω):Bl Ω where
 lev:=b.lev
 chk:=b.chk
 wp Γ S W:=b.wp Γ S {W with rt:=OwQ S.length W.rt}
 sound:=by
  intro X r top N nm sts Γ S W A hl hc hw pins s σ H O I env ok
  refine thn (b.sound A hl hc hw pins s σ H O I env ok) λ f s' q=>?_
  cases f with
  | next=>exact q
  | brk=>exact q
  | cont=>exact q
  | ret u=>obtain⟨v,σ',H',I',r,q⟩:=q;exact⟨v,σ',H',I',r,QG.owq ok.len q⟩
end
open PySem PySem.W PyProof.Rows
section
variable {N : Nat} {lt : Nat -> Nat -> Bool}
def aR(N:Nat)(lt:Nat->Nat->Bool){α:Type}:KasT α->(α->Prop)->Prop
 | .ret a,R=>R a
 | .ask i j k,R=>i<N/\j<N/\aR N lt (k (lt i j)) R
theorem aR.bind{α β:Type}{f:α->KasT β}{R:β->Prop}:∀t:KasT α,aR N lt t (λ a=>aR N lt (f a) R)->aR N lt (t.bind f) R
 | .ret _,h=>h
 | .ask i j k,h=>⟨h.1,h.2.1,aR.bind (k (lt i j)) h.2.2⟩
theorem aR.wp{α:Type}{cmp:Nat->Nat->(Bool->%[|8])->%[|8]}{I:%[|8]}(hc:∀i j C s,i<N->j<N->I s->(∀s',I s'->C (lt i j) s')->cmp i j C s):
 ∀(t:KasT α){R:α->Prop}{Q:α->%[|8]}(s:Shared),aR N lt t R->I s->(∀a s',R a->I s'->Q a s')->t.kasWp cmp Q s
 | .ret a,_,_,s,h,i,q=>q a s h i
 | .ask x y k,_,_,s,h,i,q=>hc x y _ s h.1 h.2.1 i λ s' i'=>aR.wp hc (k (lt x y)) s' h.2.2 i' q
structure LtOk(N:Nat)(lt:Nat->Nat->Bool):Prop where
 tot:∀i j,i<N->j<N->i≠j->lt i j=false->lt j i=true
 tr:∀i j k,i<N->j<N->k<N->lt i j=true->lt j k=true->lt i k=true
structure Pm(N:Nat)(p:Array Nat):Prop where
 sz:p.size=N
 lt:∀a,a<N->p.getD a 0<N
 inj:∀a b,a<N->b<N->p.getD a 0=p.getD b 0->a=b
def Srt(lt:Nat->Nat->Bool)(p:Array Nat)(m:Nat):Prop:=∀a b,a<b->b<m->lt (p.getD a 0) (p.getD b 0)=true
def Dsc(lt:Nat->Nat->Bool)(p:Array Nat)(m:Nat):Prop:=∀a b,a<b->b<m->lt (p.getD b 0) (p.getD a 0)=true
theorem za(L:LtOk N lt){p:Array Nat}(P:Pm N p):∀(f n:Nat),1≤n->n+f=N->Srt lt p n->∀{R:Nat->Prop},(∀m,n≤m->m≤N->Srt lt p m->(m<N->lt (p.getD m 0) (p.getD (m-1) 0)=true)->R m)->aR N lt (kas_asc p f n) R
 | 0,n,h1,h2,h3,R,q=>q n (y9 _) %[|0] h3 λ z=>by omega
 | f + 1,n,h1,h2,h3,R,q=>by
   refine⟨P.lt n %[|0],P.lt (n-1) %[|0],?_⟩
   show aR N lt (if lt (p.getD n 0) (p.getD (n-1) 0)=true then .ret n else kas_asc p f (n+1)) R
   split
   . rename_i hc
     exact q n (y9 _) %[|0] h3 λ _=>hc
   . rename_i hc
     have hl:lt (p.getD (n-1) 0) (p.getD n 0)=true:=L.tot _ _ (P.lt n %[|0]) (P.lt (n-1) %[|0]) (λ e=>by have:=P.inj _ _ %[|0] %[|0] e;omega) (by simpa using hc)
     refine za L P f (n+1) %[|0] %[|0] (λ a b hab hb=>?_) λ m g1 g2 g3 g4=>q m %[|0] g2 g3 g4
     by_cases hbn:b<n
     . exact h3 a b hab hbn
     . obtain rfl:b=n:=%[|0]
       by_cases ha:a=b-1
       . rw[ha];exact hl
       . exact L.tr _ _ _ (P.lt a %[|0]) (P.lt _ %[|0]) (P.lt b %[|0]) (h3 a (b-1) %[|0] %[|0]) hl
theorem CJ(L:LtOk N lt){p:Array Nat}(P:Pm N p):∀(f n:Nat),2≤n->n+f=N->Dsc lt p n->∀{R:Array Nat×Nat×Nat->Prop},(∀m,2≤m->m≤N->Dsc lt p m->R (p,m,0))->aR N lt (kas_desc f p n 0) R
 | 0,n,h1,h2,h3,R,q=>q n h1 %[|0] h3
 | f + 1,n,h1,h2,h3,R,q=>by
   refine⟨P.lt n %[|0],P.lt (n-1) %[|0],?_⟩
   show aR N lt (if lt (p.getD n 0) (p.getD (n-1) 0)=true then(if 0>0 then kas_desc f (kas_rev p (n-(0+1)) n) (n+1) 0 else kas_desc f p (n+1) 0)else .ask (p.getD (n-1) 0) (p.getD n 0) λ d=>if d=true then .ret (p,n,0)else kas_desc f p (n+1) (0+1)) R
   split
   . rename_i hl
     rw[if_neg %[|0]]
     refine CJ L P f (n+1) %[|0] %[|0] (λ a b hab hb=>?_) q
     by_cases hbn:b<n
     . exact h3 a b hab hbn
     . obtain rfl:b=n:=%[|0]
       by_cases ha:a=b-1
       . rw[ha];exact hl
       . exact L.tr _ _ _ (P.lt b %[|0]) (P.lt _ %[|0]) (P.lt a %[|0]) hl (h3 a (b-1) %[|0] %[|0])
   . rename_i hc
     have hl:lt (p.getD (n-1) 0) (p.getD n 0)=true:=L.tot _ _ (P.lt n %[|0]) (P.lt (n-1) %[|0]) (λ e=>by have:=P.inj _ _ %[|0] %[|0] e;omega) (by simpa using hc)
     refine⟨P.lt (n-1) %[|0],P.lt n %[|0],?_⟩
     show aR N lt (if lt (p.getD (n-1) 0) (p.getD n 0)=true then .ret (p,n,0)else kas_desc f p (n+1) (0+1)) R
     rw[if_pos hl]
     exact q n h1 %[|0] h3
theorem mR{p:Array Nat}{m:Nat}(h:m≤p.size)(a:Nat):(kas_rev p 0 m).getD a 0=if a<m then p.getD (m-1-a) 0 else p.getD a 0:=by
 rw[Array.getD_eq_getD_getElem?,Array.getD_eq_getD_getElem?,Array.getD_eq_getD_getElem?]
 unfold kas_rev
 rw[getElem?_mirror_all h]
 by_cases ha:a<m
 . rw[if_pos ⟨Nat.zero_le _,ha⟩,if_pos ha,Nat.zero_add]
 . rw[if_neg (λ z=>ha z.2),if_neg ha]
theorem Pm.rev{p:Array Nat}(P:Pm N p){m:Nat}(h:m≤N):Pm N (kas_rev p 0 m):=by
 have hs:m≤p.size:=by rw[P.sz];exact h
 refine⟨by unfold kas_rev;rw[mirror_size,P.sz],λ a ha=>?_,λ a b ha hb e=>?_⟩
 . rw[mR hs];split
   . exact P.lt _ %[|0]
   . exact P.lt _ ha
 . rw[mR hs,mR hs]at e
   split at e<;>split at e
   . have:=P.inj _ _ %[|0] %[|0] e;omega
   . have:=P.inj _ _ %[|0] %[|0] e;omega
   . have:=P.inj _ _ %[|0] %[|0] e;omega
   . exact P.inj _ _ ha hb e
theorem Dsc.rev{p:Array Nat}(P:Pm N p){m:Nat}(h:m≤N)(d:Dsc lt p m):Srt lt (kas_rev p 0 m) m:=λ a b hab hb=>by
 have hs:m≤p.size:=by rw[P.sz];exact h
 rw[mR hs,mR hs,if_pos %[|0],if_pos hb]
 exact d _ _ %[|0] %[|0]
theorem Mh(L:LtOk N lt)(h2:2≤N){p:Array Nat}(P:Pm N p){R:Nat×Array Nat->Prop}(q:∀m p',1≤m->m≤N->Pm N p'->Srt lt p' m->R (m,p')):aR N lt (kas_count N p) R:=by
 refine aR.bind _ (za L P (N-1) 1 (y9 _) %[|0] (λ a b h h'=>by omega) λ n g1 g2 g3 g4=>?_)
 show aR N lt (if(n==N)=true then .ret (n,p)else if n>1 then .ask (p.getD 0 0) (p.getD (n-1) 0) λ c=>if c=true then .ret (n,p)else kas_descPart n N (kas_rev p 0 n)else kas_descPart n N p) R
 split
 . exact q n p g1 g2 P g3
 . rename_i hne
   have hlt:n<N:=by
    have:n≠N:=by simpa using hne
    omega
   split
   . refine⟨P.lt 0 %[|0],P.lt (n-1) %[|0],?_⟩
     show aR N lt (if lt (p.getD 0 0) (p.getD (n-1) 0)=true then .ret (n,p)else kas_descPart n N (kas_rev p 0 n)) R
     rw[if_pos (g3 0 (n-1) %[|0] %[|0])]
     exact q n p g1 g2 P g3
   . obtain rfl:n=1:=%[|0]
     have d2:Dsc lt p 2:=λ a b hab hb=>by
      obtain rfl:b=1:=%[|0]
      obtain rfl:a=0:=%[|0]
      exact g4 hlt
     refine aR.bind _ (CJ L P (N-(1+1)) (1+1) %[|0] %[|0] d2 λ m k1 k2 k3=>?_)
     show aR N lt (if 0>0 then _ else kas_tail3 m N p) R
     rw[if_neg %[|0]]
     refine aR.bind _ (za L (P.rev k2) (N-m) m %[|0] %[|0] (Dsc.rev P k2 k3) λ m' j1 j2 j3 _=>?_)
     exact q m' _ %[|0] j2 (P.rev k2) j3
theorem ql(L:LtOk N lt){p:Array Nat}(P:Pm N p){k:Nat}(hk:k<N)(hs:Srt lt p k):∀(f l r:Nat),l≤r->r≤k->r-l≤f->(∀a,a<l->lt (p.getD a 0) (p.getD k 0)=true)->(∀a,r≤a->a<k->lt (p.getD k 0) (p.getD a 0)=true)->
 ∀{R:Nat->Prop},(∀l',l'≤k->(∀a,a<l'->lt (p.getD a 0) (p.getD k 0)=true)->(∀a,l'≤a->a<k->lt (p.getD k 0) (p.getD a 0)=true)->R l')->aR N lt (kas_place p k f l r) R
 | 0,l,r,h1,h2,h3,h4,h5,R,q=>q l %[|0] h4 λ a g1 g2=>h5 a %[|0] g2
 | f + 1,l,r,h1,h2,h3,h4,h5,R,q=>by
   show aR N lt (if l≥r then .ret l else .ask (p.getD k 0) (p.getD ((l+r)/2) 0) λ c=>if c=true then kas_place p k f l ((l+r)/2)else kas_place p k f ((l+r)/2+1) r) R
   split
   . exact q l %[|0] h4 λ a g1 g2=>h5 a %[|0] g2
   . refine⟨P.lt k hk,P.lt ((l+r)/2) %[|0],?_⟩
     show aR N lt (if lt (p.getD k 0) (p.getD ((l+r)/2) 0)=true then kas_place p k f l ((l+r)/2)else kas_place p k f ((l+r)/2+1) r) R
     split
     . rename_i hc
       refine ql L P hk hs f l ((l+r)/2) %[|0] %[|0] %[|0] h4 (λ a g1 g2=>?_) q
       by_cases e:a=(l+r)/2
       . rw[e];exact hc
       . exact L.tr _ _ _ (P.lt k hk) (P.lt _ %[|0]) (P.lt a %[|0]) hc (hs _ _ %[|0] g2)
     . rename_i hc
       have hl:lt (p.getD ((l+r)/2) 0) (p.getD k 0)=true:=L.tot _ _ (P.lt k hk) (P.lt _ %[|0]) (λ e=>by have:=P.inj _ _ hk %[|0] e;omega) (by simpa using hc)
       refine ql L P hk hs f ((l+r)/2+1) r %[|0] %[|0] %[|0] (λ a g1=>?_) h5 q
       by_cases e:a=(l+r)/2
       . rw[e];exact hl
       . exact L.tr _ _ _ (P.lt a %[|0]) (P.lt _ %[|0]) (P.lt k hk) (hs _ _ %[|0] %[|0]) hl
theorem Rf{p:Array Nat}{k l:Nat}(hk:k<p.size)(hl:l≤k)(a:Nat):(a=l/\(bubble p k (k-l)).getD a 0=p.getD k 0)∨(l<a/\a≤k/\(bubble p k (k-l)).getD a 0=p.getD (a-1) 0)∨((a<l∨k<a)/\(bubble p k (k-l)).getD a 0=p.getD a 0):=by
 rw[Array.getD_eq_getD_getElem?,Array.getD_eq_getD_getElem?,Array.getD_eq_getD_getElem?,Array.getD_eq_getD_getElem?,getElem?_bubble hk (k-l) %[|0]]
 by_cases h1:a=l
 . exact .inl ⟨h1,by rw[if_pos %[|0]]⟩
 . by_cases h2:l<a/\a≤k
   . exact .inr (.inl ⟨h2.1,h2.2,by rw[if_neg %[|0],if_pos %[|0]]⟩)
   . exact .inr (.inr ⟨%[|0],by rw[if_neg %[|0],if_neg %[|0]]⟩)
theorem G5(L:LtOk N lt):∀(f:Nat)(p:Array Nat)(k:Nat),Pm N p->1≤k->k+f=N->Srt lt p k->∀{R:Array Nat->Prop},(∀p',Pm N p'->Srt lt p' N->R p')->aR N lt (kas_bin f p k) R
 | 0,p,k,P,h1,h2,h3,R,q=>q p P (by rw[←h2];exact h3)
 | f+1,p,k,P,h1,h2,h3,R,q=>by
   have hk:k<N:=%[|0]
   refine aR.bind _ (ql L P hk h3 k 0 k (Nat.zero_le _) (y9 _) %[|0] (λ a z=>by omega) (λ a z z'=>by omega) λ l g1 g2 g3=>?_)
   have hks:k<p.size:=by rw[P.sz];exact hk
   have at_:=Rf hks g1
   have P':Pm N (bubble p k (k-l)):=by
    refine⟨by rw[bubble_size,P.sz],λ a ha=>?_,λ a b ha hb e=>?_⟩
    . rcases at_ a with⟨_,e⟩ | ⟨_,_,e⟩ | ⟨_,e⟩<;>rw[e]<;>exact P.lt _ %[|0]
    . rcases at_ a with⟨_,e1⟩ | ⟨_,_,e1⟩ | ⟨_,e1⟩<;>rcases at_ b with⟨_,e2⟩ | ⟨_,_,e2⟩ | ⟨_,e2⟩<;>(rw[e1,e2]at e;have:=P.inj _ _ %[|0] %[|0] e;omega)
   refine G5 L f (bubble p k (k-l)) (k+1) P' %[|0] %[|0] (λ a b hab hb=>?_) q
   rcases at_ a with⟨x1,e1⟩ | ⟨x1,x2,e1⟩ | ⟨x1,e1⟩<;>rcases at_ b with⟨y1,e2⟩ | ⟨y1,y2,e2⟩ | ⟨y1,e2⟩<;>rw[e1,e2]<;>
    first | (exfalso;omega) | exact g3 _ %[|0] %[|0] | exact g2 _ %[|0] | exact h3 _ _ %[|0] %[|0]
theorem MF:Pm N (List.toArray (List.range N)):=by
 have at_:∀a,a<N->(List.toArray (List.range N)).getD a 0=a:=λ a ha=>by
  rw[Array.getD_eq_getD_getElem?];simp[ha]
 exact⟨by simp,λ a ha=>by rw[at_ a ha];exact ha,λ a b ha hb e=>by rw[at_ a ha,at_ b hb]at e;exact e⟩
theorem Qk(L:LtOk N lt)(h2:2≤N):aR N lt (kas_sort N) λ p=>Pm N p/\Srt lt p N:=by
 refine aR.bind _ (Mh L h2 MF λ m p' h1 h3 P hs=>?_)
 show aR N lt (if m<N then kas_bin (N-max m 1) p' (max m 1)else .ret p') _
 have e:max m 1=m:=%[|0]
 rw[e]
 split
 . exact G5 L _ _ _ P h1 %[|0] hs λ p' P' s'=>⟨P',s'⟩
 . obtain rfl:m=N:=%[|0]
   exact⟨P,hs⟩
end
end RF
namespace XE
open PySem PySem.Spec L2 DL RF
open PyProof.Rows
variable {Ω : Wd}
end XE
set_option maxHeartbeats 4000000
namespace XE
open PySem PySem.Spec L2 DL RF
open PyProof.Rows
variable {Ω : Wd}
end XE
namespace RF
open PySem PySem.Spec L2 DL
open PyProof.Rows
section
variable {P : Program} {w : World} {A : Around} {E : Value -> Shared -> Prop} {s : Shared} {d a : Addr} {ys : Cy} {c : Int × %[|1]}
def eZ(P:Program)(w:World)(h:Heap)(d:Addr)(ys:Cy):Prop:=∃o es,h.get? d=some o/\o.ExactDict/\o.data=.dict es ys.length/\es.toList=ys.map (entryOfKey (aY P w))/\(∀x∈ys,aG h (.ref x.2.1) x.1)/\(ys.map (·.1)).Nodup
theorem eZ.of{h:Heap}(x:eZ P w h d ys):h.DictOfH (aY P w) d ys:=by
 obtain⟨o,es,h1,h2,h3,h4,h5,h6⟩:=x
 exact⟨o,es,_,h1,h2,h3,h4,h5,h6⟩
theorem Cv{v:Value}{Q:Unit->%[|8]}(hu:A.units+5<cLine)(hkey:aG s.heap (.ref a) c)(hm:eZ P w s.heap d ys)(hz:ys.length≤sizeLine)
 (hQ:∀h' tk,eZ P w h' d (storedH ys c a v)->Heap.SameBut d s.heap h'->Q () {s with heap:=h',toks:=tk}):wpAny (model P w) A (dictSet d (.ref a) v) Q E s:=by
 obtain⟨o,es,g1,g2,g3,g4,g5,g6⟩:=hm
 have room:(aY P w).room A:=hu
 have key:(aY P w).is s.heap c a:=hkey
 have all:∀x∈ys,(aY P w).is s.heap x.1 x.2.1:=g5
 unfold dictSet
 try with_reducible refine ZQ ?_
 refine ZA ((aY P w).pyHash room key ?_)
 unfold dictSetHashed
 try with_reducible refine ZQ ?_
 refine ZA (wpAny_dictFind_heap (knd:=aY P w) (s:={s with toks:=s.toks+(aY P w).draws c}) room key g1 g3 g4 all g6 (λ none_=>?_) λ j p at_=>?_)
 . have eN:=atKey_none_of_get none_
   have eS:storedH ys c a v=ys++[(c,a,v)]:=storedH_new eN a v
   have eK:c∉ys.map (·.1):=not_mem_keys_of_get none_
   rw[eS]at hQ
   have eL:(ys++[(c,a,v)]).length=ys.length+1:=by simp
   refine ZA (wpAny_rule (wpAny_updateDictKeys (hz:=by have e:=size_of_entries g4;omega) (s:={s with toks:=s.toks+(aY P w).draws c}) g1 g3 (hQ _ _ ⟨_,_,Heap.get?_update_self _ g1 (Obj.isFreed_of_dict (Obj.data_mapDictKeys g3 _)),g2.mapDictKeys _,by rw[eL];exact Obj.data_mapDictKeys g3 _,?_,λ x hx=>?_,?_⟩ (Heap.SameBut.update ..))))
   . simp[g4,entryOfKey]
   . rcases ZK.mp hx with hx | hx
     . exact(aY P w).keeps (all x hx) g1 g3 (Heap.SameBut.update ..)
     . rw[ZL.mp hx]
       exact(aY P w).keeps key g1 g3 (Heap.SameBut.update ..)
   . rw[v3,List.nodup_append]
     refine⟨g6,by simp,λ x hx y hy e=>?_⟩
     rw[List.map_cons,List.map_nil,List.mem_singleton]at hy
     rw[e,hy]at hx
     exact eK hx
 . have eA:=atKey_of_get g6 at_
   have eS:storedH ys c a v=ys.map (putAt c v):=storedH_old eA a v
   rw[eS]at hQ
   have eL:(ys.map (putAt c v)).length=ys.length:=by simp
   refine ZA (wpAny_rule (ZA (wpAny_updateDict (s:={s with toks:=s.toks+(aY P w).draws c}) g1 g3 (wpAny_point (hQ _ _ ⟨_,_,Heap.get?_update_self _ g1 (Obj.isFreed_of_dict (Obj.data_mapDict g3 _)),g2.mapDict _,by rw[eL];exact Obj.data_mapDict g3 _,?_,λ x hx=>?_,?_⟩ (Heap.SameBut.update ..))))))
   . have:=modify_map_putAt (entryOfKey (aY P w)) (λ e:DictEntry=>{e with val:=v}) c v (λ _ _=>rfl) g6 at_
     rw[←g4]at this
     obtain⟨l⟩:=es
     simpa using this
   . obtain⟨y,hy,rfl⟩:=ZO.mp hx
     unfold putAt
     split<;>exact(aY P w).keeps (all y hy) g1 g3 (Heap.SameBut.update ..)
   . rw[keys_map_putAt];exact g6
theorem Px{v:Value}{Q:Unit->%[|8]}(hu:A.in1.units+5<cLine)(hkey:aG s.heap (.ref a) c)(hm:eZ P w s.heap d ys)(hz:ys.length≤sizeLine)
 (hQ:∀h' tk,eZ P w h' d (storedH ys c a v)->Heap.SameBut d s.heap h'->Q () {s with heap:=h',toks:=tk}):wpAny (model P w) A (setItem (.ref d) (.ref a) v) Q E s:=by
 have T:=hm.of.typeIs
 unfold setItem
 try with_reducible refine ZQ ?_
 refine ZA (wpAny_sequenceKey T %[|3] (ZA (wpAny_callSpecial?_slot (name:=Str.ofString "__setitem__") T slot_dict_setitem (ZP slot_dict_setitem T entry_dict_setitem ?_ (args_dict_setitem _ _ _)))))
 show wpAny _ _ (Builtin.Dict.notOrdered "__setitem__" ⟨[.ref d,.ref a,v],[]⟩>>=_) _ _ s
 refine ZA (wpAny_notOrdered_dict T ?_)
 show wpAny _ _ (dictSet d (.ref a) v>>=_) _ _ s
 exact ZA (Cv hu hkey hm hz λ h' tk x y=>ZB ⟨.none,rfl,ZB (hQ h' tk x y)⟩)
variable {it : Addr} {i ep : Nat} {ok ov : Value} {es : Array DictEntry} {od : Obj} {e : DictEntry}
theorem Qz{Q:Option Value->%[|8]}(hod:s.heap.get? d=some od)(hdd:od.data=.dict es ep)(hit:IsItemIter s.heap it d i es.size ep ok ov)(hx:es[i]? =some e)
 (hQ:∀h',IsItemIterOut h' it d (i+1) es.size ep e.key e.val s.heap.objs.size->h'.get? s.heap.objs.size=some {cls:=.type "tuple",data:=.seq #[e.key,e.val]}->h'.objs.size=s.heap.objs.size+1->
  (∀b o,b≠it->s.heap.get? b=some o->h'.get? b=some o)->Q (some (.ref s.heap.objs.size)) {s with heap:=h'}):
 wpAny (model P w) A (pyNext (.ref it)) Q E s:=by
 obtain⟨hp,g,dr,tk,os⟩:=s
 have T:Shared.TypeIs ⟨hp,g,dr,tk,os⟩ (.ref it) "dict_itemiterator":=⟨_,hit,rfl⟩
 have hlt:i<es.size:=(Array.getElem?_eq_some_iff.mp hx).1
 have hown:Builtin.Dict_items.ownsTuple "dict_itemiterator"=true:=%[|3]
 unfold pyNext
 refine ZA (wpAny_attempt (wpAny_callSpecial?_slot (name:=Str.ofString "__next__") T F.slot_dict_itemiterator_next (ZP F.slot_dict_itemiterator_next T F.entry_dict_itemiterator_next ?_ (F.args_dict_itemiterator_next_1 _))))
 refine ZA (ZB (ZA (ZA ?_)))
 first | refine ZA (wpAny_typeNameOfWhole_itemiter T (ZB (ZA (wpAny_fieldsOf hit rfl ?_)))) | refine ZA (wpAny_typeNameOf_itemiter T (ZB (ZA (wpAny_fieldsOf hit rfl ?_))))
 simp only[hown,if_true]
 show wpAny _ _ (if(Value.ref d==Value.none)=true then _ else _) _ _ ⟨hp,g,dr,tk,os⟩
 rw[if_neg (show ¬((Value.ref d==Value.none)=true)from y6)]
 refine ZA (ZB (ZA (wpAny_dictEntries hod hdd ?_)))
 rw[if_neg (by simp)]
 refine ZA (ZB (ZA (wpAny_dictEpoch hod hdd ?_)))
 rw[if_neg (by simp)]
 refine ZB ?_
 simp only[show ¬((i:Int)<0)from %[|0],if_false,Int.toNat_natCast,hx]
 refine ZA ?_
 first | refine ZA (wpAny_typeNameOfWhole_itemiter T (ZB (ZA (wpAny_isOneOf_itemiter T ?_)))) | refine ZA (wpAny_typeNameOf_itemiter T (ZB (ZA (wpAny_isOneOf_itemiter T ?_))))
 show wpAny _ _ (setField (.ref it) 3 (rawInt ((i:Int)+1))>>=_) _ _ ⟨hp,g,dr,tk,os⟩
 refine ZA (wpAny_setField_rec hit (by simp) λ h1 e1 s1=>?_)
 have s1:Heap.SameBut it hp h1:=s1
 have e1:IsItemIter h1 it d (i+1) es.size ep ok ov:=by
  have ei:((i+1:Nat):Int)=(i:Int)+1:=%[|0]
  unfold IsItemIter;rw[ei];simpa[rawInt]using e1
 have T1:Shared.TypeIs ⟨h1,g,dr,tk,os⟩ (.ref it) "dict_itemiterator":=⟨_,e1,rfl⟩
 refine ZA (ZQ (ZA (wpAny_isOneOf_itemiter T1 (ZA (wpAny_isOneOf_itemiter T1 ?_)))))
 show wpAny _ _ (Builtin.Dict_items.pairFromOwner (.ref it) 6 e.key e.val) _ _ ⟨h1,g,dr,tk,os⟩
 unfold Builtin.Dict_items.pairFromOwner
 refine ZA (wpAny_newTuple ?_)
 have e2:IsItemIter (h1.push {cls:=.type "tuple",data:=.seq #[e.key,e.val]}) it d (i+1) es.size ep ok ov:=ZC _ e1
 generalize q2:h1.push {cls:=.type "tuple",data:=.seq #[e.key,e.val]}=h2 at e2
 have z1:h1.objs.size=hp.objs.size:=s1.1
 have hil:it<hp.objs.size:=ZE hit
 have t2:h2.get? hp.objs.size=some {cls:=.type "tuple",data:=.seq #[e.key,e.val]}:=by rw[←q2,←z1];exact ZD _ rfl
 have z2:h2.objs.size=hp.objs.size+1:=by rw[←q2,Heap.size_push,z1]
 have k2:∀b o,b≠it->hp.get? b=some o->h2.get? b=some o:=λ b o hb x=>by rw[←q2];exact ZC _ (s1.extBut b o hb x)
 show wpAny _ _ (Builtin.Dict_items.ownedTupleIsFree (.ref it)>>=_) _ _ ⟨h2,g,dr,tk,os⟩
 rw[z1]
 unfold Builtin.Dict_items.ownedTupleIsFree
 refine ZA (ZA (wpAny_field e2 rfl (x:=.none) rfl (ZB ?_)))
 simp only[if_true]
 refine ZA (wpAny_field e2 rfl (x:=ok) rfl (ZA (wpAny_field e2 rfl (x:=ov) rfl ?_)))
 refine ZA (wpAny_setField_rec e2 (by simp) λ h3 e3 s3=>?_)
 have s3:Heap.SameBut it h2 h3:=s3
 have e3:IsItemIter h3 it d (i+1) es.size ep e.key ov:=e3
 refine ZA (wpAny_setField_rec e3 (by simp) λ h4 e4 s4=>?_)
 have s4:Heap.SameBut it h3 h4:=s4
 have e4:IsItemIter h4 it d (i+1) es.size ep e.key e.val:=e4
 refine ZA (wpAny_setField_rec e4 (by simp) λ h5 e5 s5=>?_)
 have s5:Heap.SameBut it h4 h5:=s5
 have e5:IsItemIterOut h5 it d (i+1) es.size ep e.key e.val hp.objs.size:=e5
 refine ZA (wpAny_setField_rec e5 (by simp) λ h6 e6 s6=>?_)
 have s6:Heap.SameBut it h5 h6:=s6
 have e6:IsItemIterOut h6 it d (i+1) es.size ep e.key e.val hp.objs.size:=e6
 have up:∀b o,b≠it->h2.get? b=some o->h6.get? b=some o:=λ b o hb x=>s6.extBut b o hb (s5.extBut b o hb (s4.extBut b o hb (s3.extBut b o hb x)))
 refine ZA (wpAny_letGo (ZB (ZB ⟨_,rfl,ZB (hQ h6 e6 (up _ _ (Nat.ne_of_gt hil) t2) ?_ λ b o hb x=>up b o hb (k2 b o hb x))⟩)))
 show h6.objs.size=hp.objs.size+1
 rw[s6.1,s5.1,s4.1,s3.1,z2]
theorem RD{Q:Option Value->%[|8]}(hh:A.handled=none)(hod:s.heap.get? d=some od)(hdd:od.data=.dict es ep)(hit:IsItemIter s.heap it d i es.size ep ok ov)(hx:es.size≤i)
 (hQ:∀h',Heap.ExtBut it s.heap h'->Q none {s with heap:=h'}):wpAny (model P w) A (pyNext (.ref it)) Q E s:=by
 have T:s.TypeIs (.ref it) "dict_itemiterator":=⟨_,hit,rfl⟩
 have hown:Builtin.Dict_items.ownsTuple "dict_itemiterator"=true:=%[|3]
 unfold pyNext
 refine ZA (wpAny_attempt (wpAny_callSpecial?_slot (name:=Str.ofString "__next__") T F.slot_dict_itemiterator_next (ZP F.slot_dict_itemiterator_next T F.entry_dict_itemiterator_next ?_ (F.args_dict_itemiterator_next_1 _))))
 refine ZA (ZB (ZA (ZA ?_)))
 first | refine ZA (wpAny_typeNameOfWhole_itemiter T (ZB (ZA (wpAny_fieldsOf hit rfl ?_)))) | refine ZA (wpAny_typeNameOf_itemiter T (ZB (ZA (wpAny_fieldsOf hit rfl ?_))))
 simp only[hown,if_true]
 show wpAny _ _ (if(Value.ref d==Value.none)=true then _ else _) _ _ s
 rw[if_neg (show ¬((Value.ref d==Value.none)=true)from y6)]
 refine ZA (ZB (ZA (wpAny_dictEntries hod hdd ?_)))
 rw[if_neg (by simp)]
 refine ZA (ZB (ZA (wpAny_dictEpoch hod hdd ?_)))
 rw[if_neg (by simp)]
 refine ZB ?_
 simp only[show ¬((i:Int)<0)from %[|0],if_false,Int.toNat_natCast,Array.getElem?_eq_none hx]
 refine ZA ?_
 first | refine ZA (wpAny_typeNameOfWhole_itemiter T (ZB ?_)) | refine ZA (wpAny_typeNameOf_itemiter T (ZB ?_))
 show wpAny _ _ (setField (.ref it) 2 .none>>=_) _ _ s
 refine ZA (wpAny_setField hit rfl (by simp) ?_)
 show wpAny _ _ (newExc (.type "StopIteration") []>>=_) _ _ _
 refine ZA ?_
 simp only[newExc,newTuple]
 refine ZA (wpAny_newObj_type (ZA (m:=firstArgMember _ _) (wpAny_of_eq (a:=Value.none) (by first | rfl | (simp only[firstArgMember];rfl)) (wpAny_newObj_type ?_ (by size_fits)))) (by size_fits))
 simp only[raiseNew]
 refine ZA (wpAny_handled ?_)
 rw[show A.in1.handled=none from hh]
 refine ZA (ZB (wpAny_throw ?_))
 refine ZA (wpAny_isInstance (T:="StopIteration") (b:=true) ⟨_,ZD _ rfl,rfl⟩ isSubtype_stop ?_)
 exact ZB (hQ _ (((Heap.SameBut.update ..).extBut.push _).push _))
end
variable {o : Expr}
theorem rO:entryFor table "dict_itemiterator.__iter__"=some Builtin.«dict_keyiterator.__iter__»:=entryFor_alias (id':="dict_keyiterator.__iter__") (by kernel_rfl) rfl (by decide+kernel) (by kernel_rfl)
def bkV:Value->V
 | .bool b=>.bl b
 | .int i _=>.int i
 | .str x _=>.str x
 | .bytes b _=>.byt b
 | .float b _=>.flt b
 | .ref a=>.ref a
 | .type n=>.ty n
 | _=>.non
theorem DQ{v:V}{u:Value}(h:L2.RelV v u):v=bkV u:=by
 cases v<;>first | (have h:u=_:=h;subst h;rfl) | (obtain⟨t,rfl⟩:=h;rfl)
theorem Mi{v v':V}{u:Value}(h:L2.RelV v u)(h':L2.RelV v' u):v=v':=(DQ h).trans (DQ h').symm
section
variable {P : Program} {w : World} {A : Around} {E : Value -> Shared -> Prop} {s : Shared} {d v : Addr} {ep : Nat} {es : Array DictEntry} {od : Obj}
theorem Bv(hd:(d==sysModules)=false):MeetsIn P w (Builtin.«dict.items» ⟨[.ref d],[]⟩) (λ _ R s=>s.TypeIs (.ref d) "dict"/\R (.ok (.ret (.ref s.heap.objs.size))) {s with heap:=s.heap.push {cls:=.type "dict_items",data:=.fields #[.ref d]}}):=
 .of_wp λ A R s ⟨T,h⟩=>by
  unfold Builtin.«dict.items»
  refine ZA ?_
  unfold Builtin.Dict.noArgs
  refine ZA (wpAny_notOrdered_dict T ?_)
  show wpAny _ _ (pure d) _ _ s
  refine ZB ?_
  show wpAny _ _ (Builtin.Dict.showsAll d>>=_) _ _ s
  unfold Builtin.Dict.showsAll
  rw[if_neg (by rw[hd];exact y6)]
  exact ZA (ZB (ZA (wpAny_newObj_type (ZB ⟨_,rfl,h⟩))))
theorem Gh{Q:%[|7]}(hv:s.heap.IsItemsView v d)(hod:s.heap.get? d=some od)(hdd:od.data=.dict es ep)
 (hQ:Q (.ref s.heap.objs.size) {s with heap:=s.heap.push {cls:=.type "dict_itemiterator",data:=.fields #[.none,.bool false,.ref d,.int 0 0,.int es.size 0,.int ep 0,.none,.none]}}):
 wpAny (model P w) A (pyIter (.ref v)) Q E s:=by
 obtain⟨ov,hov,hcv,hdv⟩:=id hv
 have hown:Builtin.Dict_items.ownsTuple "dict_itemiterator"=true:=%[|3]
 refine wpAny_pyIter_slot hv.typeIs F.slot_dict_items_iter (ZP F.slot_dict_items_iter hv.typeIs F.entry_dict_items_iter ?_ (F.args_dict_items_iter_1 _))
 unfold Builtin.«dict_items.__iter__»
 refine ZA (ZB (ZA ?_))
 unfold Builtin.Dict_items.dictOf
 refine ZA (wpAny_field hov hdv (x:=.ref d) rfl (ZB (ZA ?_)))
 unfold Builtin.Dict_items.newIterator
 refine ZA (wpAny_dictEntries hod hdd (ZA (wpAny_dictEpoch hod hdd ?_)))
 simp only[hown,if_true]
 refine wpAny_newObj_type (ZB ⟨_,rfl,"dict_itemiterator",_,⟨_,ZD _ rfl,rfl⟩,F.slot_dict_itemiterator_next.lookup,?_⟩) (by simp only[sizeOk,Builtin.Dict_items.ownedTupleFields,x4,x6,List.length_cons,List.length_nil,sizeLine_eq];omega)
 simpa[rawInt,Builtin.Dict_items.ownedTupleFields]using hQ
end
section
variable {P : Program} {w : World} {K : PySem.W.Frag}
def Itm(a:Addr)(n:Nat):It:=
 ⟨λ i H=>∃ys c b u v,H a=some (.ext (bD a ys))/\ys.length=n/\ys[i]? =some (c,b,u)/\RelV v u,
  λ i H x H'=>∃p b u v,H p=none/\(∀ys,H a=some (.ext (bD a ys))->∃c,ys[i]? =some (c,b,u))/\RelV v u/\H'=upd H p (.tup [.ref b,v])/\x=.ref p,
  λ i H=>∃ys,H a=some (.ext (bD a ys))/\ys.length=n/\n≤i⟩
theorem Fd{elts:List Expr}{k:Nat}{pos:Pos}(a it:Addr)(n:Nat):Turn P w K (.Tuple elts k pos) (Itm a n) [it] it (λ i h=>∃ok ov,IsItemIter h it a i n n ok ov) where
 mem:=by simp
 obj:=λ i h st b hb=>by
  obtain⟨ok,ov,he⟩:=st
  rw[ZL.mp hb]
  exact⟨_,he,λ v z=>nomatch z⟩
 keep:=λ i h h' st k=>let ⟨ok,ov,he⟩:=st;⟨ok,ov,k it (by simp) _ he⟩
 item:=by
  intro X hP hw hK hc i pins s σ H E I hf st hg
  obtain⟨ys,c,b,u,v,hH,hn,hi,ru⟩:=hg
  obtain⟨⟨_,_,_,o,es,h1,h2,h3,h4⟩,_,_⟩:=(show aK X.prog X.w H s.heap a (.ext (bD a ys))from I.hok a _ hH)
  obtain⟨ok,ov,hit⟩:=st
  have esz:es.size=n:=by rw[←Array.length_toList,h4,y7,hn]
  have hx:es[i]? =some ⟨hC0 c,.ref b,u⟩:=by rw[←Array.getElem?_toList,h4,y8,hi];rfl
  have uq:∀ys',H a=some (.ext (bD a ys'))->∃c',ys'[i]? =some (c',b,u):=λ ys' hH'=>by
   obtain⟨⟨_,_,_,o',es',k1,_,k3,k4⟩,_,_⟩:=(show aK X.prog X.w H s.heap a (.ext (bD a ys'))from I.hok a _ hH')
   obtain rfl:o=o':=Option.some.inj (h1.symm.trans k1)
   rw[h3]at k3
   injection k3 with k3 _
   subst k3
   rw[←Array.getElem?_toList,k4,y8]at hx
   cases e:ys'[i]? with
   | none=>rw[e]at hx;cases hx
   | some y=>
     rw[e]at hx
     obtain⟨c',b',u'⟩:=y
     have hx:=Option.some.inj hx
     injection hx with _ hx1 hx2
     injection hx1 with hx1
     subst hx1 hx2
     exact⟨c',rfl⟩
  rw[hn]at h3
  subst hP hw
  refine Qz (ok:=ok) (ov:=ov) h1 h3 (by rw[esz];exact hit) hx λ h' ho hT hz hk=>⟨_,rfl,wpAny_letOwnedTupleGo_items ho λ h2 he2 sb=>?_⟩
  have I1:Inv X pins σ H {s with heap:=h2}:=m6 (ch:=[it]) (t:=s.toks) I hf λ b o hb q'=>(sb.2 b (λ z=>hb (by simp[z]))).trans (hk b o (λ z=>hb (by simp[z])) q')
  have hp:H s.heap.objs.size=none:=I.hok.fresh (y9 _)
  have elt:it<s.heap.objs.size:=ZE hit
  have hT2:h2.get? s.heap.objs.size=some {cls:=.type "tuple",data:=.seq #[.ref b,u]}:=(sb.2 _ (Nat.ne_of_gt elt)).trans hT
  have I2:Inv X pins σ (upd H s.heap.objs.size (.tup [.ref b,v])) {s with heap:=h2}:=pL I I1 (y9 _) ⟨by show 2≤sizeLine;decide,[.ref b,u],.cons rfl (.cons ru .nil),_,hT2,rfl,_,rfl⟩
  refine⟨.ref s.heap.objs.size,_,I2,rfl,⟨_,b,u,v,hp,uq,ru,rfl,rfl⟩,⟨_,_,by rw[esz]at he2;exact he2⟩,λ b' hb=>?_⟩
  rw[ZL.mp hb,ao (w9 elt)]
  exact(hf it (by simp)).1
 done:=by
  intro X hP hw hK hc i pins s σ H E I hf st hg
  obtain⟨ys,hH,hn,hi⟩:=hg
  obtain⟨⟨_,_,_,o,es,h1,h2,h3,h4⟩,_,_⟩:=(show aK X.prog X.w H s.heap a (.ext (bD a ys))from I.hok a _ hH)
  obtain⟨ok,ov,hit⟩:=st
  have esz:es.size=n:=by rw[←Array.length_toList,h4,y7,hn]
  rw[hn]at h3
  subst hP hw
  obtain⟨f0,f1,f2,f3,f4,f5⟩:=hf it (by simp)
  exact RD (ok:=ok) (ov:=ov) (I.ok.hd hc) h1 h3 (by rw[esz];exact hit) (by rw[esz];exact hi) λ h' ext=>⟨rfl,I.turned (t':=s.toks) (λ b o hb e=>ext b o hb e) f0 f1 f3 f4 f5⟩
 self:=λ _ _ _ _ _ st h=>by
  obtain⟨ok,ov,hit⟩:=st
  have T:Shared.TypeIs _ (.ref it) "dict_itemiterator":=⟨_,hit,rfl⟩
  refine wpAny_pyIter_slot T F.slot_dict_itemiterator_iter (ZP F.slot_dict_itemiterator_iter T rO ?_ (F.args_dict_itemiterator_iter_1 _))
  show wpAny _ _ (ret (.ref it)) _ _ _
  exact ZB ⟨_,rfl,"dict_itemiterator",_,T,F.slot_dict_itemiterator_next.lookup,h⟩
end
section
variable {K : PySem.W.Frag} {O : Own} {H : Hp}
theorem fu{X:Cx}{pins:Pins}{σ:DL.St}{s:Shared}(I:%[|5]){a:Addr}{kcs:Kc}(b:DOb X.K O H a (.non::kcs.map encC)):
 (a==sysModules)=false/\Mut (H a)/\∃ys,H a=some (.ext (bD a ys))/\Kcs X.K O H ys (kcs.map encC)/\eZ X.prog X.w s.heap a ys/\ys.length≤sizeLine:=by
 cases b with
 | t kvs e r=>cases r
 | c ys n e r=>cases r
 | o ys n e r=>cases r
 | m ys d' hd e r=>
   obtain⟨_,rfl⟩:=List.cons.inj hd
   obtain⟨⟨hz,hd,hn,o,es,h1,h2,h3,h4⟩,_,_⟩:=(show aK X.prog X.w H s.heap a (.ext (bD a ys))from I.hok a _ e)
   exact⟨hd,by rw[e];trivial,ys,e,r,⟨o,es,h1,h2,h3,h4,Od I r,hn⟩,hz⟩
 | p ps n b l c z q k e hd g=>cases hd
theorem nj{P:Program}{w:World}{H:Hp}{h:Heap}{a:Addr}{ys:Cy}(d:bD a ys h):aK P w H h a (.ext (bD a ys)):=by
 refine⟨d,?_,λ h1 h2 q k=>?_⟩
 . obtain⟨_,_,_,o,_,e,_⟩:=d;exact⟨o,e⟩
 . obtain⟨z,y,n,o,es,e,r⟩:=q
   exact⟨z,y,n,o,es,k o e,r⟩
theorem xJ{a:Addr}{k:Nat}{kcs:Kc}(h:O.A[k]? =some (a,true)):nO K (Itm a kcs.length) O H (λ S=>S[k]? =some (.non::kcs.map encC)) (kcs.map encC):=by
 intro O' H' S' cv ok hS i
 have h':O'.A[k]? =some (a,true):=cv.lc k _ h
 have hb:=ok.dob k a _ h' hS
 obtain⟨ys,e,r⟩:∃ys,H' a=some (.ext (bD a ys))/\Kcs K O' H' ys (kcs.map encC):=by
  cases hb with
  | t kvs e r=>cases r
  | c ys n e r=>cases r
  | o ys n e r=>cases r
  | m ys d' hd e r=>
    obtain⟨_,rfl⟩:=List.cons.inj hd
    exact⟨ys,e,r⟩
  | p ps n b l c z q k e hd g=>cases hd
 have hl:=r.length
 have at_:∀(kcs:Kc)(ys:Cy),Kcs K O' H' ys (kcs.map encC)->∀(i:Nat)(kv:(Int×%[|1])×D),kcs[i]? =some kv->∃b u v,ys[i]? =some (kv.1,b,u)/\Rep K O' H' (.ref b) (cD kv.1)/\RelV v u/\Rep K O' H' v kv.2:=by
  intro kcs
  induction kcs with
  | nil=>intro ys r i kv h;simp at h
  | cons kv0 kcs ih=>
    intro ys r i kv h
    obtain⟨b,u,v,ys',rfl,rk,rv,rd,t⟩:=r.inv
    cases i with
    | zero=>cases h;exact⟨b,u,v,rfl,rk,rv,rd⟩
    | succ i=>
      obtain⟨b,u,v,g1,g2⟩:=ih ys' t i kv (by simpa using h)
      exact⟨b,u,v,by simpa using g1,g2⟩
 refine⟨λ d hd=>?_,λ hi=>⟨ys,e,hl,by rw[hi,y7];exact y9 _⟩⟩
 obtain⟨kv,hkv,rfl⟩:=bH hd
 obtain⟨b,u,v,g1,g2,g3,g4⟩:=at_ kcs ys r i kv hkv
 refine⟨⟨ys,kv.1,b,u,v,e,hl,g1,g3⟩,λ x H'' y=>?_⟩
 obtain⟨p,b2,u2,v2,hp,uq,r2,rfl,rfl⟩:=y
 obtain⟨c2,i2⟩:=uq ys e
 rw[g1]at i2
 cases i2
 obtain rfl:=Mi g3 r2
 have np:¬O'.has p:=λ z=>ok.tracked z hp
 exact⟨c7.fresh hp _,.tup ⟨np,aH⟩ (.cons (g2.mono (Step.fresh hp _)) (.cons (g4.mono (Step.fresh hp _)) .nil))⟩
end
section
variable {X : Cx} {Γ : Gam} {S : Store} {W : WD} {pos : Pos}
theorem K9{e f:Expr}{apos cpos:Pos}(hu:X.A.units+60<cLine)(m:M2 X o "get" apos e f cpos)
 (h:Ev X Γ S o λ x S1=>∃k,x=.dlo k/\k<S1.length/\Ev X Γ S1 e λ y S2=>Ev X Γ S2 f λ z S3=>∃c kvs,y=cD c/\S3[k]? =some (.non::List.map encC kvs)/\W ((aW kvs c).getD z) S3):Ev X Γ S (.Call (.Attribute o "get" apos) [e,f] [] cpos) W:=by
 intro pins s σ H O I env st
 refine wpAny_Call_method m.base m.few m.line PySem.F.plainAttrs_dict PySem.F.slot_dict_get PySem.F.type_dict_get (thn (h pins s σ H O I env st) λ u s1 hq_=>?_)
 obtain⟨x,H1,I1,rx,q⟩:=hq_
 obtain⟨O1,xd,S1,⟨k,rfl,hk,he⟩,st1,ok1,rep1⟩:=q
 cases rep1 with
 | @dlo a _ ha hna=>
   obtain rfl:u=Value.ref a:=rx
   obtain⟨t1,t2,_⟩:=(ok1.dob k a S1[k] ha (y3 hk)).typ hna I1
   refine⟨t1,t2,?_⟩
   rw[m.trees]
   refine Calls.callWith_builtin rfl (Calls.evalArgs_plain (Calls.spliced_cons (thn (he pins s1 σ H1 O1 I1 (env.mono st1) ok1) λ iv s2 hq_=>?_)))
   obtain⟨y,H2,I2,ry,q2⟩:=hq_
   obtain⟨O2,yd,S2,he2,st2,ok2,rep2⟩:=q2
   refine Calls.spliced_cons (thn (he2 pins s2 σ H2 O2 I2 ((env.mono st1).mono st2) ok2) λ fv s3 hq_=>Calls.spliced_nil ?_)
   obtain⟨z,H3,I3,rz,q3⟩:=hq_
   obtain⟨O3,zd,S3,⟨c,kvs,rfl,hs,w⟩,st3,ok3,rep3⟩:=q3
   have ha3:O3.A[k]? =some (a,true):=st3.conv.lc k _ (st2.conv.lc k _ ha)
   obtain⟨hd,mu,ys,_,kc,dm,hz⟩:=fu I3 (ok3.dob k a _ ha3 hs)
   have dd:=dm.of
   have rep2:=rep2.mono st3
   obtain⟨b,rfl⟩:=nJ rep2
   obtain rfl:iv=Value.ref b:=ry
   refine call_meetsIn PySem.F.slot_dict_get dd.typeIs PySem.F.entry_dict_get (PySem.F.args_dict_get_3 _ _ _) (meetsH_dict_get_default (aY X.prog X.w) a b hd fv) ⟨by show X.A.units+1+5<cLine;omega,c,ys,jz I3 rep2 rfl,dd,?_⟩
   rcases kc.look c with⟨e1,e2⟩ | ⟨d,b',u',v,e1,e2,rv,rd⟩
   . rw[e1]at w
     rw[e2]
     exact⟨z,H3,I3.tok _,rz,O3,zd,S3,w,(st1.trans st2).trans st3,ok3,rep3⟩
   . rw[e1]at w
     rw[e2]
     exact⟨v,H3,I3.tok _,rv,O3,d,S3,w,(st1.trans st2).trans st3,ok3,rd⟩
theorem QZ{e:Expr}(hu:X.A.units+60<cLine)(hs:Sw e)
 (h:Ev X Γ S o λ x S1=>∃k,x=.dlo k/\Ev X Γ S1 e λ y S2=>∃c kvs d,y=cD c/\S2[k]? =some (.non::List.map encC kvs)/\aW kvs c=some d/\W d S2):Ev X Γ S (.Subscript o e pos) W:=by
 intro pins s σ H O I env st
 refine Qu PySem.F.slot_dict_getitem.lookup hs (thn (h pins s σ H O I env st) λ u s1 hq_=>?_)
 obtain⟨x,H1,I1,rx,q⟩:=hq_
 obtain⟨O1,xd,S1,⟨k,rfl,he⟩,st1,ok1,rep1⟩:=q
 cases rep1 with
 | @dlo a _ ha=>
   obtain rfl:u=Value.ref a:=rx
   refine thn (he pins s1 σ H1 O1 I1 (env.mono st1) ok1) λ iv s2 hq_=>?_
   obtain⟨y,H2,I2,ry,q2⟩:=hq_
   obtain⟨O2,yd,S2,⟨c,kvs,d,rfl,hs,hd,w⟩,st2,ok2,rep2⟩:=q2
   have ha2:O2.A[k]? =some (a,true):=st2.conv.lc k _ ha
   obtain⟨hd',mu,ys,_,kc,dm,hz⟩:=fu I2 (ok2.dob k a _ ha2 hs)
   have dd:=dm.of
   obtain⟨b,rfl⟩:=nJ rep2
   obtain rfl:iv=Value.ref b:=ry
   rcases kc.look c with⟨e1,e2⟩ | ⟨d',b',u',v,e1,e2,rv,rd⟩
   . rw[e1]at hd;cases hd
   . rw[e1]at hd
     cases hd
     exact⟨dd.typeIs,wpAny_getItem_heap (by show X.A.units+1+5<cLine;omega) (jz I2 rep2 rfl) dd e2 ⟨v,H2,I2.tok _,rv,O2,_,S2,w,st1.trans st2,ok2,rd⟩⟩
theorem RQ{i e:Expr}{tpos:Pos}{W:DL.Fin}(hu:X.A.units+60<cLine)(hs:swapsWith e (some (.Subscript o i tpos)) pos.line X.env=pure false)
 (h:Ev X Γ S e λ d S1=>Ev X Γ S1 o λ x S2=>Ev X Γ S2 i λ y S3=>∃k c kvs,x=.dlo k/\y=cD c/\S3[k]? =some (.non::List.map encC kvs)/\kvs.length<1000000/\W.nx Γ (S3.set k (.non::(putD kvs c d).map encC))):Rn X Γ S (.Assign [.Subscript o i tpos] e pos) W:=by
 intro pins s σ H O I env st
 refine wpAny_Assign_Subscript (thn (h pins s σ H O I env st) λ r s1 hq_=>?_) hs
 obtain⟨v,H1,I1,rv,q⟩:=hq_
 obtain⟨O1,d,S1,h1,st1,ok1,rep1⟩:=q
 refine thn (h1 pins s1 σ H1 O1 I1 (env.mono st1) ok1) λ u s2 hq_=>?_
 obtain⟨x,H2,I2,rx,q⟩:=hq_
 obtain⟨O2,dx,S2,h2,st2,ok2,rep2⟩:=q
 refine thn (h2 pins s2 σ H2 O2 I2 ((env.mono st1).mono st2) ok2) λ iv s3 hq_=>?_
 obtain⟨y,H3,I3,ry,q⟩:=hq_
 obtain⟨O3,dy,S3,⟨k,c,kvs,rfl,rfl,hk,hz,w⟩,st3,ok3,rep3⟩:=q
 have rx':=rep2.mono st3
 cases rx' with
 | @dlo a _ ha=>
   obtain rfl:u=Value.ref a:=rx
   obtain⟨b,rfl⟩:=nJ rep3
   obtain rfl:iv=Value.ref b:=ry
   obtain⟨hd,mu,ys,_,kc,dm,hz'⟩:=fu I3 (ok3.dob k a _ ha hk)
   have dd:=dm.of
   have rd:=(rep1.mono st2).mono st3
   have hl:=Gx ys c b r
   have hyl:=kc.length
   refine Px (by show X.A.units+1+5<cLine;omega) (jz I3 rep3 rfl) dm hz' λ h' tk dd' hsb=>?_
   obtain⟨q,es,hq,g2,g3,g4,_,g5⟩:=dd'
   have cd:bD a (storedH ys c b r) h':=⟨by rw[sizeLine_eq];omega,hd,g5,q,es,hq,g2,g3,g4⟩
   have sp:=Step.put (O:=O3) (H:=H3) (bZ ha) (.ext (bD a (storedH ys c b r)))
   refine⟨σ,upd H3 a (.ext (bD a (storedH ys c b r))),Ec I3 mu hsb ⟨q,hq⟩ (nj cd),O3,Γ,_,w,((st1.trans st2).trans st3).trans sp,ok3.putO ha (.m _ _ rfl aH ((kc.put rep3 rv rd).conv sp.conv)),(((env.mono st1).mono st2).mono st3).mono sp⟩
end
section
variable {Ω : Wd}
def xQ(y:D)(S:Store)(k:Nat)(W:Kc->Int×%[|1]->Prop):Prop:=∃c kvs,y=cD c/\S[k]? =some (.non::List.map encC kvs)/\W kvs c
def Ex.eix(o a:Ex Ω):Ex Ω where
 lev:=max o.lev a.lev
 chk top N nm e:=match e with | .Subscript l r _=>okE r&&(o.chk top N nm l&&a.chk top N nm r) | _=>false
 wp Γ S W:=o.wp Γ S λ x S1=>match x with | .dlo k=>a.wp Γ S1 λ y S2=>xQ y S2 k λ kvs c=>∃d,aW kvs c=some d/\W d S2 | _=>False
 sound:=by
  intro X r top N nm e Γ S W A hl hc hw
  obtain⟨l1,l2⟩:=lv2 hl
  cases e with
  | Subscript l r' pos=>
    obtain⟨h1,h2⟩:=aa hc
    obtain⟨h2,h3⟩:=aa h2
    refine QZ A.hu (yS h1) ((o.sound A l1 h2 hw).mono λ x S1 q=>?_)
    cases x with
    | dlo k=>exact⟨k,rfl,(a.sound A l2 h3 q).mono λ y S2 ⟨ns,kvs,e1,e2,d,e3,w⟩=>⟨ns,kvs,d,e1,e2,e3,w⟩⟩
    | _=>exact(show False from q).elim
  | _=>exact fE hc
def Sm.eput(o i a:Ex Ω):Sm Ω where
 lev:=max a.lev (max o.lev i.lev)
 chk top N nm st:=match st with | .Assign [.Subscript x y _] e _=>noC e&&(okE y&&(a.chk top N nm e&&(o.chk top N nm x&&i.chk top N nm y))) | _=>false
 wp Γ S W:=a.wp Γ S λ d S1=>o.wp Γ S1 λ x S2=>i.wp Γ S2 λ y S3=>match x with | .dlo k=>xQ y S3 k λ kvs c=>kvs.length<1000000/\W.nx Γ (S3.set k (.non::(putD kvs c d).map encC)) | _=>False
 sound:=by
  intro X r top N nm st Γ S W A hl hc hw
  obtain⟨l1,l2⟩:=lv2 hl
  obtain⟨l2,l3⟩:=lv2 l2
  split at hc
  . rename_i x y p e spos
    obtain⟨h1,hc⟩:=aa hc
    obtain⟨h2,hc⟩:=aa hc
    obtain⟨h3,hc⟩:=aa hc
    obtain⟨h4,h5⟩:=aa hc
    refine RQ A.hu ?_ ((a.sound A l1 h3 hw).mono λ d S1 q=>(o.sound A l2 h4 q).mono λ x S2 q=>(i.sound A l3 h5 q).mono λ y S3 q=>?_)
    . exact kh h1 _ _ _
    . cases x with
      | dlo k=>obtain⟨ns,kvs,e1,e2,e3,w⟩:=q;exact⟨k,ns,kvs,rfl,e1,e2,e3,w⟩
      | _=>exact(show False from q).elim
  . exact fE hc
def Ex.eget2(o a b:Ex Ω):Ex Ω where
 lev:=max o.lev (max a.lev b.lev)
 chk top N nm e:=match e with | .Call (.Attribute x m p) [y,z] [] q=>(m==("get":Str))&&(nameE x&&((p.endLine==q.line)&&(okE y&&(okE z&&(o.chk top N nm x&&(a.chk top N nm y&&b.chk top N nm z)))))) | _=>false
 wp Γ S W:=o.wp Γ S λ x S1=>match x with | .dlo k=>k<S1.length/\a.wp Γ S1 λ y S2=>b.wp Γ S2 λ z S3=>xQ y S3 k λ kvs c=>W ((aW kvs c).getD z) S3 | _=>False
 sound:=by
  intro X r top N nm e Γ S W A hl hc hw
  obtain⟨l1,l2⟩:=lv2 hl
  obtain⟨l2,l3⟩:=lv2 l2
  split at hc
  . rename_i x m p y z q
    obtain⟨h1,g⟩:=aa hc
    obtain⟨h2,g⟩:=aa g
    obtain⟨h3,g⟩:=aa g
    obtain⟨h4,g⟩:=aa g
    obtain⟨h4',g⟩:=aa g
    obtain⟨h5,g⟩:=aa g
    obtain⟨h6,h7⟩:=aa g
    have e:=ZI h1
    subst e
    have hs:=aA h4
    have hs':=aA h4'
    refine K9 A.hu ⟨?_,by rw[hs,hs'];rfl,h3,by rw[hs,hs'];rfl⟩ ((o.sound A l1 h5 hw).mono λ x S1 q=>?_)
    . cases x<;>first | rfl | exact ff h2
    . cases x with
      | dlo k=>exact⟨k,rfl,q.1,(a.sound A l2 h6 q.2).mono λ y S2 q=>(b.sound A l3 h7 q).mono λ z S3 ⟨ns,kvs,e1,e2,w⟩=>⟨ns,kvs,e1,e2,w⟩⟩
      | _=>exact(show False from q).elim
  . exact ff hc
end
theorem Sv{K:PySem.W.Frag}{O:Own}{H:Hp}{S:Store}(s:StOk K O H S){p:Addr}(h:H p=none){o:HO}{ds:List D}(r:DOb K (O.more p true) (upd H p o) p ds):
 StOk K (O.more p true) (upd H p o) (S++[ds]):=by
 have st:=Step.own (O:=O) h o true
 have np:=s.fresh_not h
 refine⟨zP s.nd λ z=>np (.inl z),by simp[s.len],λ k a es e1 e2=>?_,λ k a es e1 e2=>?_,λ a ha=>?_,λ b hb=>st.dom b (s.hidden b hb)⟩
 . rcases jy e1 with e1 | ⟨rfl,e⟩
   . have hk:=(z0.mp e1).1
     rw[x8 (by rw[←s.len];exact hk)]at e2
     obtain⟨ys,q,r'⟩:=s.obj k a es e1 e2
     exact⟨ys,by rw[ao (aB q h)];exact q,r'.mono st⟩
   . cases e
 . rcases jy e1 with e1 | ⟨rfl,e⟩
   . have hk:=(z0.mp e1).1
     rw[x8 (by rw[←s.len];exact hk)]at e2
     exact(s.dob k a es e1 e2).move st.conv λ o q=>by rw[ao (aB q h)];exact q
   . cases e
     rw[List.getElem?_append_right (by rw[s.len];exact y9 _),s.len,Nat.sub_self]at e2
     cases e2
     exact r
 . rw[bM]at ha
   rcases ZK.mp ha with z | z
   . exact s.apart a z
   . rw[ZL.mp z];exact λ q=>np (.inr q)
theorem CW{h:Heap}(hb:sysModules<h.objs.size):bD h.objs.size [] (h.push {cls:=.type "dict",data:=.dict #[]}):=
 ⟨Nat.zero_le _,beq_eq_false_iff_ne.mpr (Ne.symm (w9 hb)),List.nodup_nil,_,#[],ZD _ rfl,⟨rfl,rfl,rfl⟩,rfl,rfl⟩
section
variable {X : Cx} {Γ : Gam} {S : Store} {W : WD} {pos : Pos}
theorem OD(h:W (.dlo S.length) (S++[[.non]])):Ev X Γ S (.Dict [] [] pos) W:=by
 intro pins s σ H O I env st
 have hp:=I.hok.fresh (y9 s.heap.objs.size)
 refine wpAny_Dict_empty ⟨.ref s.heap.objs.size,_,I.laid (a:=s.heap.objs.size) (o:=.ext (bD s.heap.objs.size [])) (t':=s.toks) (λ _ _ q=>ZC _ q) (y9 _) (nj (CW I.big)),rfl,?_⟩
 exact⟨O.more s.heap.objs.size true,.dlo S.length,S++[[.non]],h,Step.own hp _ true,Sv st hp (.m [] [] rfl aH .nil),.dlo (by show(O.A++[(s.heap.objs.size,true)])[S.length]? =some (s.heap.objs.size,true);rw[←st.len];simp) λ c o q=>ZE (I.kIn c o q)⟩
theorem PQ{ke ve:Expr}(hu:X.A.units+60<cLine)(h:Ev X Γ (S++[[.non]]) ke λ y S1=>Ev X Γ S1 ve λ z S2=>∃c,y=cD c/\S2[S.length]? =some [.non]/\W (.dlo S.length) (S2.set S.length (.non::[((c,z):(Int×%[|1])×D)].map encC))):Ev X Γ S (.Dict [some ke] [ve] pos) W:=by
 intro pins s σ H O I env st
 have hp:=I.hok.fresh (y9 s.heap.objs.size)
 have I0:Inv X pins σ (upd H s.heap.objs.size (.ext (bD s.heap.objs.size []))) {s with heap:=s.heap.push {cls:=.type "dict",data:=.dict #[]}}:=I.laid (a:=s.heap.objs.size) (o:=.ext (bD s.heap.objs.size [])) (t':=s.toks) (λ _ _ q=>ZC _ q) (y9 _) (nj (CW I.big))
 have sp0:=Step.own (O:=O) hp (.ext (bD s.heap.objs.size [])) true
 have st0:StOk X.K (O.more s.heap.objs.size true) (upd H s.heap.objs.size (.ext (bD s.heap.objs.size []))) (S++[[.non]]):=Sv st hp (.m [] [] rfl aH .nil)
 have own0:(O.more s.heap.objs.size true).A[S.length]? =some (s.heap.objs.size,true):=by show(O.A++[(s.heap.objs.size,true)])[S.length]? =some (s.heap.objs.size,true);rw[←st.len];simp
 have abv:Abv X.K s.heap.objs.size:=λ c o q=>ZE (I.kIn c o q)
 refine wpAny_Dict_any rfl rfl (by simp) (show 1≤15 by decide) ?_
 generalize s.heap.objs.size=p at*
 refine evalPairs_cons (thn (h pins _ σ _ _ I0 (env.mono sp0) st0) λ ku s1 hq_=>?_)
 obtain⟨kx,H1,I1,rk,O1,kd,S1,h1,st1,ok1,rep1⟩:=hq_
 refine ZA (thn (h1 pins s1 σ H1 O1 I1 ((env.mono sp0).mono st1) ok1) λ vu s2 hq_=>?_)
 obtain⟨vx,H2,I2,rv,O2,vd,S2,⟨c,rfl,hS,hw⟩,st2,ok2,rep2⟩:=hq_
 refine ZA (wpAny_standAt (ZB (evalPairs_nil ?_)))
 have own2:O2.A[S.length]? =some (p,true):=st2.conv.lc _ _ (st1.conv.lc _ _ own0)
 obtain⟨hd,mu,ys,eH,kc,dm,hz⟩:=fu (kcs:=[]) I2 (ok2.dob _ _ _ own2 hS)
 cases kc
 have rk2:=rep1.mono st2
 obtain⟨b,rfl⟩:=nJ rk2
 obtain rfl:ku=Value.ref b:=rk
 unfold storeAll
 rw[List.forIn_cons]
 refine ZA (ZA (Cv (c:=c) %[|0] (jz I2 rk2 rfl) dm hz λ h' tk dd' hsb=>ZB ?_))
 show wpAny _ _ (forIn [] _ _) _ _ _
 rw[List.forIn_nil]
 refine ZB ?_
 obtain⟨q,es,hq,g2,g3,g4,_,g5⟩:=dd'
 have cd:bD p (storedH [] c b vu) h':=⟨by rw[sizeLine_eq];show 1≤_;omega,hd,g5,q,es,hq,g2,g3,g4⟩
 have sp:=Step.put (O:=O2) (H:=H2) (bZ own2) (.ext (bD p (storedH [] c b vu)))
 exact⟨.ref p,upd H2 p (.ext (bD p (storedH [] c b vu))),Ec I2 mu hsb ⟨q,hq⟩ (nj cd),rfl,O2,.dlo S.length,_,hw,((sp0.trans st1).trans st2).trans sp,ok2.putO own2 (.m _ _ rfl aH ((Kcs.put (kcs:=[]) .nil rk2 rv rep2).conv sp.conv)),.dlo own2 abv⟩
theorem KJ{apos cpos tp:Pos}{elts:List Expr}{n:Nat}{W:List D->%[|4]->%[|4]}(hb:attributeBase o "items" X.env (eval o X.env)=eval o X.env)(hl:(apos.endLine==cpos.line)=true)
 (h:Ev X Γ S o λ d S1=>∃k kvs,d=.dlo k/\S1[k]? =some (.non::List.map encC kvs)/\W (kvs.map encC) (λ S=>S[k]? =some (.non::kvs.map encC)) S1):ItC X Γ S (.Tuple elts n tp) (.Call (.Attribute o "items" apos) [] [] cpos) W:=by
 intro pins s σ H O I env st
 refine wpAny_Call_method (T:="dict") (id:="dict.items") hb rfl hl F.plainAttrs_dict F.slot_dict_items F.type_dict_items (thn (h pins s σ H O I env st) λ u s1 hq_=>?_)
 obtain⟨x,H1,I1,rx,O1,xd,S1,⟨k,kvs,rfl,hk,w⟩,st1,ok1,rep1⟩:=hq_
 cases rep1 with
 | @dlo a _ ha hna=>
   obtain rfl:u=Value.ref a:=rx
   have hD:=ok1.dob k a _ ha hk
   obtain⟨t1,t2,t3⟩:=hD.typ hna I1
   obtain⟨_,mu,ys,eH,kc,⟨oo,es,g1,g2,g3,g4,_,_⟩,hz⟩:=fu I1 hD
   refine⟨t1,t2,?_⟩
   show wpAny _ _ (callWith cpos (.builtin "dict.items") [.ref a] [] []) _ _ s1
   refine method_meetsIn F.slot_dict_items F.entry_dict_items rfl (PySem.evalArgs_none ⟨rfl,t1,F.args_dict_items_1 _,_,Bv t3,t1,?_⟩)
   have ez:es.size=ys.length:=by rw[←Array.length_toList,g4,y7]
   refine Gh (d:=a) (es:=es) (ep:=ys.length) (od:=oo) ⟨_,ZD _ rfl,rfl,rfl⟩ (ZC _ g1) g3 ?_
   have hn:=kc.length
   rw[ez,hn]
   have hle:s1.heap.objs.size≤(s1.heap.push {cls:=.type "dict_items",data:=.fields #[.ref a]}).objs.size:=by rw[Heap.size_push];exact Nat.le_succ _
   refine⟨_,[(s1.heap.push {cls:=.type "dict_items",data:=.fields #[.ref a]}).objs.size],_,_,H1,rfl,I1.kept (t':=s1.toks) (λ b o e=>ZC _ (ZC _ e)),Fd a _ kvs.length,⟨.none,.none,ZD _ rfl⟩,λ b hb=>?_,O1,kvs.map encC,_,S1,w,st1,ok1,xJ ha⟩
   rw[ZL.mp hb]
   exact I1.fpOk hle (I1.hok.fresh hle)
end
section
variable {Ω : Wd}
def Ex.enew:Ex Ω where
 lev:=0
 chk top N nm e:=match e with | .Dict [] [] _=>true | _=>false
 wp Γ S W:=W (.dlo S.length) (S++[[.non]])
 sound:=by
  intro X r top N nm e Γ S W A hl hc hw
  split at hc
  . exact OD hw
  . exact fE hc
def Ex.edis(a b:Ex Ω):Ex Ω where
 lev:=max a.lev b.lev
 chk top N nm e:=match e with | .Dict [some x] [y] _=>a.chk top N nm x&&b.chk top N nm y | _=>false
 wp Γ S W:=a.wp Γ (S++[[.non]]) λ y S1=>b.wp Γ S1 λ z S2=>∃c,y=cD c/\S2[S.length]? =some [.non]/\W (.dlo S.length) (S2.set S.length (.non::[((c,z):(Int×%[|1])×D)].map encC))
 sound:=by
  intro X r top N nm e Γ S W A hl hc hw
  obtain⟨l1,l2⟩:=lv2 hl
  split at hc
  . obtain⟨h1,h2⟩:=aa hc
    exact PQ A.hu ((a.sound A l1 h1 hw).mono λ y S1 q=>b.sound A l2 h2 q)
  . exact fE hc
@[irreducible] noncomputable def En(Γ:Gam)(tg:Tg)(body:Bl Ω)(W:DL.Fin)(k:Nat)(kvs:Kc)(S1:Store):Prop:=
  ∃Pv:Nat->Gam->%[|4],Pv 0 Γ S1/\(∀i Γ' S',Pv i Γ' S'->S'[k]? =some (.non::kvs.map encC))/\(∀i kv Γ' S',kvs[i]? =some kv->Pv i Γ' S'->tg.wp (encC kv) Γ' λ Γ2=>body.wp Γ2 S' {W with nx:=Pv (i+1),ct:=Pv (i+1),bk:=W.nx})/\(∀Γ' S',Pv kvs.length Γ' S'->W.nx Γ' S')
theorem Ef{Γ:Gam}{tg:Tg}{body:Bl Ω}{W:DL.Fin}{k:Nat}{kvs:Kc}{S1:Store}(h:∃Pv:Nat->Gam->%[|4],Pv 0 Γ S1/\(∀i Γ' S',Pv i Γ' S'->S'[k]? =some (.non::kvs.map encC))/\(∀i kv Γ' S',kvs[i]? =some kv->Pv i Γ' S'->tg.wp (encC kv) Γ' λ Γ2=>body.wp Γ2 S' {W with nx:=Pv (i+1),ct:=Pv (i+1),bk:=W.nx})/\(∀Γ' S',Pv kvs.length Γ' S'->W.nx Γ' S')):En Γ tg body W k kvs S1:=by unfold En;exact h
def Sm.forM(tg:Tg)(o:Ex Ω)(body:Bl Ω):Sm Ω where
 lev:=max o.lev body.lev
 chk top N nm st:=match st with
  | .For (.Tuple es n tp) (.Call (.Attribute x m p) [] [] q) b [] _=>(m==("items":Str))&&(nameE x&&((p.endLine==q.line)&&(tg.chk top N nm (.Tuple es n tp)&&(o.chk top N nm x&&body.chk top N nm b))))
  | _=>false
 wp Γ S W:=o.wp Γ S λ d S1=>match d with
  | .dlo k=>∃kvs,S1[k]? =some (.non::List.map encC kvs)/\En Γ tg body W k kvs S1
  | _=>False
 sound:=by
  intro X r top N nm st Γ S W A hl hc hw
  obtain⟨l1,l2⟩:=lv2 hl
  split at hc
  . rename_i es n tp x m p q b pos
    obtain⟨h1,hc⟩:=aa hc
    obtain⟨h2,hc⟩:=aa hc
    obtain⟨h3,hc⟩:=aa hc
    obtain⟨h4,hc⟩:=aa hc
    obtain⟨h5,h6⟩:=aa hc
    have e:=ZI h1
    subst e
    refine Jl (KJ (by cases x<;>first | rfl | exact ff h2) h3 (Ev.mono (o.sound A l1 h5 hw) λ d S1 q=>?_)) (by rw[A.xe];exact PassesOwn.never) A.calm (λ _=>rfl)
    cases d with
    | dlo k=>
      obtain⟨kvs,hk,q⟩:=q
      unfold En at q
      obtain⟨Pv,p0,pC,pt,pe⟩:=q
      refine⟨k,kvs,rfl,hk,Pv,p0,pC,λ i d Γ' S' hd hp=>?_,λ Γ' S' hp=>pe Γ' S' (by rw[y7]at hp;exact hp)⟩
      obtain⟨kv,hkv,rfl⟩:=bH hd
      exact BdW.mono (Tg.sound A (W:=λ Γ2 S2=>body.wp Γ2 S2 {W with nx:=Pv (i+1),ct:=Pv (i+1),bk:=W.nx}) h4 (pt i kv Γ' S' hkv hp)) λ Γ2 S2 q=>body.sound A l2 h6 q
    | _=>exact(show False from q).elim
  . exact fE hc
end
end RF
namespace RF
open PySem PySem.Spec L2 DL
open PyProof.Rows
section
variable {P : Program} {w : World} {A : Around} {E : Value -> Shared -> Prop} {s : Shared} {d it : Addr} {i ep : Nat} {es : Array DictEntry} {od : Obj} {e : DictEntry}
theorem K5{Q:Option Value->%[|8]}(hod:s.heap.get? d=some od)(hdd:od.data=.dict es ep)(hit:s.heap.IsKeyIter it d i es.size ep)(hx:es[i]? =some e)
 (hQ:∀h',h'.IsKeyIter it d (i+1) es.size ep->Heap.SameBut it s.heap h'->Q (some e.key) {s with heap:=h'}):wpAny (model P w) A (pyNext (.ref it)) Q E s:=by
 obtain⟨o,ho,hc,hd⟩:=id hit
 have T:=hit.typeIs
 have hown:Builtin.Dict_items.ownsTuple "dict_keyiterator"=false:=%[|3]
 unfold pyNext
 refine ZA (wpAny_attempt (wpAny_callSpecial?_slot (name:=Str.ofString "__next__") T F.slot_dict_keyiterator_next (ZP F.slot_dict_keyiterator_next T F.entry_dict_keyiterator_next ?_ (F.args_dict_keyiterator_next_1 _))))
 refine ZA (ZB (ZA (ZA ?_)))
 first | refine ZA (wpAny_typeNameOfWhole_keyiter T (ZB (ZA (wpAny_fieldsOf ho hd ?_)))) | refine ZA (wpAny_typeNameOf_keyiter T (ZB (ZA (wpAny_fieldsOf ho hd ?_))))
 simp only[hown,Bool.false_eq_true,if_false]
 show wpAny _ _ (if(Value.ref d==Value.none)=true then _ else _) _ _ s
 rw[if_neg (show ¬((Value.ref d==Value.none)=true)from y6)]
 refine ZA (ZB (ZA (wpAny_dictEntries hod hdd ?_)))
 rw[if_neg (by simp)]
 refine ZA (ZB (ZA (wpAny_dictEpoch hod hdd ?_)))
 rw[if_neg (by simp)]
 refine ZB ?_
 simp only[show ¬((i:Int)<0)from %[|0],if_false,Int.toNat_natCast,hx]
 refine ZA ?_
 first | refine ZA (wpAny_typeNameOfWhole_keyiter T (ZB (ZA (wpAny_isOneOf_keyiter T ?_)))) | refine ZA (wpAny_typeNameOf_keyiter T (ZB (ZA (wpAny_isOneOf_keyiter T ?_))))
 show wpAny _ _ (setField (.ref it) 1 (rawInt ((i:Int)+1))>>=_) _ _ s
 refine ZA (wpAny_setField ho hd (by simp) ?_)
 have hit':(s.heap.update it (Obj.mapFields (·.setIfInBounds 1 (rawInt ((i:Int)+1))))).IsKeyIter it d (i+1) es.size ep:=
  ⟨_,Heap.get?_update_self _ ho (Obj.isFreed_of_fields (Obj.data_mapFields hd _)),(Obj.cls_mapFields ..).trans hc,by rw[Obj.data_mapFields hd];simp[rawInt]⟩
 refine ZA (ZQ (ZA (wpAny_isOneOf_keyiter (s:={s with heap:=s.heap.update it (Obj.mapFields (·.setIfInBounds 1 (rawInt ((i:Int)+1))))}) hit'.typeIs ?_)))
 show wpAny _ _ (pure e.key) _ _ _
 exact ZB (ZB ⟨_,rfl,ZB (hQ _ hit' (Heap.SameBut.update ..))⟩)
theorem QV{Q:Option Value->%[|8]}(hh:A.handled=none)(hod:s.heap.get? d=some od)(hdd:od.data=.dict es ep)(hit:s.heap.IsKeyIter it d i es.size ep)(hx:es.size≤i)
 (hQ:∀h',Heap.ExtBut it s.heap h'->Q none {s with heap:=h'}):wpAny (model P w) A (pyNext (.ref it)) Q E s:=by
 obtain⟨o,ho,hc,hd⟩:=id hit
 have T:=hit.typeIs
 have hown:Builtin.Dict_items.ownsTuple "dict_keyiterator"=false:=%[|3]
 unfold pyNext
 refine ZA (wpAny_attempt (wpAny_callSpecial?_slot (name:=Str.ofString "__next__") T F.slot_dict_keyiterator_next (ZP F.slot_dict_keyiterator_next T F.entry_dict_keyiterator_next ?_ (F.args_dict_keyiterator_next_1 _))))
 refine ZA (ZB (ZA (ZA ?_)))
 first | refine ZA (wpAny_typeNameOfWhole_keyiter T (ZB (ZA (wpAny_fieldsOf ho hd ?_)))) | refine ZA (wpAny_typeNameOf_keyiter T (ZB (ZA (wpAny_fieldsOf ho hd ?_))))
 simp only[hown,Bool.false_eq_true,if_false]
 show wpAny _ _ (if(Value.ref d==Value.none)=true then _ else _) _ _ s
 rw[if_neg (show ¬((Value.ref d==Value.none)=true)from y6)]
 refine ZA (ZB (ZA (wpAny_dictEntries hod hdd ?_)))
 rw[if_neg (by simp)]
 refine ZA (ZB (ZA (wpAny_dictEpoch hod hdd ?_)))
 rw[if_neg (by simp)]
 refine ZB ?_
 simp only[show ¬((i:Int)<0)from %[|0],if_false,Int.toNat_natCast,Array.getElem?_eq_none hx]
 refine ZA ?_
 first | refine ZA (wpAny_typeNameOfWhole_keyiter T (ZB ?_)) | refine ZA (wpAny_typeNameOf_keyiter T (ZB ?_))
 show wpAny _ _ (setField (.ref it) 0 .none>>=_) _ _ s
 refine ZA (wpAny_setField ho hd (by simp) ?_)
 show wpAny _ _ (newExc (.type "StopIteration") []>>=_) _ _ _
 refine ZA ?_
 simp only[newExc,newTuple]
 refine ZA (wpAny_newObj_type (ZA (m:=firstArgMember _ _) (wpAny_of_eq (a:=Value.none) (by first | rfl | (simp only[firstArgMember];rfl)) (wpAny_newObj_type ?_ (by size_fits)))) (by size_fits))
 simp only[raiseNew]
 refine ZA (wpAny_handled ?_)
 rw[show A.in1.handled=none from hh]
 refine ZA (ZB (wpAny_throw ?_))
 refine ZA (wpAny_isInstance (T:="StopIteration") (b:=true) ⟨_,ZD _ rfl,rfl⟩ isSubtype_stop ?_)
 exact ZB (hQ _ (((Heap.SameBut.update ..).extBut.push _).push _))
theorem Hl{Q:%[|7]}(lo:(d==sysModules)=false)(hod:s.heap.get? d=some od)(hc:od.ExactDict)(hdd:od.data=.dict es ep)
 (hQ:Q (.ref s.heap.objs.size) {s with heap:=s.heap.push {cls:=.type "dict_keyiterator",data:=.fields #[.ref d,.int 0 0,.int es.size 0,.int ep 0]}}):wpAny (model P w) A (pyIter (.ref d)) Q E s:=by
 have T:s.TypeIs (.ref d) "dict":=⟨od,hod,hc.1⟩
 refine wpAny_pyIter_slot T F.slot_dict_iter (ZP F.slot_dict_iter T F.entry_dict_iter ?_ (F.args_dict_iter_1 _))
 unfold Builtin.«dict.__iter__»
 refine ZA ?_
 unfold Builtin.Dict.dictSlotNone
 refine ZA (wpAny_notOrdered_dict T ?_)
 show wpAny _ _ (pure (Value.ref d)) _ _ s
 refine ZB ?_
 show wpAny _ _ (Builtin.Dict.showsAll d>>=_) _ _ s
 unfold Builtin.Dict.showsAll
 rw[if_neg (by rw[lo];exact y6)]
 refine ZA (ZB (ZA (wpAny_dictEntries hod hdd (ZA (wpAny_dictEpoch hod hdd ?_)))))
 refine ZA (wpAny_newObj_type (ZB ⟨_,rfl,"dict_keyiterator",_,⟨_,ZD _ rfl,rfl⟩,F.slot_dict_keyiterator_next.lookup,?_⟩))
 simpa[rawInt]using hQ
def DEs(d:Addr)(es:Array DictEntry)(ep:Nat)(h:Heap):Prop:=∃o,h.get? d=some o/\o.ExactDict/\o.data=.dict es ep
theorem Ir(hh:A.handled=none)(I:Addr)(hne:d≠I):Walks P w A I [I,d] [I] es.size (λ i v=>∃e,es[i]? =some e/\v=e.key) (λ i h=>h.IsKeyIter I d i es.size ep/\DEs d es ep h) where
 sub:=λ b hb=>by simp at hb;simp[hb]
 frame:=λ _ _ _ st hk=>⟨st.1.at λ o e=>hk I (by simp) o e,let ⟨o,g1,g2⟩:=st.2;⟨o,hk d (by simp) o g1,g2⟩⟩
 item:=λ i s Q E hi st hQ=>by
  obtain⟨o,g1,g2,g3⟩:=st.2
  obtain⟨e,hx⟩:∃e,es[i]? =some e:=⟨es[i],by simp[hi]⟩
  exact K5 g1 g3 st.1 hx λ h' hit' hs'=>hQ e.key h' s.toks ⟨e,hx,rfl⟩ ⟨hit',o,hs'.extBut d o hne g1,g2,g3⟩ λ b o hb e=>hs'.extBut b o (λ h=>hb (by simp[h])) e
 done:=λ s Q E st hQ=>by
  obtain⟨o,g1,g2,g3⟩:=st.2
  exact QV hh g1 g3 st.1 (y9 _) λ h' he'=>hQ h' s.toks λ b o hb e=>he' b o (λ h=>hb (by simp[h])) e
 self:=λ _ _ _ _ st hQ=>wpAny_pyIter_keyiter st.1 hQ
theorem Ma(lo:(d==sysModules)=false):PySem.W.KdlSrc P w "dict" d d es.size (λ i v=>∃e,es[i]? =some e/\v=e.key) (DEs d es ep) where
 type:=λ _ ⟨o,g1,g2,_⟩=>⟨o,g1,g2.1⟩
 there:=λ _ ⟨o,g1,_⟩=>⟨ZE g1,ZE g1⟩
 keep:=λ _ _ ⟨o,g1,g2⟩ hk=>⟨o,hk d (.inl rfl) o g1,g2⟩
 notList:=%[|3]
 notTuple:=%[|3]
 hint:=λ _ _ _ _ ⟨o,g1,g2,_⟩ hq=>PySem.W.kdl_hint_dict ⟨o,g1,g2.1⟩ hq
 iter:=λ _ _ hh ⟨o,g1,g2,g3⟩=>⟨_,_,(λ _ _ hq=>Hl lo g1 g2 g3 hq),Ir hh _ (w9 (ZE g1)),⟨⟨_,ZD _ rfl,rfl,rfl⟩,⟨o,ZC _ g1,g2,g3⟩⟩⟩
theorem xP{Q:List Value->%[|8]}(hh:A.handled=none)(lo:(d==sysModules)=false)(hD:DEs d es ep s.heap)(hn:es.size≤sizeLine)
 (hQ:∀h' tk,(∀b o,s.heap.get? b=some o->h'.get? b=some o)->s.heap.objs.size≤h'.objs.size->Q (es.toList.map (·.key)) {s with heap:=h',toks:=tk}):wpAny (model P w) A (collect (.ref d)) Q E s:=by
 have hlt:d<s.heap.objs.size:=let ⟨_,g,_⟩:=hD;ZE g
 have hSr:s.heap.objs.size≠d:=Nat.ne_of_gt hlt
 unfold collect
 refine ZA (wpAny_runValue (codeAny_builtin F.entry_proto_collect ?_))
 rw[Around.under_plainId F.plain_proto_collect _]
 show wpAny _ A.in1 (newList []>>=λ l=>again (.builtin "list.__iadd__" ⟨[l,.ref d],[]⟩)) _ _ s
 refine ZA (wpAny_newObj_type ?_)
 refine ZB ⟨plainId_quiet F.plain_list_iadd _,codeAny_builtin F.entry_list_iadd ?_⟩
 rw[Around.under_plainId F.plain_list_iadd _]
 have hS:(s.heap.push {cls:=.type "list",data:=.seq ([]:List Value).toArray}).get? s.heap.objs.size=some {cls:=.type "list",data:=.seq ([]:List Value).toArray}:=ZD _ rfl
 show wpAny _ A.in1 (Builtin.List.listExtendWith (.ref s.heap.objs.size) (.ref d) (.ref s.heap.objs.size)) _ _ _
 have hD':DEs d es ep (s.heap.push {cls:=.type "list",data:=.seq ([]:List Value).toArray}):=let ⟨o,g1,g2⟩:=hD;⟨o,ZC _ g1,g2⟩
 let R:Result->%[|8]:=λ r s'=>match r with
  | Except.ok (Flow.ret v)=>wpAny (model P w) A (match v with | Value.ref a=>(do let o ←load a;match o.data with | Data.seq xs _=>pure xs.toList | _=>unsupported "internal:collect") | _=>unsupported "internal:collect") Q E s'
  | Except.ok _=>False
  | Except.error e=>E e s'
 refine PySem.W.kdl_extend (R:=R) (s:={s with heap:=s.heap.push {cls:=.type "list",data:=.seq ([]:List Value).toArray}}) (Ma lo) hh hD' s.heap.objs.size hSr hSr _ 0 hS (λ h' tk acc' c' hk hS' hacc=>?_) hn
 show wpAny (model P w) A (load s.heap.objs.size>>=_) Q E _
 refine ZA (wpAny_load hS' ?_)
 have ea:acc'.toList=es.toList.map (·.key):=by
  refine List.ext_getElem? λ j=>?_
  rw[y8,Array.getElem?_toList,Array.getElem?_toList]
  by_cases hj:j<es.size
  . have h1:j<acc'.size:=by rw[hacc.1];exact hj
    obtain⟨e,e1,e2⟩:=hacc.2 j acc'[j] (by simp[h1])
    rw[e1,Array.getElem?_eq_getElem h1,e2]
    rfl
  . rw[Array.getElem?_eq_none (by rw[hacc.1];omega),Array.getElem?_eq_none %[|0]]
    rfl
 have keep:∀b o,s.heap.get? b=some o->h'.get? b=some o:=λ b o q=>hk b o (w9 (ZE q)) (ZC _ q)
 have:=hQ h' tk keep (Nat.le_of_lt (ZE hS'))
 rw[←ea]at this
 exact ZB this
end
theorem La(x y:Int)(xs ys:%[|1]):ltI (x::xs) (y::ys)=if x=y then ltI xs ys else decide (x<y):=by
 unfold ltI
 rw[show decide ((x::xs).length<(y::ys).length)=decide (xs.length<ys.length) by simp]
 rfl
theorem sY(xs:%[|1]):ltI xs []=false:=by
 unfold ltI
 rw[ZH (by simp)]
 cases xs<;>rfl
theorem RC {a b c:%[|1]}(h1:ltI a b=true)(h2:ltI b c=true):ltI a c=true:=by
 induction a generalizing b c with
 | nil=>
   cases c with
   | nil=>rw[sY]at h2;cases h2
   | cons z c=>rfl
 | cons x a ih=>
   cases b with
   | nil=>rw[sY]at h1;cases h1
   | cons y b=>
     cases c with
     | nil=>rw[sY]at h2;cases h2
     | cons z c=>
       rw[La]at h1 h2 ⊢
       by_cases e1:x=y
       . subst e1
         rw[if_pos rfl]at h1
         by_cases e2:x=z
         . subst e2
           rw[if_pos rfl]at h2 ⊢
           exact ih h1 h2
         . rw[if_neg e2]at h2 ⊢
           exact h2
       . rw[if_neg e1]at h1
         have h1:=ZF h1
         by_cases e2:y=z
         . subst e2
           rw[if_neg e1]
           exact ZG h1
         . rw[if_neg e2]at h2
           have h2:=ZF h2
           rw[if_neg %[|0]]
           exact ZG %[|0]
theorem Sy{a b c:Int×%[|1]}(h1:ltC a b=true)(h2:ltC b c=true):ltC a c=true:=by
 unfold ltC at*
 by_cases e1:a.1=b.1
 . rw[if_pos e1]at h1
   by_cases e2:b.1=c.1
   . rw[if_pos e2]at h2
     rw[if_pos (e1.trans e2)]
     exact RC h1 h2
   . rw[if_neg e2]at h2
     rw[if_neg (by rw[e1];exact e2),e1]
     exact h2
 . rw[if_neg e1]at h1
   have h1:=ZF h1
   by_cases e2:b.1=c.1
   . rw[if_neg (by rw[←e2];exact e1),←e2]
     exact ZG h1
   . rw[if_neg e2]at h2
     have h2:=ZF h2
     rw[if_neg %[|0]]
     exact ZG %[|0]
theorem Om{a b:Int×%[|1]}(n:a≠b)(h:ltC a b=false):ltC b a=true:=by
 unfold ltC at*
 by_cases e1:a.1=b.1
 . rw[if_pos e1]at h
   rw[if_pos e1.symm]
   cases q:ltI b.2 a.2 with
   | true=>rfl
   | false=>exact absurd (Prod.ext e1 (uX h q)) n
 . rw[if_neg e1]at h
   have h:=of_decide_eq_false h
   rw[if_neg (λ z=>e1 z.symm)]
   exact ZG %[|0]
structure OdrL(N:Nat)(lt:Nat->Nat->Bool)(p:List Nat):Prop where
 len:p.length=N
 lt_:∀i∈p,i<N
 nd:p.Nodup
 srt:p.Pairwise λ i j=>lt i j=true
theorem QJ{N:Nat}{lt:Nat->Nat->Bool}{p:Array Nat}(P:Pm N p)(h:Srt lt p N):OdrL N lt p.toList:=by
 have at_:∀a,a<N->p.toList[a]? =some (p.getD a 0):=λ a ha=>by
  have:a<p.size:=by rw[P.sz];exact ha
  simp[this]
 have hl:p.toList.length=N:=by rw[Array.length_toList,P.sz]
 refine⟨hl,λ i hi=>?_,?_,?_⟩
 . obtain⟨a,ha⟩:=ZR hi
   have hal:a<N:=by rw[←hl];exact(z0.mp ha).1
   rw[at_ a hal]at ha
   cases ha
   exact P.lt a hal
 . refine List.pairwise_iff_getElem.mpr λ a b ha hb hab e=>?_
   have e1:=at_ a %[|0]
   have e2:=at_ b %[|0]
   rw[y3 ha]at e1
   rw[y3 hb,←e]at e2
   have:=P.inj a b %[|0] %[|0] (Option.some.inj (e1.symm.trans e2))
   omega
 . refine List.pairwise_iff_getElem.mpr λ a b ha hb hab=>?_
   have e1:=at_ a %[|0]
   have e2:=at_ b %[|0]
   rw[y3 ha]at e1
   rw[y3 hb]at e2
   rw[Option.some.inj e1,Option.some.inj e2]
   exact h a b hab %[|0]
abbrev t6(cs:List (Int×%[|1]))(i j:Nat):Bool:=ltC (cs.getD i (0,[])) (cs.getD j (0,[]))
theorem Qj{cs:List (Int×%[|1])}(nd:cs.Nodup):LtOk cs.length (t6 cs):=by
 refine⟨λ i j hi hj ne h=>Om (λ e=>ne ?_) h,λ i j k _ _ _ h1 h2=>Sy h1 h2⟩
 rw[List.getD_eq_getElem?_getD,List.getD_eq_getElem?_getD,y3 hi,y3 hj]at e
 exact(List.getElem_inj nd).mp e
section
variable {prog : Program} {w : World} {A : Around} {E : Value -> Shared -> Prop} {s : Shared}
theorem Js{h:Heap}{vs:List Value}{cs:List (Int×%[|1])}(hl:vs.length=cs.length)(hr:∀(i:Nat)(v:Value)(c:Int×%[|1]),vs[i]? =some v->cs[i]? =some c->aG h v c):
 ∃fs:List Value,PySem.W.KatTups h vs fs/\fs.length=vs.length/\∀v∈fs,∃n t,v=Value.int n t:=by
 induction vs generalizing cs with
 | nil=>exact⟨[],.nil,rfl,λ _ z=>nomatch z⟩
 | cons v vs ih=>
   cases cs with
   | nil=>cases hl
   | cons c cs=>
     obtain⟨fs,t,fl,ff_⟩:=ih (cs:=cs) (by simpa using hl) λ i u c' e1 e2=>hr (i+1) u c' (by simpa using e1) (by simpa using e2)
     obtain⟨b1,o1,k1,tk1,u1,rfl,g1,g2,g3,g4⟩:=hr 0 v c rfl rfl
     refine⟨Value.int c.1 tk1::fs,PySem.W.KatTups.cons (f:=.int c.1 tk1) g1 g2 g3 rfl t,by simp[fl],λ v hv=>?_⟩
     rcases ZJ.mp hv with rfl | hv
     . exact⟨_,_,rfl⟩
     . exact ff_ v hv
theorem sW{a:Addr}{vs:List Value}{n:Nat}{cs:List (Int×%[|1])}{R:PySem.Fin->%[|8]}(hu:A.units+2<cLine)(ho:s.heap.get? a=some (seqObj "list" vs.toArray n))
 (hl:vs.length=cs.length)(hr:∀(i:Nat)(v:Value)(c:Int×%[|1]),vs[i]? =some v->cs[i]? =some c->aG s.heap v c)(nd:cs.Nodup)(h64:vs.length<64)
 (h:∀p:List Nat,OdrL cs.length (t6 cs) p->R (.done (.ret .none)) {s with heap:=sortedHeap s.heap a vs (List.toArray (p.map λ i=>vs.getD i Value.none))}):
 wpAny (model prog w) A (Builtin.«list.sort» ⟨[.ref a],[]⟩) R E s:=by
 rw[list_sort_plain]
 have hla:a<s.heap.objs.size:=ZE ho
 have hsl:vs.length≤sizeLine:=Nat.le_trans (Nat.le_of_lt h64) %[|3]
 refine ZA (listItems_at ho rfl ?_)
 refine ZA (listUpdate_at ho rfl ?_ (by rw[x4];exact hsl) (Nat.zero_le _))
 obtain⟨e1,ho1⟩:∃e1,(s.heap.update a (Obj.mapSeq λ _=>#[])).get? a=some (seqObj "list" #[] e1):=⟨_,get?_update_seq ho (λ _=>#[])⟩
 refine ZA (seqEpoch_at ho1 rfl ?_)
 refine ZA (wpAny_newTuple ?_ (by show vs.length≤_;exact hsl))
 refine ZA (wpAny_newList ?_ (Nat.zero_le _))
 refine ZQ ?_
 have ho6:(((s.heap.update a (Obj.mapSeq λ _=>#[])).push (seqObj "tuple" vs.toArray 0)).push (seqObj "list" #[] 0)).get? a=some (seqObj "list" #[] e1):=by
  rw[Heap.get?_push_ne _ _ _ (by rw[size_push',Heap.size_update];exact w9 (Nat.lt_succ_of_lt hla)),Heap.get?_push_ne _ _ _ (by rw[Heap.size_update];exact w9 hla)]
  exact ho1
 show wpAny (model prog w) A _ R E {s with heap:=((s.heap.update a (Obj.mapSeq λ _=>#[])).push (seqObj "tuple" vs.toArray 0)).push (seqObj "list" #[] 0)}
 dsimp only
 have hout:(vs.toArray.zip vs.toArray).map (·.2)=vs.toArray:=by
  apply Array.toList_inj.mp
  simp[List.map_snd_zip]
 have hr':∀(i:Nat)(v:Value)(c:Int×%[|1]),vs[i]? =some v->cs[i]? =some c->aG (((s.heap.update a (Obj.mapSeq λ _=>#[])).push (seqObj "tuple" vs.toArray 0)).push (seqObj "list" #[] 0)) v c:=λ i v c q1 q2=>(hr i v c q1 q2).keep λ b o e c=>by
  have hba:b≠a:=by
   rintro rfl
   rw[ho]at e;cases e
   exact absurd (show Value.type "list"=Value.type "tuple" from c) %[|3]
  have hlb:b<s.heap.objs.size:=ZE e
  rw[Heap.get?_push_ne _ _ _ (by rw[size_push',Heap.size_update];exact w9 (Nat.lt_succ_of_lt hlb)),Heap.get?_push_ne _ _ _ (by rw[Heap.size_update];exact w9 hlb),Heap.get?_update_ne _ _ _ _ hba]
  exact e
 by_cases h2:vs.toArray.size<2
 . rw[if_pos h2,if_pos h2]
   refine ZA (ZB ?_)
   rw[StateT.run_pure]
   refine ZA (ZB ?_)
   dsimp only
   refine ZA (seqEpoch_at ho6 rfl ?_)
   rw[show arrOf (SortSt.mk' general' (vs.toArray.zip vs.toArray) #[] 7 none)=vs.toArray.zip vs.toArray from rfl,hout]
   refine ZA (listUpdate_at ho6 rfl ?_ (Nat.zero_le _) (by rw[x4];omega))
   simp only[bne_self_eq_false,Bool.false_eq_true,if_false]
   have hp:OdrL cs.length (t6 cs) (List.range cs.length):=by
    refine⟨by simp,λ i hi=>List.mem_range.mp hi,List.nodup_range,?_⟩
    rw[x4]at h2
    rcases cs with _ | ⟨k1,_ | ⟨k2,cs⟩⟩
    . exact List.Pairwise.nil
    . simp[List.range_succ]
    . exfalso;simp at hl;omega
   have ev:((List.range cs.length).map λ i=>vs.getD i Value.none)=vs:=by
    rw[←hl]
    refine List.ext_getElem? λ i=>?_
    rw[y8]
    by_cases hi:i<vs.length
    . simp[hi]
    . rw[List.getElem?_eq_none (by rw[List.length_range];omega),List.getElem?_eq_none %[|0]];rfl
   have h:=h _ hp
   rw[ev]at h
   exact ZB h
 . rw[if_neg h2,if_neg h2]
   rw[x4]at h2
   obtain⟨fs,tp,fl,fi⟩:=Js hl hr'
   refine ZA (PySem.W.kat_kind (T:=.type "int") tp %[|0] (λ v hv=>?_) rfl ?_)
   . obtain⟨n,t,rfl⟩:=fi v hv
     exact PySem.W.Looks.of_pure rfl
   have run:=Qk (Qj nd) %[|0]
   generalize hs1:({s with heap:=((s.heap.update a (Obj.mapSeq λ _=>#[])).push (seqObj "tuple" vs.toArray 0)).push (seqObj "list" #[] 0)}:Shared)=s1
   have hr1:∀(i:Nat)(v:Value)(c:Int×%[|1]),vs[i]? =some v->cs[i]? =some c->aG s1.heap v c:=by rw[←hs1];exact hr'
   refine ZA (wpAny_mono (PySem.W.kat_run (Q:=λ st' s'=>s'=s1/\∃p:List Nat,(arrOf st').map (·.2)=List.toArray (p.map λ i=>vs.getD i Value.none)/\failedOf st'=none/\OdrL cs.length (t6 cs) p) (G:=λ p s'=>s'=s1/\Pm cs.length p/\Srt (t6 cs) p cs.length) rfl %[|0] h64 ?_ ?_) ?_ λ _ _ x=>x)
   . rintro p st' s' hp har hf ⟨rfl,P,srt⟩
     exact⟨rfl,p.toList,PySem.W.kat_snds rfl har,hf,QJ P srt⟩
   . rw[hl]
     refine aR.wp (I:=λ s'=>s'=s1) (λ i j C s' hi hj e k=>?_) _ s1 run rfl λ p s' q e=>⟨e,q⟩
     subst e
     have gi:∀i,i<cs.length->aG s'.heap (vs.getD i Value.none) (cs.getD i (0,[])):=λ i hi=>hr1 i _ _ (by rw[List.getD_eq_getElem?_getD];simp[show i<vs.length by omega]) (by rw[List.getD_eq_getElem?_getD];simp[hi])
     unfold PySem.W.kas_ask
     exact G3 hu (gi i hi) (gi j hj) (k _ rfl)
   . rintro⟨⟨⟩,st'⟩ s' ⟨rfl,p,h1,hf,hp⟩
     subst hs1
     dsimp only
     refine ZA (seqEpoch_at ho6 rfl ?_)
     rw[h1]
     have hz:(p.map λ i=>vs.getD i Value.none).length=vs.length:=by rw[y7,hp.len,hl]
     refine ZA (listUpdate_at ho6 rfl ?_ (Nat.zero_le _) (by rw[x4,hz];exact Nat.le_succ_of_le hsl))
     rw[hf]
     simp only[bne_self_eq_false,Bool.false_eq_true,if_false]
     exact ZB (h p hp)
end
section
variable {prog : Program} {w : World} {A : Around} {E : Value -> Shared -> Prop} {s : Shared} {d : Addr} {es : Array DictEntry} {ep : Nat} {cs : List (Int × %[|1])}
theorem Cp{Q:%[|7]}(hh:A.handled=none)(hu:A.units+8<cLine)(lo:(d==sysModules)=false)(hD:DEs d es ep s.heap)(hl:es.size=cs.length)(nd:cs.Nodup)(h64:es.size<64)
 (hc:∀(i:Nat)(e:DictEntry)(c:Int×%[|1]),es.toList[i]? =some e->cs[i]? =some c->aG s.heap e.key c)
 (h:∀(p:List Nat)(l:Addr) h' tk c,OdrL cs.length (t6 cs) p->(∀b o,s.heap.get? b=some o->h'.get? b=some o)->s.heap.objs.size≤l->h'.get? l=some (seqObj "list" (List.toArray (p.map λ i=>(es.toList.map (·.key)).getD i Value.none)) c)->Q (.ref l) {s with heap:=h',toks:=tk}):
 wpAny (model prog w) A (call (.builtin "sorted") [.ref d]) Q E s:=by
 refine Calls.call_function_entry kind_sorted plain_sorted entry_sorted (args_sorted1 _) ?_
 unfold Builtin.«sorted»
 have hsl:es.size≤sizeLine:=Nat.le_trans (Nat.le_of_lt h64) %[|3]
 refine ZA (m:=checkCount "sorted" 1 1 _) (ZB ?_)
 refine ZA (xP (by simpa using hh) lo hD hsl λ h' tk k1 k2=>?_)
 generalize hvs:es.toList.map (·.key)=vs at h
 have vl:vs.length=es.size:=by rw[←hvs,y7,Array.length_toList]
 refine ZA (wpAny_newList ?_ %[|0])
 have hoL:(h'.push (seqObj "list" vs.toArray 0)).get? h'.objs.size=some (seqObj "list" vs.toArray 0):=ZD _ rfl
 have keep:∀b o,s.heap.get? b=some o->(h'.push (seqObj "list" vs.toArray 0)).get? b=some o:=λ b o q=>ZC _ (k1 b o q)
 show wpAny _ _ _ _ _ {s with heap:=h'.push (seqObj "list" vs.toArray 0),toks:=tk}
 refine ZA (ZQ (ZP slot_list_sort ⟨_,hoL,rfl⟩ entry_list_sort (sW (cs:=cs) ?_ hoL %[|0] (λ i v c e1 e2=>?_) nd %[|0] λ p hp=>⟨_,rfl,?_⟩) (args_list_sort _)))
 . show A.units+1+1+2<cLine
   omega
 . rw[←hvs,y8]at e1
   cases q:es.toList[i]? with
   | none=>rw[q]at e1;cases e1
   | some e=>
     rw[q]at e1
     cases e1
     exact(hc i e c q e2).keep λ b o e _=>keep b o e
 . obtain⟨e,he⟩:=sortedHeap_at (out:=List.toArray (p.map λ i=>vs.getD i Value.none)) hoL
   refine ZB ⟨_,rfl,h p _ _ tk e hp (λ b o q=>?_) k2 he⟩
   have hlt:b<h'.objs.size:=x9 (ZE q) k2
   rw[sortedHeap_old (w9 hlt) (by rw[size_push'];exact Nat.lt_succ_of_lt hlt)]
   exact keep b o q
end
theorem Mr(n:Nat):∀(q:List Nat),q.Nodup->(∀i∈q,i<n)->q.length≤n:=by
 induction n with
 | zero=>
   intro q _ h
   cases q with
   | nil=>exact y9 _
   | cons a q=>exact absurd (h a x5) %[|0]
 | succ n ih=>
   intro q nd h
   by_cases c:n∈q
   . have:=ih (q.erase n) (nd.erase n) λ i hi=>by
      have:=h i (List.mem_of_mem_erase hi)
      have:i≠n:=λ e=>by rw[e]at hi;exact nd.not_mem_erase hi
      omega
     rw[List.length_erase_of_mem c]at this
     omega
   . have:=ih q nd λ i hi=>by
      have:=h i hi
      have:i≠n:=λ e=>c (e▸hi)
      omega
     omega
theorem HX(n:Nat):∀(q:List Nat),q.Nodup->(∀i∈q,i<n)->q.length=n->q.Perm (List.range n):=by
 induction n with
 | zero=>
   intro q _ _ hl
   obtain rfl:=List.eq_nil_of_length_eq_zero hl
   exact .nil
 | succ n ih=>
   intro q nd h hl
   by_cases c:n∈q
   . have ih:=ih (q.erase n) (nd.erase n) (λ i hi=>by
      have:=h i (List.mem_of_mem_erase hi)
      have:i≠n:=λ e=>by rw[e]at hi;exact nd.not_mem_erase hi
      omega) (by rw[List.length_erase_of_mem c];omega)
     rw[List.range_succ]
     exact(List.perm_cons_erase c).trans ((List.Perm.cons n ih).trans (List.perm_append_singleton _ _).symm)
   . have:=Mr n q nd λ i hi=>by
      have:=h i hi
      have:i≠n:=λ e=>c (e▸hi)
      omega
     omega
theorem OdrL.perm{N:Nat}{lt:Nat->Nat->Bool}{p:List Nat}(h:OdrL N lt p):p.Perm (List.range N):=HX N p h.nd h.lt_ h.len
theorem range_getD{α:Type}(l:List α)(z:α):((List.range l.length).map λ i=>l.getD i z)=l:=by
 refine List.ext_getElem? λ i=>?_
 rw[y8]
 by_cases hi:i<l.length
 . simp[hi]
 . rw[List.getElem?_eq_none (by rw[List.length_range];omega),List.getElem?_eq_none %[|0]];rfl
section
variable {K : PySem.W.Frag} {O : Own} {H : Hp}
theorem J8{ys:Cy}{kcs:Kc}(r:Kcs K O H ys (kcs.map encC)):ys.map (·.1)=kcs.map (·.1):=by
 induction kcs generalizing ys with
 | nil=>cases r;rfl
 | cons kv kcs ih=>
   obtain⟨b,u,v,ys',rfl,_,_,_,t⟩:=r.inv
   rw[List.map_cons,List.map_cons,ih t]
theorem Pa{ys:Cy}{kcs:Kc}(r:Kcs K O H ys (kcs.map encC)):∀(i:Nat)(y:(Int×%[|1])×Addr×Value),ys[i]? =some y->Rep K O H (.ref y.2.1) (cD y.1):=by
 induction kcs generalizing ys with
 | nil=>cases r;intro i y h;simp at h
 | cons kv kcs ih=>
   obtain⟨b,u,v,ys',rfl,rk,_,_,t⟩:=r.inv
   intro i y h
   cases i with
   | zero=>cases h;exact rk
   | succ i=>exact ih t i y (by simpa using h)
theorem Ly{vs:List V}{ds:List D}(hl:vs.length=ds.length)(h:∀(i:Nat)(v:V)(d:D),vs[i]? =some v->ds[i]? =some d->Rep K O H v d):Reps K O H vs ds:=by
 induction vs generalizing ds with
 | nil=>
   cases ds with
   | nil=>exact .nil
   | cons=>cases hl
 | cons v vs ih=>
   cases ds with
   | nil=>cases hl
   | cons d ds=>exact .cons (h 0 v d rfl rfl) (ih (by simpa using hl) λ i v' d' e1 e2=>h (i+1) v' d' (by simpa using e1) (by simpa using e2))
theorem PK{vs:List V}{us:List Value}(hl:vs.length=us.length)(h:∀(i:Nat)(v:V)(u:Value),vs[i]? =some v->us[i]? =some u->L2.RelV v u):Vals vs us:=by
 induction vs generalizing us with
 | nil=>
   cases us with
   | nil=>exact .nil
   | cons=>cases hl
 | cons v vs ih=>
   cases us with
   | nil=>cases hl
   | cons u us=>exact .cons (h 0 v u rfl rfl) (ih (by simpa using hl) λ i v' d' e1 e2=>h (i+1) v' d' (by simpa using e1) (by simpa using e2))
end
theorem Oc{X:Cx}{S:Store}{W:WD}{k:Nat}{kvs:Kc}(hc:X.calm=true)(hu:X.A.units+8<cLine)(hk:S[k]? =some (.non::kvs.map encC))(hn:kvs.length<64)
 (w:∀ks:List (Int×%[|1]),ks.Perm (kvs.map (·.1))->ks.Pairwise (λ a b=>ltC a b=true)->W (.lst (ks.map cD)) S):dM X (.builtin "sorted") [.dlo k] S W:=by
 intro pins s σ H O vs us I st r ru
 obtain⟨v,rfl,r'⟩:=dw r
 obtain⟨u,rfl,ru'⟩:=vals1 ru
 cases r' with
 | @dlo a _ ha hna=>
   cases ru'
   obtain⟨lo,mu,ys,eH,kc,⟨oo,es,g1,g2,g3,g4,g5,g6⟩,hz⟩:=fu I (st.dob k a _ ha hk)
   have hyl:=kc.length
   have hks:=J8 kc
   have esz:es.size=ys.length:=by rw[←Array.length_toList,g4,y7]
   have nd:(kvs.map (·.1)).Nodup:=by rw[←hks];exact g6
   refine Cp (cs:=kvs.map (·.1)) (I.ok.hd hc) hu lo ⟨oo,g1,g2,g3⟩ (by rw[esz,hyl,y7]) nd %[|0] (λ i e c e1 e2=>?_) λ p l h' tk c hp keep hle hL=>?_
   . rw[g4,y8]at e1
     cases q:ys[i]? with
     | none=>rw[q]at e1;cases e1
     | some y=>
       rw[q]at e1
       cases e1
       rw[←hks,y8,q]at e2
       cases e2
       exact g5 y (y4 q)
   . have pn:∀i∈p,i<ys.length:=λ i hi=>by have:=hp.lt_ i hi;rw[y7]at this;omega
     have hfr:H l=none:=I.hok.fresh hle
     let yD:(Int×%[|1])×Addr×Value:=((0,[]),0,.none)
     have yat:∀i,i<ys.length->ys[i]? =some (ys.getD i yD):=λ i hi=>by rw[List.getD_eq_getElem?_getD];simp[hi]
     have el:(p.map λ i=>(es.toList.map (·.key)).getD i Value.none)=p.map λ i=>Value.ref (ys.getD i yD).2.1:=by
      refine List.map_congr_left λ i hi=>?_
      rw[g4,List.map_map,List.getD_eq_getElem?_getD,y8,yat i (pn i hi)]
      rfl
     rw[el]at hL
     have pl:p.length<64:=by rw[hp.len,y7];exact hn
     have ok:aK X.prog X.w (upd H l (.lst (p.map λ i=>V.ref (ys.getD i yD).2.1))) h' l (.lst (p.map λ i=>V.ref (ys.getD i yD).2.1)):=
      ⟨by rw[y7,sizeLine_eq];omega,p.map λ i=>Value.ref (ys.getD i yD).2.1,c,PK (by simp) (λ i v u e1 e2=>by
       rw[y8]at e1 e2
       cases q:p[i]? with
       | none=>rw[q]at e1;cases e1
       | some j=>rw[q]at e1 e2;cases e1;cases e2;rfl),hL⟩
     have rk:=Pa kc
     have reps:Reps X.K O H (p.map λ i=>V.ref (ys.getD i yD).2.1) ((p.map λ i=>(ys.getD i yD).1).map cD):=Ly (by simp) λ i v d e1 e2=>by
      rw[y8]at e1
      rw[y8,y8]at e2
      cases q:p[i]? with
      | none=>rw[q]at e1;cases e1
      | some j=>
        rw[q]at e1 e2
        cases e1
        cases e2
        exact rk j _ (yat j (pn j (y4 q)))
     have ek:∀i,(ys.getD i yD).1=(kvs.map (·.1)).getD i (0,[]):=λ i=>by
      rw[←hks,List.getD_eq_getElem?_getD,List.getD_eq_getElem?_getD,y8]
      cases ys[i]?<;>rfl
     have hw:=w (p.map λ i=>(ys.getD i yD).1) (by
      have e:(p.map λ i=>(ys.getD i yD).1)=p.map λ i=>(kvs.map (·.1)).getD i (0,[]):=List.map_congr_left λ i _=>ek i
      rw[e]
      have:=hp.perm.map λ i=>(kvs.map (·.1)).getD i (0,[])
      rw[range_getD]at this
      exact this) (by
      rw[List.pairwise_map]
      refine hp.srt.imp λ{i j} h=>?_
      rw[ek,ek]
      exact h)
     refine⟨.ref l,_,I.laid (t':=tk) keep hle ok,rfl,?_⟩
     exact⟨O,_,S,hw,Step.fresh hfr _,st.fresh hfr _,.lst (GZ st hfr) (reps.mono (Step.fresh hfr _))⟩
def SM:Bf where
 x:="sorted"
 id:="sorted"
 boot:=by decide+kernel
 wp ds S W:=∃(k:Nat) (kvs:Kc),ds=[.dlo k]/\S[k]? =some (.non::kvs.map encC)/\kvs.length<64/\∀ks:List (Int×%[|1]),ks.Perm (kvs.map (·.1))->ks.Pairwise (λ a b=>ltC a b=true)->W (.lst (ks.map cD)) S
 sound:=by
  rintro X ds S W hc hr ⟨k,kvs,rfl,h2,h3,h4⟩
  exact Oc hc (by have:=hr.un;omega) h2 h3 h4
section
variable {P : Program} {w : World} {A : Around} {E : Value -> Shared -> Prop} {s : Shared} {a b : Addr} {ya yb : Cy} {e : Nat -> Bool}
def wD(A:Around)(s:Shared)(ya yb:Cy)(e:Nat->Bool):Prop:=∀(i:Nat)(y:(Int×%[|1])×Addr×Value),ya[i]? =some y->(atKey yb y.1=none/\e i=false)∨∃p,atKey yb y.1=some p/\SeqAt.EqAt A s y.2.2 p.2 (e i)
theorem xn{nm:String}{Q:Bool->%[|8]}(la:(a==sysModules)=false)(lb:(b==sysModules)=false)(hu:A.units+5<cLine)(da:eZ P w s.heap a ya)(db:eZ P w s.heap b yb)(hits:wD A s ya yb e)
 (h:Q (ya.length==yb.length&&(List.range ya.length).all e) s):wpAny (model P w) A (Builtin.Dict.samePairs nm a b) Q E s:=by
 obtain⟨oa,es,g1,_,g3,g4,g5,g6⟩:=da
 obtain⟨ob,es',k1,_,k3,k4,k5,k6⟩:=db
 have sa:es.size=ya.length:=size_of_entries g4
 have sb:es'.size=yb.length:=size_of_entries k4
 unfold Builtin.Dict.samePairs Builtin.Dict.showsAll
 rw[if_neg (show ¬(a==sysModules)=true by rw[la];exact y6),if_neg (show ¬(b==sysModules)=true by rw[lb];exact y6)]
 refine ZA (ZB (ZA (ZB (ZA (wpAny_dictEntries g1 g3 ?_)))))
 dsimp only
 refine ZA (wpAny_dictEntries k1 k3 ?_)
 by_cases hsz:es.size=es'.size
 case neg=>
  rw[if_pos (by simpa using hsz)]
  rw[show(ya.length==yb.length)=false by rw[←sa,←sb];simpa using hsz,Bool.false_and]at h
  exact ZA (wpAny_rule (ZB h))
 case pos =>
  rw[show(ya.length==yb.length)=true by rw[←sa,←sb,hsz];exact beq_self_eq_true _,Bool.true_and]at h
  rw[if_neg (by rw[hsz];simp)]
  refine ZA (wpAny_dictEpoch g1 g3 (ZA ?_))
  rw[Std.Legacy.Range.forIn_eq_forIn_range']
  simp only[Std.Legacy.Range.size,Nat.sub_zero,Nat.add_sub_cancel,Nat.div_one]
  refine wpAny_forIn_list _ (λ rest q s'=>s'=s/\q=(none,())/\∃i,rest=List.range' i (es.size-i)/\i≤es.size/\∀j,j<i->e j=true) _ ?_ ?_ _ _ ⟨rfl,rfl,0,by simp,Nat.zero_le _,λ j hj=>by omega⟩
  . rintro x rest q s' ⟨rfl,rfl,i,hr,hi,hpre⟩
    have hlt:i<es.size:=by
     rcases Nat.lt_or_ge i es.size with h | h
     . exact h
     . rw[Nat.sub_eq_zero_of_le h]at hr;simp at hr
    obtain⟨rfl,hrest⟩:x=i/\rest=List.range' (i+1) (es.size-(i+1)):=by
     rw[show es.size-i=(es.size-(i+1))+1 by omega,List.range'_succ]at hr
     injection hr with h1 h2
     exact⟨h1,h2⟩
    have hy:ya[x]? =some (ya[x]'%[|0]):=y3 %[|0]
    generalize (ya[x]'%[|0])=y at hy
    have hx:es[x]? =some (entryOfKey (aY P w) y):=by rw[entry_at g4,hy];rfl
    have key:(aY P w).is s'.heap y.1 y.2.1:=g5 y (y4 hy)
    have no:e x=false->Q false s':=λ hf=>by
     have:(List.range ya.length).all e=false:=by
      rw[List.all_eq_false]
      exact⟨x,List.mem_range.mpr %[|0],by rw[hf];exact y6⟩
     rw[this]at h
     exact h
    refine ZA (wpAny_dictEntries g1 g3 ?_)
    rw[hx]
    show wpAny _ _ (holding [Value.ref y.2.1,y.2.2] _>>=_) _ _ _
    refine ZA (ZQ (ZA (wpAny_dictFind_heap (knd:=aY P w) (show A.units+5<cLine from hu) key k1 k3 k4 k5 k6 (λ none_=>?_) λ j p at_=>?_)))
    . have en:=atKey_none_of_get none_
      rcases hits x y hy with⟨_,hf⟩ | ⟨p,hp,_⟩
      . refine ZB ?_
        show wpAny _ _ (if(!false)=true then _ else _) _ _ _
        rw[if_pos %[|3]]
        exact ZB (ZB (no hf))
      . rw[en]at hp;cases hp
    . have ea:=atKey_of_get k6 at_
      rcases hits x y hy with⟨hn,_⟩ | ⟨p',hp,he⟩
      . rw[ea]at hn;cases hn
      . rw[ea]at hp
        cases hp
        have hx':es'[j]? =some (entryOfKey (aY P w) (y.1,p)):=by rw[entry_at k4,at_];rfl
        refine ZA (wpAny_dictEntries k1 k3 ?_)
        rw[hx']
        refine ZQ (he P w _ _ ?_)
        cases hex:e x with
        | false=>
          show wpAny _ _ (if(!false)=true then _ else _) _ _ _
          rw[if_pos %[|3]]
          exact ZB (ZB (no hex))
        | true=>
          show wpAny _ _ (if(!true)=true then _ else _) _ _ _
          rw[if_neg %[|3]]
          refine ZA (wpAny_dictEpoch g1 g3 ?_)
          rw[if_neg (by simp)]
          refine ZB ⟨rfl,rfl,x+1,hrest,hlt,λ j hj=>?_⟩
          rcases Nat.lt_or_ge j x with z | z
          . exact hpre j z
          . rw[show j=x by omega];exact hex
  . rintro q s' ⟨rfl,rfl,i,hr,hi,hpre⟩
    have hin:i=es.size:=by
     rcases Nat.lt_or_ge i es.size with h | h
     . rw[show es.size-i=(es.size-(i+1))+1 by omega,List.range'_succ]at hr
       cases hr
     . omega
    refine ZB ?_
    rw[show(List.range ya.length).all e=true by rw[List.all_eq_true];exact λ j hj=>hpre j (by have:=List.mem_range.mp hj;omega)]at h
    exact h
theorem R9{Q:%[|7]}(la:(a==sysModules)=false)(lb:(b==sysModules)=false)(hu:A.units+6<cLine)(da:eZ P w s.heap a ya)(db:eZ P w s.heap b yb)(hits:wD A.in1 s ya yb e)
 (h:Q (.bool (ya.length==yb.length&&(List.range ya.length).all e)) s):wpAny (model P w) A (compareOp .Eq (.ref a) (.ref b)) Q E s:=by
 have Ta:=da.of.typeIs
 have Tb:=db.of.typeIs
 refine wpAny_richCompare_same_room (op:=.Eq) Ta Tb PySem.F.slot_dict_eq (ZP PySem.F.slot_dict_eq Ta PySem.F.entry_dict_eq ?_ (PySem.F.args_dict_eq_2 _ _)) %[|0]
 show wpAny _ _ (Builtin.Dict.dictSlotArgs "__eq__" ⟨[.ref a,.ref b],[]⟩>>=_) _ _ s
 refine ZA ?_
 unfold Builtin.Dict.dictSlotArgs
 refine ZA (wpAny_notOrdered_dict Ta ?_)
 show wpAny _ _ (pure (Value.ref a,Value.ref b)) _ _ s
 refine ZB (ZA (wpAny_isInstance (T:="dict") Tb PySem.F.sub_dict_dict ?_))
 simp only[Bool.not_true,Bool.false_eq_true,if_false]
 refine ZA (ZB (ZA (ZB (ZA (xn la lb (by show A.units+1+5<cLine;omega) da db hits ?_)))))
 refine ZB ⟨_,rfl,(λ x=>nomatch x),?_⟩
 simpa using h
theorem RJ{Q:%[|7]}(la:(a==sysModules)=false)(lb:(b==sysModules)=false)(hu:A.units+6<cLine)(da:eZ P w s.heap a ya)(db:eZ P w s.heap b yb)(hits:wD A.in1 s ya yb e)
 (h:Q (.bool (!(ya.length==yb.length&&(List.range ya.length).all e))) s):wpAny (model P w) A (compareOp .NotEq (.ref a) (.ref b)) Q E s:=by
 have Ta:=da.of.typeIs
 have Tb:=db.of.typeIs
 refine wpAny_richCompare_same_room (op:=.NotEq) Ta Tb PySem.F.slot_dict_ne (ZP PySem.F.slot_dict_ne Ta PySem.F.entry_dict_ne ?_ (PySem.F.args_dict_ne_2 _ _)) %[|0]
 show wpAny _ _ (Builtin.Dict.dictSlotArgs "__ne__" ⟨[.ref a,.ref b],[]⟩>>=_) _ _ s
 refine ZA ?_
 unfold Builtin.Dict.dictSlotArgs
 refine ZA (wpAny_notOrdered_dict Ta ?_)
 show wpAny _ _ (pure (Value.ref a,Value.ref b)) _ _ s
 refine ZB (ZA (wpAny_isInstance (T:="dict") Tb PySem.F.sub_dict_dict ?_))
 simp only[Bool.not_true,Bool.false_eq_true,if_false]
 refine ZA (ZB (ZA (ZB (ZA (xn la lb (by show A.units+1+5<cLine;omega) da db hits ?_)))))
 refine ZB ⟨_,rfl,(λ x=>nomatch x),?_⟩
 simpa using h
end
def sr(kb:Kc)(kv:(Int×%[|1])×D):Bool:=match aW kb kv.1 with | some d=>eqD kv.2 d | none=>false
def atE(ka kb:Kc)(i:Nat):Bool:=match ka[i]? with | some kv=>sr kb kv | none=>false
def sZ(ka kb:Kc):Bool:=ka.length==kb.length&&ka.all (sr kb)
def jJ(ka:Kc):Prop:=∀kv∈ka,okD kv.2=true/\deep kv.2≤50
section
variable {X : Cx} {S : Store}
theorem DN{pins:Pins}{s:Shared}{σ:DL.St}{H:Hp}{O:Own}{ya yb:Cy}{ka kb:Kc}(I:%[|5])(hu:X.A.units+60<cLine)(ra:Kcs X.K O H ya (ka.map encC))(rb:Kcs X.K O H yb (kb.map encC))(oa:jJ ka)(ob:jJ kb):
 wD X.A.in1 s ya yb (atE ka kb):=by
 intro i y hy
 have at_:∀(ka:Kc)(ya:Cy),Kcs X.K O H ya (ka.map encC)->∀(i:Nat)(y:(Int×%[|1])×Addr×Value),ya[i]? =some y->∃kv v,ka[i]? =some kv/\kv.1=y.1/\L2.RelV v y.2.2/\Rep X.K O H v kv.2:=by
  intro ka
  induction ka with
  | nil=>intro ya r i y h;cases r;simp at h
  | cons kv ka ih=>
    intro ya r i y h
    obtain⟨b,u,v,ys',rfl,rk,rv,rd,t⟩:=r.inv
    cases i with
    | zero=>cases h;exact⟨kv,v,rfl,rfl,rv,rd⟩
    | succ i=>
      obtain⟨kv',v',g1,g2⟩:=ih ys' t i y (by simpa using h)
      exact⟨kv',v',by simpa using g1,g2⟩
 obtain⟨kv,v,e1,e2,rv,rd⟩:=at_ ka ya ra i y hy
 have o1:=oa kv (y4 e1)
 have ea:atE ka kb i=sr kb kv:=by unfold atE;rw[e1]
 rw[ea,←e2]
 unfold sr
 rcases rb.look kv.1 with⟨l1,l2⟩ | ⟨d,b',u',v',l1,l2,rv',rd'⟩
 . rw[l1]
   exact .inl ⟨l2,rfl⟩
 . have o2:okD d=true:=by
    have:∀(kb:Kc)(c:Int×%[|1]),aW kb c=some d->∃kv∈kb,kv.2=d:=λ kb c h=>by
     unfold aW at h
     cases q:kb.find? λ kv=>decide (kv.1=c)with
     | none=>rw[q]at h;cases h
     | some kv=>rw[q]at h;cases h;exact⟨kv,List.mem_of_find?_eq_some q,rfl⟩
    obtain⟨kv',m,rfl⟩:=this kb _ l1
    exact(ob kv' m).1
   rw[l1]
   refine .inr ⟨_,l2,Gz 50 kv.2 d o1.2 I (lQ o1.1 rd) (lQ o2 rd') rv rv' (by show X.A.units+1+50<cLine;omega)⟩
theorem DP(l kb:Kc):((List.range l.length).all (atE l kb))=l.all (sr kb):=by
 rw[Bool.eq_iff_iff,List.all_eq_true,List.all_eq_true]
 constructor
 . intro h a ha
   obtain⟨i,hi⟩:=ZR ha
   have:=h i (List.mem_range.mpr (z0.mp hi).1)
   unfold atE at this
   rw[hi]at this
   exact this
 . intro h i hi
   unfold atE
   rw[y3 (List.mem_range.mp hi)]
   exact h _ (List.getElem_mem _)
theorem Us{k j:Nat}{ka kb:Kc}{W:Bool->%[|4]}(hu:X.A.units+60<cLine)(hk:S[k]? =some (.non::ka.map encC))(hj:S[j]? =some (.non::kb.map encC))(oa:jJ ka)(ob:jJ kb)(w:W (sZ ka kb) S):bj X .Eq (.dlo k) (.dlo j) S (asB W):=by
 intro pins s σ H O v w' u u' I st r1 r2 r3 r4
 cases r1 with
 | @dlo a _ ha hna=>
   cases r2 with
   | @dlo b _ hb hnb=>
     cases r3
     cases r4
     obtain⟨la,_,ya,_,ka',ma,_⟩:=fu I (st.dob k a _ ha hk)
     obtain⟨lb,_,yb,_,kb',mb,_⟩:=fu I (st.dob j b _ hb hj)
     refine R9 la lb %[|0] ma mb (DN I hu ka' kb' oa ob) ⟨.bl _,H,I,rfl,QG.here ⟨_,rfl,?_⟩ st (.bl _)⟩
     rw[ka'.length,kb'.length,DP]
     exact w
theorem Vc{k j:Nat}{ka kb:Kc}{W:Bool->%[|4]}(hu:X.A.units+60<cLine)(hk:S[k]? =some (.non::ka.map encC))(hj:S[j]? =some (.non::kb.map encC))(oa:jJ ka)(ob:jJ kb)(w:W (!sZ ka kb) S):bj X .NotEq (.dlo k) (.dlo j) S (asB W):=by
 intro pins s σ H O v w' u u' I st r1 r2 r3 r4
 cases r1 with
 | @dlo a _ ha hna=>
   cases r2 with
   | @dlo b _ hb hnb=>
     cases r3
     cases r4
     obtain⟨la,_,ya,_,ka',ma,_⟩:=fu I (st.dob k a _ ha hk)
     obtain⟨lb,_,yb,_,kb',mb,_⟩:=fu I (st.dob j b _ hb hj)
     refine RJ la lb %[|0] ma mb (DN I hu ka' kb' oa ob) ⟨.bl _,H,I,rfl,QG.here ⟨_,rfl,?_⟩ st (.bl _)⟩
     rw[ka'.length,kb'.length,DP]
     exact w
end
section
variable {Ω : Wd}
def Te.eqE(no:Bool)(a b:Ex Ω):Te Ω where
 lev:=max a.lev b.lev
 chk top N nm e:=match e with | .Compare l [p] [r] _=>(p==(if no then CmpOp.NotEq else CmpOp.Eq))&&(okE r&&(a.chk top N nm l&&b.chk top N nm r)) | _=>false
 wp Γ S W:=a.wp Γ S λ x S1=>b.wp Γ S1 λ y S2=>∃k j ka kb,x=.dlo k/\y=.dlo j/\S2[k]? =some (.non::List.map encC ka)/\S2[j]? =some (.non::List.map encC kb)/\jJ ka/\jJ kb/\W (if no then !sZ ka kb else sZ ka kb) S2
 sound:=by
  intro X r top N nm e Γ S W A hl hc hw
  obtain⟨l1,l2⟩:=lv2 hl
  cases e with
  | Compare l os rs pos=>
    match os,rs,hc with
    | [o'],[r'],hc=>
      obtain⟨h1,h2⟩:=aa hc
      obtain⟨h0,h2⟩:=aa h2
      obtain⟨h2,h3⟩:=aa h2
      have e:=ZI h1
      subst e
      refine Ii ((a.sound A l1 h2 hw).mono λ x S1 q=>(b.sound A l2 h3 q).mono λ y S2 q=>?_) (gk h0)
      obtain⟨k,j,ka,kb,rfl,rfl,e1,e2,e3,e4,w⟩:=q
      cases no with
      | false=>exact Us A.hu e1 e2 e3 e4 w
      | true=>exact Vc A.hu e1 e2 e3 e4 w
    | [],_,hc=>exact fE hc
    | [_],[],hc=>exact fE hc
    | [_],_::_::_,hc=>exact fE hc
    | _::_::_,_,hc=>exact fE hc
  | _=>exact fE hc
end
variable {Ω : Wd}
def Grt(i:Int):Prop:=i.natAbs<2 ^ 100000
theorem zL{i:Int}(h:Grt i):Builtin.Int.intBits i≤100000:=by
 unfold Grt at h
 unfold Builtin.Int.intBits
 split
 . exact Nat.zero_le _
 . have:i.natAbs.log2<100000:=by
    rcases Nat.eq_zero_or_pos i.natAbs with h0 | hp
    . rw[h0];decide
    . exact(Nat.log2_lt (Nat.ne_of_gt hp)).mpr h
   omega
def Ex.mulG(a b:Ex Ω):Ex Ω where
 lev:=max a.lev b.lev
 chk top N nm e:=match e with | .BinOp l o r _=>(o==.Mult)&&(a.chk top N nm l&&b.chk top N nm r) | _=>false
 wp Γ S W:=a.wp Γ S λ x S1=>b.wp Γ S1 λ y S2=>match x,y with
  | .int i,.int j=>(Grt i/\Grt j)/\W (.int (i*j)) S2
  | _,_=>False
 sound:=by
  intro X r top N nm e Γ S W A hl hc hw
  obtain⟨l1,l2⟩:=lv2 hl
  cases e with
  | BinOp l o r' pos=>
    obtain⟨h1,h2⟩:=aa hc
    obtain⟨h2,h3⟩:=aa h2
    have e:o=.Mult:=ZI h1
    subst e
    refine qM ((a.sound A l1 h2 hw).mono λ x S1 q=>(b.sound A l2 h3 q).mono λ y S2 q=>?_)
    split at q
    . exact fZ (C:=λ i j=>Grt i/\Grt j) (g:=λ i j=>i*j) (opI λ i j _ _ _ _ _ hc q=>mul_int q (mulOk_of_bits (zL hc.1) (zL hc.2) %[|3])) q.1 q.2
    . exact(show False from q).elim
  | _=>exact fE hc
end RF
namespace K18
open PySem L2 DL RF
variable {Ω : Wd} {f : Addr} {fd : FuncData}
def top(i:Nat):Stmt:=PySem.Challenge.pw_nestturn_k18_whole_neighbours_change_pla.main.body.getD i (.Pass ⟨0,0,0,0⟩)
structure Bi(mg:Str->Option Value):Prop where
 MOST_STEPS_:∃t,mg "MOST_STEPS"=some (.int 60 t)
 abs_:mg "abs"=none
 all_:mg "all"=none
 bool_:mg "bool"=none
 enumerate_:mg "enumerate"=none
 int_:mg "int"=none
 isinstance_:mg "isinstance"=none
 len_:mg "len"=none
 list_:mg "list"=none
 max_:mg "max"=none
 min_:mg "min"=none
 range_:mg "range"=none
 set_:mg "set"=none
 sorted_:mg "sorted"=none
 sum_:mg "sum"=none
 tuple_:mg "tuple"=none
 zip_:mg "zip"=none
section
variable {Ω : Wd}
abbrev ie:Stmt:=top 6
abbrev xu:%[|2]:=["thing"]
abbrev zu:%[|2]:=["thing"]
def yc(B:Bi Ω.mg):Bl Ω:=
 Bl.cons (Sm.ret (Ex.and (Bo.cons (Ex.isi B.isinstance_ (Ex.var 0) .int B.int_) (Bo.one (Ex.not (Ex.isi B.isinstance_ (Ex.var 0) .bool B.bool_)))))) Bl.nil
abbrev d7:Stmt:=top 7
abbrev rC:%[|2]:=["thing","least","most"]
abbrev qt:%[|2]:=["thing","least","most"]
def rE(B:Bi Ω.mg):Bl Ω:=
 Bl.cons (Sm.ret (Ex.and (Bo.cons (Ex.isi B.isinstance_ (Ex.var 0) .tuple B.tuple_) (Bo.one (Ex.ch2 (Ex.var 1) .LtE (Ex.blt cT B.len_ (Ar.cons (Ex.var 0) Ar.nil)) .LtE (Ex.var 2)))))) Bl.nil
abbrev iJ:Stmt:=top 8
abbrev Bj:%[|2]:=["thing","d"]
abbrev Bx:%[|2]:=["thing","d"]
def Ao(B:Bi Ω.mg){Fq34:Ct}(Cq34:Cal Ω "is_whole" 1 1 Fq34){Fq33:Ct}(Cq33:Cal Ω "is_tuple_of" 1 3 Fq33):Bl Ω:=
 Bl.cons (Sm.ret (Ex.and (Bo.cons (Ex.call Cq33 (Ar.cons (Ex.var 0) (Ar.cons (Ex.bin .Add (Ex.var 1) (Ex.int 1)) (Ar.cons (Ex.bin .Add (Ex.var 1) (Ex.int 1)) Ar.nil)))) (Bo.one (Ex.blt fO B.all_ (Ar.cons (Ex.comp ["number"] [none] (Ex.call Cq34 (Ar.cons (Ex.var 0) Ar.nil)) (Tg.nm 0) (Itb.seq (Ex.var 0)) Cd.no) Ar.nil)))))) Bl.nil
abbrev gQ:Stmt:=top 9
abbrev ym:%[|2]:=["form","counts"]
abbrev xX:%[|2]:=["form","counts"]
def z8(B:Bi Ω.mg):Bl Ω:=
 Bl.cons (Sm.ret (Ex.bin .Add (Ex.ix (Ex.var 0) (Ex.int 0)) (Ex.blt wz B.sum_ (Ar.cons (Ex.comp ["number","count"] [none,none] (Ex.bin .Mult (Ex.var 0) (Ex.var 1)) (Tg.tup [0,1]) (Itb.zip B.zip_ (Ex.sl (Ex.var 0) (Po.so (Ex.int 1)) Po.no) (Ex.var 1)) Cd.no) Ar.nil)))) Bl.nil
abbrev ig:Stmt:=top 10
abbrev wR:%[|2]:=["thing","d"]
abbrev wL:%[|2]:=["thing","d"]
def tG(B:Bi Ω.mg){Fq22:Ct}(Cq22:Cal Ω "is_form" 2 2 Fq22):Bl Ω:=
 Bl.cons (Sm.ret (Ex.and (Bo.cons (Ex.ch2 (Ex.neg (Ex.int 9)) .LtE (Ex.ix (Ex.var 0) (Ex.int 0)) .LtE (Ex.int 9)) (Bo.one (Ex.blt fO B.all_ (Ar.cons (Ex.comp ["number"] [none] (Ex.ch2 (Ex.neg (Ex.int 2)) .LtE (Ex.var 0) .LtE (Ex.int 2)) (Tg.nm 0) (Itb.seq (Ex.sl (Ex.var 0) (Po.so (Ex.int 1)) Po.no)) Cd.no) Ar.nil)))))) Bl.nil
def wM(B:Bi Ω.mg){Fq22:Ct}(Cq22:Cal Ω "is_form" 2 2 Fq22):Bl Ω:=
 Bl.cons (Sm.ite (Te.not (Te.val (Ex.call Cq22 (Ar.cons (Ex.var 0) (Ar.cons (Ex.var 1) Ar.nil))))) (Bl.cons (Sm.ret (Ex.bl false)) Bl.nil) Bl.nil) (tG B Cq22)
abbrev jh:Stmt:=top 11
abbrev Ax:%[|2]:=["thing","d"]
abbrev BL:%[|2]:=["thing","d"]
def Cq{Fq33:Ct}(Cq33:Cal Ω "is_tuple_of" 1 3 Fq33){Fq20:Ct}(Cq20:Cal Ω "is_bound" 3 2 Fq20):Bl Ω:=
 Bl.cons (Sm.ret (Ex.and (Bo.cons (Ex.call Cq33 (Ar.cons (Ex.var 0) (Ar.cons (Ex.int 2) (Ar.cons (Ex.int 2) Ar.nil)))) (Bo.cons (Ex.call Cq20 (Ar.cons (Ex.ix (Ex.var 0) (Ex.int 0)) (Ar.cons (Ex.var 1) Ar.nil))) (Bo.one (Ex.call Cq20 (Ar.cons (Ex.ix (Ex.var 0) (Ex.int 1)) (Ar.cons (Ex.var 1) Ar.nil)))))))) Bl.nil
abbrev gK:Stmt:=top 12
abbrev zN:%[|2]:=["thing"]
abbrev zp:%[|2]:=["thing"]
def zc(B:Bi Ω.mg){Fq33:Ct}(Cq33:Cal Ω "is_tuple_of" 1 3 Fq33){Fq23:Ct}(Cq23:Cal Ω "is_loop" 4 2 Fq23):Bl Ω:=
 Bl.cons (Sm.ret (Ex.and (Bo.cons (Ex.call Cq33 (Ar.cons (Ex.var 0) (Ar.cons (Ex.int 1) (Ar.cons (Ex.int 3) Ar.nil)))) (Bo.one (Ex.blt fO B.all_ (Ar.cons (Ex.comp ["k","loop"] [none,none] (Ex.call Cq23 (Ar.cons (Ex.var 1) (Ar.cons (Ex.var 0) Ar.nil))) (Tg.tup [0,1]) (Itb.enm B.enumerate_ (Ex.var 0)) Cd.no) Ar.nil)))))) Bl.nil
abbrev cN:Stmt:=top 13
abbrev lE:%[|2]:=["ahead","low","high","longer","counts","count"]
abbrev kZ:%[|2]:=["ahead","low","high"]
section
variable (B : Bi Ω.mg) {Fq16 : Ct} (Cq16 : Cal Ω "comes_to" 1 2 Fq16)
def jE(B:Bi Ω.mg){Fq16:Ct}(Cq16:Cal Ω "comes_to" 1 2 Fq16):Bl Ω:=
 Bl.cons (Sm.ret (Ex.var 3)) Bl.nil
def jB:Bl Ω:=
 Bl.cons (Sm.forL (Tg.nm 4) (Ex.var 0) (Bl.cons (Sm.for (Tg.nm 5) (Itb.rng2 B.range_ (Ex.call Cq16 (Ar.cons (Ex.var 1) (Ar.cons (Ex.var 4) Ar.nil))) (Ex.call Cq16 (Ar.cons (Ex.var 2) (Ar.cons (Ex.var 4) Ar.nil)))) (Bl.cons (Sm.expr (Ex.m_append (Ex.var 3) (Ex.bin .Add (Ex.var 4) (Ex.tup (Ar.cons (Ex.var 5) Ar.nil))))) Bl.nil)) Bl.nil)) (jE B Cq16)
def lH:Bl Ω:=
 Bl.cons (Sm.set 3 (Ex.own Ar.nil)) (jB B Cq16)
end
abbrev fP:Stmt:=top 14
abbrev v4:%[|2]:=["loops","told","low","high"]
abbrev vz:%[|2]:=["loops"]
section
variable {Fq46 : Ct} (Cq46 : Cal Ω "with_next_count" 2 3 Fq46)
def qF{Fq46:Ct}(Cq46:Cal Ω "with_next_count" 2 3 Fq46):Bl Ω:=
 Bl.cons (Sm.ret (Ex.var 1)) Bl.nil
def qG:Bl Ω:=
 Bl.cons (Sm.forL (Tg.tup [2,3]) (Ex.var 0) (Bl.cons (Sm.set 1 (Ex.call Cq46 (Ar.cons (Ex.var 1) (Ar.cons (Ex.var 2) (Ar.cons (Ex.var 3) Ar.nil))))) Bl.nil)) (qF Cq46)
def vB:Bl Ω:=
 Bl.cons (Sm.set 1 (Ex.lst (Ar.cons (Ex.tup Ar.nil) Ar.nil))) (qG Cq46)
end
abbrev cM:Stmt:=top 17
abbrev lB:%[|2]:=["number"]
abbrev lg:%[|2]:=["number"]
def lA(B:Bi Ω.mg):Bl Ω:=
 Bl.cons (Sm.ret (Ex.cmp .Lt (Ex.blt TJ B.abs_ (Ar.cons (Ex.var 0) Ar.nil)) (Ex.bin .Pow (Ex.int 10) (Ex.int 30)))) Bl.nil
abbrev fQ:Stmt:=top 18
abbrev wj:%[|2]:=["thing"]
abbrev vU:%[|2]:=["thing"]
def v6(B:Bi Ω.mg){Fq34:Ct}(Cq34:Cal Ω "is_whole" 1 1 Fq34){Fq33:Ct}(Cq33:Cal Ω "is_tuple_of" 1 3 Fq33):Bl Ω:=
 Bl.cons (Sm.ret (Ex.and (Bo.cons (Ex.call Cq33 (Ar.cons (Ex.var 0) (Ar.cons (Ex.int 1) (Ar.cons (Ex.int 3) Ar.nil)))) (Bo.one (Ex.blt fO B.all_ (Ar.cons (Ex.comp ["width"] [none] (Ex.and (Bo.cons (Ex.call Cq34 (Ar.cons (Ex.var 0) Ar.nil)) (Bo.one (Ex.ch2 (Ex.int 1) .LtE (Ex.var 0) .LtE (Ex.int 2))))) (Tg.nm 0) (Itb.seq (Ex.var 0)) Cd.no) Ar.nil)))))) Bl.nil
abbrev dh:Stmt:=top 19
abbrev ou:%[|2]:=["thing","d"]
abbrev nQ:%[|2]:=["thing","d"]
def oH(B:Bi Ω.mg){Fq22:Ct}(Cq22:Cal Ω "is_form" 2 2 Fq22):Bl Ω:=
 Bl.cons (Sm.ret (Ex.and (Bo.cons (Ex.call Cq22 (Ar.cons (Ex.var 0) (Ar.cons (Ex.var 1) Ar.nil))) (Bo.one (Ex.blt fO B.all_ (Ar.cons (Ex.comp ["number"] [none] (Ex.ch2 (Ex.neg (Ex.int 99)) .LtE (Ex.var 0) .LtE (Ex.int 99)) (Tg.nm 0) (Itb.seq (Ex.var 0)) Cd.no) Ar.nil)))))) Bl.nil
abbrev gq:Stmt:=top 20
abbrev yK:%[|2]:=["thing","d"]
abbrev wN:%[|2]:=["thing","d"]
def Ad(B:Bi Ω.mg){Fq22:Ct}(Cq22:Cal Ω "is_form" 2 2 Fq22){Fq19:Ct}(Cq19:Cal Ω "has_few_figures" 1 1 Fq19):Bl Ω:=
 Bl.cons (Sm.ret (Ex.and (Bo.cons (Ex.call Cq22 (Ar.cons (Ex.var 0) (Ar.cons (Ex.var 1) Ar.nil))) (Bo.one (Ex.blt fO B.all_ (Ar.cons (Ex.comp ["number"] [none] (Ex.call Cq19 (Ar.cons (Ex.var 0) Ar.nil)) (Tg.nm 0) (Itb.seq (Ex.var 0)) Cd.no) Ar.nil)))))) Bl.nil
abbrev bU:Stmt:=top 21
abbrev iu:%[|2]:=["table","place","widths","d"]
abbrev iw:%[|2]:=["table","place","widths","d"]
def fW(B:Bi Ω.mg){Fq34:Ct}(Cq34:Cal Ω "is_whole" 1 1 Fq34){Fq33:Ct}(Cq33:Cal Ω "is_tuple_of" 1 3 Fq33){Fq27:Ct}(Cq27:Cal Ω "is_place_form" 3 2 Fq27):Bl Ω:=
 Bl.cons (Sm.ret (Ex.and (Bo.cons (Ex.call Cq33 (Ar.cons (Ex.var 1) (Ar.cons (Ex.ix (Ex.var 2) (Ex.var 0)) (Ar.cons (Ex.ix (Ex.var 2) (Ex.var 0)) Ar.nil)))) (Bo.one (Ex.blt fO B.all_ (Ar.cons (Ex.comp ["form","d"] [none,some 3] (Ex.call Cq27 (Ar.cons (Ex.var 0) (Ar.cons (Ex.var 1) Ar.nil))) (Tg.nm 0) (Itb.seq (Ex.var 1)) Cd.no) Ar.nil)))))) Bl.nil
def il(B:Bi Ω.mg){Fq34:Ct}(Cq34:Cal Ω "is_whole" 1 1 Fq34){Fq33:Ct}(Cq33:Cal Ω "is_tuple_of" 1 3 Fq33){Fq27:Ct}(Cq27:Cal Ω "is_place_form" 3 2 Fq27):Bl Ω:=
 Bl.cons (Sm.ite (Te.or (Bt.cons (Te.not (Te.val (Ex.call Cq34 (Ar.cons (Ex.var 0) Ar.nil)))) (Bt.one (Te.not (Te.ch2 (Ex.int 0) .LtE (Ex.var 0) .Lt (Ex.blt cT B.len_ (Ar.cons (Ex.var 2) Ar.nil))))))) (Bl.cons (Sm.ret (Ex.bl false)) Bl.nil) Bl.nil) (fW B Cq34 Cq33 Cq27)
abbrev iR:Stmt:=top 22
abbrev Ay:%[|2]:=["thing","widths","d"]
abbrev Bk:%[|2]:=["thing","widths","d"]
section
variable {Fq34 : Ct} (Cq34 : Cal Ω "is_whole" 1 1 Fq34) {Fq33 : Ct} (Cq33 : Cal Ω "is_tuple_of" 1 3 Fq33) {Fq19 : Ct} (Cq19 : Cal Ω "has_few_figures" 1 1 Fq19) {Fq32 : Ct} (Cq32 : Cal Ω "is_table_with_place" 4 4 Fq32)
def vN{Fq34:Ct}(Cq34:Cal Ω "is_whole" 1 1 Fq34){Fq33:Ct}(Cq33:Cal Ω "is_tuple_of" 1 3 Fq33){Fq19:Ct}(Cq19:Cal Ω "has_few_figures" 1 1 Fq19){Fq32:Ct}(Cq32:Cal Ω "is_table_with_place" 4 4 Fq32):Bl Ω:=
 Bl.cons (Sm.ret (Ex.call Cq32 (Ar.cons (Ex.ix (Ex.var 0) (Ex.int 1)) (Ar.cons (Ex.ix (Ex.var 0) (Ex.int 2)) (Ar.cons (Ex.var 1) (Ar.cons (Ex.var 2) Ar.nil)))))) Bl.nil
def wk:Bl Ω:=
 Bl.cons (Sm.ite (Te.or (Bt.cons (Te.not (Te.val (Ex.call Cq34 (Ar.cons (Ex.ix (Ex.var 0) (Ex.int 0)) Ar.nil)))) (Bt.one (Te.not (Te.val (Ex.call Cq19 (Ar.cons (Ex.ix (Ex.var 0) (Ex.int 0)) Ar.nil))))))) (Bl.cons (Sm.ret (Ex.bl false)) Bl.nil) Bl.nil) (vN Cq34 Cq33 Cq19 Cq32)
def Ba:Bl Ω:=
 Bl.cons (Sm.ite (Te.not (Te.val (Ex.call Cq33 (Ar.cons (Ex.var 0) (Ar.cons (Ex.int 3) (Ar.cons (Ex.int 3) Ar.nil)))))) (Bl.cons (Sm.ret (Ex.bl false)) Bl.nil) Bl.nil) (wk Cq34 Cq33 Cq19 Cq32)
end
abbrev gV:Stmt:=top 23
abbrev zJ:%[|2]:=["thing","widths","d"]
abbrev xM:%[|2]:=["thing","widths","d"]
def xH(B:Bi Ω.mg){Fq33:Ct}(Cq33:Cal Ω "is_tuple_of" 1 3 Fq33){Fq28:Ct}(Cq28:Cal Ω "is_read" 5 3 Fq28):Bl Ω:=
 Bl.cons (Sm.ret (Ex.and (Bo.cons (Ex.call Cq33 (Ar.cons (Ex.var 0) (Ar.cons (Ex.int 0) (Ar.cons (Ex.int 3) Ar.nil)))) (Bo.one (Ex.blt fO B.all_ (Ar.cons (Ex.comp ["read","widths","d"] [none,some 1,some 2] (Ex.call Cq28 (Ar.cons (Ex.var 0) (Ar.cons (Ex.var 1) (Ar.cons (Ex.var 2) Ar.nil)))) (Tg.nm 0) (Itb.seq (Ex.var 0)) Cd.no) Ar.nil)))))) Bl.nil
abbrev iM:Stmt:=top 24
abbrev Aq:%[|2]:=["thing","widths","d"]
abbrev Br:%[|2]:=["thing","widths","d"]
section
variable {Fq33 : Ct} (Cq33 : Cal Ω "is_tuple_of" 1 3 Fq33) {Fq31 : Ct} (Cq31 : Cal Ω "is_start" 3 2 Fq31) {Fq32 : Ct} (Cq32 : Cal Ω "is_table_with_place" 4 4 Fq32) {Fq29 : Ct} (Cq29 : Cal Ω "is_reads" 6 3 Fq29)
def vO{Fq33:Ct}(Cq33:Cal Ω "is_tuple_of" 1 3 Fq33){Fq31:Ct}(Cq31:Cal Ω "is_start" 3 2 Fq31){Fq32:Ct}(Cq32:Cal Ω "is_table_with_place" 4 4 Fq32){Fq29:Ct}(Cq29:Cal Ω "is_reads" 6 3 Fq29):Bl Ω:=
 Bl.cons (Sm.ret (Ex.and (Bo.cons (Ex.call Cq31 (Ar.cons (Ex.ix (Ex.var 0) (Ex.int 2)) (Ar.cons (Ex.var 2) Ar.nil))) (Bo.one (Ex.call Cq29 (Ar.cons (Ex.ix (Ex.var 0) (Ex.int 3)) (Ar.cons (Ex.var 1) (Ar.cons (Ex.var 2) Ar.nil)))))))) Bl.nil
def vH:Bl Ω:=
 Bl.cons (Sm.ite (Te.not (Te.val (Ex.call Cq32 (Ar.cons (Ex.ix (Ex.var 0) (Ex.int 0)) (Ar.cons (Ex.ix (Ex.var 0) (Ex.int 1)) (Ar.cons (Ex.var 1) (Ar.cons (Ex.var 2) Ar.nil))))))) (Bl.cons (Sm.ret (Ex.bl false)) Bl.nil) Bl.nil) (vO Cq33 Cq31 Cq32 Cq29)
def Ce:Bl Ω:=
 Bl.cons (Sm.ite (Te.not (Te.val (Ex.call Cq33 (Ar.cons (Ex.var 0) (Ar.cons (Ex.int 4) (Ar.cons (Ex.int 4) Ar.nil)))))) (Bl.cons (Sm.ret (Ex.bl false)) Bl.nil) Bl.nil) (vH Cq33 Cq31 Cq32 Cq29)
end
abbrev iQ:Stmt:=top 25
abbrev Ca:%[|2]:=["thing","widths","d"]
abbrev Al:%[|2]:=["thing","widths"]
section
variable (B : Bi Ω.mg) {Fq33 : Ct} (Cq33 : Cal Ω "is_tuple_of" 1 3 Fq33) {Fq24 : Ct} (Cq24 : Cal Ω "is_loops" 5 1 Fq24) {Fq21 : Ct} (Cq21 : Cal Ω "is_deed" 7 3 Fq21)
def vP(B:Bi Ω.mg){Fq33:Ct}(Cq33:Cal Ω "is_tuple_of" 1 3 Fq33){Fq24:Ct}(Cq24:Cal Ω "is_loops" 5 1 Fq24){Fq21:Ct}(Cq21:Cal Ω "is_deed" 7 3 Fq21):Bl Ω:=
 Bl.cons (Sm.ret (Ex.and (Bo.cons (Ex.call Cq33 (Ar.cons (Ex.ix (Ex.var 0) (Ex.int 1)) (Ar.cons (Ex.int 1) (Ar.cons (Ex.int 4) Ar.nil)))) (Bo.one (Ex.blt fO B.all_ (Ar.cons (Ex.comp ["deed","widths","d"] [none,some 1,some 2] (Ex.call Cq21 (Ar.cons (Ex.var 0) (Ar.cons (Ex.var 1) (Ar.cons (Ex.var 2) Ar.nil)))) (Tg.nm 0) (Itb.seq (Ex.ix (Ex.var 0) (Ex.int 1))) Cd.no) Ar.nil)))))) Bl.nil
def vp:Bl Ω:=
 Bl.cons (Sm.set 2 (Ex.blt cT B.len_ (Ar.cons (Ex.ix (Ex.var 0) (Ex.int 0)) Ar.nil))) (vP B Cq33 Cq24 Cq21)
def Bm:Bl Ω:=
 Bl.cons (Sm.ite (Te.or (Bt.cons (Te.not (Te.val (Ex.call Cq33 (Ar.cons (Ex.var 0) (Ar.cons (Ex.int 2) (Ar.cons (Ex.int 2) Ar.nil)))))) (Bt.one (Te.not (Te.val (Ex.call Cq24 (Ar.cons (Ex.ix (Ex.var 0) (Ex.int 0)) Ar.nil))))))) (Bl.cons (Sm.ret (Ex.bl false)) Bl.nil) Bl.nil) (vp B Cq33 Cq24 Cq21)
end
abbrev gJ:Stmt:=top 26
abbrev zM:%[|2]:=["thing","widths"]
abbrev wY:%[|2]:=["thing","widths"]
def xW(B:Bi Ω.mg){Fq33:Ct}(Cq33:Cal Ω "is_tuple_of" 1 3 Fq33){Fq25:Ct}(Cq25:Cal Ω "is_nest" 8 2 Fq25):Bl Ω:=
 Bl.cons (Sm.ret (Ex.and (Bo.cons (Ex.call Cq33 (Ar.cons (Ex.var 0) (Ar.cons (Ex.int 1) (Ar.cons (Ex.int 3) Ar.nil)))) (Bo.one (Ex.blt fO B.all_ (Ar.cons (Ex.comp ["nest","widths"] [none,some 1] (Ex.call Cq25 (Ar.cons (Ex.var 0) (Ar.cons (Ex.var 1) Ar.nil))) (Tg.nm 0) (Itb.seq (Ex.var 0)) Cd.no) Ar.nil)))))) Bl.nil
abbrev cL:Stmt:=top 27
abbrev lG:%[|2]:=["nests"]
abbrev lw:%[|2]:=["nests"]
def lC(B:Bi Ω.mg){Fq17:Ct}(Cq17:Cal Ω "counts_of" 3 1 Fq17):Bl Ω:=
 Bl.cons (Sm.ret (Ex.blt wz B.sum_ (Ar.cons (Ex.comp ["loops","deeds"] [none,none] (Ex.bin .Mult (Ex.blt cT B.len_ (Ar.cons (Ex.call Cq17 (Ar.cons (Ex.var 0) Ar.nil)) Ar.nil)) (Ex.blt cT B.len_ (Ar.cons (Ex.var 1) Ar.nil))) (Tg.tup [0,1]) (Itb.seq (Ex.var 0)) Cd.no) Ar.nil))) Bl.nil
abbrev eU:Stmt:=top 28
abbrev tU:%[|2]:=["widths","nests"]
abbrev tR:%[|2]:=["widths","nests"]
section
variable (B : Bi Ω.mg) {Fq35 : Ct} (Cq35 : Cal Ω "is_widths" 2 1 Fq35) {Fq26 : Ct} (Cq26 : Cal Ω "is_nests" 9 2 Fq26) {Fq36 : Ct} (Cq36 : Cal Ω "number_of_steps" 4 1 Fq36)
def pQ(B:Bi Ω.mg){Fq35:Ct}(Cq35:Cal Ω "is_widths" 2 1 Fq35){Fq26:Ct}(Cq26:Cal Ω "is_nests" 9 2 Fq26){Fq36:Ct}(Cq36:Cal Ω "number_of_steps" 4 1 Fq36):Bl Ω:=
 Bl.cons (Sm.ret (Ex.tup (Ar.cons (Ex.var 0) (Ar.cons (Ex.var 1) Ar.nil)))) Bl.nil
def pN:Bl Ω:=
 Bl.cons (Sm.ite (Te.cmp .Gt (Ex.call Cq36 (Ar.cons (Ex.var 1) Ar.nil)) (Ex.gint B.MOST_STEPS_)) (Bl.cons Sm.never Bl.nil) Bl.nil) (pQ B Cq35 Cq26 Cq36)
def pW:Bl Ω:=
 Bl.cons (Sm.ite (Te.not (Te.val (Ex.call Cq26 (Ar.cons (Ex.var 1) (Ar.cons (Ex.var 0) Ar.nil))))) (Bl.cons Sm.never Bl.nil) Bl.nil) (pN B Cq35 Cq26 Cq36)
def rW:Bl Ω:=
 Bl.cons (Sm.ite (Te.not (Te.val (Ex.call Cq35 (Ar.cons (Ex.var 0) Ar.nil)))) (Bl.cons Sm.never Bl.nil) Bl.nil) (pW B Cq35 Cq26 Cq36)
end
abbrev gY:Stmt:=top 29
abbrev zZ:%[|2]:=["program","steps","nest","loops_and_deeds","counts","deed"]
abbrev xj:%[|2]:=["program"]
section
variable (B : Bi Ω.mg) {Fq17 : Ct} (Cq17 : Cal Ω "counts_of" 3 1 Fq17)
def tB(B:Bi Ω.mg){Fq17:Ct}(Cq17:Cal Ω "counts_of" 3 1 Fq17):Bl Ω:=
 Bl.cons (Sm.ret (Ex.var 1)) Bl.nil
def rK:Bl Ω:=
 Bl.cons (Sm.for (Tg.tup [2,3]) (Itb.enm B.enumerate_ (Ex.ix (Ex.var 0) (Ex.int 1))) (Bl.cons (Sm.forL (Tg.nm 4) (Ex.call Cq17 (Ar.cons (Ex.ix (Ex.var 3) (Ex.int 0)) Ar.nil)) (Bl.cons (Sm.for (Tg.nm 5) (Itb.rng1 B.range_ (Ex.blt cT B.len_ (Ar.cons (Ex.ix (Ex.var 3) (Ex.int 1)) Ar.nil))) (Bl.cons (Sm.expr (Ex.m_append (Ex.var 1) (Ex.tup (Ar.cons (Ex.var 2) (Ar.cons (Ex.var 4) (Ar.cons (Ex.var 5) Ar.nil)))))) Bl.nil)) Bl.nil)) Bl.nil)) (tB B Cq17)
def yW:Bl Ω:=
 Bl.cons (Sm.set 1 (Ex.own Ar.nil)) (rK B Cq17)
end
abbrev iU:Stmt:=top 30
abbrev BZ:%[|2]:=["program","step"]
abbrev Ah:%[|2]:=["program","step"]
def Bp:Bl Ω:=
 Bl.cons (Sm.ret (Ex.ix (Ex.ix (Ex.ix (Ex.ix (Ex.var 0) (Ex.int 1)) (Ex.ix (Ex.var 1) (Ex.int 0))) (Ex.int 1)) (Ex.ix (Ex.var 1) (Ex.int 2)))) Bl.nil
abbrev iI:Stmt:=top 31
abbrev BX:%[|2]:=["table","place","counts"]
abbrev Ak:%[|2]:=["table","place","counts"]
def Be(B:Bi Ω.mg){Fq16:Ct}(Cq16:Cal Ω "comes_to" 1 2 Fq16):Bl Ω:=
 Bl.cons (Sm.ret (Ex.tup (Ar.cons (Ex.var 0) (Ar.cons (Ex.typ bu B.tuple_ (Ar.cons (Ex.comp ["form","counts"] [none,some 2] (Ex.call Cq16 (Ar.cons (Ex.var 0) (Ar.cons (Ex.var 1) Ar.nil))) (Tg.nm 0) (Itb.seq (Ex.var 1)) Cd.no) Ar.nil)) Ar.nil)))) Bl.nil
abbrev cX:Stmt:=top 32
abbrev nT:%[|2]:=["program","step","counts","deed","reads"]
abbrev nR:%[|2]:=["program","step"]
section
variable {Fq18 : Ct} (Cq18 : Cal Ω "deed_of" 1 2 Fq18) {Fq13 : Ct} (Cq13 : Cal Ω "cell_at" 2 3 Fq13)
def lD{Fq18:Ct}(Cq18:Cal Ω "deed_of" 1 2 Fq18){Fq13:Ct}(Cq13:Cal Ω "cell_at" 2 3 Fq13):Bl Ω:=
 Bl.cons (Sm.ret (Ex.tup (Ar.cons (Ex.call Cq13 (Ar.cons (Ex.ix (Ex.var 3) (Ex.int 0)) (Ar.cons (Ex.ix (Ex.var 3) (Ex.int 1)) (Ar.cons (Ex.var 2) Ar.nil)))) (Ar.cons (Ex.var 4) Ar.nil)))) Bl.nil
def kW:Bl Ω:=
 Bl.cons (Sm.setC 4 ["factor","table","place","counts"] [none,none,none,some 2] (Ex.call Cq13 (Ar.cons (Ex.var 1) (Ar.cons (Ex.var 2) (Ar.cons (Ex.var 3) Ar.nil)))) (Tg.tup [0,1,2]) (Itb.seq (Ex.ix (Ex.var 3) (Ex.int 3))) Cd.no) (lD Cq18 Cq13)
def lF:Bl Ω:=
 Bl.cons (Sm.set 3 (Ex.call Cq18 (Ar.cons (Ex.var 0) (Ar.cons (Ex.var 1) Ar.nil)))) (kW Cq18 Cq13)
def oE:Bl Ω:=
 Bl.cons (Sm.set 2 (Ex.ix (Ex.var 1) (Ex.int 1))) (lF Cq18 Cq13)
end
abbrev gW:Stmt:=top 33
abbrev yV:%[|2]:=["program"]
abbrev yH:%[|2]:=["program"]
def wZ{Fq39:Ct}(Cq39:Cal Ω "steps_of" 4 1 Fq39){Fq15:Ct}(Cq15:Cal Ω "cells_of_step" 3 2 Fq15):Bl Ω:=
 Bl.cons (Sm.ret (Ex.comp ["step","program"] [none,some 0] (Ex.call Cq15 (Ar.cons (Ex.var 1) (Ar.cons (Ex.var 0) Ar.nil))) (Tg.nm 0) (Itb.seq (Ex.call Cq39 (Ar.cons (Ex.var 0) Ar.nil))) Cd.no)) Bl.nil
abbrev di:Stmt:=top 35
abbrev nZ:%[|2]:=["one","other","told"]
abbrev oJ:%[|2]:=["one","other"]
section
variable (B : Bi Ω.mg)
def d9(B:Bi Ω.mg):Bl Ω:=
 Bl.cons (Sm.ret (Ex.sset B.sorted_ B.set_ (Ex.var 2))) Bl.nil
def eE:Bl Ω:=
 Bl.cons (Sm.ite (Te.cmp .In (Ex.ix (Ex.var 1) (Ex.int 0)) (Ex.ix (Ex.var 0) (Ex.int 1))) (Bl.cons (Sm.expr (Ex.m_append (Ex.var 2) (Ex.ix (Ex.var 1) (Ex.int 0)))) Bl.nil) Bl.nil) (d9 B)
def lz:Bl Ω:=
 Bl.cons (Sm.ite (Te.or (Bt.cons (Te.cmp .Eq (Ex.ix (Ex.var 0) (Ex.int 0)) (Ex.ix (Ex.var 1) (Ex.int 0))) (Bt.one (Te.cmp .In (Ex.ix (Ex.var 0) (Ex.int 0)) (Ex.ix (Ex.var 1) (Ex.int 1)))))) (Bl.cons (Sm.expr (Ex.m_append (Ex.var 2) (Ex.ix (Ex.var 0) (Ex.int 0)))) Bl.nil) Bl.nil) (eE B)
def nY:Bl Ω:=
 Bl.cons (Sm.set 2 (Ex.own Ar.nil)) (lz B)
end
abbrev jb:Stmt:=top 36
abbrev Cj:%[|2]:=["program","i","j","cells"]
abbrev By:%[|2]:=["program","i","j"]
def v9{Fq14:Ct}(Cq14:Cal Ω "cells_of" 5 1 Fq14){Fq41:Ct}(Cq41:Cal Ω "touched_cells" 1 2 Fq41):Bl Ω:=
 Bl.cons (Sm.ret (Ex.and (Bo.cons (Ex.cmp .NotEq (Ex.var 1) (Ex.var 2)) (Bo.one (Ex.cmp .NotEq (Ex.call Cq41 (Ar.cons (Ex.ix (Ex.var 3) (Ex.var 1)) (Ar.cons (Ex.ix (Ex.var 3) (Ex.var 2)) Ar.nil))) (Ex.lst Ar.nil)))))) Bl.nil
def Ci{Fq14:Ct}(Cq14:Cal Ω "cells_of" 5 1 Fq14){Fq41:Ct}(Cq41:Cal Ω "touched_cells" 1 2 Fq41):Bl Ω:=
 Bl.cons (Sm.set 3 (Ex.call Cq14 (Ar.cons (Ex.var 0) Ar.nil))) (v9 Cq14 Cq41)
abbrev jQ:Stmt:=top 38
abbrev Ft:%[|2]:=["program","thing","number"]
abbrev Es:%[|2]:=["program","thing"]
section
variable (B : Bi Ω.mg) {Fq34 : Ct} (Cq34 : Cal Ω "is_whole" 1 1 Fq34) {Fq36 : Ct} (Cq36 : Cal Ω "number_of_steps" 4 1 Fq36)
def xf(B:Bi Ω.mg){Fq34:Ct}(Cq34:Cal Ω "is_whole" 1 1 Fq34){Fq36:Ct}(Cq36:Cal Ω "number_of_steps" 4 1 Fq36):Bl Ω:=
 Bl.cons (Sm.ret (Ex.cmp .Eq (Ex.lset B.len_ B.set_ (Ex.var 1)) (Ex.blt cT B.len_ (Ar.cons (Ex.var 1) Ar.nil)))) Bl.nil
def yZ:Bl Ω:=
 Bl.cons (Sm.ite (Te.not (Te.val (Ex.blt fO B.all_ (Ar.cons (Ex.comp ["step","number"] [none,some 2] (Ex.and (Bo.cons (Ex.call Cq34 (Ar.cons (Ex.var 0) Ar.nil)) (Bo.one (Ex.ch2 (Ex.int 0) .LtE (Ex.var 0) .Lt (Ex.var 1))))) (Tg.nm 0) (Itb.seq (Ex.var 1)) Cd.no) Ar.nil)))) (Bl.cons (Sm.ret (Ex.bl false)) Bl.nil) Bl.nil) (xf B Cq34 Cq36)
def wF:Bl Ω:=
 Bl.cons (Sm.set 2 (Ex.call Cq36 (Ar.cons (Ex.ix (Ex.var 0) (Ex.int 1)) Ar.nil))) (yZ B Cq34 Cq36)
def FJ:Bl Ω:=
 Bl.cons (Sm.ite (Te.not (Te.val (Ex.isi B.isinstance_ (Ex.var 1) .list B.list_))) (Bl.cons (Sm.ret (Ex.bl false)) Bl.nil) Bl.nil) (wF B Cq34 Cq36)
end
abbrev cY:Stmt:=top 39
abbrev oh:%[|2]:=["program","row"]
abbrev nW:%[|2]:=["program","row"]
def nU{Fq30:Ct}(Cq30:Cal Ω "is_row" 5 2 Fq30):Bl Ω:=
 Bl.cons (Sm.ite (Te.not (Te.val (Ex.call Cq30 (Ar.cons (Ex.var 0) (Ar.cons (Ex.var 1) Ar.nil))))) (Bl.cons Sm.never Bl.nil) Bl.nil) Bl.nil
abbrev eY:Stmt:=top 41
abbrev tV:%[|2]:=["cell","held"]
abbrev tL:%[|2]:=["cell","held"]
def tW:Bl Ω:=
 Bl.cons (Sm.ret (Ex.eget2 (Ex.var 1) (Ex.var 0) (Ex.tup (Ar.cons (Ex.int 0) (Ar.cons (Ex.edis (Ex.var 0) (Ex.int 1)) Ar.nil))))) Bl.nil
abbrev fM:Stmt:=top 42
abbrev vA:%[|2]:=["factors","factor","more","cell","number"]
abbrev vQ:%[|2]:=["factors","factor","more"]
def v7:Bl Ω:=
 Bl.cons (Sm.forM (Tg.tup [3,4]) (Ex.var 2) (Bl.cons (Sm.eput (Ex.var 0) (Ex.var 3) (Ex.bin .Add (Ex.eget2 (Ex.var 0) (Ex.var 3) (Ex.int 0)) (Ex.mulG (Ex.var 1) (Ex.var 4)))) Bl.nil)) Bl.nil
abbrev dg:Stmt:=top 43
abbrev oF:%[|2]:=["deed","counts","cells","held","number","factors","read","cell","trace"]
abbrev oA:%[|2]:=["deed","counts","cells","held"]
section
variable (B : Bi Ω.mg) {Fq16 : Ct} (Cq16 : Cal Ω "comes_to" 1 2 Fq16) {Fq43 : Ct} (Cq43 : Cal Ω "trace_held" 1 2 Fq43) {Fq12 : Ct} (Cq12 : Cal Ω "add_times" 1 3 Fq12)
def jd(B:Bi Ω.mg){Fq16:Ct}(Cq16:Cal Ω "comes_to" 1 2 Fq16){Fq43:Ct}(Cq43:Cal Ω "trace_held" 1 2 Fq43){Fq12:Ct}(Cq12:Cal Ω "add_times" 1 3 Fq12):Bl Ω:=
 Bl.cons (Sm.expr (Ex.call Cq12 (Ar.cons (Ex.var 5) (Ar.cons (Ex.ix (Ex.var 6) (Ex.int 0)) (Ar.cons (Ex.ix (Ex.var 8) (Ex.int 1)) Ar.nil))))) Bl.nil
def jc:Bl Ω:=
 Bl.cons (Sm.aug 4 .Add (Ex.mulG (Ex.ix (Ex.var 6) (Ex.int 0)) (Ex.ix (Ex.var 8) (Ex.int 0)))) (jd B Cq16 Cq43 Cq12)
def jO:Bl Ω:=
 Bl.cons (Sm.set 8 (Ex.call Cq43 (Ar.cons (Ex.var 7) (Ar.cons (Ex.var 3) Ar.nil)))) (jc B Cq16 Cq43 Cq12)
def lr(B:Bi Ω.mg){Fq16:Ct}(Cq16:Cal Ω "comes_to" 1 2 Fq16){Fq43:Ct}(Cq43:Cal Ω "trace_held" 1 2 Fq43){Fq12:Ct}(Cq12:Cal Ω "add_times" 1 3 Fq12):Bl Ω:=
 Bl.cons (Sm.ret (Ex.tup (Ar.cons (Ex.var 4) (Ar.cons (Ex.var 5) Ar.nil)))) Bl.nil
def kY:Bl Ω:=
 Bl.cons (Sm.for (Tg.tup [6,7]) (Itb.zipTL B.zip_ (Ex.ix (Ex.var 0) (Ex.int 3)) (Ex.var 2)) (jO B Cq16 Cq43 Cq12)) (lr B Cq16 Cq43 Cq12)
def lu:Bl Ω:=
 Bl.cons (Sm.set 5 Ex.enew) (kY B Cq16 Cq43 Cq12)
def oG:Bl Ω:=
 Bl.cons (Sm.set 4 (Ex.call Cq16 (Ar.cons (Ex.ix (Ex.var 0) (Ex.int 2)) (Ar.cons (Ex.var 1) Ar.nil)))) (lu B Cq16 Cq43 Cq12)
end
abbrev eO:Stmt:=top 44
abbrev sO:%[|2]:=["trace","factors"]
abbrev uf:%[|2]:=["trace"]
def pI(B:Bi Ω.mg):Bl Ω:=
 Bl.cons (Sm.ret (Ex.tup (Ar.cons (Ex.ix (Ex.var 0) (Ex.int 0)) (Ar.cons (Ex.comp ["cell","factors"] [none,some 1] (Ex.tup (Ar.cons (Ex.var 0) (Ar.cons (Ex.eix (Ex.var 1) (Ex.var 0)) Ar.nil))) (Tg.nm 0) (Itb.seq (Ex.blt SM B.sorted_ (Ar.cons (Ex.var 1) Ar.nil))) (Cd.so (Te.cmp .NotEq (Ex.eix (Ex.var 1) (Ex.var 0)) (Ex.int 0)))) Ar.nil)))) Bl.nil
def t8(B:Bi Ω.mg):Bl Ω:=
 Bl.cons (Sm.set 1 (Ex.ix (Ex.var 0) (Ex.int 1))) (pI B)
abbrev jG:Stmt:=top 45
abbrev Ej:%[|2]:=["program","row","steps","cells","held","number","step","told","cell","trace"]
abbrev Fw:%[|2]:=["program","row"]
section
variable {Fq39 : Ct} (Cq39 : Cal Ω "steps_of" 4 1 Fq39) {Fq18 : Ct} (Cq18 : Cal Ω "deed_of" 1 2 Fq18) {Fq14 : Ct} (Cq14 : Cal Ω "cells_of" 5 1 Fq14) {Fq38 : Ct} (Cq38 : Cal Ω "refuse_no_row" 6 2 Fq38) {Fq44 : Ct} (Cq44 : Cal Ω "trace_of_step" 2 4 Fq44) {Fq40 : Ct} (Cq40 : Cal Ω "told_trace" 1 1 Fq40)
def qJ{Fq39:Ct}(Cq39:Cal Ω "steps_of" 4 1 Fq39){Fq18:Ct}(Cq18:Cal Ω "deed_of" 1 2 Fq18){Fq14:Ct}(Cq14:Cal Ω "cells_of" 5 1 Fq14){Fq38:Ct}(Cq38:Cal Ω "refuse_no_row" 6 2 Fq38){Fq44:Ct}(Cq44:Cal Ω "trace_of_step" 2 4 Fq44){Fq40:Ct}(Cq40:Cal Ω "told_trace" 1 1 Fq40):Bl Ω:=
 Bl.cons (Sm.eput (Ex.var 4) (Ex.ix (Ex.ix (Ex.var 3) (Ex.var 5)) (Ex.int 0)) (Ex.call Cq44 (Ar.cons (Ex.call Cq18 (Ar.cons (Ex.var 0) (Ar.cons (Ex.var 6) Ar.nil))) (Ar.cons (Ex.ix (Ex.var 6) (Ex.int 1)) (Ar.cons (Ex.ix (Ex.ix (Ex.var 3) (Ex.var 5)) (Ex.int 1)) (Ar.cons (Ex.var 4) Ar.nil)))))) Bl.nil
def vZ:Bl Ω:=
 Bl.cons (Sm.set 6 (Ex.ix (Ex.var 2) (Ex.var 5))) (qJ Cq39 Cq18 Cq14 Cq38 Cq44 Cq40)
def zy{Fq39:Ct}(Cq39:Cal Ω "steps_of" 4 1 Fq39){Fq18:Ct}(Cq18:Cal Ω "deed_of" 1 2 Fq18){Fq14:Ct}(Cq14:Cal Ω "cells_of" 5 1 Fq14){Fq38:Ct}(Cq38:Cal Ω "refuse_no_row" 6 2 Fq38){Fq44:Ct}(Cq44:Cal Ω "trace_of_step" 2 4 Fq44){Fq40:Ct}(Cq40:Cal Ω "told_trace" 1 1 Fq40):Bl Ω:=
 Bl.cons (Sm.ret (Ex.var 7)) Bl.nil
def xO:Bl Ω:=
 Bl.cons (Sm.forM (Tg.tup [8,9]) (Ex.var 4) (Bl.cons (Sm.eput (Ex.var 7) (Ex.var 8) (Ex.call Cq40 (Ar.cons (Ex.var 9) Ar.nil))) Bl.nil)) (zy Cq39 Cq18 Cq14 Cq38 Cq44 Cq40)
def wG:Bl Ω:=
 Bl.cons (Sm.set 7 Ex.enew) (xO Cq39 Cq18 Cq14 Cq38 Cq44 Cq40)
def yI:Bl Ω:=
 Bl.cons (Sm.forL (Tg.nm 5) (Ex.var 1) (vZ Cq39 Cq18 Cq14 Cq38 Cq44 Cq40)) (wG Cq39 Cq18 Cq14 Cq38 Cq44 Cq40)
def wO:Bl Ω:=
 Bl.cons (Sm.set 4 Ex.enew) (yI Cq39 Cq18 Cq14 Cq38 Cq44 Cq40)
def zH:Bl Ω:=
 Bl.cons (Sm.set 3 (Ex.call Cq14 (Ar.cons (Ex.var 0) Ar.nil))) (wO Cq39 Cq18 Cq14 Cq38 Cq44 Cq40)
def yF:Bl Ω:=
 Bl.cons (Sm.set 2 (Ex.call Cq39 (Ar.cons (Ex.var 0) Ar.nil))) (zH Cq39 Cq18 Cq14 Cq38 Cq44 Cq40)
def FN:Bl Ω:=
 Bl.cons (Sm.expr (Ex.call Cq38 (Ar.cons (Ex.var 0) (Ar.cons (Ex.var 1) Ar.nil)))) (yF Cq39 Cq18 Cq14 Cq38 Cq44 Cq40)
end
abbrev pX:Stmt:=top 47
abbrev J6:%[|2]:=["_law_script","_law_k","_law_cell_here"]
abbrev Mt:%[|2]:=["_law_script","_law_k"]
section
variable (B : Bi Ω.mg)
def Fe(B:Bi Ω.mg):Bl Ω:=
 Bl.cons (Sm.ret (Ex.bin .Mod (Ex.bin .Mult (Ex.var 2) (Ex.bin .Add (Ex.bin .Add (Ex.bin .Mod (Ex.var 2) (Ex.int 65519)) (Ex.var 1)) (Ex.int 2))) (Ex.int 2147483629))) Bl.nil
def qQ:Bl Ω:=
 Bl.cons (Sm.set 2 (Ex.bin .Mod (Ex.bin .Mult (Ex.bin .Add (Ex.bin .Add (Ex.bin .Mod (Ex.var 2) (Ex.int 2147483629)) (Ex.bin .Mult (Ex.int 6151) (Ex.var 1))) (Ex.int 1)) (Ex.int 48271)) (Ex.int 2147483647))) (Fe B)
def qZ:Bl Ω:=
 Bl.cons (Sm.ite (Te.and (Bt.cons (Te.cmp .Lt (Ex.var 1) (Ex.blt cT B.len_ (Ar.cons (Ex.var 0) Ar.nil))) (Bt.one (Te.cmp .Eq (Ex.bin .Mod (Ex.ix (Ex.var 0) (Ex.int 0)) (Ex.int 2)) (Ex.int 0))))) (Bl.cons (Sm.ret (Ex.blt TJ B.abs_ (Ar.cons (Ex.var 2) Ar.nil))) Bl.nil) Bl.nil) (qQ B)
def Gs:Bl Ω:=
 Bl.cons (Sm.ite (Te.cmp .Gt (Ex.blt cT B.len_ (Ar.cons (Ex.var 0) Ar.nil)) (Ex.int 0)) (Bl.cons (Sm.set 2 (Ex.ix (Ex.var 0) (Ex.bin .Mod (Ex.var 1) (Ex.blt cT B.len_ (Ar.cons (Ex.var 0) Ar.nil))))) Bl.nil) Bl.nil) (qZ B)
def Lz:Bl Ω:=
 Bl.cons (Sm.set 2 (Ex.int 7)) (Gs B)
end
abbrev sV:Stmt:=top 48
abbrev N6:%[|2]:=["_law_script","_law_k"]
abbrev Qv:%[|2]:=["_law_script","_law_k"]
def Oq{Fq1:Ct}(Cq1:Cal Ω "_law_cell" 1 2 Fq1):Bl Ω:=
 Bl.cons (Sm.ret (Ex.own (Ar.cons (Ex.call Cq1 (Ar.cons (Ex.var 0) (Ar.cons (Ex.var 1) Ar.nil))) (Ar.cons (Ex.var 1) (Ar.cons (Ex.var 0) Ar.nil))))) Bl.nil
abbrev qg:Stmt:=top 49
abbrev Lb:%[|2]:=["_law_pen_here","_law_many","_law_digit"]
abbrev Mu:%[|2]:=["_law_pen_here","_law_many"]
section
variable {Fq1 : Ct} (Cq1 : Cal Ω "_law_cell" 1 2 Fq1)
def vV{Fq1:Ct}(Cq1:Cal Ω "_law_cell" 1 2 Fq1):Bl Ω:=
 Bl.cons (Sm.setIx (Ex.var 0) (Ex.int 0) (Ex.call Cq1 (Ar.cons (Ex.ix (Ex.var 0) (Ex.int 2)) (Ar.cons (Ex.ix (Ex.var 0) (Ex.int 1)) Ar.nil)))) Bl.nil
def Bb:Bl Ω:=
 Bl.cons (Sm.setIx (Ex.var 0) (Ex.int 1) (Ex.bin .Add (Ex.ix (Ex.var 0) (Ex.int 1)) (Ex.int 1))) (vV Cq1)
def Fx{Fq1:Ct}(Cq1:Cal Ω "_law_cell" 1 2 Fq1):Bl Ω:=
 Bl.cons (Sm.ret (Ex.var 2)) Bl.nil
def Gp:Bl Ω:=
 Bl.cons (Sm.ite (Te.cmp .Eq (Ex.ix (Ex.var 0) (Ex.int 0)) (Ex.int 0)) (Bb Cq1) Bl.nil) (Fx Cq1)
def Gn:Bl Ω:=
 Bl.cons (Sm.setIx (Ex.var 0) (Ex.int 0) (Ex.fdiv (Ex.ix (Ex.var 0) (Ex.int 0)) (Ex.var 1))) (Gp Cq1)
def MN:Bl Ω:=
 Bl.cons (Sm.set 2 (Ex.bin .Mod (Ex.ix (Ex.var 0) (Ex.int 0)) (Ex.var 1))) (Gn Cq1)
end
abbrev pq:Stmt:=top 50
abbrev Mx:%[|2]:=["_law_pen_here","_law_many","_law_wide","_law_found","_law_k"]
abbrev Mm:%[|2]:=["_law_pen_here","_law_many","_law_wide"]
section
variable (B : Bi Ω.mg) {Fq11 : Ct} (Cq11 : Cal Ω "_law_take" 2 2 Fq11)
def Fq(B:Bi Ω.mg){Fq11:Ct}(Cq11:Cal Ω "_law_take" 2 2 Fq11):Bl Ω:=
 Bl.cons (Sm.ret (Ex.typ bu B.tuple_ (Ar.cons (Ex.var 3) Ar.nil))) Bl.nil
def Em:Bl Ω:=
 Bl.cons (Sm.for (Tg.nm 4) (Itb.rng1 B.range_ (Ex.var 1)) (Bl.cons (Sm.expr (Ex.m_append (Ex.var 3) (Ex.ix (Ex.lst (Ar.cons (Ex.int 0) (Ar.cons (Ex.int 1) (Ar.cons (Ex.int 1) (Ar.cons (Ex.int 0) (Ar.cons (Ex.neg (Ex.int 1)) (Ar.cons (Ex.int 2) (Ar.cons (Ex.int 0) (Ar.cons (Ex.int 1) Ar.nil))))))))) (Ex.call Cq11 (Ar.cons (Ex.var 0) (Ar.cons (Ex.int 8) Ar.nil)))))) Bl.nil)) (Fq B Cq11)
def rB:Bl Ω:=
 Bl.cons (Sm.set 3 (Ex.own (Ar.cons (Ex.bin .Sub (Ex.call Cq11 (Ar.cons (Ex.var 0) (Ar.cons (Ex.bin .Add (Ex.bin .Mult (Ex.int 2) (Ex.var 2)) (Ex.int 1)) Ar.nil))) (Ex.var 2)) Ar.nil))) (Em B Cq11)
def Kg:Bl Ω:=
 Bl.cons (Sm.ite (Te.and (Bt.cons (Te.cmp .Eq (Ex.var 2) (Ex.int 1)) (Bt.one (Te.cmp .Eq (Ex.call Cq11 (Ar.cons (Ex.var 0) (Ar.cons (Ex.int 16) Ar.nil))) (Ex.int 9))))) (Bl.cons (Sm.ret (Ex.typ bu B.tuple_ (Ar.cons (Ex.comp ["_law_k","_law_pen_here"] [none,some 0] (Ex.bin .Sub (Ex.call Cq11 (Ar.cons (Ex.var 1) (Ar.cons (Ex.int 199) Ar.nil))) (Ex.int 99)) (Tg.nm 0) (Itb.rng1 B.range_ (Ex.bin .Add (Ex.var 1) (Ex.int 1))) Cd.no) Ar.nil))) Bl.nil) Bl.nil) (rB B Cq11)
end
abbrev lR:Stmt:=top 51
abbrev JM:%[|2]:=["_law_pen_here","_law_most","_law_loops_here","_law_room","_law_before","_law_k","_law_size","_law_low","_law_way","_law_none","_law_ahead","_law_stairs"]
abbrev JS:%[|2]:=["_law_pen_here","_law_most"]
section
variable (B : Bi Ω.mg) {Fq11 : Ct} (Cq11 : Cal Ω "_law_take" 2 2 Fq11)
def tO(B:Bi Ω.mg){Fq11:Ct}(Cq11:Cal Ω "_law_take" 2 2 Fq11):Bl Ω:=
 Bl.cons (Sm.set 4 Ex.non) Bl.nil
def tH:Bl Ω:=
 Bl.cons (Sm.set 6 (Ex.ix (Ex.var 4) (Ex.int 1))) (tO B Cq11)
def sS:Bl Ω:=
 Bl.cons (Sm.expr (Ex.m_append (Ex.var 2) (Ex.ix (Ex.var 11) (Ex.var 8)))) (tH B Cq11)
def ul:Bl Ω:=
 Bl.cons (Sm.expr (Ex.m_append (Ex.var 11) (Ex.tup (Ar.cons (Ex.typ bu B.tuple_ (Ar.cons (Ex.binL false .Add (Ex.lst (Ar.cons (Ex.int 0) Ar.nil)) (Ex.var 10)) Ar.nil)) (Ar.cons (Ex.typ bu B.tuple_ (Ar.cons (Ex.binL false .Add (Ex.lst (Ar.cons (Ex.blt wz B.sum_ (Ar.cons (Ex.var 4) Ar.nil)) Ar.nil)) (Ex.var 9)) Ar.nil)) Ar.nil))))) (sS B Cq11)
def tK:Bl Ω:=
 Bl.cons (Sm.set 11 (Ex.own (Ar.cons (Ex.tup (Ar.cons (Ex.typ bu B.tuple_ (Ar.cons (Ex.binL false .Add (Ex.lst (Ar.cons (Ex.ix (Ex.var 4) (Ex.int 0)) Ar.nil)) (Ex.var 9)) Ar.nil)) (Ar.cons (Ex.typ bu B.tuple_ (Ar.cons (Ex.binL false .Add (Ex.lst (Ar.cons (Ex.int 1) Ar.nil)) (Ex.var 10)) Ar.nil)) Ar.nil))) Ar.nil))) (ul B Cq11)
def lJ:Bl Ω:=
 Bl.cons (Sm.set 10 (Ex.binL true .Add (Ex.binL false .Mult (Ex.lst (Ar.cons (Ex.int 0) Ar.nil)) (Ex.bin .Sub (Ex.var 5) (Ex.int 1))) (Ex.lst (Ar.cons (Ex.int 1) Ar.nil)))) (tK B Cq11)
def uo(B:Bi Ω.mg){Fq11:Ct}(Cq11:Cal Ω "_law_take" 2 2 Fq11):Bl Ω:=
 Bl.cons (Sm.set 4 Ex.non) Bl.nil
def ue:Bl Ω:=
 Bl.cons (Sm.expr (Ex.m_append (Ex.var 2) (Ex.tup (Ar.cons (Ex.typ bu B.tuple_ (Ar.cons (Ex.binL false .Add (Ex.lst (Ar.cons (Ex.var 7) Ar.nil)) (Ex.var 10)) Ar.nil)) (Ar.cons (Ex.typ bu B.tuple_ (Ar.cons (Ex.binL false .Add (Ex.lst (Ar.cons (Ex.bin .Add (Ex.var 7) (Ex.var 6)) Ar.nil)) (Ex.var 10)) Ar.nil)) Ar.nil))))) (uo B Cq11)
def uh:Bl Ω:=
 Bl.cons (Sm.setIx (Ex.var 10) (Ex.call Cq11 (Ar.cons (Ex.var 0) (Ar.cons (Ex.var 5) Ar.nil))) (Ex.ix (Ex.lst (Ar.cons (Ex.int 1) (Ar.cons (Ex.neg (Ex.int 1)) (Ar.cons (Ex.int 2) (Ar.cons (Ex.neg (Ex.int 2)) Ar.nil))))) (Ex.call Cq11 (Ar.cons (Ex.var 0) (Ar.cons (Ex.int 4) Ar.nil))))) (ue B Cq11)
def gw:Bl Ω:=
 Bl.cons (Sm.set 10 (Ex.binL true .Mult (Ex.lst (Ar.cons (Ex.int 0) Ar.nil)) (Ex.var 5))) (uh B Cq11)
def rJ(B:Bi Ω.mg){Fq11:Ct}(Cq11:Cal Ω "_law_take" 2 2 Fq11):Bl Ω:=
 Bl.cons (Sm.set 4 (Ex.tup (Ar.cons (Ex.var 7) (Ar.cons (Ex.var 6) Ar.nil)))) Bl.nil
def gm:Bl Ω:=
 Bl.cons (Sm.expr (Ex.m_append (Ex.var 2) (Ex.tup (Ar.cons (Ex.typ bu B.tuple_ (Ar.cons (Ex.binL false .Add (Ex.lst (Ar.cons (Ex.var 7) Ar.nil)) (Ex.var 9)) Ar.nil)) (Ar.cons (Ex.typ bu B.tuple_ (Ar.cons (Ex.binL false .Add (Ex.lst (Ar.cons (Ex.bin .Add (Ex.var 7) (Ex.bin .Mult (Ex.var 6) (Ex.typ VR B.int_ (Ar.cons (Ex.or (Bo.cons (Ex.cmp .Lt (Ex.var 8) (Ex.int 7)) (Bo.one (Ex.cmp .Lt (Ex.var 7) (Ex.int 3))))) Ar.nil)))) Ar.nil)) (Ex.var 9)) Ar.nil)) Ar.nil))))) (rJ B Cq11)
def bL(B:Bi Ω.mg){Fq11:Ct}(Cq11:Cal Ω "_law_take" 2 2 Fq11):Bl Ω:=
 Bl.cons (Sm.set 3 (Ex.fdiv (Ex.var 3) (Ex.var 6))) Bl.nil
def um:Bl Ω:=
 Bl.cons (Sm.ite (Te.and (Bt.cons (Te.cmp .Lt (Ex.var 8) (Ex.int 2)) (Bt.cons (Te.cmp .IsNot (Ex.var 4) Ex.non) (Bt.one (Te.cmp .LtE (Ex.ix (Ex.var 4) (Ex.int 1)) (Ex.var 3)))))) (lJ B Cq11) (Bl.cons (Sm.ite (Te.and (Bt.cons (Te.cmp .Lt (Ex.var 8) (Ex.int 4)) (Bt.one (Te.cmp .Gt (Ex.var 5) (Ex.int 0))))) (gw B Cq11) (gm B Cq11)) Bl.nil)) (bL B Cq11)
def tZ:Bl Ω:=
 Bl.cons (Sm.set 9 (Ex.binL false .Mult (Ex.lst (Ar.cons (Ex.int 0) Ar.nil)) (Ex.var 5))) (um B Cq11)
def sI:Bl Ω:=
 Bl.cons (Sm.set 8 (Ex.call Cq11 (Ar.cons (Ex.var 0) (Ar.cons (Ex.int 8) Ar.nil)))) (tZ B Cq11)
def ud:Bl Ω:=
 Bl.cons (Sm.set 7 (Ex.bin .Sub (Ex.call Cq11 (Ar.cons (Ex.var 0) (Ar.cons (Ex.int 7) Ar.nil))) (Ex.int 3))) (sI B Cq11)
def mF:Bl Ω:=
 Bl.cons (Sm.set 6 (Ex.bin .Add (Ex.int 1) (Ex.call Cq11 (Ar.cons (Ex.var 0) (Ar.cons (Ex.blt VM B.min_ (Ar.cons (Ex.int 4) (Ar.cons (Ex.var 3) Ar.nil))) Ar.nil))))) (ud B Cq11)
def BJ(B:Bi Ω.mg){Fq11:Ct}(Cq11:Cal Ω "_law_take" 2 2 Fq11):Bl Ω:=
 Bl.cons (Sm.ret (Ex.typ bu B.tuple_ (Ar.cons (Ex.var 2) Ar.nil))) Bl.nil
def Az:Bl Ω:=
 Bl.cons (Sm.for (Tg.nm 5) (Itb.rng1 B.range_ (Ex.bin .Add (Ex.int 1) (Ex.call Cq11 (Ar.cons (Ex.var 0) (Ar.cons (Ex.int 3) Ar.nil))))) (Bl.fza (mF B Cq11))) (BJ B Cq11)
def Bg:Bl Ω:=
 Bl.cons (Sm.set 4 Ex.non) (Az B Cq11)
def BV:Bl Ω:=
 Bl.cons (Sm.set 3 (Ex.var 1)) (Bg B Cq11)
def HQ:Bl Ω:=
 Bl.cons (Sm.set 2 (Ex.own Ar.nil)) (BV B Cq11)
end
abbrev pK:Stmt:=top 52
abbrev Kr:%[|2]:=["_law_pen_here","_law_widths","_law_many","_law_table","_law_place","_law_start","_law_parts","_law_k","_law_other","_law_way","_law_factor"]
abbrev K7:%[|2]:=["_law_pen_here","_law_widths","_law_many"]
section
variable (B : Bi Ω.mg) {Fq11 : Ct} (Cq11 : Cal Ω "_law_take" 2 2 Fq11) {Fq4 : Ct} (Cq4 : Cal Ω "_law_form" 3 3 Fq4)
def kE(B:Bi Ω.mg){Fq11:Ct}(Cq11:Cal Ω "_law_take" 2 2 Fq11){Fq4:Ct}(Cq4:Cal Ω "_law_form" 3 3 Fq4):Bl Ω:=
 Bl.cons (Sm.expr (Ex.m_append (Ex.var 6) (Ex.tup (Ar.cons (Ex.var 10) (Ar.cons (Ex.var 8) (Ar.cons (Ex.typ bu B.tuple_ (Ar.cons (Ex.comp ["_law_j","_law_pen_here","_law_many"] [none,some 0,some 2] (Ex.call Cq4 (Ar.cons (Ex.var 1) (Ar.cons (Ex.var 2) (Ar.cons (Ex.int 1) Ar.nil)))) (Tg.nm 0) (Itb.rng1 B.range_ (Ex.ix (Ex.var 1) (Ex.var 8))) Cd.no) Ar.nil)) Ar.nil)))))) Bl.nil
def vK:Bl Ω:=
 Bl.cons (Sm.ite (Te.cmp .Eq (Ex.var 9) (Ex.int 7)) (Bl.cons (Sm.set 10 (Ex.bin .Add (Ex.bin .Sub (Ex.call Cq11 (Ar.cons (Ex.var 0) (Ar.cons (Ex.bin .Sub (Ex.bin .Mult (Ex.int 2) (Ex.bin .Pow (Ex.int 10) (Ex.int 30))) (Ex.int 1)) Ar.nil))) (Ex.bin .Pow (Ex.int 10) (Ex.int 30))) (Ex.int 1))) Bl.nil) Bl.nil) (kE B Cq11 Cq4)
def vm:Bl Ω:=
 Bl.cons (Sm.set 10 (Ex.ix (Ex.lst (Ar.cons (Ex.int 1) (Ar.cons (Ex.neg (Ex.int 1)) (Ar.cons (Ex.int 2) (Ar.cons (Ex.int 3) (Ar.cons (Ex.int 0) (Ar.cons (Ex.int 1) (Ar.cons (Ex.neg (Ex.int 5)) (Ar.cons (Ex.int 0) Ar.nil))))))))) (Ex.var 9))) (vK B Cq11 Cq4)
def vW:Bl Ω:=
 Bl.cons (Sm.set 9 (Ex.call Cq11 (Ar.cons (Ex.var 0) (Ar.cons (Ex.int 8) Ar.nil)))) (vm B Cq11 Cq4)
def oV:Bl Ω:=
 Bl.cons (Sm.set 8 (Ex.call Cq11 (Ar.cons (Ex.var 0) (Ar.cons (Ex.blt cT B.len_ (Ar.cons (Ex.var 1) Ar.nil)) Ar.nil)))) (vW B Cq11 Cq4)
def FP(B:Bi Ω.mg){Fq11:Ct}(Cq11:Cal Ω "_law_take" 2 2 Fq11){Fq4:Ct}(Cq4:Cal Ω "_law_form" 3 3 Fq4):Bl Ω:=
 Bl.cons (Sm.ret (Ex.tup (Ar.cons (Ex.var 3) (Ar.cons (Ex.var 4) (Ar.cons (Ex.var 5) (Ar.cons (Ex.typ bu B.tuple_ (Ar.cons (Ex.var 6) Ar.nil)) Ar.nil)))))) Bl.nil
def Ge:Bl Ω:=
 Bl.cons (Sm.for (Tg.nm 7) (Itb.rng1 B.range_ (Ex.call Cq11 (Ar.cons (Ex.var 0) (Ar.cons (Ex.int 4) Ar.nil)))) (oV B Cq11 Cq4)) (FP B Cq11 Cq4)
def Ey:Bl Ω:=
 Bl.cons (Sm.set 6 (Ex.own Ar.nil)) (Ge B Cq11 Cq4)
def Fp:Bl Ω:=
 Bl.cons (Sm.set 5 (Ex.call Cq4 (Ar.cons (Ex.var 0) (Ar.cons (Ex.var 2) (Ar.cons (Ex.ix (Ex.lst (Ar.cons (Ex.int 1) (Ar.cons (Ex.int 9) (Ar.cons (Ex.bin .Sub (Ex.bin .Pow (Ex.int 10) (Ex.int 30)) (Ex.int 1)) Ar.nil)))) (Ex.call Cq11 (Ar.cons (Ex.var 0) (Ar.cons (Ex.int 3) Ar.nil)))) Ar.nil))))) (Ey B Cq11 Cq4)
def Ez:Bl Ω:=
 Bl.cons (Sm.set 4 (Ex.typ bu B.tuple_ (Ar.cons (Ex.comp ["_law_k","_law_pen_here","_law_many"] [none,some 0,some 2] (Ex.call Cq4 (Ar.cons (Ex.var 1) (Ar.cons (Ex.var 2) (Ar.cons (Ex.int 1) Ar.nil)))) (Tg.nm 0) (Itb.rng1 B.range_ (Ex.ix (Ex.var 1) (Ex.var 3))) Cd.no) Ar.nil))) (Fp B Cq11 Cq4)
def Lh:Bl Ω:=
 Bl.cons (Sm.set 3 (Ex.call Cq11 (Ar.cons (Ex.var 0) (Ar.cons (Ex.blt cT B.len_ (Ar.cons (Ex.var 1) Ar.nil)) Ar.nil)))) (Ez B Cq11 Cq4)
end
abbrev iV:Stmt:=top 53
abbrev Am:%[|2]:=["_law_pen_here","_law_most","_law_widths","_law_many","_law_nests","_law_k","_law_deeds","_law_loops_here"]
abbrev BR:%[|2]:=["_law_pen_here","_law_most"]
section
variable (B : Bi Ω.mg) {Fq11 : Ct} (Cq11 : Cal Ω "_law_take" 2 2 Fq11) {Fq5 : Ct} (Cq5 : Cal Ω "_law_loops" 3 2 Fq5) {Fq3 : Ct} (Cq3 : Cal Ω "_law_deed" 4 3 Fq3)
def pR(B:Bi Ω.mg){Fq11:Ct}(Cq11:Cal Ω "_law_take" 2 2 Fq11){Fq5:Ct}(Cq5:Cal Ω "_law_loops" 3 2 Fq5){Fq3:Ct}(Cq3:Cal Ω "_law_deed" 4 3 Fq3):Bl Ω:=
 Bl.cons (Sm.expr (Ex.m_append (Ex.var 4) (Ex.tup (Ar.cons (Ex.var 7) (Ar.cons (Ex.typ bu B.tuple_ (Ar.cons (Ex.comp ["_law_j","_law_pen_here","_law_widths","_law_loops_here"] [none,some 0,some 2,some 7] (Ex.call Cq3 (Ar.cons (Ex.var 1) (Ar.cons (Ex.var 2) (Ar.cons (Ex.blt cT B.len_ (Ar.cons (Ex.var 3) Ar.nil)) Ar.nil)))) (Tg.nm 0) (Itb.rng1 B.range_ (Ex.var 6)) Cd.no) Ar.nil)) Ar.nil))))) Bl.nil
def pB:Bl Ω:=
 Bl.cons (Sm.set 7 (Ex.call Cq5 (Ar.cons (Ex.var 0) (Ar.cons (Ex.blt V3 B.max_ (Ar.cons (Ex.int 1) (Ar.cons (Ex.fdiv (Ex.fdiv (Ex.var 1) (Ex.var 3)) (Ex.var 6)) Ar.nil))) Ar.nil)))) (pR B Cq11 Cq5 Cq3)
def jw:Bl Ω:=
 Bl.cons (Sm.set 6 (Ex.bin .Add (Ex.int 1) (Ex.call Cq11 (Ar.cons (Ex.var 0) (Ar.cons (Ex.int 4) Ar.nil))))) (pB B Cq11 Cq5 Cq3)
def vJ(B:Bi Ω.mg){Fq11:Ct}(Cq11:Cal Ω "_law_take" 2 2 Fq11){Fq5:Ct}(Cq5:Cal Ω "_law_loops" 3 2 Fq5){Fq3:Ct}(Cq3:Cal Ω "_law_deed" 4 3 Fq3):Bl Ω:=
 Bl.cons (Sm.ret (Ex.tup (Ar.cons (Ex.var 2) (Ar.cons (Ex.typ bu B.tuple_ (Ar.cons (Ex.var 4) Ar.nil)) Ar.nil)))) Bl.nil
def vR:Bl Ω:=
 Bl.cons (Sm.for (Tg.nm 5) (Itb.rng1 B.range_ (Ex.var 3)) (jw B Cq11 Cq5 Cq3)) (vJ B Cq11 Cq5 Cq3)
def vY:Bl Ω:=
 Bl.cons (Sm.set 4 (Ex.own Ar.nil)) (vR B Cq11 Cq5 Cq3)
def wu:Bl Ω:=
 Bl.cons (Sm.set 3 (Ex.bin .Add (Ex.int 1) (Ex.call Cq11 (Ar.cons (Ex.var 0) (Ar.cons (Ex.int 3) Ar.nil))))) (vY B Cq11 Cq5 Cq3)
def Bu:Bl Ω:=
 Bl.cons (Sm.set 2 (Ex.typ bu B.tuple_ (Ar.cons (Ex.comp ["_law_k","_law_pen_here"] [none,some 0] (Ex.bin .Add (Ex.int 1) (Ex.call Cq11 (Ar.cons (Ex.var 1) (Ar.cons (Ex.int 2) Ar.nil)))) (Tg.nm 0) (Itb.rng1 B.range_ (Ex.bin .Add (Ex.int 1) (Ex.call Cq11 (Ar.cons (Ex.var 0) (Ar.cons (Ex.int 3) Ar.nil))))) Cd.no) Ar.nil))) (wu B Cq11 Cq5 Cq3)
end
abbrev zY:Stmt:=top 54
abbrev Tv:%[|2]:=["_law_form_here","_law_counts_here"]
abbrev R7:%[|2]:=["_law_form_here","_law_counts_here"]
def Td(B:Bi Ω.mg):Bl Ω:=
 Bl.cons (Sm.ret (Ex.bin .Add (Ex.ix (Ex.var 0) (Ex.int 0)) (Ex.blt wz B.sum_ (Ar.cons (Ex.comp ["_law_k","_law_form_here","_law_counts_here"] [none,some 0,some 1] (Ex.bin .Mult (Ex.ix (Ex.var 1) (Ex.bin .Add (Ex.int 1) (Ex.var 0))) (Ex.ix (Ex.var 2) (Ex.var 0))) (Tg.nm 0) (Itb.rng1 B.range_ (Ex.blt cT B.len_ (Ar.cons (Ex.var 1) Ar.nil))) Cd.no) Ar.nil)))) Bl.nil
abbrev j5:Stmt:=top 55
abbrev Ek:%[|2]:=["_law_loops_here","_law_found","_law_low","_law_high","_law_longer","_law_counts_here","_law_count"]
abbrev GK:%[|2]:=["_law_loops_here"]
section
variable (B : Bi Ω.mg) {Fq0 : Ct} (Cq0 : Cal Ω "_law_at" 1 2 Fq0)
def qx(B:Bi Ω.mg){Fq0:Ct}(Cq0:Cal Ω "_law_at" 1 2 Fq0):Bl Ω:=
 Bl.cons (Sm.set 1 (Ex.var 4)) Bl.nil
def qH:Bl Ω:=
 Bl.cons (Sm.forL (Tg.nm 5) (Ex.var 1) (Bl.cons (Sm.for (Tg.nm 6) (Itb.rng2 B.range_ (Ex.call Cq0 (Ar.cons (Ex.var 2) (Ar.cons (Ex.var 5) Ar.nil))) (Ex.call Cq0 (Ar.cons (Ex.var 3) (Ar.cons (Ex.var 5) Ar.nil)))) (Bl.cons (Sm.expr (Ex.m_append (Ex.var 4) (Ex.bin .Add (Ex.var 5) (Ex.tup (Ar.cons (Ex.var 6) Ar.nil))))) Bl.nil)) Bl.nil)) (qx B Cq0)
def vX:Bl Ω:=
 Bl.cons (Sm.set 4 (Ex.own Ar.nil)) (qH B Cq0)
def Ag(B:Bi Ω.mg){Fq0:Ct}(Cq0:Cal Ω "_law_at" 1 2 Fq0):Bl Ω:=
 Bl.cons (Sm.ret (Ex.var 1)) Bl.nil
def zX:Bl Ω:=
 Bl.cons (Sm.forL (Tg.tup [2,3]) (Ex.var 0) (Bl.fzl (vX B Cq0))) (Ag B Cq0)
def Gd:Bl Ω:=
 Bl.cons (Sm.set 1 (Ex.lst (Ar.cons (Ex.tup Ar.nil) Ar.nil))) (zX B Cq0)
end
abbrev pY:Stmt:=top 56
abbrev JV:%[|2]:=["_law_table","_law_place","_law_counts_here"]
abbrev J0:%[|2]:=["_law_table","_law_place","_law_counts_here"]
def K1(B:Bi Ω.mg){Fq0:Ct}(Cq0:Cal Ω "_law_at" 1 2 Fq0):Bl Ω:=
 Bl.cons (Sm.ret (Ex.tup (Ar.cons (Ex.var 0) (Ar.cons (Ex.typ bu B.tuple_ (Ar.cons (Ex.comp ["_law_form_here","_law_counts_here"] [none,some 2] (Ex.call Cq0 (Ar.cons (Ex.var 0) (Ar.cons (Ex.var 1) Ar.nil))) (Tg.nm 0) (Itb.seq (Ex.var 1)) Cd.no) Ar.nil)) Ar.nil)))) Bl.nil
abbrev mj:Stmt:=top 57
abbrev HN:%[|2]:=["_law_program_here","_law_steps_here","_law_loops_here","_law_deeds","_law_counts_here","_law_table","_law_place","_law_start","_law_parts","_law_some"]
abbrev JL:%[|2]:=["_law_program_here"]
section
variable {Fq0 : Ct} (Cq0 : Cal Ω "_law_at" 1 2 Fq0) {Fq2 : Ct} (Cq2 : Cal Ω "_law_counts" 2 1 Fq2) {Fq9 : Ct} (Cq9 : Cal Ω "_law_spot" 2 3 Fq9)
def tD{Fq0:Ct}(Cq0:Cal Ω "_law_at" 1 2 Fq0){Fq2:Ct}(Cq2:Cal Ω "_law_counts" 2 1 Fq2){Fq9:Ct}(Cq9:Cal Ω "_law_spot" 2 3 Fq9):Bl Ω:=
 Bl.cons (Sm.expr (Ex.m_append (Ex.var 1) (Ex.tup (Ar.cons (Ex.call Cq9 (Ar.cons (Ex.var 5) (Ar.cons (Ex.var 6) (Ar.cons (Ex.var 4) Ar.nil)))) (Ar.cons (Ex.call Cq0 (Ar.cons (Ex.var 7) (Ar.cons (Ex.var 4) Ar.nil))) (Ar.cons (Ex.var 9) Ar.nil)))))) Bl.nil
def xx:Bl Ω:=
 Bl.cons (Sm.setC 9 ["_law_factor","_law_other","_law_there","_law_counts_here"] [none,none,none,some 4] (Ex.tup (Ar.cons (Ex.var 0) (Ar.cons (Ex.call Cq9 (Ar.cons (Ex.var 1) (Ar.cons (Ex.var 2) (Ar.cons (Ex.var 3) Ar.nil)))) Ar.nil))) (Tg.tup [0,1,2]) (Itb.seq (Ex.var 8)) Cd.no) (tD Cq0 Cq2 Cq9)
def Ai{Fq0:Ct}(Cq0:Cal Ω "_law_at" 1 2 Fq0){Fq2:Ct}(Cq2:Cal Ω "_law_counts" 2 1 Fq2){Fq9:Ct}(Cq9:Cal Ω "_law_spot" 2 3 Fq9):Bl Ω:=
 Bl.cons (Sm.ret (Ex.var 1)) Bl.nil
def Cr:Bl Ω:=
 Bl.cons (Sm.forL (Tg.tup [2,3]) (Ex.ix (Ex.var 0) (Ex.int 1)) (Bl.cons (Sm.forL (Tg.nm 4) (Ex.call Cq2 (Ar.cons (Ex.var 2) Ar.nil)) (Bl.cons (Sm.forL (Tg.tup [5,6,7,8]) (Ex.var 3) (xx Cq0 Cq2 Cq9)) Bl.nil)) Bl.nil)) (Ai Cq0 Cq2 Cq9)
def Ja:Bl Ω:=
 Bl.cons (Sm.set 1 (Ex.own Ar.nil)) (Cr Cq0 Cq2 Cq9)
end
abbrev lO:Stmt:=top 58
abbrev Hs:%[|2]:=["_law_pen_here","_law_many","_law_found","_law_t"]
abbrev GQ:%[|2]:=["_law_pen_here","_law_many"]
section
variable (B : Bi Ω.mg) {Fq11 : Ct} (Cq11 : Cal Ω "_law_take" 2 2 Fq11)
def BK(B:Bi Ω.mg){Fq11:Ct}(Cq11:Cal Ω "_law_take" 2 2 Fq11):Bl Ω:=
 Bl.cons (Sm.ret (Ex.var 2)) Bl.nil
def Ck:Bl Ω:=
 Bl.cons (Sm.for (Tg.nm 3) (Itb.rng1 B.range_ (Ex.var 1)) (Bl.cons (Sm.expr (Ex.m_insert (Ex.var 2) (Ex.call Cq11 (Ar.cons (Ex.var 0) (Ar.cons (Ex.bin .Add (Ex.blt cT B.len_ (Ar.cons (Ex.var 2) Ar.nil)) (Ex.int 1)) Ar.nil))) (Ex.var 3))) Bl.nil)) (BK B Cq11)
def HW:Bl Ω:=
 Bl.cons (Sm.set 2 (Ex.own Ar.nil)) (Ck B Cq11)
end
abbrev kj:Stmt:=top 59
abbrev Vm:%[|2]:=["_law_script","_law_pen_here","_law_drawn","_law_steps_here","_law_program_here","_law_order_here","_law_told","_law_at_here","_law_one","_law_other","_law_swapped","_law_cell_here","_law_number","_law_parts","_law_both","_law_alone"]
abbrev M9:%[|2]:=["_law_script"]
section
variable (B : Bi Ω.mg) {Fq37 : Ct} (Cq37 : Cal Ω "program_of" 10 2 Fq37) {Fq42 : Ct} (Cq42 : Cal Ω "touches" 6 3 Fq42) {Fq45 : Ct} (Cq45 : Cal Ω "traced" 7 2 Fq45) {Fq7 : Ct} (Cq7 : Cal Ω "_law_pen" 2 2 Fq7) {Fq8 : Ct} (Cq8 : Cal Ω "_law_program" 5 2 Fq8) {Fq10 : Ct} (Cq10 : Cal Ω "_law_steps" 3 1 Fq10) {Fq6 : Ct} (Cq6 : Cal Ω "_law_order" 3 2 Fq6)
def Eu(B:Bi Ω.mg){Fq37:Ct}(Cq37:Cal Ω "program_of" 10 2 Fq37){Fq42:Ct}(Cq42:Cal Ω "touches" 6 3 Fq42){Fq45:Ct}(Cq45:Cal Ω "traced" 7 2 Fq45){Fq7:Ct}(Cq7:Cal Ω "_law_pen" 2 2 Fq7){Fq8:Ct}(Cq8:Cal Ω "_law_program" 5 2 Fq8){Fq10:Ct}(Cq10:Cal Ω "_law_steps" 3 1 Fq10){Fq6:Ct}(Cq6:Cal Ω "_law_order" 3 2 Fq6):Bl Ω:=
 Bl.cons (Sm.ite (Te.cmp .NotEq (Ex.eix (Ex.var 14) (Ex.var 11)) (Ex.eix (Ex.var 15) (Ex.var 11))) (Bl.cons (Sm.ret (Ex.bl false)) Bl.nil) Bl.nil) Bl.nil
def Gi:Bl Ω:=
 Bl.cons (Sm.set 15 (Ex.call Cq45 (Ar.cons (Ex.var 4) (Ar.cons (Ex.bin .Add (Ex.sl (Ex.var 5) Po.no (Po.so (Ex.var 7))) (Ex.lst (Ar.cons (Ex.var 9) Ar.nil))) Ar.nil)))) (Eu B Cq37 Cq42 Cq45 Cq7 Cq8 Cq10 Cq6)
def LQ:Bl Ω:=
 Bl.cons (Sm.set 14 (Ex.call Cq45 (Ar.cons (Ex.var 4) (Ar.cons (Ex.sl (Ex.var 5) Po.no (Po.so (Ex.bin .Add (Ex.var 7) (Ex.int 2)))) Ar.nil)))) (Gi B Cq37 Cq42 Cq45 Cq7 Cq8 Cq10 Cq6)
def FZ(B:Bi Ω.mg){Fq37:Ct}(Cq37:Cal Ω "program_of" 10 2 Fq37){Fq42:Ct}(Cq42:Cal Ω "touches" 6 3 Fq42){Fq45:Ct}(Cq45:Cal Ω "traced" 7 2 Fq45){Fq7:Ct}(Cq7:Cal Ω "_law_pen" 2 2 Fq7){Fq8:Ct}(Cq8:Cal Ω "_law_program" 5 2 Fq8){Fq10:Ct}(Cq10:Cal Ω "_law_steps" 3 1 Fq10){Fq6:Ct}(Cq6:Cal Ω "_law_order" 3 2 Fq6):Bl Ω:=
 Bl.cons (Sm.ite (Te.and (Bt.cons (Te.cmp .Eq (Ex.ix (Ex.ix (Ex.var 3) (Ex.var 8)) (Ex.int 0)) (Ex.var 11)) (Bt.one (Te.cmp .NotIn (Ex.var 11) (Ex.comp ["_law_factor","_law_spot_here"] [none,none] (Ex.var 1) (Tg.tup [0,1]) (Itb.seq (Ex.var 13)) Cd.no))))) (LQ B Cq37 Cq42 Cq45 Cq7 Cq8 Cq10 Cq6) Bl.nil) Bl.nil
def qw:Bl Ω:=
 Bl.cons (Sm.unpack [11,12,13] (Ex.ix (Ex.var 3) (Ex.var 9))) (FZ B Cq37 Cq42 Cq45 Cq7 Cq8 Cq10 Cq6)
def FQ:Bl Ω:=
 Bl.cons (Sm.ite (Te.and (Bt.cons (Te.not (Te.val (Ex.call Cq42 (Ar.cons (Ex.var 4) (Ar.cons (Ex.var 8) (Ar.cons (Ex.var 9) Ar.nil)))))) (Bt.one (Te.eqE true (Ex.call Cq45 (Ar.cons (Ex.var 4) (Ar.cons (Ex.var 10) Ar.nil))) (Ex.var 6))))) (Bl.cons (Sm.ret (Ex.bl false)) Bl.nil) Bl.nil) (qw B Cq37 Cq42 Cq45 Cq7 Cq8 Cq10 Cq6)
def Eo:Bl Ω:=
 Bl.cons (Sm.set 10 (Ex.bin .Add (Ex.bin .Add (Ex.sl (Ex.var 5) Po.no (Po.so (Ex.var 7))) (Ex.lst (Ar.cons (Ex.var 9) (Ar.cons (Ex.var 8) Ar.nil)))) (Ex.sl (Ex.var 5) (Po.so (Ex.bin .Add (Ex.var 7) (Ex.int 2))) Po.no))) (FQ B Cq37 Cq42 Cq45 Cq7 Cq8 Cq10 Cq6)
def zO:Bl Ω:=
 Bl.cons (Sm.par 8 9 (Ar.cons (Ex.ix (Ex.var 5) (Ex.var 7)) (Ar.cons (Ex.ix (Ex.var 5) (Ex.bin .Add (Ex.var 7) (Ex.int 1))) Ar.nil))) (Eo B Cq37 Cq42 Cq45 Cq7 Cq8 Cq10 Cq6)
def NP(B:Bi Ω.mg){Fq37:Ct}(Cq37:Cal Ω "program_of" 10 2 Fq37){Fq42:Ct}(Cq42:Cal Ω "touches" 6 3 Fq42){Fq45:Ct}(Cq45:Cal Ω "traced" 7 2 Fq45){Fq7:Ct}(Cq7:Cal Ω "_law_pen" 2 2 Fq7){Fq8:Ct}(Cq8:Cal Ω "_law_program" 5 2 Fq8){Fq10:Ct}(Cq10:Cal Ω "_law_steps" 3 1 Fq10){Fq6:Ct}(Cq6:Cal Ω "_law_order" 3 2 Fq6):Bl Ω:=
 Bl.cons (Sm.ret (Ex.bl true)) Bl.nil
def Oa:Bl Ω:=
 Bl.cons (Sm.for (Tg.nm 7) (Itb.rng1 B.range_ (Ex.bin .Sub (Ex.blt cT B.len_ (Ar.cons (Ex.var 5) Ar.nil)) (Ex.int 1))) (zO B Cq37 Cq42 Cq45 Cq7 Cq8 Cq10 Cq6)) (NP B Cq37 Cq42 Cq45 Cq7 Cq8 Cq10 Cq6)
def OJ:Bl Ω:=
 Bl.cons (Sm.set 6 (Ex.call Cq45 (Ar.cons (Ex.var 4) (Ar.cons (Ex.var 5) Ar.nil)))) (Oa B Cq37 Cq42 Cq45 Cq7 Cq8 Cq10 Cq6)
def QM:Bl Ω:=
 Bl.cons (Sm.set 5 (Ex.call Cq6 (Ar.cons (Ex.var 1) (Ar.cons (Ex.blt cT B.len_ (Ar.cons (Ex.var 3) Ar.nil)) Ar.nil)))) (OJ B Cq37 Cq42 Cq45 Cq7 Cq8 Cq10 Cq6)
def NB:Bl Ω:=
 Bl.cons (Sm.set 4 (Ex.call Cq37 (Ar.cons (Ex.ix (Ex.var 2) (Ex.int 0)) (Ar.cons (Ex.ix (Ex.var 2) (Ex.int 1)) Ar.nil)))) (QM B Cq37 Cq42 Cq45 Cq7 Cq8 Cq10 Cq6)
def Pq:Bl Ω:=
 Bl.cons (Sm.set 3 (Ex.call Cq10 (Ar.cons (Ex.var 2) Ar.nil))) (NB B Cq37 Cq42 Cq45 Cq7 Cq8 Cq10 Cq6)
def P0:Bl Ω:=
 Bl.cons (Sm.set 2 (Ex.call Cq8 (Ar.cons (Ex.var 1) (Ar.cons (Ex.int 16) Ar.nil)))) (Pq B Cq37 Cq42 Cq45 Cq7 Cq8 Cq10 Cq6)
def Va:Bl Ω:=
 Bl.cons (Sm.set 1 (Ex.call Cq7 (Ar.cons (Ex.var 0) (Ar.cons (Ex.int 1) Ar.nil)))) (P0 B Cq37 Cq42 Cq45 Cq7 Cq8 Cq10 Cq6)
end
end
end K18
local macro_rules | `(tactic| walk_at "n") => `(tactic| ((conv => whnf); repeat (with_reducible first | apply RF.cLt | apply RF.cLe | apply RF.cGt | apply RF.cGe | apply RF.cEqI | apply RF.cNeI | apply RF.cEqB | apply RF.cNeB | apply RF.cIsN | apply RF.cIsB | apply RF.cIsNotB | apply RF.cIsNot); (conv => whnf)))
local macro_rules | `(tactic| walk_at "at") => `(tactic| first | (with_reducible assumption) | exact DL.set_get (by first | (with_reducible assumption) | exact DL.set_get (by with_reducible assumption)))
local macro_rules | `(tactic| walk_at "o") => `(tactic| first | omega | decide | (simp; done) | (simp; omega))
local macro_rules | `(tactic| walk_at "a1") => `(tactic| first
 | refine RF.wM1 (by first | exact .inl ⟨by walk_at "o", by walk_at "o"⟩ | exact .inr ⟨by walk_at "o", by walk_at "o"⟩) ?_
 | refine RF.wM2 ⟨by decide, by decide, by decide⟩ ?_
 | refine RF.wM3 ⟨by omega, by omega⟩ ?_
 | refine RF.wM4 (by omega) ?_
 | ((fail_if_success (with_reducible show (_ /\ ∃ _ : Nat -> List DL.D -> DL.Store -> Prop, _))); refine RF.wM5 (by walk_at "o") ?_)
 | refine RF.wM6 (by walk_at "o") ?_
 | (refine' RF.wM7 ?h1 ?h2 ?h3; (case h1 => walk_at "at"); (case h2 => exact rfl); (try rw [List.set_set]))
 | (refine' RF.wM8 ?h1 ?h2 ?h3; (case h1 => walk_at "at"); (case h2 => exact rfl))
 | refine RF.wM9 rfl ?_)
local macro_rules | `(tactic| walk_at "a") => `(tactic| (walk_at "n"; repeat (walk_at "a1"; walk_at "n")))
local macro_rules | `(tactic| walk_at "b") => `(tactic| (walk_at "n"; repeat ((first | walk_at "a1" | apply RF.bT | apply RF.bF | apply RF.dT | apply RF.dF); walk_at "n")))
namespace K18
open PySem L2 DL RF
variable {cs ws : %[|1]} {i n k m t B X : Nat} {d : D} {a b : Int} {S S' J : Store} {W : WD} {l : List D} {o : List Nat}
variable {Ω : Wd} {f : Addr} {fd : FuncData}
def whole:D->Bool
 | .int _=>true
 | _=>false
def bB(x:D)(a b:Int):Bool:=match x with
 | .tup ds=>decide (a≤(ds.length:Int))&&decide ((ds.length:Int)≤b)
 | _=>false
def cI(x:D)(d:Int):Bool:=match x with
 | .tup ds=>decide ((ds.length:Int)=d+1)&&ds.all whole
 | _=>false
def fY:Ct:=λ ds S W=>∃x,ds=[x]/\W (.bl (whole x)) S
def dU:Ct:=λ ds S W=>∃x a b,ds=[x,.int a,.int b]/\W (.bl (bB x a b)) S
def qy:Ct:=λ ds S W=>∃x d,ds=[x,.int d]/\d≤1000/\W (.bl (cI x d)) S
def comesTo(f:Int)(fs cs:%[|1]):Int:=f+(List.zipWith (λ a b=>a*b) fs cs).sum
def m8:Ct:=λ ds S W=>∃f fs cs,ds=[.tup (.int f::fs.map .int),.tup (cs.map .int)]/\fs.length≤1000/\(∀c∈cs,-(2 ^ 64)<c/\c<2 ^ 64)/\W (.int (comesTo f fs cs)) S
theorem Hw(ds:List D):(ds.map whole).all id=ds.all whole:=by rw[List.all_map];rfl
theorem Qn{fs:%[|1]}(h:(List.zipWith (λ x y=>D.tup [x,y]) (fs.map D.int) (cs.map D.int))[i]? =some d):∃a b,fs[i]? =some a/\cs[i]? =some b/\d=.tup [.int a,.int b]:=by
 rw[List.getElem?_zipWith,y8,y8]at h
 cases e1:fs[i]? with
 | none=>rw[e1]at h;cases h
 | some a=>
   cases e2:cs[i]? with
   | none=>rw[e1,e2]at h;cases h
   | some b=>rw[e1,e2]at h;cases h;exact⟨a,b,rfl,rfl,rfl⟩
theorem vo(F:Fun Ω.K "is_whole" "is_whole" ie f fd)(N0:Ω.cd=none)(B:Bi Ω.mg):Ok Ω 1 f fd zu fY:=by
 refine az N0 (N:=xu) F (yc B) (by kernel_rfl!) ?_
 rintro ds S W ⟨x,rfl,hw⟩ hl
 walk_at "n"
 refine⟨λ c=>?_,λ c=>?_⟩
 . walk_at "n"
   have e:(!isD .bool x)=whole x:=by cases x<;>first | rfl | exact ff c | exact tf c
   rw[e];exact hw
 . have e:whole x=false:=by cases x<;>first | rfl | exact ff c | exact tf c
   rw[e]at hw;exact hw
theorem pP(F:Fun Ω.K "is_tuple_of" "is_tuple_of" d7 f fd)(N0:Ω.cd=none)(B:Bi Ω.mg):Ok Ω 1 f fd qt dU:=by
 refine az N0 (N:=rC) F (rE B) (by kernel_rfl!) ?_
 rintro ds S W ⟨x,a,b,rfl,hw⟩ hl
 walk_at "n"
 cases x with
 | tup ds=>
   refine⟨λ _=>?_,λ c=>tf c⟩
   walk_at "n"
   refine⟨λ c1=>?_,λ c1=>?_⟩
   . have e:bB (.tup ds) a b=false:=by show(decide _&&decide _)=false;rw[c1];rfl
     rw[e]at hw;exact hw
   . walk_at "n"
     have e:bB (.tup ds) a b=decide ((ds.length:Int)≤b):=by show(decide _&&decide _)=_;rw[c1];rfl
     rw[e]at hw;exact hw
 | _=>exact⟨λ c=>ff c,λ _=>hw⟩
theorem zx(F:Fun Ω.K "is_form" "is_form" iJ f fd)(N0:Ω.cd=none)(B:Bi Ω.mg)(Cq34:Cal Ω "is_whole" 1 1 fY)(Cq33:Cal Ω "is_tuple_of" 1 3 dU):Ok Ω 2 f fd Bx qy:=by
 refine az N0 (N:=Bj) F (Ao B Cq34 Cq33) (by kernel_rfl!) ?_
 rintro ds S W ⟨x,d,rfl,hd,hw⟩ hl
 walk_at "n"
 refine⟨rfl,_,_,_,rfl,?_⟩
 refine⟨λ c=>?_,λ c=>?_⟩
 . cases x with
   | tup ds=>
     have hlen:(ds.length:Int)=d+1:=by
      have c':(decide (d+1≤(ds.length:Int))&&decide ((ds.length:Int)≤d+1))=true:=c
      rw[Bool.and_eq_true,decide_eq_true_eq,decide_eq_true_eq]at c'
      omega
     walk_at "n"
     refine f9 ⟨%[|0],λ i acc S'=>acc=(ds.take i).map (λ d=>.bl (whole d))/\S'=S,⟨rfl,rfl⟩,?_,?_⟩
     . rintro i e acc S' he ⟨rfl,rfl⟩
       walk_at "n"
       refine⟨λ _=>⟨rfl,_,rfl,?_,rfl⟩,λ z=>tf z⟩
       rw[aC he,v3];rfl
     . rintro acc S' ⟨rfl,rfl⟩
       rw[List.take_length]
       refine⟨ds.map whole,by rw[List.map_map];rfl,?_⟩
       have e2:cI (.tup ds) d=(ds.map whole).all id:=by
        show(decide _&&_)=_
        rw[ZG hlen,Hw];rfl
       rw[e2]at hw;exact hw
   | _=>exact ff c
 . have e:cI x d=false:=by
    cases x with
    | tup ds=>
      have c':(decide (d+1≤(ds.length:Int))&&decide ((ds.length:Int)≤d+1))=false:=c
      show(decide _&&_)=false
      rw[Bool.and_eq_false_iff,decide_eq_false_iff_not,decide_eq_false_iff_not]at c'
      rw[ZH %[|0]];rfl
    | _=>rfl
   rw[e]at hw;exact hw
theorem vL(F:Fun Ω.K "comes_to" "comes_to" gQ f fd)(N0:Ω.cd=none)(B:Bi Ω.mg):Ok Ω 1 f fd xX m8:=by
 refine az N0 (N:=ym) F (z8 B) (by kernel_rfl!) ?_
 rintro ds S W ⟨g,fs,cs,rfl,hfs,hcs,hw⟩ hl
 walk_at "n"
 refine⟨_,xZ _ _,?_⟩
 walk_at "n"
 rw[xY]
 refine f9 ⟨by rw[List.length_zipWith,y7];omega,λ i acc S'=>acc=((List.zipWith (λ a b=>a*b) fs cs).take i).map D.int/\S'=S,⟨rfl,rfl⟩,?_,?_⟩
 . rintro i e acc S' he ⟨rfl,rfl⟩
   obtain⟨a,b,h1,h2,rfl⟩:=Qn he
   walk_at "n"
   refine⟨rfl,λ _=>⟨.inr (hcs b (y4 h2)),?_,rfl⟩,λ z=>tf z⟩
   have e3:(List.zipWith (λ a b=>a*b) fs cs)[i]? =some (a*b):=by rw[List.getElem?_zipWith,h1,h2]
   rw[aC e3,v3];rfl
 . rintro acc S' ⟨rfl,rfl⟩
   have e:(List.zipWith (λ x y=>D.tup [x,y]) (fs.map D.int) (cs.map D.int)).length=(List.zipWith (λ a b=>a*b) fs cs).length:=by simp
   rw[e,List.take_length]
   exact⟨_,rfl,hw⟩
def small:D->Bool
 | .int n=>decide (-2≤n)&&decide (n≤2)
 | _=>false
def U9:List D->Bool
 | .int a::fs=>decide (-9≤a)&&(decide (a≤9)&&fs.all small)
 | _=>false
def bY(x:D)(d:Int):Bool:=cI x d&&U9 (match x with | .tup ds=>ds | _=>[])
def gA(x:D)(d:Int):Bool:=match x with
 | .tup [a,b]=>bY a d&&bY b d
 | _=>false
def eF(x:D):Bool:=match x with
 | .tup ds=>(decide (1≤(ds.length:Int))&&decide ((ds.length:Int)≤3))&&(ds.mapIdx λ i d=>gA d i).all id
 | _=>false
def CQ:Ct:=λ ds S W=>∃x d,ds=[x,.int d]/\0≤d/\d≤1000/\W (.bl (bY x d)) S
def Ik:Ct:=λ ds S W=>∃x d,ds=[x,.int d]/\0≤d/\d≤1000/\W (.bl (gA x d)) S
def Dz:Ct:=λ ds S W=>∃x,ds=[x]/\W (.bl (eF x)) S
theorem ints_of:∀{ds:List D},ds.all whole=true->∃ns:%[|1],ds=ns.map .int
 | [],_=>⟨[],rfl⟩
 | d::ds,h=>by
   rw[List.all_cons]at h
   obtain⟨h1,h2⟩:=aa h
   obtain⟨ns,rfl⟩:=ints_of h2
   cases d with
   | int i=>exact⟨i::ns,rfl⟩
   | _=>exact ff h1
theorem iH{x:D}{d:Int}(h:cI x d=true)(hd:0≤d):∃a fs,x=.tup (.int a::List.map .int fs)/\(fs.length:Int)=d:=by
 cases x with
 | tup ds=>
   obtain⟨h1,h2⟩:=aa h
   have h1:=ZF h1
   cases ds with
   | nil=>simp at h1;omega
   | cons e es=>
     rw[List.all_cons]at h2
     obtain⟨h2,h3⟩:=aa h2
     have h4:=ints_of h3
     obtain⟨ns,rfl⟩:=h4
     cases e with
     | int a=>exact⟨a,ns,rfl,by simp at h1;omega⟩
     | _=>exact ff h2
 | _=>exact ff h
theorem zj(p:D->Bool)(ds:List D):(ds.map p).all id=ds.all p:=by rw[List.all_map];rfl
theorem vh (F:Fun Ω.K "is_bound" "is_bound" ig f fd)(N0:Ω.cd=none)(B:Bi Ω.mg)(Cq22:Cal Ω "is_form" 2 2 qy):Ok Ω 3 f fd wL CQ:=by
 refine az N0 (N:=wR) F (wM B Cq22) (by kernel_rfl!) ?_
 rintro ds S W ⟨x,d,rfl,hd0,hd,hw⟩ hl
 walk_at "a"
 refine⟨rfl,_,_,rfl,hd,?_⟩
 walk_at "a"
 cases h:cI x d with
 | false=>
   have e:bY x d=false:=by unfold bY;rw[h];rfl
   rw[e]at hw
   exact⟨λ _=>hw,λ z=>tf z⟩
 | true=>
   refine⟨λ z=>ff z,λ _=>?_⟩
   obtain⟨a,fs,rfl,hf⟩:=iH h hd0
   have e:bY (.tup (.int a::fs.map .int)) d=(decide (-9≤a)&&(decide (a≤9)&&(fs.map D.int).all small)):=by unfold bY;rw[h];rfl
   rw[e]at hw
   walk_at "a"
   refine⟨_,xZ _ _,?_⟩
   walk_at "a"
   refine⟨λ h1=>?_,λ h1=>?_⟩
   . have h1:decide (-9≤a)=false:=h1
     rw[h1]at hw
     exact⟨λ z=>ff z,λ _=>hw⟩
   have h1:decide (-9≤a)=true:=h1
   rw[h1,Bool.true_and]at hw
   walk_at "a"
   refine⟨λ h2=>?_,λ h2=>?_⟩
   . rw [h2,Bool.true_and]at hw
     walk_at "a"
     rw[xY]
     refine du (λ d=>.bl (small d)) (by simp;omega) ?_ ?_
     . intro i e he Q hq
       rw[y8]at he
       cases e1:fs[i]? with
       | none=>rw[e1]at he;cases he
       | some n=>
         rw[e1]at he
         cases he
         walk_at "a"
         refine⟨λ h3=>?_,λ h3=>?_⟩
         . have h3:decide (-2≤n)=false:=h3
           have e:small (.int n)=false:=by show(decide _&&_)=false;rw[h3];rfl
           rw[e]at hq
           exact hq
         . have h3:decide (-2≤n)=true:=h3
           walk_at "a"
           have e:small (.int n)=decide (n≤2):=by show(decide _&&_)=_;rw[h3];rfl
           rw[e]at hq
           exact hq
     . refine⟨(fs.map D.int).map small,by simp only[List.map_map];rfl,?_⟩
       rw[zj];exact hw
   . rw[h2]at hw
     exact hw
theorem Aa(F:Fun Ω.K "is_loop" "is_loop" jh f fd)(N0:Ω.cd=none)(Cq33:Cal Ω "is_tuple_of" 1 3 dU)(Cq20:Cal Ω "is_bound" 3 2 CQ):Ok Ω 4 f fd BL Ik:=by
 refine az N0 (N:=Ax) F (Cq Cq33 Cq20) (by kernel_rfl!) ?_
 rintro ds S W ⟨x,d,rfl,hd0,hd,hw⟩ hl
 walk_at "a"
 refine⟨rfl,_,_,_,rfl,?_⟩
 walk_at "a"
 cases x with
 | tup ds=>
   match ds,hw with
   | [a,b],hw=>
     refine⟨λ _=>?_,λ z=>tf z⟩
     walk_at "a"
     refine⟨rfl,_,_,rfl,hd0,hd,?_⟩
     have e:gA (.tup [a,b]) d=(bY a d&&bY b d):=rfl
     rw[e]at hw
     refine⟨λ h=>?_,λ h=>?_⟩
     . rw[h,Bool.true_and]at hw
       walk_at "a"
       exact⟨rfl,_,_,rfl,hd0,hd,hw⟩
     . rw[h]at hw;exact hw
   | [],hw=>exact⟨λ z=>ff z,λ _=>hw⟩
   | [_],hw=>exact⟨λ z=>ff z,λ _=>hw⟩
   | _::_::_::es,hw=>
     refine⟨λ z=>?_,λ _=>hw⟩
     obtain⟨_,z⟩:=aa z
     have z:=ZF z
     simp at z;omega
 | _=>exact⟨λ z=>ff z,λ _=>hw⟩
theorem wg(F:Fun Ω.K "is_loops" "is_loops" gK f fd)(N0:Ω.cd=none)(B:Bi Ω.mg)(Cq33:Cal Ω "is_tuple_of" 1 3 dU)(Cq23:Cal Ω "is_loop" 4 2 Ik):Ok Ω 5 f fd zp Dz:=by
 refine az N0 (N:=zN) F (zc B Cq33 Cq23) (by kernel_rfl!) ?_
 rintro ds S W ⟨x,rfl,hw⟩ hl
 walk_at "a"
 refine⟨rfl,_,_,_,rfl,?_⟩
 walk_at "a"
 cases x with
 | tup ds=>
   have e:eF (.tup ds)=((decide (1≤(ds.length:Int))&&decide ((ds.length:Int)≤3))&&(ds.mapIdx λ i d=>gA d i).all id):=rfl
   rw[e]at hw
   refine⟨λ h=>?_,λ h=>?_⟩
   . have h:(decide (1≤(ds.length:Int))&&decide ((ds.length:Int)≤3))=true:=h
     rw[h,Bool.true_and]at hw
     have hlen:=ZF (aa h).2
     walk_at "a"
     refine du (λ p=>match p with | .tup [.int i,d]=>.bl (gA d i) | _=>.non) (by simp;omega) ?_ ?_
     . intro i e he Q hq
       rw[List.getElem?_mapIdx]at he
       cases e1:ds[i]? with
       | none=>rw[e1]at he;cases he
       | some d0=>
         rw[e1]at he
         cases he
         have hi:i<ds.length:=(z0.mp e1).1
         walk_at "a"
         refine⟨rfl,?_⟩
         walk_at "a"
         exact⟨rfl,_,_,rfl,%[|0],%[|0],hq⟩
     . refine⟨ds.mapIdx λ i d=>gA d i,?_,hw⟩
       apply List.ext_getElem?
       intro i
       simp only[y8,List.getElem?_mapIdx]
       cases ds[i]?<;>rfl
   . have h:(decide (1≤(ds.length:Int))&&decide ((ds.length:Int)≤3))=false:=h
     rw[h]at hw
     exact hw
 | _=>exact⟨λ z=>ff z,λ _=>hw⟩
abbrev Fm:=Int×%[|1]
abbrev Lp:=Fm×Fm
def dF(f:Fm):D:=.tup (.int f.1::f.2.map .int)
def dC(cs:%[|1]):D:=.tup (cs.map .int)
def dL(l:Lp):D:=.tup [dF l.1,dF l.2]
def atC(f:Fm)(cs:%[|1]):Int:=comesTo f.1 f.2 cs
def upI(a:Int)(n:Nat):%[|1]:=(List.range n).map λ(k:Nat)=>a+(k:Int)
def bx(lo hi:Fm)(cs:%[|1]):List %[|1]:=(upI (atC lo cs) (atC hi cs-atC lo cs).toNat).map λ c=>cs++[c]
def aO(lo hi:Fm)(ahead:List %[|1]):List %[|1]:=ahead.flatMap (bx lo hi)
def cnt(ls:List Lp):List %[|1]:=ls.foldl (λ acc l=>aO l.1 l.2 acc) [[]]
def Sm6(ns:%[|1]):Prop:=ns.length≤10/\∀n∈ns,-1000000≤n/\n≤1000000
def SmF(f:Fm):Prop:= -1000000≤f.1/\f.1≤1000000/\Sm6 f.2
theorem uG:∀(fs cs:%[|1]),(∀n∈fs,-1000000≤n/\n≤1000000)->(∀n∈cs,-1000000≤n/\n≤1000000)-> -(1000000000000*(cs.length:Int))≤(List.zipWith (λ a b=>a*b) fs cs).sum/\(List.zipWith (λ a b=>a*b) fs cs).sum≤1000000000000*(cs.length:Int)
 | [],cs,_,_=>by simp;omega
 | f::fs,[],_,_=>by simp
 | f::fs,c::cs,h1,h2=>by
   have ih:=uG fs cs (λ n hn=>h1 n (x3 _ hn)) (λ n hn=>h2 n (x3 _ hn))
   have hf:=h1 f x5
   have hc:=h2 c x5
   have hp:(f*c).natAbs≤1000000*1000000:=by rw[Int.natAbs_mul];exact Nat.mul_le_mul %[|0] %[|0]
   simp only[List.zipWith_cons_cons,List.sum_cons,List.length_cons]
   omega
theorem uC{f:Fm}(hf:SmF f)(hc:Sm6 cs): -(2 ^ 62)≤atC f cs/\atC f cs<2 ^ 62:=by
 have:=uG f.2 cs hf.2.2.2 hc.2
 have h1:=hf.1
 have h2:=hf.2.1
 have h3:=hc.1
 unfold atC comesTo
 omega
theorem Pr(a:Int)(n:Nat):(upI a n).length=n:=by simp[upI]
theorem Dy(h:i<n):(upI a n)[i]? =some (a+i):=by simp[upI,h]
theorem cF(lo hi:Fm)(cs:%[|1]):(bx lo hi cs).length=(atC hi cs-atC lo cs).toNat:=by simp[bx,Pr]
theorem gD{lo hi:Fm}{ahead:List %[|1]}(h:ahead[i]? =some cs):aO lo hi (ahead.take (i+1))=aO lo hi (ahead.take i)++bx lo hi cs:=by
 unfold aO
 rw[aC h,List.flatMap_append];simp
theorem zE{lo hi:Fm}{ahead:List %[|1]}(h:ahead[i]? =some cs):(aO lo hi (ahead.take i)).length+(bx lo hi cs).length≤(aO lo hi ahead).length:=by
 have e:aO lo hi ahead=aO lo hi (ahead.take (i+1))++aO lo hi (ahead.drop (i+1)):=by
  unfold aO
  rw[←List.flatMap_append,List.take_append_drop]
 rw[e,gD h,x6,x6];omega
theorem mG(xs:List %[|1]):aj (xs.map dC)=true:=by
 induction xs with
 | nil=>rfl
 | cons x xs ih=>
   simp only[List.map_cons,aj,ih,Bool.and_true]
   show aj (x.map D.int)=true
   induction x with
   | nil=>rfl
   | cons y ys ih=>simp only[List.map_cons,aj,ih,Bool.and_true];rfl
def xm:Ct:=λ ds S W=>∃ahead lo hi,ds=[.lst (List.map dC ahead),dF lo,dF hi]/\SmF lo/\SmF hi/\(∀cs∈ahead,Sm6 cs)/\ahead.length≤1000000/\(aO lo hi ahead).length≤1000000/\flat S/\hand W ((aO lo hi ahead).map dC) S
theorem jP(F:Fun Ω.K "with_next_count" "with_next_count" cN f fd)(N0:Ω.cd=none)(B:Bi Ω.mg)(Cq16:Cal Ω "comes_to" 1 2 m8):Ok Ω 2 f fd kZ xm:=by
 refine az N0 (N:=lE) F (Bl.frz (lH B Cq16)) (by kernel_rfl!) ?_
 rintro ds S W ⟨ahead,lo,hi,rfl,hlo,hhi,hah,hz0,hz,hS,hw⟩ hl
 walk_at "b"
 refine aZ ⟨λ i Γ' S'=>(∃o4 o5,Γ'=[some (.lst (ahead.map dC)),some (dF lo),some (dF hi),some (.loc S.length),o4,o5])/\S'=S++[(aO lo hi (ahead.take i)).map dC],⟨⟨_,_,rfl⟩,rfl⟩,?_,?_⟩
 . rintro i e Γ' S' he ⟨⟨o4,o5,rfl⟩,rfl⟩
   rw[y8]at he
   cases e1:ahead[i]? with
   | none=>rw[e1]at he;cases he
   | some cs=>
     rw[e1]at he
     cases he
     have hcs:=hah cs (y4 e1)
     have b1:=uC hlo hcs
     have b2:=uC hhi hcs
     have h64:∀c∈cs,-(2 ^ 64)<c/\c<2 ^ 64:=λ c hc=>by have:=hcs.2 c hc;omega
     walk_at "b"
     refine⟨rfl,lo.1,lo.2,cs,rfl,by have:=hlo.2.2.1;omega,h64,?_⟩
     walk_at "b"
     refine⟨rfl,hi.1,hi.2,cs,rfl,by have:=hhi.2.2.1;omega,h64,?_⟩
     walk_at "b"
     refine⟨⟨b1.1,b1.2,b2.1,b2.2⟩,aZ ⟨λ j Γ' S'=>(∃o5,Γ'=[some (.lst (ahead.map dC)),some (dF lo),some (dF hi),some (.loc S.length),some (dC cs),o5])/\S'=S++[(aO lo hi (ahead.take i)++(bx lo hi cs).take j).map dC],⟨⟨_,rfl⟩,by simp⟩,?_,?_⟩⟩
     . rintro j e Γ' S' he ⟨⟨o5,rfl⟩,rfl⟩
       obtain⟨hj,rfl⟩:=bO he
       have hj':j<(bx lo hi cs).length:=by rw[cF];exact hj
       have lf:=zE (lo:=lo) (hi:=hi) e1
       walk_at "b"
       refine⟨by simp;have:=hcs.1;omega,_,aX _ _,by simp;omega,?_⟩
       refine⟨⟨_,rfl⟩,?_⟩
       rw[bN]
       have e3:(bx lo hi cs)[j]? =some (cs++[atC lo cs+(j:Int)]):=by
        unfold bx
        rw[y8,Dy (by rw[cF]at hj';exact hj')];rfl
       have e4:dC (cs++[atC lo cs+(j:Int)])=D.tup (cs.map D.int++[D.int (comesTo lo.1 lo.2 cs+(j:Int))]):=by
        unfold dC;rw[v3];rfl
       rw[aC e3,←List.append_assoc,v3 (l₂:=[_]),List.map_singleton,e4]
     . rintro Γ' S' ⟨⟨o5,rfl⟩,rfl⟩
       refine⟨⟨_,_,rfl⟩,?_⟩
       have e5:(bx lo hi cs).take (DL.upTo (comesTo lo.1 lo.2 cs) (comesTo hi.1 hi.2 cs-comesTo lo.1 lo.2 cs).toNat).length=bx lo hi cs:=by
        rw[au];exact List.take_of_length_le (by rw[cF];exact y9 _)
       rw[e5,gD e1]
 . rintro Γ' S' ⟨⟨o4,o5,rfl⟩,rfl⟩
   rw[y7,List.take_length]
   exact qe hw (mG _) hS
def Fits(ls:List Lp):Prop:=(∀l∈ls,SmF l.1/\SmF l.2)/\∀i,i≤ls.length->(cnt (ls.take i)).length≤1000000/\∀cs∈cnt (ls.take i),Sm6 cs
def pU:Ct:=λ ds S W=>∃ls,ds=[.tup (List.map dL ls)]/\1≤ls.length/\Fits ls/\flat S/\hand W ((cnt ls).map dC) S
theorem jN{ls:List Lp}{l:Lp}(h:ls[i]? =some l):cnt (ls.take (i+1))=aO l.1 l.2 (cnt (ls.take i)):=by
 unfold cnt
 rw[aC h,List.foldl_append];rfl
theorem rN(F:Fun Ω.K "counts_of" "counts_of" fP f fd)(N0:Ω.cd=none)(Cq46:Cal Ω "with_next_count" 2 3 xm):Ok Ω 3 f fd vz pU:=by
 refine az N0 (N:=v4) F (Bl.frz (vB Cq46)) (by kernel_rfl!) ?_
 rintro ds S W ⟨ls,rfl,hn,hf,hS,hw⟩ hl
 walk_at "b"
 have turn:∀(i:Nat)(e:D),(ls.map dL)[i]? =some e->∃l,ls[i]? =some l/\e=dL l:=λ i e he=>by
  rw[y8]at he
  cases e1:ls[i]? with
  | none=>rw[e1]at he;cases he
  | some l=>rw[e1]at he;cases he;exact⟨l,rfl,rfl⟩
 have step:∀(i:Nat)(l:Lp)(W:WD),ls[i]? =some l->hand W ((cnt (ls.take (i+1))).map dC) S->xm [.lst ((cnt (ls.take i)).map dC),dF l.1,dF l.2] S W:=λ i l W h w=>by
  have hi:=(z0.mp h).1
  obtain⟨a,b⟩:=hf.1 l (y4 h)
  obtain⟨c,d⟩:=hf.2 i %[|0]
  obtain⟨c',d'⟩:=hf.2 (i+1) %[|0]
  rw[jN h]at c' w
  exact⟨_,_,_,rfl,a,b,d,c,c',hS,w⟩
 rcases hw with hw | hw
 . refine aZ ⟨λ i Γ' S'=>(∃o2 o3,Γ'=[some (.tup (ls.map dL)),some (.lst ((cnt (ls.take i)).map dC)),o2,o3])/\S'=S,⟨⟨_,_,rfl⟩,rfl⟩,?_,?_⟩
   . rintro i e Γ' S' he ⟨⟨o2,o3,rfl⟩,rfl⟩
     obtain⟨l,hl',rfl⟩:=turn i e he
     walk_at "b"
     refine⟨rfl,?_⟩
     walk_at "n"
     exact⟨rfl,step i l _ hl' (.inl ⟨⟨_,_,rfl⟩,rfl⟩)⟩
   . rintro Γ' S' ⟨⟨o2,o3,rfl⟩,rfl⟩
     rw[y7,List.take_length]
     exact .inl hw
 . refine aZ ⟨λ i Γ' S'=>(i<ls.length/\(∃o2 o3,Γ'=[some (.tup (ls.map dL)),some (.lst ((cnt (ls.take i)).map dC)),o2,o3])/\S'=S)∨(i=ls.length/\(∃o2 o3,Γ'=[some (.tup (ls.map dL)),some (.loc S.length),o2,o3])/\S'=S++[(cnt ls).map dC]),.inl ⟨%[|0],⟨_,_,rfl⟩,rfl⟩,?_,?_⟩
   . rintro i e Γ' S' he q
     obtain⟨l,hl',rfl⟩:=turn i e he
     have hi:=(z0.mp hl').1
     rcases q with⟨_,⟨o2,o3,rfl⟩,rfl⟩ | ⟨q,_⟩
     . walk_at "b"
       refine⟨rfl,?_⟩
       walk_at "n"
       by_cases hlast:i+1=ls.length
       . refine⟨rfl,step i l _ hl' (.inr (.inr ⟨hlast,⟨_,_,rfl⟩,?_⟩))⟩
         rw[hlast,List.take_length]
       . exact⟨rfl,step i l _ hl' (.inl (.inl ⟨%[|0],⟨_,_,rfl⟩,rfl⟩))⟩
     . omega
   . rintro Γ' S' q
     rw[y7]at q
     rcases q with⟨q,_⟩ | ⟨_,⟨o2,o3,rfl⟩,rfl⟩
     . omega
     . exact .inl hw
def BdF(f:Fm)(k:Nat):Prop:=f.2.length=k/\ -9≤f.1/\f.1≤9/\∀n∈f.2,-2≤n/\n≤2
theorem Gm{g m:Int}(hg: -2≤g/\g≤2)(ha: -m≤a/\a≤m): -(2*m)≤g*a/\g*a≤2*m:=by
 have:g= -2∨g= -1∨g=0∨g=1∨g=2:=%[|0]
 rcases this with rfl | rfl | rfl | rfl | rfl<;>omega
def bnd:Nat->Int
 | 0=>0
 | 1=>9
 | 2=>27
 | _=>117
def Cs(i:Nat)(cs:%[|1]):Prop:=cs.length=i/\∀c∈cs,-(bnd i)≤c/\c≤bnd i
theorem jl{f:Fm}(hi:i≤2)(hf:BdF f i)(hc:Cs i cs): -(bnd (i+1))≤atC f cs/\atC f cs≤bnd (i+1):=by
 obtain⟨a,fs⟩:=f
 obtain⟨h1,h2,h3,h4⟩:=hf
 obtain⟨c1,c2⟩:=hc
 dsimp only at h1 h2 h3 h4
 unfold atC comesTo
 have:i=0∨i=1∨i=2:=%[|0]
 rcases this with rfl | rfl | rfl
 . match fs,cs,h1,c1 with
   | [],[],_,_=>simp[bnd];omega
 . match fs,cs,h1,c1 with
   | [g],[x],_,_=>
     have:=Gm (h4 g (by simp)) (c2 x (by simp))
     simp[bnd]at this ⊢;omega
 . match fs,cs,h1,c1 with
   | [g,g'],[x,x'],_,_=>
     have t1:=Gm (h4 g (by simp)) (c2 x (by simp))
     have t2:=Gm (h4 g' (by simp)) (c2 x' (by simp))
     simp[bnd]at t1 t2 ⊢;omega
theorem Su:bnd i≤bnd (i+1):=by
 match i with
 | 0=>decide
 | 1=>decide
 | 2=>decide
 | i+3=>exact Int.le_refl _
theorem qp(i:Nat):bnd i≤117:=by
 match i with
 | 0=>decide
 | 1=>decide
 | 2=>decide
 | i+3=>exact Int.le_refl _
theorem PL{lo hi:Fm}{ds:%[|1]}(hi2:i≤2)(hlo:BdF lo i)(hhi:BdF hi i)(hc:Cs i cs)(h:ds∈bx lo hi cs):Cs (i+1) ds:=by
 unfold bx at h
 obtain⟨c,hc',rfl⟩:=ZO.mp h
 unfold upI at hc'
 obtain⟨k,hk,rfl⟩:=ZO.mp hc'
 have hk:=List.mem_range.mp hk
 have b1:=jl hi2 hlo hc
 have b2:=jl hi2 hhi hc
 refine⟨by simp[hc.1],λ c h=>?_⟩
 rcases ZK.mp h with h | h
 . have:=hc.2 c h
   have:=Su (i:=i)
   omega
 . have:c=atC lo cs+(k:Int):=by simpa using h
   omega
def Lps(ls:List Lp):Prop:=1≤ls.length/\ls.length≤3/\∀(i:Nat)(l:Lp),ls[i]? =some l->BdF l.1 i/\BdF l.2 i
theorem jA{ls:List Lp}(h:Lps ls):∀i,i≤ls.length->∀cs∈cnt (ls.take i),Cs i cs
 | 0,_,cs,hc=>by
   have:cs=[]:=by simpa[cnt]using hc
   subst this
   exact⟨rfl,λ c hc=>by simp at hc⟩
 | i+1,hi,cs,hc=>by
   have hl:=y3 (l:=ls) (i:=i) %[|0]
   rw[jN hl]at hc
   obtain⟨ds,hd,hc⟩:=List.mem_flatMap.mp hc
   have:=h.2.2 i _ hl
   have h3:=h.2.1
   exact PL %[|0] this.1 this.2 (jA h i %[|0] ds hd) hc
def GJ:Nat->Nat
 | 0=>1
 | 1=>18
 | 2=>972
 | _=>227448
theorem ph{lo hi:Fm}{m:Nat}:∀{ahead:List %[|1]},(∀cs∈ahead,(bx lo hi cs).length≤m)->(aO lo hi ahead).length≤ahead.length*m
 | [],_=>by simp[aO]
 | a::as,h=>by
   have ih:=ph (ahead:=as) λ cs hc=>h cs (x3 _ hc)
   have:=h a x5
   unfold aO at ih ⊢
   rw[List.flatMap_cons,x6,List.length_cons,Nat.succ_mul]
   omega
theorem Du{ls:List Lp}(h:Lps ls):∀i,i≤ls.length->(cnt (ls.take i)).length≤GJ i
 | 0,_=>by simp[cnt,GJ]
 | i+1,hi=>by
   have hl:=y3 (l:=ls) (i:=i) %[|0]
   have ih:=Du h i %[|0]
   have h3:=h.2.1
   have hb:=h.2.2 i _ hl
   rw[jN hl]
   have hm:∀cs∈cnt (ls.take i),(bx ls[i].1 ls[i].2 cs).length≤(2*bnd (i+1)).toNat:=λ cs hc=>by
    have c:=jA h i %[|0] cs hc
    have b1:=jl %[|0] hb.1 c
    have b2:=jl %[|0] hb.2 c
    rw[cF];omega
   have:=ph hm
   have:i=0∨i=1∨i=2:=%[|0]
   rcases this with rfl | rfl | rfl<;>simp[bnd,GJ]at* <;>omega
theorem Lps.fits{ls:List Lp}(h:Lps ls):Fits ls:=by
 refine⟨λ l hl=>?_,λ i hi=>⟨?_,λ cs hc=>?_⟩⟩
 . obtain⟨i,hi⟩:=ZR hl
   have hl':=(z0.mp hi).1
   have h3:=h.2.1
   obtain⟨⟨a1,a2,a3,a4⟩,b1,b2,b3,b4⟩:=h.2.2 i l hi
   exact⟨⟨%[|0],%[|0],%[|0],λ n hn=>by have:=a4 n hn;omega⟩,%[|0],%[|0],%[|0],λ n hn=>by have:=b4 n hn;omega⟩
 . have:=Du h i hi
   have h3:=h.2.1
   have:i=0∨i=1∨i=2∨i=3:=%[|0]
   rcases this with rfl | rfl | rfl | rfl<;>simp only[GJ]at* <;>omega
 . have c:=jA h i hi cs hc
   have h3:=h.2.1
   exact⟨by have:=c.1;omega,λ n hn=>by have:=c.2 n hn;have:=qp i;omega⟩
def jV(a b:Int):D->Bool
 | .int n=>decide (a≤n)&&decide (n≤b)
 | _=>false
def pA(n:Int):Bool:=decide ((if n<0 then-n else n)<10 ^ Int.toNat 30)
def rR:D->Bool
 | .int n=>pA n
 | _=>false
def parts:D->List D
 | .tup ds=>ds
 | _=>[]
def gM(x:D):Bool:=bB x 1 3&&(parts x).all (jV 1 2)
def isPlace(d:Int)(x:D):Bool:=cI x d&&(parts x).all (jV (-99) 99)
def isStart(x:D)(d:Int):Bool:=cI x d&&(parts x).all rR
def iZ(t p:D)(ws:%[|1])(d:Int):Bool:=match t with
 | .int n=>(decide (0≤n)&&decide (n<(ws.length:Int)))&&(bB p (ws.getD n.toNat 0) (ws.getD n.toNat 0)&&(parts p).all (isPlace d))
 | _=>false
def jq(ws:%[|1])(d:Int)(x:D):Bool:=match x with
 | .tup [f,t,p]=>rR f&&iZ t p ws d
 | _=>false
def ni(x:D)(ws:%[|1])(d:Int):Bool:=bB x 0 3&&(parts x).all (jq ws d)
def dX(ws:%[|1])(d:Int)(x:D):Bool:=match x with
 | .tup [t,p,s,r]=>iZ t p ws d&&(isStart s d&&ni r ws d)
 | _=>false
def ik(ws:%[|1])(x:D):Bool:=match x with
 | .tup [l,ds]=>eF l&&(bB ds 1 4&&(parts ds).all (dX ws ((parts l).length:Int)))
 | _=>false
def mY(x:D)(ws:%[|1]):Bool:=bB x 1 3&&(parts x).all (ik ws)
def GC:Ct:=λ ds S W=>∃n,ds=[.int n]/\W (.bl (pA n)) S
def z6:Ct:=λ ds S W=>∃x,ds=[x]/\W (.bl (gM x)) S
def zT:Ct:=λ ds S W=>∃x d,ds=[x,.int d]/\0≤d/\d≤1000/\W (.bl (isPlace d x)) S
def Ea:Ct:=λ ds S W=>∃x d,ds=[x,.int d]/\0≤d/\d≤1000/\W (.bl (isStart x d)) S
def Ws(ws:%[|1]):Prop:=ws.length≤3/\∀w∈ws,1≤w/\w≤2
def J7:Ct:=λ ds S W=>∃t p ws d,ds=[t,p,.tup (List.map .int ws),.int d]/\Ws ws/\0≤d/\d≤1000/\W (.bl (iZ t p ws d)) S
def G4:Ct:=λ ds S W=>∃x ws d,ds=[x,.tup (List.map .int ws),.int d]/\Ws ws/\0≤d/\d≤1000/\W (.bl (jq ws d x)) S
def Dg:Ct:=λ ds S W=>∃x ws d,ds=[x,.tup (List.map .int ws),.int d]/\Ws ws/\0≤d/\d≤1000/\W (.bl (ni x ws d)) S
def Hk:Ct:=λ ds S W=>∃x ws d,ds=[x,.tup (List.map .int ws),.int d]/\Ws ws/\0≤d/\d≤1000/\W (.bl (dX ws d x)) S
def JF:Ct:=λ ds S W=>∃x ws,ds=[x,.tup (List.map .int ws)]/\Ws ws/\W (.bl (ik ws x)) S
def CN:Ct:=λ ds S W=>∃x ws,ds=[x,.tup (List.map .int ws)]/\Ws ws/\W (.bl (mY x ws)) S
theorem cU{ds:List D}{p:D->Bool}(w:W (.bl (ds.all p)) S):fO.wp [.lst (ds.map λ d=>.bl (p d))] S W:=
 ⟨ds.map p,by rw[List.map_map];rfl,by rw[zj];exact w⟩
theorem uO{ds:List D}(h:bB (.tup ds) a b=true):a≤(ds.length:Int)/\(ds.length:Int)≤b:=by
 obtain⟨h1,h2⟩:=aa h
 exact⟨ZF h1,ZF h2⟩
theorem cC{x:D}(h:bB x a b=true):∃ds,x=.tup ds/\a≤(ds.length:Int)/\(ds.length:Int)≤b:=by
 cases x with
 | tup ds=>exact⟨ds,rfl,uO h⟩
 | _=>exact ff h
theorem nM{n:Int}{Q:WD}(hq:Q (.bl (jV a b (.int n))) S):(decide (a≤n)=false->Q (.bl false) S)/\(decide (a≤n)=true->Q (.bl (decide (n≤b))) S):=by
 have e:jV a b (.int n)=(decide (a≤n)&&decide (n≤b)):=rfl
 rw[e]at hq
 exact⟨λ h=>by rw[h]at hq;exact hq,λ h=>by rw[h]at hq;exact hq⟩
theorem jY(F:Fun Ω.K "has_few_figures" "has_few_figures" cM f fd)(N0:Ω.cd=none)(B:Bi Ω.mg):Ok Ω 1 f fd lg GC:=by
 refine az N0 (N:=lB) F (lA B) (by kernel_rfl!) ?_
 rintro ds S W ⟨n,rfl,hw⟩ hl
 walk_at "b"
 exact hw
theorem tY(F:Fun Ω.K "is_widths" "is_widths" fQ f fd)(N0:Ω.cd=none)(B:Bi Ω.mg)(Cq34:Cal Ω "is_whole" 1 1 fY)(Cq33:Cal Ω "is_tuple_of" 1 3 dU):Ok Ω 2 f fd vU z6:=by
 refine az N0 (N:=wj) F (v6 B Cq34 Cq33) (by kernel_rfl!) ?_
 rintro ds S W ⟨x,rfl,hw⟩ hl
 walk_at "b"
 refine⟨rfl,_,_,_,rfl,?_⟩
 walk_at "b"
 unfold gM at hw
 refine⟨λ h=>?_,λ h=>by rw[h]at hw;exact hw⟩
 rw[h]at hw
 obtain⟨ds,rfl,l1,l2⟩:=cC h
 walk_at "b"
 refine du (λ d=>.bl (jV 1 2 d)) %[|0] ?_ (cU hw)
 intro i e he Q hq
 walk_at "b"
 refine⟨rfl,_,rfl,?_⟩
 cases e with
 | int n=>
   walk_at "b"
   refine⟨(nM hq).1,λ h=>?_⟩
   walk_at "b"
   exact(nM hq).2 h
 | _=>walk_at "b";exact hq
theorem mz(F:Fun Ω.K "is_place_form" "is_place_form" dh f fd)(N0:Ω.cd=none)(B:Bi Ω.mg)(Cq22:Cal Ω "is_form" 2 2 qy):Ok Ω 3 f fd nQ zT:=by
 refine az N0 (N:=ou) F (oH B Cq22) (by kernel_rfl!) ?_
 rintro ds S W ⟨x,d,rfl,hd0,hd,hw⟩ hl
 walk_at "b"
 refine⟨rfl,_,_,rfl,hd,?_⟩
 walk_at "b"
 unfold isPlace at hw
 refine⟨λ h=>?_,λ h=>by rw[h]at hw;exact hw⟩
 rw[h]at hw
 obtain⟨a,fs,rfl,hf⟩:=iH h hd0
 walk_at "b"
 refine du (λ d=>.bl (jV (-99) 99 d)) (by simp;omega) ?_ (cU hw)
 intro i e he Q hq
 have:∃n,e=.int n:=by
  have:=y4 he
  rcases ZJ.mp this with rfl | h
  . exact⟨_,rfl⟩
  . obtain⟨n,_,rfl⟩:=ZO.mp h
    exact⟨n,rfl⟩
 obtain⟨n,rfl⟩:=this
 walk_at "b"
 refine⟨(nM hq).1,λ h=>?_⟩
 walk_at "b"
 exact(nM hq).2 h
theorem vM(F:Fun Ω.K "is_start" "is_start" gq f fd)(N0:Ω.cd=none)(B:Bi Ω.mg)(Cq22:Cal Ω "is_form" 2 2 qy)(Cq19:Cal Ω "has_few_figures" 1 1 GC):Ok Ω 3 f fd wN Ea:=by
 refine az N0 (N:=yK) F (Ad B Cq22 Cq19) (by kernel_rfl!) ?_
 rintro ds S W ⟨x,d,rfl,hd0,hd,hw⟩ hl
 walk_at "b"
 refine⟨rfl,_,_,rfl,hd,?_⟩
 walk_at "b"
 unfold isStart at hw
 refine⟨λ h=>?_,λ h=>by rw[h]at hw;exact hw⟩
 rw[h]at hw
 obtain⟨a,fs,rfl,hf⟩:=iH h hd0
 walk_at "b"
 refine du (λ d=>.bl (rR d)) (by simp;omega) ?_ (cU hw)
 intro i e he Q hq
 have:∃n,e=.int n:=by
  have:=y4 he
  rcases ZJ.mp this with rfl | h
  . exact⟨_,rfl⟩
  . obtain⟨n,_,rfl⟩:=ZO.mp h
    exact⟨n,rfl⟩
 obtain⟨n,rfl⟩:=this
 walk_at "b"
 exact⟨rfl,_,rfl,hq⟩
theorem gZ(F:Fun Ω.K "is_table_with_place" "is_table_with_place" bU f fd)(N0:Ω.cd=none)(B:Bi Ω.mg)(Cq34:Cal Ω "is_whole" 1 1 fY)(Cq33:Cal Ω "is_tuple_of" 1 3 dU)(Cq27:Cal Ω "is_place_form" 3 2 zT):Ok Ω 4 f fd iw J7:=by
 refine az N0 (N:=iu) F (il B Cq34 Cq33 Cq27) (by kernel_rfl!) ?_
 rintro ds S W ⟨t,p,ws,d,rfl,hws,hd0,hd,hw⟩ hl
 walk_at "b"
 refine⟨rfl,_,rfl,?_⟩
 cases t with
 | int n=>
   have e:iZ (.int n) p ws d=((decide (0≤n)&&decide (n<(ws.length:Int)))&&(bB p (ws.getD n.toNat 0) (ws.getD n.toNat 0)&&(parts p).all (isPlace d))):=rfl
   rw[e]at hw
   have hl3:((ws.map D.int).length:Int)=(ws.length:Int):=by rw[y7]
   walk_at "b"
   refine⟨λ h=>?_,λ h=>?_⟩
   . rw[h]at hw
     walk_at "b"
     exact hw
   rw[h,Bool.true_and]at hw
   walk_at "b"
   rw[hl3]
   refine⟨λ h2=>?_,λ h2=>?_⟩
   . have h2:decide (n<(ws.length:Int))=false:=nt h2
     rw[h2]at hw
     walk_at "b"
     exact hw
   have h2:decide (n<(ws.length:Int))=true:=by
    cases q:decide (n<(ws.length:Int))with
    | true=>rfl
    | false=>rw[q]at h2;exact tf h2
   rw[h2,Bool.true_and]at hw
   have h0:=ZF h
   have h1:=ZF h2
   have hk:n.toNat<ws.length:=%[|0]
   have ew:ws.getD n.toNat 0=ws[n.toNat]:=by simp[List.getD,hk]
   have at1:atI (ws.map D.int) n=some (.int (ws.getD n.toNat 0)):=by
    have:=bA (xs:=ws.map D.int) (j:=n.toNat) (v:=.int ws[n.toNat]) (by rw[y8,y3 hk];rfl)
    rw[Int.toNat_of_nonneg h0]at this
    rw[ew];exact this
   have hw12:=hws.2 _ (List.getElem_mem hk)
   rw[←ew]at hw12
   generalize ws.getD n.toNat 0=w at at1 hw hw12
   walk_at "b"
   refine⟨_,at1,?_⟩
   walk_at "b"
   refine⟨_,at1,?_⟩
   walk_at "b"
   refine⟨rfl,_,_,_,rfl,?_⟩
   walk_at "b"
   refine⟨λ h3=>?_,λ h3=>by rw[h3]at hw;exact hw⟩
   rw[h3]at hw
   obtain⟨ds,rfl,l1,l2⟩:=cC h3
   walk_at "b"
   refine du (λ x=>.bl (isPlace d x)) %[|0] ?_ (cU hw)
   intro i e he Q hq
   walk_at "b"
   exact⟨rfl,_,_,rfl,hd0,hd,hq⟩
 | _=>walk_at "b";exact hw
theorem yj(F:Fun Ω.K "is_read" "is_read" iR f fd)(N0:Ω.cd=none)(Cq34:Cal Ω "is_whole" 1 1 fY)(Cq33:Cal Ω "is_tuple_of" 1 3 dU)(Cq19:Cal Ω "has_few_figures" 1 1 GC)(Cq32:Cal Ω "is_table_with_place" 4 4 J7):Ok Ω 5 f fd Bk G4:=by
 refine az N0 (N:=Ay) F (Ba Cq34 Cq33 Cq19 Cq32) (by kernel_rfl!) ?_
 rintro ds S W ⟨x,ws,d,rfl,hws,hd0,hd,hw⟩ hl
 walk_at "b"
 refine⟨rfl,_,_,_,rfl,?_⟩
 cases h:bB x 3 3 with
 | false=>
   have e:jq ws d x=false:=by
    cases x with
    | tup ds=>
      match ds,h with
      | [a,b,c],h=>exact tf h
      | [],_=>rfl
      | [_],_=>rfl
      | [_,_],_=>rfl
      | _::_::_::_::_,_=>rfl
    | _=>rfl
   rw[e]at hw
   walk_at "b"
   exact hw
 | true=>
   obtain⟨ds,rfl,l1,l2⟩:=cC h
   match ds,l1,l2,hw with
   | [f, t,p],_,_,hw=>
     walk_at "b"
     refine⟨rfl,_,rfl,?_⟩
     have e:jq ws d (.tup [f,t,p])=(rR f&&iZ t p ws d):=rfl
     rw[e]at hw
     cases f with
     | int n=>
       walk_at "b"
       refine⟨rfl,_,rfl,?_⟩
       have e:rR (.int n)=pA n:=rfl
       rw[e]at hw
       cases h2:pA n with
       | true=>
         rw[h2]at hw
         walk_at "b"
         exact⟨rfl,_,_,_,_,rfl,hws,hd0,hd,hw⟩
       | false=>
         rw[h2]at hw
         walk_at "b"
         exact hw
     | _=>walk_at "b";exact hw
   | [],l1,_,_=>simp at l1
   | [_],l1,_,_=>simp at l1
   | [_,_],l1,_,_=>simp at l1
   | _::_::_::_::es,_,l2,_=>simp at l2;omega
theorem vq(F:Fun Ω.K "is_reads" "is_reads" gV f fd)(N0:Ω.cd=none)(B:Bi Ω.mg)(Cq33:Cal Ω "is_tuple_of" 1 3 dU)(Cq28:Cal Ω "is_read" 5 3 G4):Ok Ω 6 f fd xM Dg:=by
 refine az N0 (N:=zJ) F (xH B Cq33 Cq28) (by kernel_rfl!) ?_
 rintro ds S W ⟨x,ws,d,rfl,hws,hd0,hd,hw⟩ hl
 walk_at "b"
 refine⟨rfl,_,_,_,rfl,?_⟩
 walk_at "b"
 unfold ni at hw
 refine⟨λ h=>?_,λ h=>by rw[h]at hw;exact hw⟩
 rw[h]at hw
 obtain⟨ds,rfl,l1,l2⟩:=cC h
 walk_at "b"
 refine du (λ x=>.bl (jq ws d x)) %[|0] ?_ (cU hw)
 intro i e he Q hq
 walk_at "b"
 exact⟨rfl,_,_,_,rfl,hws,hd0,hd,hq⟩
theorem xG(F:Fun Ω.K "is_deed" "is_deed" iM f fd)(N0:Ω.cd=none)(Cq33:Cal Ω "is_tuple_of" 1 3 dU)(Cq31:Cal Ω "is_start" 3 2 Ea)(Cq32:Cal Ω "is_table_with_place" 4 4 J7)(Cq29:Cal Ω "is_reads" 6 3 Dg):Ok Ω 7 f fd Br Hk:=by
 refine az N0 (N:=Aq) F (Ce Cq33 Cq31 Cq32 Cq29) (by kernel_rfl!) ?_
 rintro ds S W ⟨x,ws,d,rfl,hws,hd0,hd,hw⟩ hl
 walk_at "b"
 refine⟨rfl,_,_,_,rfl,?_⟩
 cases h:bB x 4 4 with
 | false=>
   have e:dX ws d x=false:=by
    cases x with
    | tup ds=>
      match ds,h with
      | [a,b,c,d],h=>exact tf h
      | [],_=>rfl
      | [_],_=>rfl
      | [_,_],_=>rfl
      | [_,_,_],_=>rfl
      | _::_::_::_::_::_,_=>rfl
    | _=>rfl
   rw[e]at hw
   walk_at "b"
   exact hw
 | true=>
   obtain⟨ds,rfl,l1,l2⟩:=cC h
   match ds,l1,l2,hw with
   | [t, p,s,r],_,_,hw=>
     have e:dX ws d (.tup [t,p,s,r])=(iZ t p ws d&&(isStart s d&&ni r ws d)):=rfl
     rw[e]at hw
     walk_at "b"
     refine⟨rfl,_,_,_,_,rfl,hws,hd0,hd,?_⟩
     cases h2:iZ t p ws d with
     | false=>
       rw[h2]at hw
       walk_at "b"
       exact hw
     | true=>
       rw[h2,Bool.true_and]at hw
       walk_at "b"
       refine⟨rfl,_,_,rfl,hd0,hd,?_⟩
       cases h3:isStart s d with
       | false=>
         rw[h3]at hw
         walk_at "b"
         exact hw
       | true=>
         rw[h3,Bool.true_and]at hw
         walk_at "b"
         exact⟨rfl,_,_,_,rfl,hws,hd0,hd,hw⟩
   | [],l1,_,_=>simp at l1
   | [_],l1,_,_=>simp at l1
   | [_,_],l1,_,_=>simp at l1
   | [_,_,_],l1,_,_=>simp at l1
   | _::_::_::_::_::es,_,l2,_=>simp at l2;omega
theorem wI(F:Fun Ω.K "is_nest" "is_nest" iQ f fd)(N0:Ω.cd=none)(B:Bi Ω.mg)(Cq33:Cal Ω "is_tuple_of" 1 3 dU)(Cq24:Cal Ω "is_loops" 5 1 Dz)(Cq21:Cal Ω "is_deed" 7 3 Hk):Ok Ω 8 f fd Al JF:=by
 refine az N0 (N:=Ca) F (Bm B Cq33 Cq24 Cq21) (by kernel_rfl!) ?_
 rintro ds S W ⟨x,ws,rfl,hws,hw⟩ hl
 walk_at "b"
 refine⟨rfl,_,_,_,rfl,?_⟩
 cases h:bB x 2 2 with
 | false=>
   have e:ik ws x=false:=by
    cases x with
    | tup ds=>
      match ds,h with
      | [a,b],h=>exact tf h
      | [],_=>rfl
      | [_],_=>rfl
      | _::_::_::_,_=>rfl
    | _=>rfl
   rw[e]at hw
   walk_at "b"
   exact hw
 | true=>
   obtain⟨ds,rfl,l1,l2⟩:=cC h
   match ds,l1,l2,hw with
   | [l, dd],_,_,hw=>
     have e:ik ws (.tup [l,dd])=(eF l&&(bB dd 1 4&&(parts dd).all (dX ws ((parts l).length:Int)))):=rfl
     rw[e]at hw
     walk_at "b"
     refine⟨rfl,_,rfl,?_⟩
     cases h2:eF l with
     | false=>
       rw[h2]at hw
       walk_at "b"
       exact hw
     | true=>
       rw[h2,Bool.true_and]at hw
       cases l with
       | tup ls=>
         have hlen:(ls.length:Int)≤3:=ZF (aa (aa h2).1).2
         have hw:W (.bl (bB dd 1 4&&(parts dd).all (dX ws (ls.length:Int)))) S:=hw
         walk_at "b"
         refine⟨rfl,_,_,_,rfl,?_⟩
         walk_at "b"
         refine⟨λ h3=>?_,λ h3=>by rw[h3]at hw;exact hw⟩
         rw[h3]at hw
         obtain⟨es,rfl,l1,l2⟩:=cC h3
         walk_at "b"
         refine du (λ x=>.bl (dX ws (ls.length:Int) x)) %[|0] ?_ (cU hw)
         intro i e he Q hq
         walk_at "b"
         exact⟨rfl,_,_,_,rfl,hws,%[|0],%[|0],hq⟩
       | _=>exact ff h2
   | [],l1,_,_=>simp at l1
   | [_],l1,_,_=>simp at l1
   | _::_::_::es,_,l2,_=>simp at l2;omega
theorem vD(F:Fun Ω.K "is_nests" "is_nests" gJ f fd)(N0:Ω.cd=none)(B:Bi Ω.mg)(Cq33:Cal Ω "is_tuple_of" 1 3 dU)(Cq25:Cal Ω "is_nest" 8 2 JF):Ok Ω 9 f fd wY CN:=by
 refine az N0 (N:=zM) F (xW B Cq33 Cq25) (by kernel_rfl!) ?_
 rintro ds S W ⟨x,ws,rfl,hws,hw⟩ hl
 walk_at "b"
 refine⟨rfl,_,_,_,rfl,?_⟩
 walk_at "b"
 unfold mY at hw
 refine⟨λ h=>?_,λ h=>by rw[h]at hw;exact hw⟩
 rw[h]at hw
 obtain⟨ds,rfl,l1,l2⟩:=cC h
 walk_at "b"
 refine du (λ x=>.bl (ik ws x)) %[|0] ?_ (cU hw)
 intro i e he Q hq
 walk_at "b"
 exact⟨rfl,_,_,rfl,hws,hq⟩
structure Rd where
 fac:Int
 tab:Nat
 pl:List Fm
structure Dd where
 tab:Nat
 pl:List Fm
 st:Fm
 rds:List Rd
structure Ns where
 lps:List Lp
 dds:List Dd
structure Pg where
 ws:%[|1]
 nss:List Ns
def dP(pl:List Fm):D:=.tup (pl.map dF)
def dRd(r:Rd):D:=.tup [.int r.fac,.int r.tab,dP r.pl]
def dDd(x:Dd):D:=.tup [.int x.tab,dP x.pl,dF x.st,.tup (x.rds.map dRd)]
def dNs(n:Ns):D:=.tup [.tup (n.lps.map dL),.tup (n.dds.map dDd)]
def dWs(ws:%[|1]):D:=.tup (ws.map .int)
def dPg(p:Pg):D:=.tup [dWs p.ws,.tup (p.nss.map dNs)]
def many(nss:List Ns):Int:=(nss.map λ n=>((cnt n.lps).length:Int)*(n.dds.length:Int)).sum
def lN(n:Ns):Prop:=1≤n.lps.length/\Fits n.lps/\n.dds.length≤1000
def rA:Ct:=λ ds S W=>∃nss,ds=[.tup (List.map dNs nss)]/\nss.length≤1000/\(∀n∈nss,lN n)/\flat S/\W (.int (many nss)) S
def xU:Ct:=λ ds S W=>∃p:Pg,ds=[dWs p.ws,.tup (List.map dNs p.nss)]/\gM (dWs p.ws)=true/\mY (.tup (p.nss.map dNs)) p.ws=true/\p.nss.length≤1000/\(∀n∈p.nss,lN n)/\many p.nss≤60/\flat S/\W (dPg p) S
theorem Jj(h:gM (dWs ws)=true):Ws ws:=by
 obtain⟨h1,h2⟩:=aa h
 have:=uO h1
 refine⟨by simp at this;omega,λ w hw=>?_⟩
 have h3:=List.all_eq_true.mp h2 (.int w) (ZO.mpr ⟨w,hw,rfl⟩)
 obtain⟨a,b⟩:=aa h3
 exact⟨ZF a,ZF b⟩
theorem jH(F:Fun Ω.K "number_of_steps" "number_of_steps" cL f fd)(N0:Ω.cd=none)(B:Bi Ω.mg)(Cq17:Cal Ω "counts_of" 3 1 pU):Ok Ω 4 f fd lw rA:=by
 refine az N0 (N:=lG) F (lC B Cq17) (by kernel_rfl!) ?_
 rintro ds S W ⟨nss,rfl,hz,hok,hS,hw⟩ hl
 walk_at "b"
 refine gP (λ n=>.int (((cnt n.lps).length:Int)*(n.dds.length:Int))) %[|0] ?_ ?_
 . intro i n hn Q hq
   obtain⟨h1,h2,h3⟩:=hok n (y4 hn)
   have h4:=(h2.2 n.lps.length (y9 _)).1
   rw[List.take_length]at h4
   walk_at "b"
   refine⟨rfl,?_⟩
   walk_at "b"
   refine⟨rfl,_,rfl,h1,h2,hS,.inl ?_⟩
   have e1:(((cnt n.lps).map dC).length:Int)=((cnt n.lps).length:Int):=by rw[y7]
   have e2:((n.dds.map dDd).length:Int)=(n.dds.length:Int):=by rw[y7]
   walk_at "n"
   rw[e1,e2]
   exact⟨.inl ⟨%[|0],%[|0]⟩,hq⟩
 . exact⟨nss.map λ(n:Ns)=>((cnt n.lps).length:Int)*(n.dds.length:Int),by rw[List.map_map];rfl,hw⟩
theorem qK(F:Fun Ω.K "program_of" "program_of" eU f fd)(N0:Ω.cd=none)(B:Bi Ω.mg)(Cq35:Cal Ω "is_widths" 2 1 z6)(Cq26:Cal Ω "is_nests" 9 2 CN)(Cq36:Cal Ω "number_of_steps" 4 1 rA):Ok Ω 10 f fd tR xU:=by
 refine az N0 (N:=tU) F (rW B Cq35 Cq26 Cq36) (by kernel_rfl!) ?_
 rintro ds S W ⟨p,rfl,h1,h2,hz,hok,h60,hS,hw⟩ hl
 have hws:=Jj h1
 walk_at "b"
 refine⟨rfl,_,rfl,?_⟩
 rw[h1]
 walk_at "b"
 refine⟨rfl,_,_,rfl,hws,?_⟩
 rw[h2]
 walk_at "b"
 refine⟨rfl,_,rfl,hz,hok,hS,?_⟩
 walk_at "b"
 rw[ZH %[|0]]
 walk_at "b"
 exact hw
abbrev Stp:=Nat×%[|1]×Nat
def dSt(s:Stp):D:=.tup [.int s.1,dC s.2.1,.int s.2.2]
def cB(i:Nat)(n:Ns):List Stp:=(cnt n.lps).flatMap λ cs=>(List.range n.dds.length).map λ s=>(i,cs,s)
def aD(nss:List Ns):List Stp:=(nss.mapIdx cB).flatten
def nG:Ct:=λ ds S W=>∃p:Pg,ds=[dPg p]/\p.nss.length≤1000/\(∀n∈p.nss,lN n)/\(aD p.nss).length≤1000000/\flat S/\hand W ((aD p.nss).map dSt) S
theorem iW{nss:List Ns}{n:Ns}(h:nss[i]? =some n):aD (nss.take (i+1))=aD (nss.take i)++cB i n:=by
 unfold aD
 rw[aC h,List.mapIdx_append,List.flatten_append]
 have hi:=(z0.mp h).1
 simp only[List.mapIdx_cons,List.mapIdx_nil,List.flatten_cons,List.flatten_nil,List.append_nil,List.length_take]
 rw[Nat.min_eq_left %[|0],Nat.zero_add]
theorem rD(xs:List Stp):aj (xs.map dSt)=true:=by
 induction xs with
 | nil=>rfl
 | cons x xs ih=>
   simp only[List.map_cons,aj,ih,Bool.and_true]
   have:=mG [x.2.1]
   simp only[List.map_cons,List.map_nil,aj,Bool.and_true]at this
   show aj [D.int _,dC x.2.1,D.int _]=true
   simp only[aj,this,Bool.and_true];rfl
theorem Io(h:flat S)(hl:aj l=true):flat (S++[l]):=λ x hx=>by
 rcases ZK.mp hx with q | q
 . exact h x q
 . rw[ZL.mp q];exact hl
theorem G6{nss:List Ns}{n:Ns}(h:nss[i]? =some n):(aD (nss.take i)).length+(cB i n).length≤(aD nss).length:=by
 have e:∃more,aD nss=aD (nss.take (i+1))++more:=by
  unfold aD
  conv=>enter [1,more,1,1];rw[←List.take_append_drop (i+1) nss]
  rw[List.mapIdx_append,List.flatten_append]
  exact⟨_,rfl⟩
 obtain⟨more,e⟩:=e
 rw[e,iW h,x6,x6];omega
theorem v5(F:Fun Ω.K "steps_of" "steps_of" gY f fd)(N0:Ω.cd=none)(B:Bi Ω.mg)(Cq17:Cal Ω "counts_of" 3 1 pU):Ok Ω 4 f fd xj nG:=by
 refine az N0 (N:=zZ) F (Bl.frz (yW B Cq17)) (by kernel_rfl!) ?_
 rintro ds S W ⟨p,rfl,hz,hok,hlen,hS,hw⟩ hl
 walk_at "b"
 refine aZ ⟨λ i Γ' S'=>(∃o2 o3 o4 o5,Γ'=[some (dPg p),some (.loc S.length),o2,o3,o4,o5])/\S'=S++[(aD (p.nss.take i)).map dSt],⟨⟨_,_,_,_,rfl⟩,rfl⟩,?_,?_⟩
 . rintro i e Γ' S' he ⟨⟨o2,o3,o4,o5,rfl⟩,rfl⟩
   obtain⟨e',he',rfl⟩:=NK he
   obtain⟨n,hn,rfl⟩:=bH he'
   obtain⟨h1,h2,h3⟩:=hok n (y4 hn)
   have lf:=G6 hn
   walk_at "b"
   refine⟨rfl,?_⟩
   walk_at "b"
   refine⟨rfl,_,rfl,h1,h2,Io hS (rD _),.inl ?_⟩
   walk_at "n"
   refine aZ ⟨λ j Γ' S'=>(∃o4 o5,Γ'=[some (dPg p),some (.loc S.length),some (.int (i:Int)),some (dNs n),o4,o5])/\S'=S++[(aD (p.nss.take i)++((cnt n.lps).take j).flatMap λ cs=>(List.range n.dds.length).map λ s=>(i,cs,s)).map dSt],⟨⟨_,_,rfl⟩,by simp⟩,?_,?_⟩
   . rintro j e Γ' S' he ⟨⟨o4,o5,rfl⟩,rfl⟩
     obtain⟨cs,hcs,rfl⟩:=bH he
     have e2:((n.dds.map dDd).length:Int)=(n.dds.length:Int):=by rw[y7]
     have lj:((cnt n.lps).take j |>.flatMap λ cs=>(List.range n.dds.length).map λ s=>(i,cs,s)).length+n.dds.length≤(cB i n).length:=by
      have:∃more,cB i n=((cnt n.lps).take (j+1) |>.flatMap λ cs=>(List.range n.dds.length).map λ s=>(i,cs,s))++more:=by
       unfold cB
       conv=>enter [1,more,1,2];rw[←List.take_append_drop (j+1) (cnt n.lps)]
       rw[List.flatMap_append]
       exact⟨_,rfl⟩
      obtain⟨more,em⟩:=this
      rw[em,aC hcs,List.flatMap_append,x6,x6]
      simp
     walk_at "b"
     rw[e2]
     refine⟨⟨%[|0],%[|0]⟩,aZ ⟨λ t Γ' S'=>(∃o5,Γ'=[some (dPg p),some (.loc S.length),some (.int (i:Int)),some (dNs n),some (dC cs),o5])/\S'=S++[((aD (p.nss.take i)++((cnt n.lps).take j).flatMap λ cs=>(List.range n.dds.length).map λ s=>(i,cs,s))++(List.range t).map λ s=>(i,cs,s)).map dSt],⟨⟨_,rfl⟩,by simp⟩,?_,?_⟩⟩
     . rintro t e Γ' S' he ⟨⟨o5,rfl⟩,rfl⟩
       obtain⟨ht,rfl⟩:=bO he
       have ez:(0:Int)+(t:Int)=(t:Int):=%[|0]
       rw[ez]
       walk_at "b"
       refine⟨_,aX _ _,by simp only[y7,x6,List.length_range];omega,?_⟩
       refine⟨⟨_,rfl⟩,?_⟩
       rw[bN,List.range_succ]
       simp only[v3,List.map_cons,List.map_nil,List.append_assoc]
       rfl
     . rintro Γ' S' ⟨⟨o5,rfl⟩,rfl⟩
       refine⟨⟨_,_,rfl⟩,?_⟩
       rw[au,aC hcs,List.flatMap_append,List.flatMap_singleton,←List.append_assoc,Int.toNat_natCast]
   . rintro Γ' S' ⟨⟨o4,o5,rfl⟩,rfl⟩
     refine⟨⟨_,_,_,_,rfl⟩,?_⟩
     rw[y7,List.take_length,iW hn];rfl
 . rintro Γ' S' ⟨⟨o2,o3,o4,o5,rfl⟩,rfl⟩
   have e:((p.nss.map dNs).mapIdx λ i d=>D.tup [D.int (i:Int),d]).length=p.nss.length:=by simp
   rw[e,List.take_length]
   exact qe hw (rD _) hS
def pg:Ct:=λ ds S W=>∃(p:Pg) (s:Stp) (n:Ns) (x:Dd),ds=[dPg p,dSt s]/\p.nss[s.1]? =some n/\n.dds[s.2.2]? =some x/\W (dDd x) S
abbrev Cell:=Nat×%[|1]
def aq(c:Cell):D:=.tup [.int c.1,.tup (c.2.map .int)]
def C64(cs:%[|1]):Prop:=∀c∈cs,-(2 ^ 64)<c/\c<2 ^ 64
def Gw(pl:List Fm):Prop:=pl.length≤1000/\∀f∈pl,f.2.length≤1000
def spot(t:Nat)(pl:List Fm)(cs:%[|1]):Cell:=(t,pl.map λ f=>atC f cs)
def yp:Ct:=λ ds S W=>∃(t:Nat) (pl:List Fm) (cs:%[|1]),ds=[.int t,dP pl,dC cs]/\Gw pl/\C64 cs/\W (aq (spot t pl cs)) S
theorem yt(F:Fun Ω.K "deed_of" "deed_of" iU f fd)(N0:Ω.cd=none):Ok Ω 1 f fd Ah pg:=by
 refine az N0 (N:=BZ) F (Bp) (by kernel_rfl!) ?_
 rintro ds S W ⟨p,⟨i,cs,t⟩,n,x,rfl,hn,hx,hw⟩ hl
 have a1:atI (p.nss.map dNs) ((i:Nat):Int)=some (dNs n):=bA (by rw[y8,hn];rfl)
 have a2:atI (n.dds.map dDd) ((t:Nat):Int)=some (dDd x):=bA (by rw[y8,hx];rfl)
 walk_at "b"
 refine⟨_,a1,?_⟩
 walk_at "b"
 exact⟨_,a2,hw⟩
theorem zK(F:Fun Ω.K "cell_at" "cell_at" iI f fd)(N0:Ω.cd=none)(B:Bi Ω.mg)(Cq16:Cal Ω "comes_to" 1 2 m8):Ok Ω 2 f fd Ak yp:=by
 refine az N0 (N:=BX) F (Be B Cq16) (by kernel_rfl!) ?_
 rintro ds S W ⟨t,pl,cs,rfl,hpl,hcs,hw⟩ hl
 walk_at "b"
 refine gP (λ f=>.int (atC f cs)) (by have:=hpl.1;omega) ?_ ?_
 . intro i f hf Q hq
   walk_at "b"
   exact⟨rfl,f.1,f.2,cs,rfl,hpl.2 f (y4 hf),hcs,hq⟩
 . walk_at "b"
   have e:(spot t pl cs).2.map D.int=pl.map λ f=>D.int (atC f cs):=by unfold spot;rw[List.map_map];rfl
   unfold aq at hw
   rw[e]at hw
   exact hw
def dCs(x:Dd)(cs:%[|1]):D:=.tup [aq (spot x.tab x.pl cs),.lst (x.rds.map λ r=>aq (spot r.tab r.pl cs))]
def MJ(x:Dd):Prop:=Gw x.pl/\x.rds.length≤1000/\∀r∈x.rds,Gw r.pl
def oX:Ct:=λ ds S W=>∃(p:Pg) (s:Stp) (n:Ns) (x:Dd),ds=[dPg p,dSt s]/\p.nss[s.1]? =some n/\n.dds[s.2.2]? =some x/\MJ x/\C64 s.2.1/\W (dCs x s.2.1) S
theorem mH(F:Fun Ω.K "cells_of_step" "cells_of_step" cX f fd)(N0:Ω.cd=none)(Cq18:Cal Ω "deed_of" 1 2 pg)(Cq13:Cal Ω "cell_at" 2 3 yp):Ok Ω 3 f fd nR oX:=by
 refine az N0 (N:=nT) F (oE Cq18 Cq13) (by kernel_rfl!) ?_
 rintro ds S W ⟨p,⟨i,cs,t⟩,n,x,rfl,hn,hx,hok,hcs,hw⟩ hl
 walk_at "b"
 refine⟨rfl,p,(i,cs,t),n,x,rfl,hn,hx,?_⟩
 walk_at "b"
 refine gP (λ r=>aq (spot r.tab r.pl cs)) (by have:=hok.2.1;omega) ?_ ?_
 . intro j r hr Q hq
   walk_at "b"
   refine⟨rfl,?_⟩
   walk_at "b"
   exact⟨rfl,r.tab,r.pl,cs,rfl,hok.2.2 r (y4 hr),hcs,hq⟩
 . walk_at "b"
   refine⟨rfl,x.tab,x.pl,cs,rfl,hok.1,hcs,?_⟩
   walk_at "b"
   exact hw
def iY(ns:%[|1])(c n:Int):List D:=[.int c,.int n,.lst (ns.map .int)]
def aJ(S:Store)(k:Nat):Prop:=∃ns c n,S[k]? =some (iY ns c n)/\0≤n
def aN(S:Store)(k:Nat)(S':Store):Prop:=∃ns c n,S'=S.set k (iY ns c n)/\0≤n
theorem aN.trans{S1 S2:Store}(a:aN S k S1)(b:aN S1 k S2):aN S k S2:=by
 obtain⟨_,_,_,rfl,_⟩:=a
 obtain⟨ns,c,n,rfl,hn⟩:=b
 exact⟨ns,c,n,by rw[List.set_set],hn⟩
theorem aN.refl(p:aJ S k):aN S k S:=by
 obtain⟨ns,c,n,h,hn⟩:=p
 exact⟨ns,c,n,by
  obtain⟨hl,e⟩:=z0.mp h
  rw[←e,List.set_getElem_self],hn⟩
theorem aN.len(u:aN S k S'):S'.length=S.length:=by
 obtain⟨_,_,_,rfl,_⟩:=u
 simp
theorem aN.pen(p:aJ S k)(u:aN S k S'):aJ S' k:=by
 obtain⟨_,_,_,h,_⟩:=p
 obtain⟨ns,c,n,rfl,hn⟩:=u
 exact⟨ns,c,n,set_get h,hn⟩
theorem aJ.lt(p:aJ S k):k<S.length:=by
 obtain⟨_,_,_,h,_⟩:=p
 exact(z0.mp h).1
theorem aJ.app(J:Store)(p:aJ S k):aJ (S++J) k:=by
 have hl:=p.lt
 obtain⟨ns,c,n,h,hn⟩:=p
 exact⟨ns,c,n,by rw[x8 hl];exact h,hn⟩
theorem aN.split{T:Store}(p:aJ S k)(u:aN (S++J) k T):∃S',T=S'++J/\aN S k S'/\aJ S' k:=by
 have hl:=p.lt
 obtain⟨ns,c,n,rfl,hn⟩:=u
 have u:aN S k (S.set k (iY ns c n)):=⟨ns,c,n,rfl,hn⟩
 exact⟨S.set k (iY ns c n),by rw[List.set_append_left k _ hl],u,u.pen p⟩
theorem bJ(ns:%[|1]):aj (ns.map D.int)=true:=by
 induction ns with
 | nil=>rfl
 | cons y ys ih=>simp only[List.map_cons,aj,ih,Bool.and_true];rfl
theorem oY(ns:%[|1])(c n:Int):aj (iY ns c n)=true:=by
 show(aj (ns.map D.int)&&true)=true
 rw[bJ];rfl
theorem aN.flat(u:aN S k S')(h:flat S):RF.flat S':=by
 obtain⟨ns,c,n,rfl,_⟩:=u
 intro l hl
 rcases List.mem_or_eq_of_mem_set hl with hl | rfl
 . exact h l hl
 . exact oY ..
def rZ:Ct:=λ ds S W=>∃ns k,ds=[.lst (List.map .int ns),.int k]/\0≤k/\∀v,W (.int v) S
def Ji:Ct:=λ ds S W=>∃ns k,ds=[.lst (List.map .int ns),.int k]/\0≤k/\∀c,W (.loc S.length) (S++[iY ns c k])
def dH:Ct:=λ ds S W=>∃k m,ds=[.loc k,.int m]/\aJ S k/\0<m/\m<1000000000000000000000000000000000000000000000000000000000000/\∀v S',0≤v->v<m->aN S k S'->aJ S' k->W (.int v) S'
theorem aM{m:Int}(hp:aJ S k)(h0:0<m)(h1:m<1000000000000000000000000000000000000000000000000000000000000)(w:∀v S',0≤v->v<m->aN S k S'->aJ S' k->W (.int v) S'):([D.loc k,.int m].length=2/\dH [.loc k,.int m] S W):=⟨rfl,k,m,rfl,hp,h0,h1,w⟩
theorem Jc(F:Fun Ω.K "_law_cell" "_law_cell" pX f fd)(N0:Ω.cd=none)(B:Bi Ω.mg):Ok Ω 1 f fd Mt rZ:=by
 refine az N0 (N:=J6) F (Lz B) (by kernel_rfl!) ?_
 rintro ds S W ⟨ns,k,rfl,hk,hw⟩ hl
 have last:∀v:Int,(qQ B).wp [some (.lst (ns.map .int)),some (.int k),some (.int v)] S {nx:=λ _ S1=>W .non S1,rt:=W}:=by
  intro v
  have h2:=Int.emod_lt_of_pos ((v % 2147483629+6151*k+1)*48271) (b:=2147483647) %[|3]
  have h3:=Int.emod_nonneg ((v % 2147483629+6151*k+1)*48271) (b:=2147483647) %[|3]
  walk_at "b"
  exact hw _
 have two:∀v:Int,(qZ B).wp [some (.lst (ns.map .int)),some (.int k),some (.int v)] S {nx:=λ _ S1=>W .non S1,rt:=W}:=by
  intro v
  walk_at "b"
  refine⟨λ q=>?_,λ q=>⟨λ z=>ff z,λ _=>last v⟩⟩
  have q:=ZF q
  obtain⟨x,h1,h2⟩:=gF (ds:=ns.map D.int) (v:=0) %[|3] %[|0]
  obtain⟨y,_,rfl⟩:=ZO.mp (y4 h2)
  walk_at "b"
  refine⟨_,h1,?_⟩
  walk_at "b"
  refine⟨λ _=>?_,λ _=>last v⟩
  walk_at "b"
  exact hw _
 walk_at "b"
 refine⟨λ q=>?_,λ q=>two 7⟩
 have q:=ZF q
 walk_at "b"
 obtain⟨x,h1,h2⟩:=gF (ds:=ns.map D.int) (v:=k % ((ns.map D.int).length:Int)) (Int.emod_nonneg _ %[|0]) (Int.emod_lt_of_pos _ q)
 obtain⟨y,_,rfl⟩:=ZO.mp (y4 h2)
 exact⟨_,h1,two y⟩
theorem Lw(F:Fun Ω.K "_law_pen" "_law_pen" sV f fd)(N0:Ω.cd=none)(Cq1:Cal Ω "_law_cell" 1 2 rZ):Ok Ω 2 f fd Qv Ji:=by
 refine az N0 (N:=N6) F (Oq Cq1) (by kernel_rfl!) ?_
 rintro ds S W ⟨ns,k,rfl,hk,hw⟩ hl
 walk_at "b"
 refine⟨rfl,ns,k,rfl,hk,λ c=>?_⟩
 walk_at "b"
 exact hw c
theorem JB(F:Fun Ω.K "_law_take" "_law_take" qg f fd)(N0:Ω.cd=none)(Cq1:Cal Ω "_law_cell" 1 2 rZ):Ok Ω 2 f fd Mu dH:=by
 refine az N0 (N:=Lb) F (MN Cq1) (by kernel_rfl!) ?_
 rintro ds S W ⟨k,m,rfl,⟨ns,c,n,hk,hn⟩,h0,h1,hw⟩ hl
 have k2:∀l:List D,(S.set k l)[k]? =some l:=λ l=>set_get hk
 have fin:∀c' n',0≤n'->W (.int (c % m)) (S.set k (iY ns c' n')):=λ c' n' h=>
  hw _ _ (Int.emod_nonneg _ %[|0]) (Int.emod_lt_of_pos _ h0) ⟨ns,c',n',rfl,h⟩ ⟨ns,c',n',k2 _,h⟩
 walk_at "b"
 refine⟨λ _=>?_,λ _=>fin (c/m) n hn⟩
 walk_at "b"
 refine⟨rfl,ns,n+1,rfl,%[|0],λ v=>?_⟩
 walk_at "b"
 exact fin v (n+1) %[|0]
theorem bI(h:n=S.length):(S++[l])[n]? =some l:=by subst h;exact aX _ _
theorem fj{l':List D}(h:n=S.length):(S++[l]).set n l'=S++[l']:=by subst h;exact bN _ _ _
theorem cg(h:flat S)(hl:aj l=true):flat (S++[l]):=by
 intro x hx
 rcases ZK.mp hx with hx | hx
 . exact h x hx
 . have:x=l:=by simpa using hx
   subst this;exact hl
theorem eX(f:Fm):ak (dF f)=true:=bJ (f.1::f.2)
def J5(ns:%[|1]):Prop:=∀n∈ns,-99≤n/\n≤99
def FmB(d:Nat)(w:Int)(f:Fm):Prop:=f.2.length=d/\J5 f.2/\((-w≤f.1/\f.1≤w)∨(w=1/\ -99≤f.1/\f.1≤99))
def CG:Ct:=λ ds S W=>∃(k d:Nat) (w:Int),ds=[.loc k,.int d,.int w]/\aJ S k/\flat S/\d≤10/\1≤w/\w<1000000000000000000000000000000/\∀f S',FmB d w f->aN S k S'->aJ S' k->flat S'->W (dF f) S'
theorem pF{P:Int->Prop}:∀{ys:List D},(∀(i:Nat)(y:D),ys[i]? =some y->∃n:Int,y=D.int n/\P n)->∃fs:%[|1],ys=fs.map D.int/\∀n∈fs,P n
 | [],_=>⟨[],rfl,by simp⟩
 | y::ys,h=>by
   obtain⟨n,rfl,hn⟩:=h 0 y rfl
   obtain⟨fs,rfl,hf⟩:=pF (ys:=ys) λ i y h'=>h (i+1) y (by simpa using h')
   exact⟨n::fs,rfl,by
    intro m hm
    rcases ZJ.mp hm with rfl | hm
    . exact hn
    . exact hf m hm⟩
theorem Jf(F:Fun Ω.K "_law_form" "_law_form" pq f fd)(N0:Ω.cd=none)(B:Bi Ω.mg)(Cq11:Cal Ω "_law_take" 2 2 dH):Ok Ω 3 f fd Mm CG:=by
 refine az N0 (N:=Mx) F (Bl.drp (Kg B Cq11)) (by kernel_rfl!) ?_
 rintro ds S W ⟨k,d,w,rfl,hp,hS,hd,hw1,hw2,hw⟩ hl
 have one:∀S0,aN S k S0->aJ S0 k->(rB B Cq11).wp [some (.loc k),some (.int d),some (.int w),none,none] S0 {nx:=λ _ S1=>W .non S1,rt:=Drp S.length W}:=by
  intro S0 u0 p0
  walk_at "b"
  refine aM p0 %[|0] %[|0] λ v S1 v0 v1 u1 p1=>?_
  have u1:=u0.trans u1
  have f1:=u1.flat hS
  have n1:=u1.len
  walk_at "b"
  refine⟨⟨%[|0],%[|0]⟩,aZ ⟨λ i Γ' T=>∃S2 fs o4,T=S2++[D.int (v-w)::List.map D.int fs]/\aN S k S2/\aJ S2 k/\fs.length=i/\J5 fs/\Γ'=[some (.loc k),some (.int d),some (.int w),some (.loc S.length),o4],⟨S1,[],none,rfl,u1,p1,rfl,λ n hn=>by simp at hn,by rw[n1];rfl⟩,?_,?_⟩⟩
  . rintro i e Γ' T he ⟨S2,fs,o4,rfl,u2,p2,hfl,hfs,rfl⟩
    obtain⟨hi,rfl⟩:=bO he
    walk_at "b"
    refine aM (p2.app _) %[|3] %[|3] λ x T3 x0 x1 u3 p3=>?_
    obtain⟨S3,rfl,u3,p3⟩:=u3.split p2
    have u3:=u2.trans u3
    walk_at "n"
    obtain⟨y,g1,g2⟩:=gF (ds:=[D.int 0,.int 1,.int 1,.int 0,.int (-1),.int 2,.int 0,.int 1]) x0 x1
    have hy:=y4 g2
    refine⟨y,g1,?_⟩
    obtain⟨z,rfl,hz⟩:∃z:Int,y=.int z/\ -99≤z/\z≤99:=by
     simp only[List.mem_cons,List.not_mem_nil,or_false]at hy
     rcases hy with rfl | rfl | rfl | rfl | rfl | rfl | rfl | rfl<;>exact⟨_,rfl,%[|3],%[|3]⟩
    refine⟨_,bI u3.len.symm,by simp;omega,?_⟩
    rw[fj u3.len.symm]
    refine⟨S3,fs++[z],_,by rw[v3];rfl,u3,p3,by simp[hfl],λ n hn=>?_,rfl⟩
    rcases ZK.mp hn with hn | hn
    . exact hfs n hn
    . have:n=z:=by simpa using hn
      omega
  . rintro Γ' T ⟨S2,fs,o4,rfl,u2,p2,hfl,hfs,rfl⟩
    rw[au]at hfl
    walk_at "b"
    refine⟨_,bI u2.len.symm,.inr ⟨[_],S2,rfl,by rw[u2.len];exact y9 _,eX (v-w,fs),u2.flat hS,hw (v-w,fs) _ ⟨by simpa using hfl,hfs,.inl ⟨?_,?_⟩⟩ u2 p2 (u2.flat hS)⟩⟩
    . show-w≤v-w;omega
    . show v-w≤w;omega
 walk_at "b"
 refine⟨λ q=>?_,λ q=>⟨λ z=>ff z,λ _=>one S (.refl hp) hp⟩⟩
 have q:=ZF q
 walk_at "b"
 refine aM hp %[|3] %[|3] λ v S1 v0 v1 u1 p1=>?_
 walk_at "b"
 refine⟨λ _=>?_,λ _=>one S1 u1 p1⟩
 walk_at "b"
 refine⟨⟨%[|0],%[|0]⟩,mU (λ _ y=>∃n:Int,y=.int n/\(-99≤n/\n≤99)) (λ S'=>aN S k S'/\aJ S' k) (by rw[au];omega) ⟨u1,p1⟩ ?_ ?_⟩
 . rintro i d S' hd ⟨u,p⟩ R hR
   walk_at "b"
   refine aM p %[|3] %[|3] λ w S2 w0 w1 u2 p2=>?_
   walk_at "b"
   exact hR _ _ ⟨_,rfl,%[|0],%[|0]⟩ ⟨u.trans u2,p2⟩
 rintro ys S' hlen hys ⟨u,p⟩
 obtain⟨fs,rfl,hf⟩:=pF hys
 rw[au,y7]at hlen
 cases fs with
 | nil=>simp at hlen
 | cons a fs=>
   walk_at "b"
   exact .inl (hw (a,fs) _ ⟨by simp at hlen;show fs.length=d;omega,λ n hn=>hf n (x3 _ hn),.inr ⟨%[|0],hf a x5⟩⟩ u p (u.flat hS))
theorem wH(ls:List Lp)(l:Lp):cnt (ls++[l])=aO l.1 l.2 (cnt ls):=by
 unfold cnt
 rw[List.foldl_append];rfl
theorem gn(a:Int)(k:Nat)(cs:%[|1]):atC (a,List.replicate k 0) cs=a:=by
 unfold atC comesTo
 have:∀(k:Nat)(cs:%[|1]),(List.zipWith (λ a b=>a*b) (List.replicate k (0:Int)) cs).sum=0:=by
  intro k
  induction k with
  | zero=>intro cs;simp
  | succ k ih=>
    intro cs
    cases cs with
    | nil=>simp
    | cons c cs=>simp[List.replicate_succ,ih]
 rw[this];show a+0=a;omega
theorem Ke(a:Int)(cs:%[|1])(c:Int):atC (a,List.replicate cs.length 0++[1]) (cs++[c])=a+c:=by
 unfold atC comesTo
 have:∀cs:%[|1],(List.zipWith (λ a b=>a*b) (List.replicate cs.length (0:Int)++[1]) (cs++[c])).sum=c:=by
  intro cs
  induction cs with
  | nil=>simp
  | cons d cs ih=>simp[List.replicate_succ,ih]
 rw[this]
theorem JX(a b:Int)(fs cs:%[|1]):atC (a+b,fs) cs=atC (a,fs) cs+b:=by
 unfold atC comesTo
 dsimp only
 omega
theorem KZ{ls:List Lp}{l:Lp}(h:cs∈cnt (ls++[l])):∃cs' c,cs'∈cnt ls/\cs=cs'++[c]/\atC l.1 cs'≤c/\c<atC l.2 cs':=by
 rw[wH]at h
 obtain⟨ds,hd,h⟩:=List.mem_flatMap.mp h
 unfold bx at h
 obtain⟨c,hc,rfl⟩:=ZO.mp h
 unfold upI at hc
 obtain⟨k,hk,rfl⟩:=ZO.mp hc
 have hk:=List.mem_range.mp hk
 exact⟨ds,_,hd,rfl,%[|0],%[|0]⟩
theorem Mw{ls:List Lp}{l:Lp}{sz:Nat}(h:∀cs∈cnt ls,atC l.2 cs-atC l.1 cs≤(sz:Int)):(cnt (ls++[l])).length≤(cnt ls).length*sz:=by
 rw[wH]
 refine ph λ cs hc=>?_
 rw[cF]
 have:=h cs hc
 omega
def Bef(bf:D)(ls:List Lp):Prop:=bf=.non∨∃b0 b1:Int,bf=.tup [.int b0,.int b1]/\ -3≤b0/\b0≤3/\1≤b1/\b1≤4/\1≤ls.length/\∀cs∈cnt ls,∃cs' c,cs=cs'++[c]/\b0≤c/\c<b0+b1
def LpI(ls:List Lp):Prop:=∀(i:Nat)(l:Lp),ls[i]? =some l->BdF l.1 i/\BdF l.2 i
theorem LpI.snoc{ls:List Lp}{l:Lp}(h:LpI ls)(h1:BdF l.1 ls.length)(h2:BdF l.2 ls.length):LpI (ls++[l]):=by
 intro i x hx
 by_cases hi:i<ls.length
 . rw[x8 hi]at hx;exact h i x hx
 . rw[List.getElem?_append_right %[|0]]at hx
   have:i=ls.length:=by
    have:=(z0.mp hx).1
    simp at this;omega
   subst this
   simp at hx
   subst hx
   exact⟨h1,h2⟩
def nlO(o:Option D):Prop:=∀d,o=some d->ak d=true
theorem cH:nlO none:=λ d h=>by cases h
theorem jt(n:Int):nlO (some (.int n)):=λ d h=>by cases h;rfl
def Hi(n:Nat)(o:Option D):Prop:=nlO o∨∃j,o=some (.loc j)/\n≤j
theorem CT{J:List (List D)}{o:Option D}(h:nlO o):iK n J o=o:=by
 cases o with
 | none=>rfl
 | some d=>
   cases d with
   | loc j=>have:=h _ rfl;simp[ak]at this
   | _=>rfl
theorem Do{j:Nat}{J:List (List D)}(h:j<n):iK n J (some (.loc j))=some (.loc j):=by simp[iK,h]
theorem sU{J:List (List D)}{o:Option D}(hJ:flat J)(h:Hi n o):nlO (iK n J o):=by
 rcases h with h | ⟨j,rfl,hj⟩
 . rw[CT h];exact h
 . intro d hd
   have:¬j<n:=%[|0]
   simp only[iK,if_neg this]at hd
   cases e:J[j-n]? with
   | none=>rw[e]at hd;cases hd
   | some ds=>rw[e]at hd;cases hd;exact hJ ds (y4 e)
theorem fJ(ls:List Lp):aj (ls.map dL)=true:=by
 induction ls with
 | nil=>rfl
 | cons y ys ih=>
   simp only[List.map_cons,aj,ih,Bool.and_true]
   show aj [dF y.1,dF y.2]=true
   simp only[aj,eX,Bool.and_true]
def yQ:Ct:=λ ds S W=>∃(k:Nat) (m:Nat),ds=[.loc k,.int m]/\aJ S k/\flat S/\1≤m/\m≤1000/\∀ls S',Lps ls->(cnt ls).length≤m->aN S k S'->aJ S' k->flat S'->W (.tup (ls.map dL)) S'
theorem zeros(n:Int):(List.replicate n.toNat [D.int 0]).flatten=(List.replicate n.toNat (0:Int)).map D.int:=by
 generalize n.toNat=m
 induction m with
 | zero=>rfl
 | succ m ih=>simp[List.replicate_succ,ih]
theorem RZ{Ω:Wd}{b:Bl Ω}{Γ:Gam}{W:DL.Fin}(h:b.wp Γ S {W with nx:=yO S.length W.nx}):b.fza.wp Γ S W:=h
theorem qU{j:Nat}{Γ:Gam}{R:Gam->Prop}(h:R (Γ.set j (some d))):(Tg.nm j).wp d Γ R:=h
theorem aN.split2{T:Store}{a b:List D}(p:aJ S k)(u:aN (S++[a]++[b]) k T):∃S',T=S'++[a]++[b]/\aN S k S'/\aJ S' k:=by
 obtain⟨T1,rfl,u1,p1⟩:=u.split (p.app _)
 obtain⟨S1,rfl,u2,p2⟩:=u1.split p
 exact⟨S1,rfl,u2,p2⟩
theorem dZ(h:n=S.length):(S++[l]++J)[n]? =some l:=by
 subst h
 rw[x8 (by simp)];exact aX _ _
theorem nP{l':List D}(h:n=S.length):(S++[l]++J).set n l'=S++[l']++J:=by
 subst h
 rw[List.set_append_left _ _ (by simp),bN]
theorem El(ls:List Lp):∀cs∈cnt ls,cs.length=ls.length:=by
 have:∀(ls:List Lp)(acc:List %[|1])(n:Nat),(∀cs∈acc,cs.length=n)->∀cs∈ls.foldl (λ acc l=>aO l.1 l.2 acc) acc,cs.length=n+ls.length:=by
  intro ls
  induction ls with
  | nil=>intro acc n h cs hc;simpa using h cs hc
  | cons l ls ih=>
    intro acc n h cs hc
    have:=ih (aO l.1 l.2 acc) (n+1) (λ ds hd=>by
     obtain⟨es,he,hd⟩:=List.mem_flatMap.mp hd
     unfold bx at hd
     obtain⟨c,_,rfl⟩:=ZO.mp hd
     simp[h es he]) cs hc
    rw[this,List.length_cons];omega
 intro cs hc
 have:=this ls [[]] 0 (by simp) cs hc
 omega
def Fv(S:Store)(k m i:Nat)(Γ':Gam)(T:Store):Prop:=∃S2 ls room bf o5 o6 o7 o8 o9 o10 o11,T=S2++[List.map dL ls]/\aN S k S2/\aJ S2 k/\ls.length=i/\LpI ls/\1≤room/\(cnt ls).length*room≤m/\Bef bf ls/\ak bf=true/\(nlO o5/\nlO o6/\nlO o7/\nlO o8/\nlO o9/\nlO o10/\nlO o11)/\Γ'=[some (.loc k),some (.int m),some (.loc S.length),some (.int (room:Nat)),some bf,o5,o6,o7,o8,o9,o10,o11]
theorem yJ{o:Option D}(h:Hi n o)(e:o=some d):ak d=true∨∃j,d=.loc j:=by
 rcases h with h | ⟨j,rfl,_⟩
 . exact .inl (h d e)
 . cases e;exact .inr ⟨j,rfl⟩
theorem JP{S3:Store}{room size:Nat}{ls:List Lp}{l:Lp}{bf:D}{low way:Int}{o9 o10 o11:Option D}(hp:aJ S k)(hS:flat S)(u:aN S k S3)(p:aJ S3 k)(hJ:flat J)(hln:ls.length=i)(hlp:LpI ls)(b1:BdF l.1 i)(b2:BdF l.2 i)(s1:1≤size)(s2:size≤room)(hr2:(cnt ls).length*room≤m)
 (hc:∀cs∈cnt ls,atC l.2 cs-atC l.1 cs≤(size:Int))(hbf:Bef bf (ls++[l]))(hnb:ak bf=true)(n9:Hi (S.length+1) o9)(n10:Hi (S.length+1) o10)(n11:Hi (S.length+1) o11):
 yO (S.length+1) (Fv S k m (i+1)) [some (.loc k),some (.int m),some (.loc S.length),some (.int ((room:Int)/(size:Int))),some bf,some (.int i),some (.int size),some (.int low),some (.int way),o9,o10,o11] (S3++[(ls++[l]).map dL]++J):=by
 have hl3:=u.len
 have hk:=hp.lt
 have e1:(room:Int)/(size:Int)=((room/size:Nat):Int):=(Int.natCast_ediv room size).symm
 have hlen:(S3++[(ls++[l]).map dL]).length=S.length+1:=by simp[hl3]
 refine .inr ⟨J,S3++[(ls++[l]).map dL],rfl,by rw[hlen];exact y9 _,hJ,cg (u.flat hS) (fJ _),?_,?_⟩
 . intro x d hx
   match x,hx with
   | 0,hx=>cases hx;exact .inr ⟨_,rfl⟩
   | 1,hx=>cases hx;exact .inl rfl
   | 2,hx=>cases hx;exact .inr ⟨_,rfl⟩
   | 3,hx=>cases hx;exact .inl rfl
   | 4,hx=>cases hx;exact .inl hnb
   | 5,hx=>cases hx;exact .inl rfl
   | 6,hx=>cases hx;exact .inl rfl
   | 7,hx=>cases hx;exact .inl rfl
   | 8,hx=>cases hx;exact .inl rfl
   | 9,hx=>exact yJ n9 (by simpa using hx)
   | 10,hx=>exact yJ n10 (by simpa using hx)
   | 11,hx=>exact yJ n11 (by simpa using hx)
   | x+12,hx=>simp at hx
 . rw [hlen]
   refine⟨S3,ls++[l],room/size,bf,some (.int i),some (.int size),some (.int low),some (.int way),_,_,_,rfl,u,p,by simp[hln],hlp.snoc (by rw[hln];exact b1) (by rw[hln];exact b2),Nat.div_pos s2 s1,?_,hbf,hnb,⟨jt _,jt _,jt _,jt _,sU hJ n9,sU hJ n10,sU hJ n11⟩,?_⟩
   . have h1:=Mw (l:=l) hc
     have h2:=Nat.mul_le_mul_right (room/size) h1
     have h3:(cnt ls).length*size*(room/size)≤(cnt ls).length*room:=by
      rw[Nat.mul_assoc];exact Nat.mul_le_mul_left _ (Nat.mul_div_le room size)
     omega
   . show[_,_,_,_,_,_,_,_,_,_,_,_]=[_,_,_,_,_,_,_,_,_,_,_,_]
     rw[Do %[|0],Do %[|0],CT (o:=some bf) (λ d h=>by cases h;exact hnb),e1]
     rfl
theorem GD(F:Fun Ω.K "_law_loops" "_law_loops" lR f fd)(N0:Ω.cd=none)(B:Bi Ω.mg)(Cq11:Cal Ω "_law_take" 2 2 dH):Ok Ω 3 f fd JS yQ:=by
 refine az N0 (N:=JM) F (Bl.drp (HQ B Cq11)) (by kernel_rfl!) ?_
 rintro ds S W ⟨k,m,rfl,hp,hS,hm1,hm2,hw⟩ hl
 walk_at "b"
 refine aM (hp.app _) %[|3] %[|3] λ v T v0 v1 u1 p1=>?_
 obtain⟨S1,rfl,u1,p1⟩:=u1.split hp
 walk_at "b"
 refine⟨⟨%[|0],%[|0]⟩,aZ ⟨Fv S k m,⟨S1,[],m,.non,none,none,none,none,none,none,none,rfl,u1,p1,rfl,λ i l h=>by simp at h,hm1,by simp[cnt],.inl rfl,rfl,⟨cH,cH,cH,cH,cH,cH,cH⟩,rfl⟩,?_,?_⟩⟩
 . rintro i e Γ' T he ⟨S2,ls,room,bf,o5,o6,o7,o8,o9,o10,o11,rfl,u2,p2,hln,hlp,hr1,hr2,hbf,hnb,⟨n5,n6,n7,n8,n9,n10,n11⟩,rfl⟩
   obtain⟨hi,rfl⟩:=bO he
   have hi3:i≤2:=%[|0]
   have ez:(0:Int)+(i:Int)=(i:Int):=%[|0]
   rw[ez]
   have hS2:(S2++[ls.map dL]).length=S.length+1:=by simp[u2.len]
   suffices body:∀Wf:DL.Fin,(∀G T,yO (S.length+1) (Fv S k m (i+1)) G T->Wf.nx G T)->(mF B Cq11).wp [some (.loc k),some (.int m),some (.loc S.length),some (.int (room:Nat)),some bf,some (.int (i:Int)),o6,o7,o8,o9,o10,o11] (S2++[ls.map dL]) Wf by
    refine qU (RZ ?_)
    simp only[List.set_cons_succ,List.set_cons_zero]
    refine body _ λ G T h=>?_
    rw[hS2]
    exact h
   intro Wf hnx
   walk_at "b"
   refine aM (p2.app _) (by split<;>omega) (by split<;>omega) λ x T3 x0 x1 u3 p3=>?_
   obtain⟨S3,rfl,u3,p3⟩:=u3.split p2
   have u3:=u2.trans u3
   have hx:1+x≤(room:Int)/\1+x≤4:=by split at x1<;>omega
   clear x1
   walk_at "b"
   refine aM (p3.app _) %[|3] %[|3] λ y T3 y0 y1 u4 p4=>?_
   obtain⟨S4,rfl,u4,p4⟩:=u4.split p3
   have u4:=u3.trans u4
   walk_at "b"
   refine aM (p4.app _) %[|3] %[|3] λ way T3 w0 w1 u5 p5=>?_
   obtain⟨S5,rfl,u5,p5⟩:=u5.split p4
   have u5:=u4.trans u5
   walk_at "b"
   refine⟨_,_,rfl,rfl,⟨%[|0],%[|0]⟩,by simp;omega,?_⟩
   rw[zeros,Int.toNat_natCast]
   obtain⟨sz,hsz⟩:∃n:Nat,1+x=(n:Int):=⟨(1+x).toNat,%[|0]⟩
   rw[hsz]at hx ⊢
   have hsz1:1≤sz:=%[|0]
   have hr3:sz≤room:=%[|0]
   have tail:∀(S':Store)(l:Lp)(J:Store)(size:Nat)(bf':D)(o9 o10 o11:Option D),aN S k S'->aJ S' k->flat J->BdF l.1 i->BdF l.2 i->1≤size->size≤4->size≤room->(∀cs∈cnt ls,atC l.2 cs-atC l.1 cs≤(size:Int))->Bef bf' (ls++[l])->ak bf'=true->Hi (S.length+1) o9->Hi (S.length+1) o10->Hi (S.length+1) o11->
    (bL B Cq11).wp [some (.loc k),some (.int m),some (.loc S.length),some (.int room),some bf',some (.int i),some (.int size),some (.int (y-3)),some (.int way),o9,o10,o11] (S'++[(ls++[l]).map dL]++J) Wf:=by
    intro S' l J size bf' o9 o10 o11 u p hJ b1 b2 s1 s4 s2 hc hbf hnb n9 n10 n11
    walk_at "b"
    exact hnx _ _ (JP hp hS u p hJ hln hlp b1 b2 s1 s2 hr2 hc hbf hnb n9 n10 n11)
   have zl:(List.replicate i (0:Int)).length=i:=by simp
   have z9:Hi (S.length+1) (some (.lst ((List.replicate i (0:Int)).map D.int))):=.inl λ d h=>by cases h;exact bJ _
   have zb:∀a:Int,-9≤a->a≤9->BdF (a,List.replicate i 0) i:=λ a h1 h2=>⟨zl,h1,h2,λ n hn=>by have:=(List.mem_replicate.mp hn).2;omega⟩
   have br3:∀Wf':DL.Fin,(∀G T,(bL B Cq11).wp G T Wf->Wf'.nx G T)->(gm B Cq11).wp [some (.loc k),some (.int m),some (.loc S.length),some (.int room),some bf,some (.int i),some (.int sz),some (.int (y-3)),some (.int way),some (.lst ((List.replicate i (0:Int)).map D.int)),o10,o11] (S5++[ls.map dL]) Wf':=by
    intro Wf' hx'
    have app:∀h:Int,y-3≤h->h≤y-3+sz->∃ds,(S5++[ls.map dL])[S.length]? =some ds/\ds.length<1000000/\Wf'.nx [some (.loc k),some (.int m),some (.loc S.length),some (.int room),some (.tup [.int (y-3),.int sz]),some (.int i),some (.int sz),some (.int (y-3)),some (.int way),some (.lst ((List.replicate i (0:Int)).map D.int)),o10,o11] ((S5++[ls.map dL]).set S.length (ds++[dL ((y-3,List.replicate i 0),(h,List.replicate i 0))])):=by
     intro h h1 h2
     refine⟨_,bI u5.len.symm,by simp;omega,?_⟩
     rw[fj u5.len.symm]
     have:=tail S5 ((y-3,List.replicate i 0),(h,List.replicate i 0)) [] sz (.tup [.int (y-3),.int sz]) (some (.lst ((List.replicate i (0:Int)).map D.int))) o10 o11 u5 p5 (λ l h=>by cases h) (zb _ %[|0] %[|0]) (zb _ %[|0] %[|0]) hsz1 %[|0] hr3 (λ cs _=>by
      show atC (h,List.replicate i 0) cs-atC (y-3,List.replicate i 0) cs≤_
      rw[gn,gn];omega) (.inr ⟨y-3,sz,rfl,%[|0],%[|0],%[|0],%[|0],by simp,λ cs hcs=>by
      obtain⟨cs',c,_,e,h3,h4⟩:=KZ hcs
      rw[gn]at h3 h4
      exact⟨cs',c,e,h3,%[|0]⟩⟩) rfl z9 (.inl n10) (.inl n11)
     rw[List.append_nil,v3]at this
     exact hx' _ _ this
    walk_at "b"
    refine⟨_,_,rfl,rfl,by simp;omega,?_⟩
    walk_at "b"
    have bb:∀b:Bool,y-3≤y-3+(sz:Int)*(if b=true then 1 else 0)/\y-3+(sz:Int)*(if b=true then 1 else 0)≤y-3+sz:=λ b=>by cases b<;>simp<;>omega
    refine⟨λ q=>?_,λ q=>?_⟩
    . walk_at "b"
      obtain⟨g1,g2⟩:=bb true
      generalize (y-3+(sz:Int)*(if true=true then 1 else 0))=h at g1 g2 ⊢
      refine⟨_,_,rfl,rfl,by simp;omega,?_⟩
      walk_at "b"
      obtain⟨ds,h1,h2,h3⟩:=app h g1 g2
      refine⟨ds,h1,h2,?_⟩
      walk_at "b"
      exact h3
    . walk_at "b"
      obtain⟨g1,g2⟩:=bb (decide (y-3<3))
      generalize (y-3+(sz:Int)*(if decide (y-3<3)=true then 1 else 0))=h at g1 g2 ⊢
      refine⟨_,_,rfl,rfl,by simp;omega,?_⟩
      walk_at "b"
      obtain⟨ds,h1,h2,h3⟩:=app h g1 g2
      refine⟨ds,h1,h2,?_⟩
      walk_at "b"
      exact h3
   have br2:0<i->∀Wf':DL.Fin,(∀G T,(bL B Cq11).wp G T Wf->Wf'.nx G T)->(gw B Cq11).wp [some (.loc k),some (.int m),some (.loc S.length),some (.int room),some bf,some (.int i),some (.int sz),some (.int (y-3)),some (.int way),some (.lst ((List.replicate i (0:Int)).map D.int)),o10,o11] (S5++[ls.map dL]) Wf':=by
    intro hi0 Wf' hx'
    walk_at "b"
    refine⟨_,_,rfl,rfl,⟨%[|0],%[|0]⟩,by simp;omega,?_⟩
    rw[zeros,Int.toNat_natCast]
    walk_at "b"
    refine aM ((p5.app _).app _) %[|3] %[|3] λ a T6 a0 a1 u6 p6=>?_
    obtain⟨S6,rfl,u6,p6⟩:=u6.split2 p5
    have u6:=u5.trans u6
    walk_at "n"
    obtain⟨z,g1,g2⟩:=gF (ds:=[D.int 1,.int (-1),.int 2,.int (-2)]) a0 a1
    have hz:=y4 g2
    obtain⟨c,rfl,hc1,hc2⟩:∃c:Int,z=.int c/\ -2≤c/\c≤2:=by
     simp only[List.mem_cons,List.not_mem_nil,or_false]at hz
     rcases hz with rfl | rfl | rfl | rfl<;>exact⟨_,rfl,%[|3],%[|3]⟩
    refine⟨_,g1,?_⟩
    walk_at "b"
    refine aM ((p6.app _).app _) %[|0] %[|0] λ j T7 j0 j1 u7 p7=>?_
    obtain⟨S7,rfl,u7,p7⟩:=u7.split2 p6
    have u7:=u6.trans u7
    walk_at "n"
    obtain⟨jn,rfl⟩:∃jn:Nat,j=(jn:Int):=⟨j.toNat,%[|0]⟩
    have hjn:jn<i:=%[|0]
    have len7:(S5++[ls.map dL]).length=(S7++[ls.map dL]).length:=by simp[u5.len,u7.len]
    refine⟨_,jn,bI len7,?_,?_⟩
    . unfold ixN
      simp
      omega
    rw[fj len7]
    have e1:((List.replicate i (0:Int)).map D.int).set jn (D.int c)=((List.replicate i (0:Int)).set jn c).map D.int:=by rw[List.map_set]
    rw[e1]
    have hah:∀n∈(List.replicate i (0:Int)).set jn c,-2≤n/\n≤2:=λ n hn=>by
     rcases List.mem_or_eq_of_mem_set hn with hn | rfl
     . have:=(List.mem_replicate.mp hn).2;omega
     . exact⟨hc1,hc2⟩
    have hal:((List.replicate i (0:Int)).set jn c).length=i:=by simp
    generalize (List.replicate i (0:Int)).set jn c=ah at hah hal
    have l7:(S5++[ls.map dL]).length=S.length+1:=by simp[u5.len]
    rw[l7]at len7 ⊢
    have ga:(S7++[ls.map dL]++[ah.map D.int])[S.length+1]? =some (ah.map D.int):=bI len7
    walk_at "b"
    refine⟨_,_,rfl,ga,by simp;omega,?_⟩
    walk_at "b"
    refine⟨_,_,rfl,ga,by simp;omega,?_⟩
    walk_at "b"
    refine⟨_,dZ u7.len.symm,by simp;omega,?_⟩
    rw[nP u7.len.symm]
    walk_at "b"
    have:=tail S7 ((y-3,ah),(y-3+sz,ah)) [ah.map D.int] sz .non (some (.lst ((List.replicate i (0:Int)).map D.int))) (some (.loc (S.length+1))) o11 u7 p7 (λ l h=>by
     have:l=ah.map D.int:=by simpa using h
     subst this;exact bJ _) ⟨hal,by show-9≤y-3;omega,by show y-3≤9;omega,hah⟩ ⟨hal,by show-9≤y-3+sz;omega,by show y-3+(sz:Int)≤9;omega,hah⟩ hsz1 %[|0] hr3 (λ cs _=>by
     show atC (y-3+sz,ah) cs-atC (y-3,ah) cs≤_
     rw[JX];omega) (.inl rfl) rfl z9 (.inr ⟨_,rfl,y9 _⟩) (.inl n11)
    rw[v3]at this
    exact hx' _ _ this
   have br1:∀b0 b1:Int,bf=.tup [.int b0,.int b1]->way<2->b1≤room->∀Wf':DL.Fin,(∀G T,(bL B Cq11).wp G T Wf->Wf'.nx G T)->(lJ B Cq11).wp [some (.loc k),some (.int m),some (.loc S.length),some (.int room),some bf,some (.int i),some (.int sz),some (.int (y-3)),some (.int way),some (.lst ((List.replicate i (0:Int)).map D.int)),o10,o11] (S5++[ls.map dL]) Wf':=by
    intro b0 b1 ebf hway hb1 Wf' hx'
    subst ebf
    rcases hbf with hbf | ⟨c0,c1,e,q1,q2,q3,q4,q5,q6⟩
    . cases hbf
    cases e
    walk_at "b"
    refine⟨_,_,rfl,rfl,⟨%[|0],%[|0]⟩,by simp;omega,?_⟩
    have hi1:1≤i:=%[|0]
    have eA:(List.replicate ((i:Int)-1).toNat [D.int 0]).flatten++[D.int 1]=(List.replicate (i-1) (0:Int)++[1]).map D.int:=by
     rw[zeros,show((i:Int)-1).toNat=i-1 by omega,v3];rfl
    have hAl:(List.replicate (i-1) (0:Int)++[1]).length=i:=by simp;omega
    have hAb:∀n∈List.replicate (i-1) (0:Int)++[1],-2≤n/\n≤2:=λ n hn=>by
     rcases ZK.mp hn with hn | hn
     . have:=(List.mem_replicate.mp hn).2;omega
     . have:n=1:=by simpa using hn
       omega
    have hAt:∀(a:Int)(cs':%[|1])(c:Int),cs'++[c]∈cnt ls->atC (a,List.replicate (i-1) (0:Int)++[1]) (cs'++[c])=a+c:=λ a cs' c h=>by
     have h1:=El ls _ h
     rw[x6,List.length_singleton]at h1
     rw[show i-1=cs'.length by omega]
     exact Ke a cs' c
    generalize hAA:List.replicate (i-1) (0:Int)++[1]=A at eA hAl hAb hAt
    obtain⟨bn,rfl⟩:∃bn:Nat,b1=(bn:Int):=⟨b1.toNat,%[|0]⟩
    have l5:(S5++[ls.map dL]).length=S.length+1:=by simp[u5.len]
    walk_at "b"
    refine⟨_,_,rfl,rfl,by simp;omega,?_⟩
    rw[eA]
    have ga:∀J,(S5++[ls.map dL]++[A.map D.int]++J)[S.length+1]? =some (A.map D.int):=λ J=>dZ l5.symm
    have ga0:(S5++[ls.map dL]++[A.map D.int])[S.length+1]? =some (A.map D.int):=bI l5.symm
    have l6:(S5++[ls.map dL]++[A.map D.int]).length=S.length+2:=by simp[u5.len]
    walk_at "n"
    rw[l5]
    walk_at "b"
    refine⟨_,_,rfl,rfl,by simp;omega,?_⟩
    walk_at "b"
    refine⟨_,_,rfl,ga0,by simp;omega,?_⟩
    walk_at "b"
    rw[l6]
    refine⟨_,_,rfl,ga _,by simp;omega,?_⟩
    walk_at "b"
    refine⟨[b0,(bn:Int)],rfl,?_⟩
    walk_at "b"
    refine⟨_,_,rfl,rfl,by simp;omega,?_⟩
    walk_at "b"
    refine⟨_,bI l6.symm,by simp,?_⟩
    rw[fj l6.symm]
    walk_at "n"
    have hsm:[b0,(bn:Int)].sum=b0+(bn:Int):=by simp
    rw[hsm]
    have fin:∀(l:Lp)(St:List D),aj St=true->BdF l.1 i->BdF l.2 i->(∀cs∈cnt ls,atC l.2 cs-atC l.1 cs≤(bn:Int))->∃ds,(S5++[ls.map dL]++[A.map D.int]++[St])[S.length]? =some ds/\ds.length<1000000/\Wf'.nx [some (.loc k),some (.int m),some (.loc S.length),some (.int room),some .non,some (.int i),some (.int bn),some (.int (y-3)),some (.int way),some (.lst ((List.replicate i (0:Int)).map D.int)),some (.loc (S.length+1)),some (.loc (S.length+2))] ((S5++[ls.map dL]++[A.map D.int]++[St]).set S.length (ds++[dL l])):=by
     intro l St hSt c1 c2 c3
     have e2:∀L:List D,S5++[L]++[A.map D.int]++[St]=S5++[L]++[A.map D.int,St]:=λ L=>by simp
     rw[e2]
     refine⟨_,dZ u5.len.symm,by simp;omega,?_⟩
     rw[nP u5.len.symm]
     have:=tail S5 l [A.map D.int,St] bn .non (some (.lst ((List.replicate i (0:Int)).map D.int))) (some (.loc (S.length+1))) (some (.loc (S.length+2))) u5 p5 (λ x h=>by
      rcases ZJ.mp h with rfl | h
      . exact bJ _
      . have:x=St:=by simpa using h
        subst this;exact hSt) c1 c2 %[|0] %[|0] %[|0] c3 (.inl rfl) rfl z9 (.inr ⟨_,rfl,y9 _⟩) (.inr ⟨_,rfl,Nat.le_succ _⟩)
     rw[v3]at this
     exact hx' _ _ this
    have hSt:aj ([dL ((b0,List.replicate i 0),(1,A))]++[dL ((0,A),(b0+(bn:Int),List.replicate i 0))])=true:=fJ [_,_]
    have:way=0∨way=1:=%[|0]
    rcases this with rfl | rfl
    . refine⟨_,dL ((b0,List.replicate i 0),(1,A)),bI l6.symm,rfl,?_⟩
      obtain⟨ds,h1,h2,h3⟩:=fin ((b0,List.replicate i 0),(1,A)) _ hSt (zb b0 %[|0] %[|0]) ⟨hAl,(%[|3]:(-9:Int)≤1),(%[|3]:(1:Int)≤9),hAb⟩ (λ cs hcs=>by
       obtain⟨cs',c,rfl,g1,g2⟩:=q6 cs hcs
       show atC (1,A) _-atC (b0,List.replicate i 0) _≤_
       rw[hAt _ _ _ hcs,gn];omega)
      refine⟨ds,h1,h2,?_⟩
      walk_at "b"
      exact h3
    . refine⟨_,dL ((0,A),(b0+(bn:Int),List.replicate i 0)),bI l6.symm,rfl,?_⟩
      obtain⟨ds,h1,h2,h3⟩:=fin ((0,A),(b0+(bn:Int),List.replicate i 0)) _ hSt ⟨hAl,(%[|3]:(-9:Int)≤0),(%[|3]:(0:Int)≤9),hAb⟩ (zb _ %[|0] %[|0]) (λ cs hcs=>by
       obtain⟨cs',c,rfl,g1,g2⟩:=q6 cs hcs
       show atC (b0+(bn:Int),List.replicate i 0) _-atC (0,A) _≤_
       rw[hAt _ _ _ hcs,gn];omega)
      refine⟨ds,h1,h2,?_⟩
      walk_at "b"
      exact h3
   have els:∀Wf':DL.Fin,(∀G T,(bL B Cq11).wp G T Wf->Wf'.nx G T)->(Bl.cons (Sm.ite (Te.and (Bt.cons (Te.cmp .Lt (Ex.var 8) (Ex.int 4)) (Bt.one (Te.cmp .Gt (Ex.var 5) (Ex.int 0))))) (gw B Cq11) (gm B Cq11)) Bl.nil).wp [some (.loc k),some (.int m),some (.loc S.length),some (.int room),some bf,some (.int i),some (.int sz),some (.int (y-3)),some (.int way),some (.lst ((List.replicate i (0:Int)).map D.int)),o10,o11] (S5++[ls.map dL]) Wf':=by
    intro Wf' hx'
    walk_at "b"
    refine⟨λ q=>?_,λ q=>⟨λ z=>ff z,λ _=>br3 _ hx'⟩⟩
    walk_at "b"
    refine⟨λ q2=>br2 (by have:=ZF q2;omega) _ hx',λ q2=>br3 _ hx'⟩
   walk_at "b"
   refine⟨λ q=>?_,λ q=>⟨λ z=>ff z,λ _=>els _ λ G T h=>h⟩⟩
   have q:=ZF q
   rcases hbf with rfl | ⟨b0,b1,rfl,hb⟩
   . walk_at "b"
     refine⟨λ q=>?_,λ q=>⟨λ z=>ff z,λ _=>br3 _ λ G T h=>h⟩⟩
     walk_at "b"
     exact⟨λ q2=>br2 (by have:=ZF q2;omega) _ λ G T h=>h,λ q2=>br3 _ λ G T h=>h⟩
   . walk_at "b"
     exact⟨λ q2=>br1 b0 b1 rfl q (ZF q2) _ λ G T h=>h,λ q2=>els _ λ G T h=>h⟩
 . rintro Γ' T ⟨S2,ls,room,bf,o5,o6,o7,o8,o9,o10,o11,rfl,u2,p2,hln,hlp,hr1,hr2,hbf,hnb,_,rfl⟩
   rw[au]at hln
   walk_at "b"
   refine⟨_,bI u2.len.symm,.inr ⟨[_],S2,rfl,by rw[u2.len];exact y9 _,fJ ls,u2.flat hS,hw ls _ ⟨%[|0],%[|0],hlp⟩ ?_ u2 p2 (u2.flat hS)⟩⟩
   exact Nat.le_trans (Nat.le_mul_of_pos_right _ hr1) hr2
theorem qD{α:Type}{enc:α->D}{P:α->Prop}:∀{ys:List D},(∀(i:Nat)(y:D),ys[i]? =some y->∃a,y=enc a/\P a)->∃as,ys=List.map enc as/\∀a∈as,P a
 | [],_=>⟨[],rfl,by simp⟩
 | y::ys,h=>by
   obtain⟨a,rfl,ha⟩:=h 0 y rfl
   obtain⟨as,rfl,has⟩:=qD (enc:=enc) (P:=P) (ys:=ys) λ i y h'=>h (i+1) y (by simpa using h')
   exact⟨a::as,rfl,by
    intro b hb
    rcases ZJ.mp hb with rfl | hb
    . exact ha
    . exact has b hb⟩
def TpB(ws:%[|1])(d t:Nat)(pl:List Fm):Prop:=∃w,ws[t]? =some w/\(pl.length:Int)=w/\∀f∈pl,FmB d 1 f
def RdB(ws:%[|1])(d:Nat)(r:Rd):Prop:= -1000000000000000000000000000000<r.fac/\r.fac<1000000000000000000000000000000/\TpB ws d r.tab r.pl
def StB(d:Nat)(f:Fm):Prop:=f.2.length=d/\J5 f.2/\ -1000000000000000000000000000000<f.1/\f.1<1000000000000000000000000000000
def DdB(ws:%[|1])(d:Nat)(x:Dd):Prop:=TpB ws d x.tab x.pl/\StB d x.st/\x.rds.length≤3/\∀r∈x.rds,RdB ws d r
def WsB(ws:%[|1]):Prop:=1≤ws.length/\ws.length≤3/\∀w∈ws,1≤w/\w≤2
def Ds:Ct:=λ ds S W=>∃(k d:Nat) (ws:%[|1]),ds=[.loc k,dWs ws,.int d]/\aJ S k/\flat S/\d≤10/\WsB ws/\∀x S',DdB ws d x->aN S k S'->aJ S' k->flat S'->W (dDd x) S'
theorem Nq{t:Int}(hw:WsB ws)(h0:0≤t)(h1:t<(ws.map D.int).length):∃w:Int,atI (ws.map D.int) t=some (.int w)/\ws[t.toNat]? =some w/\1≤w/\w≤2:=by
 obtain⟨x,a,b⟩:=gF h0 h1
 rw[y8]at b
 cases e:ws[t.toNat]? with
 | none=>rw[e]at b;cases b
 | some w=>rw[e]at b;cases b;exact⟨w,a,rfl,hw.2.2 w (y4 e)⟩
theorem yU(pl:List Fm):ak (dP pl)=true:=by
 show aj (pl.map dF)=true
 induction pl with
 | nil=>rfl
 | cons y ys ih=>simp only[List.map_cons,aj,ih,eX,Bool.and_true]
theorem qX(rs:List Rd):aj (rs.map dRd)=true:=by
 induction rs with
 | nil=>rfl
 | cons y ys ih=>
   simp only[List.map_cons,aj,ih,Bool.and_true]
   show aj [D.int _,D.int _,dP y.pl]=true
   simp only[aj,yU,Bool.and_true];rfl
theorem ut(x:Dd):ak (dDd x)=true:=by
 show aj [D.int _,dP x.pl,dF x.st,.tup (x.rds.map dRd)]=true
 have:ak (.tup (x.rds.map dRd))=true:=qX x.rds
 simp only[aj,yU,eX,this,Bool.and_true];rfl
theorem wC:(10:Int) ^ (30:Int).toNat=1000000000000000000000000000000:=%[|3]
def Ng(S:Store)(k d:Nat)(ws:%[|1])(t:Int)(pl:List Fm)(st:Fm)(i:Nat)(Γ':Gam)(T:Store):Prop:=∃S2 rds o7 o8 o9 o10,T=S2++[List.map dRd rds]/\aN S k S2/\aJ S2 k/\rds.length=i/\(∀r∈rds,RdB ws d r)/\Γ'=[some (.loc k),some (dWs ws),some (.int d),some (.int t),some (.tup (pl.map dF)),some (dF st),some (.loc S.length),o7,o8,o9,o10]
theorem HD(F:Fun Ω.K "_law_deed" "_law_deed" pK f fd)(N0:Ω.cd=none)(B:Bi Ω.mg)(Cq11:Cal Ω "_law_take" 2 2 dH)(Cq4:Cal Ω "_law_form" 3 3 CG):Ok Ω 4 f fd K7 Ds:=by
 refine az N0 (N:=Kr) F (Bl.drp (Lh B Cq11 Cq4)) (by kernel_rfl!) ?_
 rintro ds S W ⟨k,d,ws,rfl,hp,hS,hd,hws,hw⟩ hl
 obtain⟨hw1,hw2,hw3⟩:=id hws
 walk_at "b"
 have hlen:((ws.map D.int).length:Int)=(ws.length:Int):=by rw[y7]
 refine aM hp (by rw[hlen];omega) (by rw[hlen];omega) λ t S1 t0 t1 u1 p1=>?_
 obtain⟨w,g1,g2,gw1,gw2⟩:=Nq hws t0 t1
 walk_at "n"
 refine⟨_,g1,?_⟩
 walk_at "b"
 refine⟨⟨%[|0],%[|0]⟩,mU (λ _ y=>∃f,y=dF f/\FmB d 1 f) (λ S'=>aN S k S'/\aJ S' k/\flat S') (by rw[au];omega) ⟨u1,p1,u1.flat hS⟩ ?_ ?_⟩
 . rintro i e S' he ⟨u,p,f⟩ R hR
   walk_at "b"
   exact⟨rfl,k,d,1,rfl,p,f,hd,%[|3],%[|3],λ f S4 hf u4 p4 f4=>hR _ _ ⟨f,rfl,hf⟩ ⟨u.trans u4,p4,f4⟩⟩
 rintro ys S2 hyl hys ⟨u2,p2,f2⟩
 obtain⟨pl,rfl,hpl⟩:=qD hys
 rw[au,y7]at hyl
 walk_at "b"
 rw[wC]
 refine aM p2 %[|3] %[|3] λ s S3 s0 s1 u3 p3=>?_
 walk_at "n"
 obtain⟨z,h1,h2⟩:=gF (ds:=[D.int 1,.int 9,.int (1000000000000000000000000000000-1)]) s0 s1
 have hz:=y4 h2
 obtain⟨c,rfl,hc1,hc2⟩:∃c:Int,z=.int c/\1≤c/\c<1000000000000000000000000000000:=by
  simp only[List.mem_cons,List.not_mem_nil,or_false]at hz
  rcases hz with rfl | rfl | rfl<;>exact⟨_,rfl,%[|3],%[|3]⟩
 refine⟨_,h1,?_⟩
 have u3:=u2.trans u3
 walk_at "b"
 refine⟨rfl,k,d,c,rfl,p3,u3.flat hS,hd,hc1,hc2,λ st S4 hst u4 p4 f4=>?_⟩
 have u4:=u3.trans u4
 walk_at "b"
 refine aM (p4.app _) %[|3] %[|3] λ n T n0 n1 u5 p5=>?_
 obtain⟨S5,rfl,u5,p5⟩:=u5.split p4
 have u5:=u4.trans u5
 walk_at "n"
 refine⟨⟨%[|0],%[|0]⟩,aZ ⟨Ng S k d ws t pl st,⟨S5,[],none,none,none,none,rfl,u5,p5,rfl,λ r h=>(by cases h),by rw[←u4.len];rfl⟩,?_,?_⟩⟩
 . rintro i e Γ' T he ⟨S6,rds,o7,o8,o9,o10,rfl,u6,p6,hrl,hrd,rfl⟩
   obtain⟨hi,rfl⟩:=bO he
   suffices body:∀Wf:DL.Fin,(∀G T,Ng S k d ws t pl st (i+1) G T->Wf.nx G T)->(oV B Cq11 Cq4).wp [some (.loc k),some (dWs ws),some (.int d),some (.int t),some (.tup (pl.map dF)),some (dF st),some (.loc S.length),some (.int (0+(i:Int))),o8,o9,o10] (S6++[rds.map dRd]) Wf by
    refine qU ?_
    simp only[List.set_cons_succ,List.set_cons_zero]
    exact body _ λ G T h=>h
   intro Wf hnx
   walk_at "b"
   refine aM (p6.app _) (by rw[hlen];omega) (by rw[hlen];omega) λ o T7 o0 o1 u7 p7=>?_
   obtain⟨S7,rfl,u7,p7⟩:=u7.split p6
   have u7:=u6.trans u7
   obtain⟨w',g1',g2',gw1',gw2'⟩:=Nq hws o0 o1
   walk_at "b"
   refine aM (p7.app _) %[|3] %[|3] λ way T8 w0 w1 u8 p8=>?_
   obtain⟨S8,rfl,u8,p8⟩:=u8.split p7
   have u8:=u7.trans u8
   have rest:∀(c:Int)(S9:Store),aN S k S9->aJ S9 k-> -1000000000000000000000000000000<c->c<1000000000000000000000000000000->(kE B Cq11 Cq4).wp [some (.loc k),some (dWs ws),some (.int d),some (.int t),some (.tup (pl.map dF)),some (dF st),some (.loc S.length),some (.int (0+(i:Int))),some (.int o),some (.int way),some (.int c)] (S9++[rds.map dRd]) Wf:=by
    intro c S9 u9 p9 c1 c2
    walk_at "n"
    refine⟨_,g1',?_⟩
    walk_at "b"
    refine⟨⟨%[|0],%[|0]⟩,mU (λ _ y=>∃f,y=dF f/\FmB d 1 f) (λ T=>∃S',T=S'++[rds.map dRd]/\aN S k S'/\aJ S' k) (by rw[au];omega) ⟨S9,rfl,u9,p9⟩ ?_ ?_⟩
    . rintro j e T he ⟨S',rfl,u,p⟩ R hR
      walk_at "b"
      refine⟨rfl,k,d,1,rfl,p.app _,cg (u.flat hS) (qX _),hd,%[|3],%[|3],λ f S4 hf u4 p4 f4=>?_⟩
      obtain⟨S5,rfl,u5,p5⟩:=u4.split p
      exact hR _ _ ⟨f,rfl,hf⟩ ⟨S5,rfl,u.trans u5,p5⟩
    rintro ys T hyl hys ⟨S10,rfl,u10,p10⟩
    obtain⟨pl',rfl,hpl'⟩:=qD hys
    rw[au,y7]at hyl
    walk_at "b"
    refine⟨_,bI u10.len.symm,by simp;omega,?_⟩
    rw[fj u10.len.symm]
    obtain⟨on,rfl⟩:∃on:Nat,o=(on:Int):=⟨o.toNat,%[|0]⟩
    refine hnx _ _ ⟨S10,rds++[⟨c,on,pl'⟩],some (.int (0+(i:Int))),some (.int on),some (.int way),some (.int c),by rw[v3];rfl,u10,p10,by simp[hrl],λ r hr=>?_,rfl⟩
    rcases ZK.mp hr with hr | hr
    . exact hrd r hr
    . have:r=⟨c,on,pl'⟩:=by simpa using hr
      subst this
      exact⟨c1,c2,w',by simpa using g2',by show(pl'.length:Int)=w';omega,hpl'⟩
   walk_at "n"
   obtain⟨z,h1,h2⟩:=gF (ds:=[D.int 1,.int (-1),.int 2,.int 3,.int 0,.int 1,.int (-5),.int 0]) w0 w1
   have hz:=y4 h2
   obtain⟨c,rfl,hc1,hc2⟩:∃c:Int,z=.int c/\ -1000000000000000000000000000000<c/\c<1000000000000000000000000000000:=by
    simp only[List.mem_cons,List.not_mem_nil,or_false]at hz
    rcases hz with rfl | rfl | rfl | rfl | rfl | rfl | rfl | rfl<;>exact⟨_,rfl,%[|3],%[|3]⟩
   refine⟨(%[|3]:(8:Nat)≤1000000),?_⟩
   walk_at "n"
   refine⟨_,h1,?_⟩
   walk_at "b"
   refine⟨λ q=>?_,λ q=>rest c S8 u8 p8 hc1 hc2⟩
   walk_at "b"
   rw[wC]
   refine aM (p8.app _) %[|3] %[|3] λ v T9 v0 v1 u9 p9=>?_
   obtain⟨S9,rfl,u9,p9⟩:=u9.split p8
   walk_at "b"
   rw[wC]
   exact rest _ S9 (u8.trans u9) p9 %[|0] %[|0]
 . rintro Γ' T ⟨S6,rds,o7,o8,o9,o10,rfl,u6,p6,hrl,hrd,rfl⟩
   rw[au]at hrl
   obtain⟨tn,rfl⟩:∃tn:Nat,t=(tn:Int):=⟨t.toNat,%[|0]⟩
   walk_at "b"
   refine⟨_,bI u6.len.symm,?_⟩
   walk_at "b"
   have ok:DdB ws d ⟨tn,pl,st,rds⟩:=⟨⟨w,by simpa using g2,by show(pl.length:Int)=w;omega,hpl⟩,⟨hst.1,hst.2.1,by have:=hst.2.2;show _<st.1;omega,by have:=hst.2.2;show st.1<_;omega⟩,by show rds.length≤3;omega,hrd⟩
   exact .inr ⟨[_],S6,rfl,by rw[u6.len];exact y9 _,ut ⟨tn,pl,st,rds⟩,u6.flat hS,hw ⟨tn,pl,st,rds⟩ _ ok u6 p6 (u6.flat hS)⟩
def NsB(ws:%[|1])(m:Nat)(n:Ns):Prop:=Lps n.lps/\1≤n.dds.length/\n.dds.length≤4/\(cnt n.lps).length≤max 1 (m/n.dds.length)/\∀x∈n.dds,DdB ws n.lps.length x
def PgB(m:Nat)(p:Pg):Prop:=WsB p.ws/\1≤p.nss.length/\p.nss.length≤3/\∀n∈p.nss,NsB p.ws (m/p.nss.length) n
def Dp:Ct:=λ ds S W=>∃(k m:Nat),ds=[.loc k,.int m]/\aJ S k/\flat S/\12≤m/\m≤60/\∀p S',PgB m p->aN S k S'->aJ S' k->flat S'->W (dPg p) S'
theorem Gb(xs:List Dd):aj (xs.map dDd)=true:=by
 induction xs with
 | nil=>rfl
 | cons y ys ih=>simp only[List.map_cons,aj,ih,ut,Bool.and_true]
theorem Jp(n:Ns):ak (dNs n)=true:=by
 show aj [.tup (n.lps.map dL),.tup (n.dds.map dDd)]=true
 have h1:ak (.tup (n.lps.map dL))=true:=fJ _
 have h2:ak (.tup (n.dds.map dDd))=true:=Gb _
 simp only[aj,h1,h2,Bool.and_true]
theorem km(xs:List Ns):aj (xs.map dNs)=true:=by
 induction xs with
 | nil=>rfl
 | cons y ys ih=>simp only[List.map_cons,aj,ih,Jp,Bool.and_true]
theorem Jz(p:Pg):ak (dPg p)=true:=by
 show aj [dWs p.ws,.tup (p.nss.map dNs)]=true
 have h1:ak (dWs p.ws)=true:=bJ _
 have h2:ak (.tup (p.nss.map dNs))=true:=km _
 simp only[aj,h1,h2,Bool.and_true]
def Nu(S:Store)(k m:Nat)(ws:%[|1])(many:Nat)(i:Nat)(Γ':Gam)(T:Store):Prop:=∃S2 nss o5 o6 o7,T=S2++[List.map dNs nss]/\aN S k S2/\aJ S2 k/\nss.length=i/\(∀n∈nss,NsB ws (m/many) n)/\Γ'=[some (.loc k),some (.int m),some (dWs ws),some (.int many),some (.loc S.length),o5,o6,o7]
theorem wW(F:Fun Ω.K "_law_program" "_law_program" iV f fd)(N0:Ω.cd=none)(B:Bi Ω.mg)(Cq11:Cal Ω "_law_take" 2 2 dH)(Cq5:Cal Ω "_law_loops" 3 2 yQ)(Cq3:Cal Ω "_law_deed" 4 3 Ds):Ok Ω 5 f fd BR Dp:=by
 refine az N0 (N:=Am) F (Bl.drp (Bu B Cq11 Cq5 Cq3)) (by kernel_rfl!) ?_
 rintro ds S W ⟨k,m,rfl,hp,hS,hm1,hm2,hw⟩ hl
 walk_at "b"
 refine aM hp %[|3] %[|3] λ v S1 v0 v1 u1 p1=>?_
 walk_at "b"
 refine⟨⟨%[|0],%[|0]⟩,mU (λ _ y=>∃n:Int,y=.int n/\(1≤n/\n≤2)) (λ S'=>aN S k S'/\aJ S' k) (by rw[au];omega) ⟨u1,p1⟩ ?_ ?_⟩
 . rintro i d S' hd ⟨u,p⟩ R hR
   walk_at "b"
   refine aM p %[|3] %[|3] λ w S2 w0 w1 u2 p2=>?_
   walk_at "b"
   exact hR _ _ ⟨_,rfl,%[|0],%[|0]⟩ ⟨u.trans u2,p2⟩
 rintro ys S2 hyl hys ⟨u2,p2⟩
 obtain⟨ws,rfl,hws⟩:=pF hys
 rw[au,y7]at hyl
 have hW:WsB ws:=⟨%[|0],%[|0],hws⟩
 walk_at "b"
 refine aM p2 %[|3] %[|3] λ mv S3 m0 m1 u3 p3=>?_
 have u3:=u2.trans u3
 obtain⟨many,hmany⟩:∃n:Nat,1+mv=(n:Int):=⟨(1+mv).toNat,%[|0]⟩
 walk_at "b"
 rw[hmany]
 refine⟨⟨%[|0],%[|0]⟩,aZ ⟨Nu S k m ws many,⟨S3,[],none,none,none,rfl,u3,p3,rfl,λ r h=>(by cases h),by rw[←u3.len];rfl⟩,?_,?_⟩⟩
 . rintro i e Γ' T he ⟨S4,nss,o5,o6,o7,rfl,u4,p4,hnl,hns,rfl⟩
   obtain⟨hi,rfl⟩:=bO he
   suffices body:∀Wf:DL.Fin,(∀G T,Nu S k m ws many (i+1) G T->Wf.nx G T)->(jw B Cq11 Cq5 Cq3).wp [some (.loc k),some (.int m),some (dWs ws),some (.int many),some (.loc S.length),some (.int (0+(i:Int))),o6,o7] (S4++[nss.map dNs]) Wf by
    refine qU ?_
    simp only[List.set_cons_succ,List.set_cons_zero]
    exact body _ λ G T h=>h
   intro Wf hnx
   walk_at "b"
   refine aM (p4.app _) %[|3] %[|3] λ dv T5 d0 d1 u5 p5=>?_
   obtain⟨S5,rfl,u5,p5⟩:=u5.split p4
   have u5:=u4.trans u5
   obtain⟨dn,hdn⟩:∃n:Nat,1+dv=(n:Int):=⟨(1+dv).toNat,%[|0]⟩
   walk_at "b"
   rw[hdn]
   have em:(if(m:Int)/(many:Int)/(dn:Int)>1 then(m:Int)/(many:Int)/(dn:Int)else 1)=((max 1 (m/many/dn):Nat):Int):=by
    rw[←Int.natCast_ediv,←Int.natCast_ediv]
    split<;>omega
   have hdiv:m/many/dn≤60:=Nat.le_trans (Nat.div_le_self _ _) (Nat.le_trans (Nat.div_le_self _ _) hm2)
   rw[em]
   refine⟨rfl,k,max 1 (m/many/dn),rfl,p5.app _,cg (u5.flat hS) (km _),%[|0],%[|0],λ ls T6 hls hcn u6 p6 f6=>?_⟩
   obtain⟨S6,rfl,u6,p6⟩:=u6.split p5
   have u6:=u5.trans u6
   walk_at "b"
   have l3:=hls.2.1
   refine⟨⟨%[|0],%[|0]⟩,mU (λ _ y=>∃x,y=dDd x/\DdB ws ls.length x) (λ T=>∃S',T=S'++[nss.map dNs]/\aN S k S'/\aJ S' k) (by rw[au];omega) ⟨S6,rfl,u6,p6⟩ ?_ ?_⟩
   . rintro j e T he ⟨S',rfl,u,p⟩ R hR
     walk_at "b"
     rw[y7]
     refine⟨rfl,k,ls.length,ws,rfl,p.app _,cg (u.flat hS) (km _),%[|0],hW,λ f S4 hf u4 p4 f4=>?_⟩
     obtain⟨S5,rfl,u5,p5⟩:=u4.split p
     exact hR _ _ ⟨f,rfl,hf⟩ ⟨S5,rfl,u.trans u5,p5⟩
   rintro ys T hyl hys ⟨S7,rfl,u7,p7⟩
   obtain⟨dds,rfl,hdds⟩:=qD hys
   rw[au,y7]at hyl
   walk_at "b"
   refine⟨_,bI u7.len.symm,by simp;omega,?_⟩
   rw[fj u7.len.symm]
   refine hnx _ _ ⟨S7,nss++[⟨ls,dds⟩],some (.int (0+(i:Int))),some (.int dn),some (.tup (ls.map dL)),by rw[v3];rfl,u7,p7,by simp[hnl],λ r hr=>?_,rfl⟩
   rcases ZK.mp hr with hr | hr
   . exact hns r hr
   . have:r=⟨ls,dds⟩:=by simpa using hr
     subst this
     have e:dds.length=dn:=%[|0]
     exact⟨hls,by show 1≤dds.length;omega,by show dds.length≤4;omega,by show _≤max 1 (m/many/dds.length);rw[e];exact hcn,hdds⟩
 . rintro Γ' T ⟨S4,nss,o5,o6,o7,rfl,u4,p4,hnl,hns,rfl⟩
   rw[au]at hnl
   walk_at "b"
   refine⟨_,bI u4.len.symm,?_⟩
   walk_at "b"
   have ok:PgB m ⟨ws,nss⟩:=⟨hW,by show 1≤nss.length;omega,by show nss.length≤3;omega,λ n hn=>by
    show NsB ws (m/nss.length) n
    rw[show nss.length=many by omega]
    exact hns n hn⟩
   exact .inr ⟨[_],S4,rfl,by rw[u4.len];exact y9 _,Jz ⟨ws,nss⟩,u4.flat hS,hw ⟨ws,nss⟩ _ ok u4 p4 (u4.flat hS)⟩
def wy:Ct:=λ ds S W=>∃(f:Fm) (cs:%[|1]),ds=[dF f,dC cs]/\f.2.length=cs.length/\cs.length≤10/\C64 cs/\W (.int (atC f cs)) S
def rn(fs cs:%[|1]):D->D
 | .int i=>.int (fs.getD i.toNat 0*cs.getD i.toNat 0)
 | d=>d
theorem JD{fs:%[|1]}(h:fs.length=cs.length):(DL.upTo 0 cs.length).map (rn fs cs)=(List.zipWith (λ a b=>a*b) fs cs).map D.int:=by
 refine List.ext_getElem (by simp[h,au]) λ i h1 h2=>?_
 have hi:i<cs.length:=by simpa[au]using h1
 have hf:i<fs.length:=%[|0]
 simp[DL.upTo,rn,List.getD,hi,hf]
theorem N8(F:Fun Ω.K "_law_at" "_law_at" zY f fd)(N0:Ω.cd=none)(B:Bi Ω.mg):Ok Ω 1 f fd R7 wy:=by
 refine az N0 (N:=Tv) F (Td B) (by kernel_rfl!) ?_
 rintro ds S W ⟨⟨a,fs⟩,cs,rfl,hf,hz,hc,hw⟩ hl
 dsimp only at hf
 walk_at "b"
 refine⟨_,bA (j:=0) rfl,?_⟩
 walk_at "b"
 have e0:((cs.map D.int).length:Int).toNat=cs.length:=by simp
 refine⟨⟨%[|0],by simp;omega⟩,?_⟩
 rw[e0]
 refine du (rn fs cs) (by rw[au];omega) ?_ ?_
 . intro i e he Q hq
   obtain⟨hi,rfl⟩:=bO he
   have hf':i<fs.length:=%[|0]
   have g1:atI (D.int a::fs.map D.int) (1+(0+(i:Int)))=some (.int fs[i]):=by
    have:(1+(0+(i:Int)))=((i+1:Nat):Int):=%[|0]
    rw[this]
    exact bA (by simp[hf'])
   have g2:atI (cs.map D.int) (0+(i:Int))=some (.int cs[i]):=by
    have:(0+(i:Int))=((i:Nat):Int):=%[|0]
    rw[this]
    exact bA (by simp[hi])
   have hci:=hc cs[i] (List.getElem_mem _)
   walk_at "b"
   refine⟨_,g1,?_⟩
   walk_at "b"
   refine⟨_,g2,?_⟩
   walk_at "b"
   have e:rn fs cs (.int (0+(i:Int)))=.int (fs[i]*cs[i]):=by
    have:(0+(i:Int)).toNat=i:=%[|0]
    simp[rn,List.getD,hi,hf']
   rw[e]at hq
   exact hq
 . rw[JD hf]
   refine⟨_,rfl,?_⟩
   walk_at "b"
   exact hw
def CV:Ct:=λ ds S W=>∃(t:Nat) (pl:List Fm) (cs:%[|1]),ds=[.int t,dP pl,dC cs]/\pl.length≤1000/\(∀f∈pl,f.2.length=cs.length)/\cs.length≤10/\C64 cs/\W (aq (spot t pl cs)) S
theorem IW(F:Fun Ω.K "_law_spot" "_law_spot" pY f fd)(N0:Ω.cd=none)(B:Bi Ω.mg)(Cq0:Cal Ω "_law_at" 1 2 wy):Ok Ω 2 f fd J0 CV:=by
 refine az N0 (N:=JV) F (K1 B Cq0) (by kernel_rfl!) ?_
 rintro ds S W ⟨t,pl,cs,rfl,hpl,hfl,hcl,hcs,hw⟩ hl
 walk_at "b"
 refine gP (λ f=>.int (atC f cs)) %[|0] ?_ ?_
 . intro i f hf Q hq
   walk_at "b"
   exact⟨rfl,f,cs,rfl,hfl f (y4 hf),hcl,hcs,hq⟩
 . walk_at "b"
   have e:(spot t pl cs).2.map D.int=pl.map λ f=>D.int (atC f cs):=by unfold spot;rw[List.map_map];rfl
   unfold aq at hw
   rw[e]at hw
   exact hw
theorem Cs.c64(h:Cs i cs):C64 cs:=λ c hc=>by
 have:=h.2 c hc
 have:=qp i
 omega
def G9:Ct:=λ ds S W=>∃ls,ds=[.tup (List.map dL ls)]/\Lps ls/\flat S/\W (.lst ((cnt ls).map dC)) S
theorem xr{ds:List D}{o:Option D}(h:nlO o):t7 k ds o=o:=by
 cases o with
 | none=>rfl
 | some d=>
   cases d with
   | loc j=>have:=h _ rfl;simp[ak]at this
   | _=>rfl
theorem Kf(cs:%[|1]):ak (dC cs)=true:=bJ cs
theorem Cg(F:Fun Ω.K "_law_counts" "_law_counts" j5 f fd)(N0:Ω.cd=none)(B:Bi Ω.mg)(Cq0:Cal Ω "_law_at" 1 2 wy):Ok Ω 2 f fd GK G9:=by
 refine az N0 (N:=Ek) F (Gd B Cq0) (by kernel_rfl!) ?_
 rintro ds S W ⟨ls,rfl,hL,hS,hw⟩ hl
 walk_at "b"
 refine aZ ⟨λ i Γ' S'=>(∃o2 o3 o4 o5 o6,Γ'=[some (.tup (ls.map dL)),some (.lst ((cnt (ls.take i)).map dC)),o2,o3,o4,o5,o6]/\nlO o5/\nlO o6)/\S'=S,⟨⟨_,_,_,_,_,rfl,cH,cH⟩,rfl⟩,?_,?_⟩
 . rintro i e Γ' S' he ⟨⟨o2,o3,o4,o5,o6,rfl,n5,n6⟩,rfl⟩
   rw[y8]at he
   cases e1:ls[i]? with
   | none=>rw[e1]at he;cases he
   | some l=>
     rw[e1]at he
     cases he
     have hi:=(z0.mp e1).1
     have h3:=hL.2.1
     obtain⟨lo,hi_⟩:=l
     obtain⟨b1,b2⟩:=hL.2.2 i _ e1
     dsimp only at b1 b2
     have hcs:=jA hL i %[|0]
     have hln:=(hL.fits.2 (i+1) %[|0]).1
     have hgo:=jN e1
     rw[hgo]at hln
     dsimp only at hgo hln
     generalize hG:cnt (ls.take i)=G at*
     walk_at "b"
     refine⟨rfl,?_⟩
     walk_at "b"
     refine aZ ⟨λ m Γ' T=>(∃o5 o6,Γ'=[some (.tup (ls.map dL)),some (.lst (G.map dC)),some (dF lo),some (dF hi_),some (.loc S'.length),o5,o6]/\nlO o5/\nlO o6)/\T=S'++[(aO lo hi_ (G.take m)).map dC],⟨⟨_,_,rfl,n5,n6⟩,rfl⟩,?_,?_⟩
     . rintro m e Γ' T he ⟨⟨o5,o6,rfl,n5,n6⟩,rfl⟩
       obtain⟨cs,e2,rfl⟩:=bH he
       have hc:=hcs cs (y4 e2)
       have hb:=qp (i+1)
       have a1:=jl %[|0] b1 hc
       have a2:=jl %[|0] b2 hc
       have lf:=zE (lo:=lo) (hi:=hi_) e2
       walk_at "b"
       refine⟨rfl,lo,cs,rfl,by rw[b1.1,hc.1],by rw[hc.1];omega,hc.c64,?_⟩
       walk_at "b"
       refine⟨rfl,hi_,cs,rfl,by rw[b2.1,hc.1],by rw[hc.1];omega,hc.c64,?_⟩
       walk_at "b"
       refine⟨⟨%[|0],%[|0],%[|0],%[|0]⟩,aZ ⟨λ j Γ' T=>(∃o6,Γ'=[some (.tup (ls.map dL)),some (.lst (G.map dC)),some (dF lo),some (dF hi_),some (.loc S'.length),some (dC cs),o6]/\nlO o6)/\T=S'++[(aO lo hi_ (G.take m)++(bx lo hi_ cs).take j).map dC],⟨⟨_,rfl,n6⟩,by simp⟩,?_,?_⟩⟩
       . rintro j e Γ' T he ⟨⟨o6,rfl,n6⟩,rfl⟩
         obtain⟨hj,rfl⟩:=bO he
         have hj':j<(bx lo hi_ cs).length:=by rw[cF];exact hj
         walk_at "b"
         refine⟨by rw[y7,hc.1,List.length_singleton];omega,_,aX _ _,by rw[y7,x6,List.length_take];omega,?_⟩
         refine⟨⟨_,rfl,jt _⟩,?_⟩
         rw[bN]
         have e3:(bx lo hi_ cs)[j]? =some (cs++[atC lo cs+(j:Int)]):=by
          unfold bx
          rw[y8,Dy (by rw[cF]at hj';exact hj')];rfl
         have e4:dC (cs++[atC lo cs+(j:Int)])=D.tup (cs.map D.int++[D.int (atC lo cs+(j:Int))]):=by
          unfold dC;rw[v3];rfl
         rw[aC e3,←List.append_assoc,v3 (l₂:=[_]),List.map_singleton,e4]
       . rintro Γ' T ⟨⟨o6,rfl,n6⟩,rfl⟩
         refine⟨⟨_,_,rfl,λ d h=>by cases h;exact Kf cs,n6⟩,?_⟩
         have e5:(bx lo hi_ cs).take (DL.upTo (atC lo cs) (atC hi_ cs-atC lo cs).toNat).length=bx lo hi_ cs:=by
          rw[au];exact List.take_of_length_le (by rw[cF];exact y9 _)
         rw[e5,gD e2]
     . rintro Γ' T ⟨⟨o5,o6,rfl,n5,n6⟩,rfl⟩
       rw[y7,List.take_length,←hgo]
       walk_at "b"
       refine .inr ⟨_,_,rfl,y9 _,mG _,hS,?_,⟨some (dF lo),some (dF hi_),some (.lst ((cnt (ls.take (i+1))).map dC)),o5,o6,?_,n5,n6⟩,rfl⟩
       . intro x d hx
         match x,hx with
         | 0,hx=>cases hx;exact .inl (fJ _)
         | 1,hx=>cases hx;exact .inr ⟨_,rfl⟩
         | 2,hx=>cases hx;exact .inl (eX _)
         | 3,hx=>cases hx;exact .inl (eX _)
         | 4,hx=>cases hx;exact .inr ⟨_,rfl⟩
         | 5,hx=>exact .inl (n5 d (by simpa using hx))
         | 6,hx=>exact .inl (n6 d (by simpa using hx))
         | x+7,hx=>simp at hx
       . show[_,_,_,_,_,_,_]=[_,_,_,_,_,_,_]
         rw[xr n5,xr n6]
         simp[t7,dF]
 . rintro Γ' S' ⟨⟨o2,o3,o4,o5,o6,rfl,n5,n6⟩,rfl⟩
   rw[y7,List.take_length]
   walk_at "b"
   exact hw
def dPt(cs:%[|1])(r:Rd):D:=.tup [.int r.fac,aq (spot r.tab r.pl cs)]
def dj(cs:%[|1])(x:Dd):D:=.tup [aq (spot x.tab x.pl cs),.int (atC x.st cs),.lst (x.rds.map (dPt cs))]
def pO(n:Ns):List D:=(cnt n.lps).flatMap λ cs=>n.dds.map (dj cs)
def Ga(p:Pg):List D:=p.nss.flatMap pO
def zQ:Ct:=λ ds S W=>∃(p:Pg) (m:Nat),ds=[dPg p]/\PgB m p/\m≤60/\flat S/\hand W (Ga p) S
theorem qm{α β:Type}{f:α->List β}{b:Nat}:∀{l:List α},(∀a∈l,(f a).length≤b)->(l.flatMap f).length≤l.length*b
 | [],_=>by simp
 | a::l,h=>by
   have ih:=qm (l:=l) λ x hx=>h x (x3 _ hx)
   have:=h a x5
   rw[List.flatMap_cons,x6,List.length_cons,Nat.succ_mul]
   omega
theorem iG(c:Cell):ak (aq c)=true:=by
 have h:ak (.tup (c.2.map D.int))=true:=bJ _
 show aj [D.int _,.tup (c.2.map D.int)]=true
 simp only[aj,h,Bool.and_true];rfl
theorem jK{α:Type}{f:α->D}(h:∀a,ak (f a)=true):∀l:List α,aj (l.map f)=true
 | []=>rfl
 | a::l=>by simp only[List.map_cons,aj,h,jK h l,Bool.and_true]
theorem Ho(cs:%[|1])(r:Rd):ak (dPt cs r)=true:=by
 show aj [D.int _,aq _]=true
 simp only[aj,iG,Bool.and_true];rfl
theorem rG(cs:%[|1])(x:Dd):ak (dj cs x)=true:=by
 have h:ak (.lst (x.rds.map (dPt cs)))=true:=jK (Ho cs) _
 show aj [aq _,D.int _,.lst (x.rds.map (dPt cs))]=true
 simp only[aj,iG,h,Bool.and_true];rfl
theorem jR:∀{l:List D},(∀d∈l,ak d=true)->aj l=true
 | [],_=>rfl
 | d::l,h=>by simp only[aj,h d x5,jR λ x hx=>h x (x3 _ hx),Bool.and_true]
theorem Aj(p:Pg):aj (Ga p)=true:=jR λ d hd=>by
 obtain⟨n,_,hd⟩:=List.mem_flatMap.mp hd
 obtain⟨cs,_,hd⟩:=List.mem_flatMap.mp hd
 obtain⟨x,_,rfl⟩:=ZO.mp hd
 exact rG cs x
theorem Cw{α β:Type}{f:α->List β}{l:List α}{a:α}(h:l[i]? =some a):(l.take (i+1)).flatMap f=(l.take i).flatMap f++f a:=by
 rw[aC h,List.flatMap_append];simp
theorem FW(F:Fun Ω.K "_law_steps" "_law_steps" mj f fd)(N0:Ω.cd=none)(Cq0:Cal Ω "_law_at" 1 2 wy)(Cq2:Cal Ω "_law_counts" 2 1 G9)(Cq9:Cal Ω "_law_spot" 2 3 CV):Ok Ω 3 f fd JL zQ:=by
 refine az N0 (N:=HN) F (Bl.frz (Ja Cq0 Cq2 Cq9)) (by kernel_rfl!) ?_
 rintro ds S W ⟨p,m,rfl,hP,hm,hS,hw⟩ hl
 obtain⟨hW,hn1,hn3,hns⟩:=hP
 have big:∀n∈p.nss,(cnt n.lps).length≤60/\n.dds.length≤4:=λ n hn=>by
  obtain⟨_,_,h4,hc,_⟩:=hns n hn
  have h1:m/p.nss.length/n.dds.length≤60:=Nat.le_trans (Nat.div_le_self _ _) (Nat.le_trans (Nat.div_le_self _ _) hm)
  exact⟨%[|0],h4⟩
 have b1:∀(n:Ns)(j:Nat),n∈p.nss->(((cnt n.lps).take j).flatMap λ cs=>n.dds.map (dj cs)).length≤240:=λ n j hn=>by
  obtain⟨h1,h2⟩:=big n hn
  have:=qm (l:=(cnt n.lps).take j) (f:=λ cs=>n.dds.map (dj cs)) (b:=4) (λ cs _=>by rw[y7];exact h2)
  rw[List.length_take]at this
  omega
 have b2:∀i:Nat,((p.nss.take i).flatMap pO).length≤720:=λ i=>by
  have:=qm (l:=p.nss.take i) (f:=pO) (b:=240) (λ n hn=>by
   have:=b1 n (cnt n.lps).length (List.mem_of_mem_take hn)
   rw[List.take_length]at this
   exact this)
  rw[List.length_take]at this
  omega
 walk_at "b"
 refine aZ ⟨λ i Γ' S'=>(∃o2 o3 o4 o5 o6 o7 o8 o9,Γ'=[some (dPg p),some (.loc S.length),o2,o3,o4,o5,o6,o7,o8,o9])/\S'=S++[(p.nss.take i).flatMap pO],⟨⟨_,_,_,_,_,_,_,_,rfl⟩,rfl⟩,?_,?_⟩
 . rintro i e Γ' S' he ⟨⟨o2,o3,o4,o5,o6,o7,o8,o9,rfl⟩,rfl⟩
   obtain⟨n,hn,rfl⟩:=bH he
   have hnm:=y4 hn
   obtain⟨hL,d1,d4,hc,hdd⟩:=hns n hnm
   obtain⟨g1,g2⟩:=big n hnm
   have gb:=b2 i
   walk_at "b"
   refine⟨rfl,?_⟩
   walk_at "b"
   refine⟨rfl,n.lps,rfl,hL,cg hS ?_,?_⟩
   . exact jR λ d hd=>by
      obtain⟨n,_,hd⟩:=List.mem_flatMap.mp hd
      obtain⟨cs,_,hd⟩:=List.mem_flatMap.mp hd
      obtain⟨x,_,rfl⟩:=ZO.mp hd
      exact rG cs x
   walk_at "n"
   refine aZ ⟨λ j Γ' S'=>(∃o4 o5 o6 o7 o8 o9,Γ'=[some (dPg p),some (.loc S.length),some (.tup (n.lps.map dL)),some (.tup (n.dds.map dDd)),o4,o5,o6,o7,o8,o9])/\S'=S++[(p.nss.take i).flatMap pO++((cnt n.lps).take j).flatMap λ cs=>n.dds.map (dj cs)],⟨⟨_,_,_,_,_,_,rfl⟩,by simp⟩,?_,?_⟩
   . rintro j e Γ' S' he ⟨⟨o4,o5,o6,o7,o8,o9,rfl⟩,rfl⟩
     obtain⟨cs,hcs,rfl⟩:=bH he
     have hC:Cs n.lps.length cs:=jA hL n.lps.length (y9 _) cs (by rw[List.take_length];exact y4 hcs)
     have hcl:cs.length≤10:=by have:=hC.1;have:=hL.2.1;omega
     have gj:=b1 n j hnm
     walk_at "b"
     refine aZ ⟨λ t Γ' S'=>(∃o5 o6 o7 o8 o9,Γ'=[some (dPg p),some (.loc S.length),some (.tup (n.lps.map dL)),some (.tup (n.dds.map dDd)),some (dC cs),o5,o6,o7,o8,o9])/\S'=S++[((p.nss.take i).flatMap pO++((cnt n.lps).take j).flatMap λ cs=>n.dds.map (dj cs))++(n.dds.take t).map (dj cs)],⟨⟨_,_,_,_,_,rfl⟩,by simp⟩,?_,?_⟩
     . rintro t e Γ' S' he ⟨⟨o5,o6,o7,o8,o9,rfl⟩,rfl⟩
       obtain⟨x,hx,rfl⟩:=bH he
       obtain⟨⟨w,_,hwl,hpl⟩,hst,hr3,hrd⟩:=hdd x (y4 hx)
       have plen:∀{t:Nat}{pl:List Fm},TpB p.ws n.lps.length t pl->pl.length≤1000/\∀f∈pl,f.2.length=cs.length:=λ{t pl} h=>by
        obtain⟨w,hw,hl,hf⟩:=h
        have:=hW.2.2 w (y4 hw)
        exact⟨%[|0],λ f h=>by rw[(hf f h).1,hC.1]⟩
       walk_at "b"
       refine⟨rfl,?_⟩
       walk_at "b"
       refine gP (dPt cs) %[|0] ?_ ?_
       . intro y r hr Q hq
         obtain⟨_,_,htp⟩:=hrd r (y4 hr)
         obtain⟨q1,q2⟩:=plen htp
         walk_at "b"
         refine⟨rfl,?_⟩
         walk_at "b"
         refine⟨rfl,r.tab,r.pl,cs,rfl,q1,q2,hcl,hC.c64,?_⟩
         walk_at "b"
         exact hq
       obtain⟨q1,q2⟩:=plen ⟨w,‹_›,hwl,hpl⟩
       walk_at "b"
       refine⟨rfl,x.tab,x.pl,cs,rfl,q1,q2,hcl,hC.c64,?_⟩
       walk_at "b"
       refine⟨rfl,x.st,cs,rfl,by rw[hst.1,hC.1],hcl,hC.c64,?_⟩
       walk_at "b"
       refine⟨_,aX _ _,by simp only[x6,y7,List.length_take];omega,?_⟩
       rw[bN]
       refine⟨⟨_,_,_,_,_,rfl⟩,?_⟩
       rw[aC hx,v3 (l₂:=[_]),List.append_assoc];rfl
     . rintro Γ' S' ⟨⟨o5,o6,o7,o8,o9,rfl⟩,rfl⟩
       refine⟨⟨_,_,_,_,_,_,rfl⟩,?_⟩
       rw[y7,List.take_length,Cw hcs,←List.append_assoc]
   . rintro Γ' S' ⟨⟨o4,o5,o6,o7,o8,o9,rfl⟩,rfl⟩
     refine⟨⟨_,_,_,_,_,_,_,_,rfl⟩,?_⟩
     rw[y7,List.take_length,Cw hn];rfl
 . rintro Γ' S' ⟨⟨o2,o3,o4,o5,o6,o7,o8,o9,rfl⟩,rfl⟩
   rw[y7,List.take_length]
   exact qe hw (Aj p) hS
theorem all_map{α:Type}{enc:α->D}{q:D->Bool}{l:List α}(h:∀a∈l,q (enc a)=true):(l.map enc).all q=true:=by
 rw[List.all_eq_true]
 intro x hx
 obtain⟨a,ha,rfl⟩:=ZO.mp hx
 exact h a ha
theorem fG{α:Type}{enc:α->D}{l:List α}(h1:a≤(l.length:Int))(h2:(l.length:Int)≤b):bB (.tup (l.map enc)) a b=true:=by
 show(decide _&&decide _)=true
 rw[y7,ZG h1,ZG h2];rfl
theorem rP{f:Fm}{d:Nat}(h:f.2.length=d):cI (dF f) (d:Int)=true:=by
 show(decide _&&((f.1::f.2).map D.int).all whole)=true
 rw[ZG (by simp;omega),all_map (λ _ _=>rfl)];rfl
theorem yr{n:Int}(h1:a≤n)(h2:n≤b):jV a b (.int n)=true:=by
 show(decide _&&decide _)=true
 rw[ZG h1,ZG h2];rfl
theorem Ku{f:Fm}{d:Nat}(h:FmB d 1 f):isPlace (d:Int) (dF f)=true:=by
 obtain⟨h1,h2,h3⟩:=h
 show(cI (dF f) (d:Int)&&((f.1::f.2).map D.int).all (jV (-99) 99))=true
 rw[rP h1,all_map λ n hn=>?_]
 . rfl
 . rcases ZJ.mp hn with rfl | hn
   . exact yr %[|0] %[|0]
   . exact yr (h2 n hn).1 (h2 n hn).2
theorem zr{n:Int}(h1: -1000000000000000000000000000000<n)(h2:n<1000000000000000000000000000000):pA n=true:=by
 unfold pA
 rw[wC]
 exact ZG (by split<;>omega)
theorem KN{f:Fm}{d:Nat}(h:StB d f):isStart (dF f) (d:Int)=true:=by
 obtain⟨h1,h2,h3,h4⟩:=h
 show(cI (dF f) (d:Int)&&((f.1::f.2).map D.int).all rR)=true
 rw[rP h1,all_map λ n hn=>?_]
 . rfl
 . rcases ZJ.mp hn with rfl | hn
   . exact zr h3 h4
   . have:=h2 n hn
     exact zr %[|0] %[|0]
theorem Np{d:Nat}{pl:List Fm}(h:TpB ws d t pl):iZ (.int t) (dP pl) ws (d:Int)=true:=by
 obtain⟨w,hw,hl,hf⟩:=h
 have ht:=(z0.mp hw).1
 have e:ws.getD ((t:Int)).toNat 0=w:=by simp[List.getD,hw]
 show((decide _&&decide _)&&(bB (.tup (pl.map dF)) (ws.getD ((t:Int)).toNat 0) (ws.getD ((t:Int)).toNat 0)&&(pl.map dF).all (isPlace d)))=true
 rw[e,ZG (p:=(0:Int)≤t) %[|0],ZG (p:=(t:Int)<ws.length) %[|0],fG %[|0] %[|0],all_map λ f hf'=>Ku (hf f hf')];rfl
theorem Qd{d:Nat}{x:Dd}(h:DdB ws d x):dX ws (d:Int) (dDd x)=true:=by
 obtain⟨h1,h2,h3,h4⟩:=h
 show(iZ (.int x.tab) (dP x.pl) ws d&&(isStart (dF x.st) d&&(bB (.tup (x.rds.map dRd)) 0 3&&(x.rds.map dRd).all (jq ws d))))=true
 rw[Np h1,KN h2,fG %[|0] %[|0],all_map λ r hr=>?_]
 . rfl
 . obtain⟨a,b,c⟩:=h4 r hr
   show(pA r.fac&&iZ (.int r.tab) (dP r.pl) ws d)=true
   rw[zr a b,Np c];rfl
theorem zz{f:Fm}(h:BdF f i):bY (dF f) (i:Int)=true:=by
 obtain⟨h1,h2,h3,h4⟩:=h
 show(cI (dF f) (i:Int)&&(decide _&&(decide _&&(f.2.map D.int).all small)))=true
 rw[rP h1,ZG h2,ZG h3,all_map λ n hn=>?_]
 . rfl
 . have:=h4 n hn
   show(decide _&&decide _)=true
   rw[ZG this.1,ZG this.2];rfl
theorem Ms{ls:List Lp}(h:Lps ls):eF (.tup (ls.map dL))=true:=by
 obtain⟨h1,h2,h3⟩:=h
 show((decide _&&decide _)&&((ls.map dL).mapIdx λ i d=>gA d i).all id)=true
 rw[y7,ZG %[|0],ZG %[|0],List.all_eq_true.mpr λ b hb=>?_]
 . rfl
 . obtain⟨i,hi⟩:=ZR hb
   rw[List.getElem?_mapIdx,y8]at hi
   cases e:ls[i]? with
   | none=>rw[e]at hi;cases hi
   | some l=>
     rw[e]at hi
     cases hi
     show(bY (dF l.1) i&&bY (dF l.2) i)=true
     rw[zz (h3 i l e).1,zz (h3 i l e).2];rfl
theorem QQ{n:Ns}(h:NsB ws m n):ik ws (dNs n)=true:=by
 obtain⟨h1,h2,h3,h4,h5⟩:=h
 show(eF (.tup (n.lps.map dL))&&(bB (.tup (n.dds.map dDd)) 1 4&&(n.dds.map dDd).all (dX ws ((n.lps.map dL).length:Int))))=true
 rw[Ms h1,fG %[|0] %[|0],y7,all_map λ x hx=>Qd (h5 x hx)];rfl
theorem PgB.widths{p:Pg}(h:PgB m p):gM (dWs p.ws)=true:=by
 obtain⟨⟨h1,h2,h3⟩,_⟩:=h
 show(bB (.tup (p.ws.map D.int)) 1 3&&(p.ws.map D.int).all (jV 1 2))=true
 rw[fG %[|0] %[|0],all_map λ w hw=>yr (h3 w hw).1 (h3 w hw).2];rfl
theorem PgB.nests{p:Pg}(h:PgB m p):mY (.tup (p.nss.map dNs)) p.ws=true:=by
 obtain⟨_,h1,h2,h3⟩:=h
 show(bB (.tup (p.nss.map dNs)) 1 3&&(p.nss.map dNs).all (ik p.ws))=true
 rw[fG %[|0] %[|0],all_map λ n hn=>QQ (h3 n hn)];rfl
theorem PgB.ok{p:Pg}(h:PgB m p):∀n∈p.nss,lN n:=λ n hn=>by
 obtain⟨h1,h2,h3,_⟩:=h.2.2.2 n hn
 exact⟨h1.1,h1.fits,%[|0]⟩
theorem Tj{l:%[|1]}(h:∀x∈l,x≤b):l.sum≤(l.length:Int)*b:=by
 induction l with
 | nil=>simp
 | cons x l ih=>
   have:=ih λ y hy=>h y (x3 _ hy)
   have:=h x x5
   rw[List.sum_cons,List.length_cons,Int.natCast_add,Int.add_mul]
   omega
theorem PgB.many{p:Pg}(h:PgB m p)(hm:12≤m):many p.nss≤m:=by
 obtain⟨_,h1,h2,h3⟩:=h
 have h4:4≤m/p.nss.length:=by
  rw[Nat.le_div_iff_mul_le %[|0]];omega
 have one:∀n∈p.nss,((cnt n.lps).length:Int)*(n.dds.length:Int)≤((m/p.nss.length:Nat):Int):=λ n hn=>by
  obtain⟨_,d1,d4,hc,_⟩:=h3 n hn
  have h5:1≤m/p.nss.length/n.dds.length:=by
   rw[Nat.le_div_iff_mul_le %[|0]];omega
  have h6:(cnt n.lps).length*n.dds.length≤m/p.nss.length:=by
   have h7:(cnt n.lps).length≤m/p.nss.length/n.dds.length:=%[|0]
   exact Nat.le_trans (Nat.mul_le_mul_right _ h7) (Nat.div_mul_le_self _ _)
  rw[←Int.natCast_mul]
  exact Int.ofNat_le.mpr h6
 show(p.nss.map λ n=>((cnt n.lps).length:Int)*(n.dds.length:Int)).sum≤_
 have:=Tj (l:=p.nss.map λ n=>((cnt n.lps).length:Int)*(n.dds.length:Int)) (b:=((m/p.nss.length:Nat):Int)) (λ x hx=>by
  obtain⟨n,hn,rfl⟩:=ZO.mp hx
  exact one n hn)
 rw[y7]at this
 have h8:p.nss.length*(m/p.nss.length)≤m:=Nat.mul_div_le _ _
 have h9:(p.nss.length:Int)*((m/p.nss.length:Nat):Int)≤(m:Int):=by rw[←Int.natCast_mul];exact Int.ofNat_le.mpr h8
 omega
theorem Lk{p:Pg}(h:PgB m p)(h12:12≤m)(h60:m≤60)(hS:flat S)(w:W (dPg p) S):xU [dWs p.ws,.tup (p.nss.map dNs)] S W:=
 ⟨p,rfl,h.widths,h.nests,by have:=h.2.2.1;omega,h.ok,by have:=h.many h12;omega,hS,w⟩
theorem uQ{nss:List Ns}{s:Stp}(h:s∈aD nss):∃n,nss[s.1]? =some n/\s.2.1∈cnt n.lps/\s.2.2<n.dds.length:=by
 unfold aD at h
 obtain⟨l,hl,hs⟩:=List.mem_flatten.mp h
 obtain⟨i,hi,rfl⟩:=List.mem_mapIdx.mp hl
 unfold cB at hs
 obtain⟨cs,hcs,hs⟩:=List.mem_flatMap.mp hs
 obtain⟨t,ht,rfl⟩:=ZO.mp hs
 exact⟨nss[i],y3 hi,hcs,List.mem_range.mp ht⟩
def dJ(p:Pg)(s:Stp):D:=match p.nss[s.1]? with
 | some n=>(match n.dds[s.2.2]? with | some x=>dCs x s.2.1 | none=>.non)
 | none=>.non
def iD:Ct:=λ ds S W=>∃p:Pg,ds=[dPg p]/\p.nss.length≤1000/\(∀n∈p.nss,lN n/\∀x∈n.dds,MJ x)/\(aD p.nss).length≤1000000/\flat S/\W (.lst ((aD p.nss).map (dJ p))) S
theorem lN.c64{n:Ns}(h:lN n){cs:%[|1]}(hc:cs∈cnt n.lps):C64 cs:=λ c hcc=>by
 have:=((h.2.1.2 n.lps.length (y9 _)).2 cs (by rw[List.take_length];exact hc)).2 c hcc
 omega
theorem vC(F:Fun Ω.K "cells_of" "cells_of" gW f fd)(N0:Ω.cd=none)(Cq39:Cal Ω "steps_of" 4 1 nG)(Cq15:Cal Ω "cells_of_step" 3 2 oX):Ok Ω 5 f fd yH iD:=by
 refine az N0 (N:=yV) F (wZ Cq39 Cq15) (by kernel_rfl!) ?_
 rintro ds S W ⟨p,rfl,hz,hok,hlen,hS,hw⟩ hl
 walk_at "b"
 refine⟨rfl,p,rfl,hz,λ n hn=>(hok n hn).1,hlen,hS,.inl ?_⟩
 walk_at "n"
 refine gP (dJ p) hlen ?_ hw
 intro i s hs Q hq
 obtain⟨n,h1,h2,h3⟩:=uQ (y4 hs)
 obtain⟨ok,dd⟩:=hok n (y4 h1)
 have e:n.dds[s.2.2]? =some n.dds[s.2.2]:=y3 h3
 have ec:dJ p s=dCs n.dds[s.2.2] s.2.1:=by
  unfold dJ
  rw[h1]
  show(match n.dds[s.2.2]? with | some x=>dCs x s.2.1 | none=>D.non)=_
  rw[e]
 rw[ec]at hq
 walk_at "b"
 exact⟨rfl,p,s,n,n.dds[s.2.2],rfl,h1,e,dd _ (List.getElem_mem _),ok.c64 h2,hq⟩
theorem TpB.pl{d:Nat}{pl:List Fm}(hW:WsB ws)(hd:d≤3)(h:TpB ws d t pl):Gw pl:=by
 obtain⟨w,hw,hl,hf⟩:=h
 have:=hW.2.2 w (y4 hw)
 exact⟨%[|0],λ f hf'=>by rw[(hf f hf').1];omega⟩
theorem PgB.deeds{p:Pg}(h:PgB m p):∀n∈p.nss,lN n/\∀x∈n.dds,MJ x:=λ n hn=>by
 refine⟨h.ok n hn,λ x hx=>?_⟩
 obtain⟨hL,_,_,_,hd⟩:=h.2.2.2 n hn
 obtain⟨h1,h2,h3,h4⟩:=hd x hx
 exact⟨h1.pl h.1 hL.2.1,%[|0],λ r hr=>(h4 r hr).2.2.pl h.1 hL.2.1⟩
theorem Fy(i:Nat)(n:Ns):(cB i n).length=(cnt n.lps).length*n.dds.length:=by
 unfold cB
 generalize cnt n.lps=l
 induction l with
 | nil=>simp
 | cons c l ih=>rw[List.flatMap_cons,x6,ih,List.length_cons,Nat.succ_mul];simp[Nat.add_comm]
theorem jX(nss:List Ns):((aD nss).length:Int)=many nss:=by
 have:∀i,i≤nss.length->((aD (nss.take i)).length:Int)=many (nss.take i):=by
  intro i
  induction i with
  | zero=>intro _;rfl
  | succ i ih=>
    intro hi
    have hl:=y3 (l:=nss) (i:=i) %[|0]
    rw[iW hl,x6,Int.natCast_add,ih %[|0],Fy,aC hl]
    unfold many
    rw[v3,List.sum_append]
    simp
 have:=this nss.length (y9 _)
 rw[List.take_length]at this
 exact this
theorem uJ{p:Pg}(h:PgB m p)(h12:12≤m)(h60:m≤60)(hS:flat S)(w:W (.lst ((aD p.nss).map (dJ p))) S):iD [dPg p] S W:=
 ⟨p,rfl,by have:=h.2.2.1;omega,h.deeds,by have:=h.many h12;have:=jX p.nss;omega,hS,w⟩
theorem Jg{p:Pg}(h:PgB m p)(h12:12≤m)(h60:m≤60)(hS:flat S)(w:hand W ((aD p.nss).map dSt) S):nG [dPg p] S W:=
 ⟨p,rfl,by have:=h.2.2.1;omega,h.ok,by have:=h.many h12;have:=jX p.nss;omega,hS,w⟩
def toC(c:Cell):Int×%[|1]:=((c.1:Int),c.2)
theorem J3(l:List Cell):l.map aq=(l.map toC).map cD:=by rw[List.map_map];rfl
def tch(a b:Cell×List Cell):List Cell:=(if a.1=b.1∨a.1∈b.2 then[a.1]else[])++(if b.1∈a.2 then[b.1]else[])
def rY(a b:Cell×List Cell):Bool:=(decide (a.1=b.1)||decide (a.1∈b.2))||decide (b.1∈a.2)
def dCR(a:Cell×List Cell):D:=.tup [aq a.1,.lst (a.2.map aq)]
theorem uv:∀(xs ys:%[|1]),bW (xs.map D.int) (ys.map D.int)=decide (xs=ys)
 | [],[]=>by simp[bW]
 | [],_::_=>by simp[bW]
 | _::_,[]=>by simp[bW]
 | x::xs,y::ys=>by
   simp only[List.map_cons,bW,eqD,uv xs ys]
   rw[Bool.eq_iff_iff]
   simp
theorem xK(a b:Cell):eqD (aq a) (aq b)=decide (a=b):=by
 unfold aq
 simp only[eqD,bW,uv,Bool.and_true]
 rw[Bool.eq_iff_iff]
 simp[Prod.ext_iff]
 intro _
 omega
theorem yR(c:Cell)(l:List Cell):((l.map aq).any λ d=>eqD d (aq c))=decide (c∈l):=by
 rw[List.any_map]
 rw[Bool.eq_iff_iff,List.any_eq_true]
 simp only[Function.comp_apply,xK,decide_eq_true_eq]
 exact⟨λ⟨x,h1,h2⟩=>h2▸h1,λ h=>⟨c,h,rfl⟩⟩
theorem mX:∀xs:%[|1],bR (xs.map D.int)=true
 | []=>rfl
 | x::xs=>by simp only[List.map_cons,bR,okD,mX xs,Bool.and_true]
theorem jU:∀xs:%[|1],aU (xs.map D.int)=0
 | []=>rfl
 | x::xs=>by simp only[List.map_cons,aU,deep,jU xs];rfl
theorem eG(c:Cell):okD (aq c)=true:=by unfold aq;simp only[okD,bR,mX,Bool.and_true]
theorem lY(c:Cell):deep (aq c)=2:=by unfold aq;simp only[deep,aU,jU];rfl
theorem j4:∀l:List Cell,bR (l.map aq)=true
 | []=>rfl
 | c::l=>by simp only[List.map_cons,bR,eG,j4 l,Bool.and_true]
theorem je:∀l:List Cell,aU (l.map aq)≤2
 | []=>by simp[aU]
 | c::l=>by have:=je l;simp only[List.map_cons,aU,lY];omega
theorem cell_eq{a b:Cell}{W:Bool->%[|4]}(w:W (decide (a=b)) S):aQ .Eq (aq a) (aq b) S W:=by
 rw[←xK]at w
 unfold aQ
 exact⟨⟨eG a,eG b,by show deep (aq a)≤50;rw[lY];decide⟩,w⟩
theorem cell_in{c:Cell}{l:List Cell}{W:Bool->%[|4]}(w:W (decide (c∈l)) S):aQ .In (aq c) (.lst (l.map aq)) S W:=by
 rw[←yR]at w
 exact cIn (ds:=l.map aq) rfl (eG c) (j4 l) (Nat.le_trans (je l) %[|3]) w
theorem Th{L:List D}{W:Bool->%[|4]}(h1:bR L=true)(h2:aU L≤40)(w:W (!L.isEmpty) S):aQ .NotEq (.lst L) (.lst []) S W:=by
 unfold aQ
 refine .inl ⟨⟨by show bR L=true;exact h1,rfl,by show aU L+1≤50;omega⟩,?_⟩
 have:eqD (vw S (.lst L)) (vw S (.lst []))=L.isEmpty:=by
  show bW L []=_
  cases L<;>simp[bW]
 rw[this];exact w
theorem KD(l:List Cell):((sset id (l.map toC)).map cD).isEmpty=l.isEmpty:=by
 match l with
 | []=>rfl
 | [a]=>rfl
 | [a,b]=>
   show((if toC b=toC a then[toC a]else if ltC (toC b) (toC a)=true then[toC b,toC a]else[toC a,toC b]).map cD).isEmpty=false
   split
   . rfl
   . split<;>rfl
 | _::_::_::_=>rfl
theorem xN{l:List Cell}(h:d∈(sset id (l.map toC)).map cD):∃c:Cell,d=aq c:=by
 obtain⟨x,hx,rfl⟩:=ZO.mp h
 have :x∈l.map toC:=by
  match l,hx with
  | [a],hx=>exact hx
  | [a,b],hx=>
    have hx:x∈(if toC b=toC a then[toC a]else if ltC (toC b) (toC a)=true then[toC b,toC a]else[toC a,toC b]):=hx
    split at hx
    . simp at hx ⊢;exact .inl hx
    . split at hx
      . simp at hx ⊢;exact hx.symm
      . exact hx
  | _::_::_::_,hx=>exact hx
 obtain⟨c,_,rfl⟩:=ZO.mp this
 exact⟨c,rfl⟩
theorem my:∀{L:List D},(∀d∈L,∃c:Cell,d=aq c)->bR L=true/\aU L≤2/\aj L=true
 | [],_=>⟨rfl,Nat.zero_le _,rfl⟩
 | d::L,h=>by
   obtain⟨c,rfl⟩:=h d x5
   obtain⟨h1,h2,h3⟩:=my λ x hx=>h x (x3 _ hx)
   refine⟨by simp only[bR,eG,h1,Bool.and_true],by simp only[aU,lY];omega,by simp only[aj,iG,h3,Bool.and_true]⟩
theorem Nz(a b:Cell×List Cell):(tch a b).length≤2:=by
 unfold tch
 split<;>split<;>simp
theorem NT(a b:Cell×List Cell):(!(tch a b).isEmpty)=rY a b:=by
 unfold tch rY
 by_cases h1:a.1=b.1
 . simp[h1]
 . by_cases h2:a.1∈b.2
   . simp[h2]
   . by_cases h3:b.1∈a.2<;>simp[h1,h2,h3]
def uM:Ct:=λ ds S W=>∃a b:Cell×List Cell,ds=[dCR a,dCR b]/\flat S/\W (.lst ((sset id ((tch a b).map toC)).map cD)) S
theorem mW(F:Fun Ω.K "touched_cells" "touched_cells" di f fd)(N0:Ω.cd=none)(B:Bi Ω.mg):Ok Ω 1 f fd oJ uM:=by
 refine az N0 (N:=nZ) F (Bl.drp (nY B)) (by kernel_rfl!) ?_
 rintro ds S W ⟨a,b,rfl,hS,hw⟩ hl
 have nl:ak (.lst ((sset id ((tch a b).map toC)).map cD))=true:=(my λ d hd=>xN hd).2.2
 have fin:∀l:List Cell,l=tch a b->(d9 B).wp [some (dCR a),some (dCR b),some (.loc S.length)] (S++[l.map aq]) {nx:=λ _ S1=>W .non S1,rt:=Drp S.length W}:=by
  rintro l rfl
  walk_at "b"
  refine⟨(tch a b).map toC,by rw[y7];exact Nz a b,.inr ⟨_,rfl,?_⟩,?_⟩
  . rw[←J3];exact aX _ _
  . exact .inr ⟨_,S,rfl,y9 _,nl,hS,hw⟩
 have two:∀l:List Cell,l=(if a.1=b.1∨a.1∈b.2 then[a.1]else[])->(eE B).wp [some (dCR a),some (dCR b),some (.loc S.length)] (S++[l.map aq]) {nx:=λ _ S1=>W .non S1,rt:=Drp S.length W}:=by
  intro l el
  have hlen:l.length≤1:=by rw[el];split<;>simp
  walk_at "b"
  refine cell_in ?_
  by_cases h:b.1∈a.2
  . rw[ZG h]
    walk_at "b"
    refine⟨_,aX _ _,by rw[y7];omega,?_⟩
    rw[bN]
    have:=fin (l++[b.1]) (by unfold tch;rw[el,if_pos h])
    rw[v3]at this
    exact this
  . rw[ZH h]
    walk_at "b"
    exact fin l (by unfold tch;rw[el,if_neg h,List.append_nil])
 walk_at "b"
 refine cell_eq ?_
 by_cases h:a.1=b.1
 . rw[ZG h]
   walk_at "b"
   refine⟨_,aX _ _,by simp,?_⟩
   rw[bN]
   exact two [a.1] (by rw[if_pos (.inl h)])
 . rw[ZH h]
   walk_at "b"
   refine cell_in ?_
   by_cases h2:a.1∈b.2
   . rw[ZG h2]
     walk_at "b"
     refine⟨_,aX _ _,by simp,?_⟩
     rw[bN]
     exact two [a.1] (by rw[if_pos (.inr h2)])
   . rw[ZH h2]
     refine bF ?_
     exact two [] (by rw[if_neg (λ z=>z.elim h h2)])
def aP(p:Pg):List (Dd×%[|1]):=p.nss.flatMap λ n=>(cnt n.lps).flatMap λ cs=>n.dds.map λ x=>(x,cs)
def crs(x:Dd×%[|1]):Cell×List Cell:=(spot x.1.tab x.1.pl x.2,x.1.rds.map λ r=>spot r.tab r.pl x.2)
theorem QH(x:Dd×%[|1]):dCR (crs x)=dCs x.1 x.2:=by
 unfold dCR crs dCs
 rw[List.map_map];rfl
theorem gC{α β:Type}{f g:α->List β}:∀{l:List α},(∀a∈l,f a=g a)->l.flatMap f=l.flatMap g
 | [],_=>rfl
 | a::l,h=>by rw[List.flatMap_cons,List.flatMap_cons,h a x5,gC λ x hx=>h x (x3 _ hx)]
theorem Kv(p:Pg):Ga p=(aP p).map λ x=>dj x.2 x.1:=by
 unfold Ga aP
 rw[List.map_flatMap]
 refine gC λ n _=>?_
 unfold pO
 rw[List.map_flatMap]
 refine gC λ cs _=>?_
 rw[List.map_map];rfl
theorem zB{p:Pg}{n:Ns}(h:p.nss[i]? =some n):(cB i n).map (dJ p)=((cnt n.lps).flatMap λ cs=>n.dds.map λ x=>(x,cs)).map λ x=>dCR (crs x):=by
 unfold cB
 rw[List.map_flatMap,List.map_flatMap]
 refine gC λ cs _=>?_
 rw[List.map_map,List.map_map]
 apply List.ext_getElem
 . simp
 . intro s h1 h2
   have hs:s<n.dds.length:=by simpa using h2
   rw[List.getElem_map,List.getElem_map,List.getElem_range]
   show dJ p (i,cs,s)=dCR (crs (n.dds[s],cs))
   rw[QH]
   unfold dJ
   show(match p.nss[i]? with | some n=>(match n.dds[s]? with | some x=>dCs x cs | none=>D.non) | none=>D.non)=_
   rw[h]
   show(match n.dds[s]? with | some x=>dCs x cs | none=>D.non)=_
   rw[y3 hs]
theorem iy(p:Pg):(aD p.nss).map (dJ p)=(aP p).map λ x=>dCR (crs x):=by
 unfold aD aP
 rw[List.map_flatten,List.map_flatMap,List.flatMap_def]
 congr 1
 apply List.ext_getElem
 . simp
 . intro i h1 h2
   have hi:i<p.nss.length:=by simpa using h2
   rw[List.getElem_map,List.getElem_mapIdx,List.getElem_map]
   exact zB (y3 hi)
def uU:Ct:=λ ds S W=>∃(p:Pg) (m i j:Nat) (x y:Dd×%[|1]),ds=[dPg p,.int i,.int j]/\PgB m p/\12≤m/\m≤60/\flat S/\(aP p)[i]? =some x/\(aP p)[j]? =some y/\W (.bl (!decide (i=j)&&rY (crs x) (crs y))) S
theorem zf(F:Fun Ω.K "touches" "touches" jb f fd)(N0:Ω.cd=none)(Cq14:Cal Ω "cells_of" 5 1 iD)(Cq41:Cal Ω "touched_cells" 1 2 uM):Ok Ω 6 f fd By uU:=by
 refine az N0 (N:=Cj) F (Ci Cq14 Cq41) (by kernel_rfl!) ?_
 rintro ds S W ⟨p,m,i,j,x,y,rfl,hP,h12,h60,hS,hx,hy,hw⟩ hl
 have ax:atI ((aD p.nss).map (dJ p)) ((i:Nat):Int)=some (dCR (crs x)):=bA (by rw[iy,y8,hx];rfl)
 have ay:atI ((aD p.nss).map (dJ p)) ((j:Nat):Int)=some (dCR (crs y)):=bA (by rw[iy,y8,hy];rfl)
 walk_at "b"
 refine⟨rfl,uJ hP h12 h60 hS ?_⟩
 walk_at "b"
 by_cases e:i=j
 . rw[ZG %[|0]]
   rw[ZG e]at hw
   walk_at "b"
   exact hw
 . rw[ZH %[|0]]
   rw[ZH e]at hw
   walk_at "b"
   refine⟨_,ax,?_⟩
   walk_at "b"
   refine⟨_,ay,?_⟩
   walk_at "b"
   refine⟨rfl,crs x,crs y,rfl,hS,?_⟩
   walk_at "b"
   have ok:=my (L:=(sset id ((tch (crs x) (crs y)).map toC)).map cD) λ d hd=>xN hd
   refine Th ok.1 (Nat.le_trans ok.2.1 %[|3]) ?_
   rw[KD,NT]
   exact hw
theorem NZ{α:Type}[DecidableEq α](kvs:List (α×D))(ns:α)(d:D):(putD kvs ns d).length≤kvs.length+1:=by
 unfold putD
 split<;>simp
def dN(l:List Nat):List D:=l.map λ(t:Nat)=>D.int (t:Int)
theorem Jt(l:List Nat):aj (dN l)=true:=by
 unfold dN
 induction l with
 | nil=>rfl
 | cons y ys ih=>exact ih
theorem Fo(h:∀d∈l,ak d=true):aj l=true:=by
 induction l with
 | nil=>rfl
 | cons y ys ih=>simp only[aj,h y x5,ih λ d hd=>h d (x3 _ hd),Bool.and_true]
def iB(n:Nat)(o:List Nat):Prop:=(∀t∈o,t<n)/\o.Nodup
theorem Aw(p:Pg):(aD p.nss).length=(aP p).length:=by
 have:=congrArg List.length (iy p)
 rw[y7,y7]at this
 exact this
theorem mL(p:Pg):many p.nss=((aP p).length:Int):=by rw[←jX,Aw]
theorem qT{p:Pg}(hP:PgB m p)(h12:12≤m)(h60:m≤60):(aP p).length≤60:=by
 have h1:=hP.many h12
 have h2:=mL p
 omega
theorem Pu(l:List Nat):dN l=(l.map λ(t:Nat)=>(t:Int)).map D.int:=by unfold dN;rw[List.map_map];rfl
theorem dW(l:List Nat):(dN l).length=l.length:=y7 _
theorem Rw{l:List Nat}(h:(dN l)[i]? =some d):∃t,l[i]? =some t/\d=.int (t:Int):=by
 unfold dN at h
 rw[y8]at h
 cases e:l[i]? with
 | none=>rw[e]at h;cases h
 | some t=>rw[e]at h;cases h;exact⟨t,rfl,rfl⟩
theorem M6{l:List Nat}(h:l[i]? =some t):(dN l)[i]? =some (.int (t:Int)):=by unfold dN;rw[y8,h];rfl
theorem Gu{α:Type}{l:List α}(h:l.Nodup){i j:Nat}(hij:i<j)(hj:j<l.length):l[i]?≠l[j]?:=by
 rw[y3 %[|0],y3 hj]
 intro z
 have z:=Option.some.inj z
 have:=(List.pairwise_iff_getElem.mp h) i j %[|0] hj hij
 exact this z
theorem Hy{ns:%[|1]}(h:ns.Nodup):unl ns=ns.length:=by
 unfold unl
 have key:∀i,i≤ns.length->PyProof.Rows.firstMet (λ i=>ns.getD i 0) i=ns.take i:=by
  intro i
  induction i with
  | zero=>intro _;rfl
  | succ i ih=>
    intro hi
    have hl:i<ns.length:=%[|0]
    rw[PyProof.Rows.firstMet_succ,ih %[|0],aC (y3 hl)]
    have e:ns.getD i 0=ns[i]:=by simp[List.getD,hl]
    unfold PyProof.Rows.step_dedup
    rw[e,if_neg]
    intro z
    rw[List.any_eq_true]at z
    obtain⟨x,hx,z⟩:=z
    have z:=ZI z
    subst z
    obtain⟨j,hj⟩:=ZR hx
    rw[List.getElem?_take]at hj
    split at hj
    . rename_i hji
      exact Gu h hji hl (by rw[hj,y3 hl])
    . cases hj
 rw[key _ (y9 _),List.take_length]
theorem Ia(h:o.Nodup):(o.map λ(t:Nat)=>(t:Int)).Nodup:=by
 induction o with
 | nil=>exact List.nodup_nil
 | cons x xs ih=>
   rw[List.nodup_cons]at h
   rw[List.map_cons,List.nodup_cons]
   refine⟨λ z=>?_,ih h.2⟩
   obtain⟨y,hy,e⟩:=ZO.mp z
   exact h.1 (by rw[show x=y from %[|0]];exact hy)
def Dr:Ct:=λ ds S W=>∃(p:Pg) (m:Nat) (o:List Nat),ds=[dPg p,.lst (dN o)]/\PgB m p/\12≤m/\m≤60/\flat S/\o.length≤60/\iB (aP p).length o/\W (.bl true) S
theorem Hq{p:Pg}(hP:PgB m p)(hS:flat S)(w:W (.int ((aP p).length:Int)) S):rA [.tup (p.nss.map dNs)] S W:=
 ⟨p.nss,rfl,by have:=hP.2.2.1;omega,λ n hn=>(hP.deeds n hn).1,hS,by rw[mL];exact w⟩
theorem BP(F:Fun Ω.K "is_row" "is_row" jQ f fd)(N0:Ω.cd=none)(B:Bi Ω.mg)(Cq34:Cal Ω "is_whole" 1 1 fY)(Cq36:Cal Ω "number_of_steps" 4 1 rA):Ok Ω 5 f fd Es Dr:=by
 refine az N0 (N:=Ft) F (FJ B Cq34 Cq36) (by kernel_rfl!) ?_
 rintro ds S W ⟨p,m,o,rfl,hP,h12,h60,hS,ho,hO,hw⟩ hl
 walk_at "b"
 refine⟨rfl,Hq hP hS ?_⟩
 walk_at "b"
 unfold dN
 refine QF (C0:=λ _=>True) (xs:=o) (enc:=λ(t:Nat)=>D.int (t:Int)) (λ _=>.bl true) %[|0] trivial ?_ (.inl ?_)
 . intro i t ht Q hq
   have hlt:=hO.1 t (y4 ht)
   walk_at "b"
   refine⟨rfl,_,rfl,?_⟩
   walk_at "b"
   rw[ZG (show(t:Int)<((aP p).length:Int)from %[|0])]
   exact hq
 walk_at "b"
 refine⟨List.replicate o.length true,by rw[List.map_replicate,←List.map_const'],?_⟩
 have e3:(List.replicate o.length true).all id=true:=by simp
 rw[e3]
 walk_at "b"
 refine⟨_,by show jj S (.lst (dN o))=_;rw[Pu];rfl,by rw[y7];show _<4096;omega,?_⟩
 rw[Hy (Ia hO.2),y7]
 walk_at "b"
 rw[y7,ZG rfl]
 exact hw
theorem Dh(h:o.Perm (List.range n)):iB n o:=⟨λ t ht=>List.mem_range.mp (h.mem_iff.mp ht),h.nodup_iff.mpr List.nodup_range⟩
theorem zA(h:o.Perm (List.range n)):o.length=n:=h.length_eq.trans List.length_range
theorem JQ{R:Store}{m:Int}(hp:aJ S k)(h0:0<m)(h1:m<1000000000000000000000000000000000000000000000000000000000000)(w:∀v S',0≤v->v<m->aN S k S'->aJ S' k->W (.int v) (S'++R)):([D.loc k,.int m].length=2/\dH [.loc k,.int m] (S++R) W):=by
 refine aM (hp.app R) h0 h1 λ v T v0 v1 u p=>?_
 obtain⟨S',rfl,u',p'⟩:=u.split hp
 exact w v S' v0 v1 u' p'
theorem JK(h:S.length=S'.length):(S'++[l])[S.length]? =some l:=by rw[h];simp
theorem Uj{z:List D}(h:S.length=S'.length):(S'++[l]).set S.length z=S'++[z]:=by rw[h,List.set_append_right _ _ (y9 _),Nat.sub_self];rfl
theorem J4{v:Nat}(h:o.Perm (List.range i)):(o.take v++i::o.drop v).Perm (List.range (i+1)):=by
 refine List.perm_middle.trans ?_
 rw[List.take_append_drop,List.range_succ]
 exact(List.Perm.cons _ h).trans (List.perm_append_singleton _ _).symm
def Dw:Ct:=λ ds S W=>∃(k n:Nat),ds=[.loc k,.int (n:Int)]/\aJ S k/\n≤60/\flat S/\∀(o:List Nat) S',o.Perm (List.range n)->aN S k S'->aJ S' k->W (.lst (dN o)) S'
theorem Er(F:Fun Ω.K "_law_order" "_law_order" lO f fd)(N0:Ω.cd=none)(B:Bi Ω.mg)(Cq11:Cal Ω "_law_take" 2 2 dH):Ok Ω 3 f fd GQ Dw:=by
 refine az N0 (N:=Hs) F (Bl.frz (HW B Cq11)) (by kernel_rfl!) ?_
 rintro ds S W ⟨k,n,rfl,hp,hn,hS,hw⟩ hl
 walk_at "b"
 refine⟨⟨%[|0],%[|0]⟩,aZ ⟨λ i Γ' T=>∃(S':Store) (o:List Nat) (o3:Option D),Γ'=[some (.loc k),some (.int (n:Int)),some (.loc S.length),o3]/\T=S'++[dN o]/\o.Perm (List.range i)/\aN S k S'/\aJ S' k,⟨S,[],_,rfl,rfl,.refl _,aN.refl hp,hp⟩,?_,?_⟩⟩
 . rintro i e Γ' T he ⟨S2,o,o3,rfl,rfl,hO,u2,p2⟩
   obtain⟨hi,rfl⟩:=bO he
   have hol:=zA hO
   have hi:i<60:=%[|0]
   have e0:(0+(i:Int))=((i:Nat):Int):=%[|0]
   rw[e0]
   refine qU ?_
   simp only[List.set_cons_succ,List.set_cons_zero]
   walk_at "b"
   refine⟨_,JK u2.len.symm,?_⟩
   walk_at "b"
   rw[dW,hol]
   refine JQ p2 %[|0] %[|0] λ v S3 v0 v1 u3 p3=>?_
   have u3:=u2.trans u3
   obtain⟨vn,rfl⟩:∃vn:Nat,v=(vn:Int):=⟨v.toNat,%[|0]⟩
   walk_at "b"
   refine⟨vn,dN o,rfl,JK u3.len.symm,by rw[dW];omega,by rw[dW];omega,?_⟩
   rw[Uj u3.len.symm]
   walk_at "b"
   refine⟨S3,o.take vn++i::o.drop vn,_,rfl,?_,J4 hO,u3,p3⟩
   unfold dN
   rw[v3,List.map_cons,List.map_take,List.map_drop]
 . rintro Γ' T ⟨S2,o,o3,rfl,rfl,hO,u2,p2⟩
   rw[au,Int.toNat_natCast]at hO
   walk_at "b"
   exact .inr ⟨_,S2,by rw[u2.len],rfl,by rw[u2.len];exact y9 _,Jt o,u2.flat hS,hw o S2 hO u2 p2⟩
abbrev Cel:=Int×%[|1]
abbrev Fz:=List (Cel×Int)
def cO(fa:Fz)(c:Cel):Option Int:=(fa.find? λ kv=>decide (kv.1=c)).map (·.2)
def lK(fa:Fz)(c:Cel)(v:Int):Fz:=if(fa.any λ kv=>decide (kv.1=c))=true then fa.map λ kv=>if kv.1=c then(kv.1,v)else kv else fa++[(c,v)]
def cZ(fa:Fz):Kc:=fa.map λ kv=>(kv.1,D.int kv.2)
theorem lZ(fa:Fz)(c:Cel):aW (cZ fa) c=(cO fa c).map D.int:=by
 unfold aW cO cZ
 rw[List.find?_map]
 show Option.map _ (Option.map _ (fa.find? λ kv=>decide (kv.1=c)))=_
 cases fa.find? λ kv=>decide (kv.1=c)<;>rfl
theorem Kw(fa:Fz)(c:Cel)(v:Int):putD (cZ fa) c (.int v)=cZ (lK fa c v):=by
 unfold putD lK cZ
 rw[List.any_map]
 show(if(fa.any λ kv=>decide (kv.1=c))=true then _ else _)=_
 split
 . rw[List.map_map,List.map_map]
   refine List.map_congr_left λ kv _=>?_
   show(if kv.1=c then(kv.1,D.int v)else(kv.1,D.int kv.2))=_
   by_cases e:kv.1=c
   . rw[if_pos e]
     show _=((if kv.1=c then(kv.1,v)else kv).1,D.int (if kv.1=c then(kv.1,v)else kv).2)
     rw[if_pos e]
   . rw[if_neg e]
     show _=((if kv.1=c then(kv.1,v)else kv).1,D.int (if kv.1=c then(kv.1,v)else kv).2)
     rw[if_neg e]
 . rw[v3]
   rfl
def fzD(fa:Fz):List D:=.non::(cZ fa).map encC
def jC(x:Int)(fa:Fz)(kv:Cel×Int):Fz:=lK fa kv.1 ((cO fa kv.1).getD 0+x*kv.2)
def cP(fa:Fz)(x:Int)(mo:Fz):Fz:=mo.foldl (jC x) fa
theorem Jd{fa:Fz}{x:Int}{mo:Fz}{kv:Cel×Int}(h:mo[i]? =some kv):cP fa x (mo.take (i+1))=jC x (cP fa x (mo.take i)) kv:=by
 unfold cP
 rw[aC h,List.foldl_append]
 rfl
theorem Kh(fa:Fz)(c:Cel)(v:Int):(lK fa c v).length≤fa.length+1:=by
 unfold lK
 split<;>simp
theorem Ln(x:Int)(mo:Fz):∀fa:Fz,(cP fa x mo).length≤fa.length+mo.length:=by
 induction mo with
 | nil=>intro fa;exact y9 _
 | cons kv mo ih=>
   intro fa
   have h1:=ih (jC x fa kv)
   have h2:=Kh fa kv.1 ((cO fa kv.1).getD 0+x*kv.2)
   have e:cP fa x (kv::mo)=cP (jC x fa kv) x mo:=rfl
   have e2:jC x fa kv=lK fa kv.1 ((cO fa kv.1).getD 0+x*kv.2):=rfl
   rw[e,List.length_cons]
   rw[e2]at h1 ⊢
   omega
def Jk:Ct:=λ ds S W=>∃(f m:Nat) (x:Int) (fa mo:Fz),ds=[.dlo f,.int x,.dlo m]/\f≠m/\S[f]? =some (fzD fa)/\S[m]? =some (fzD mo)/\fa.length+mo.length≤1000/\Grt x/\(∀kv∈mo,Grt kv.2)/\W .non (S.set f (fzD (cP fa x mo)))
theorem su(F:Fun Ω.K "add_times" "add_times" fM f fd)(N0:Ω.cd=none):Ok Ω 1 f fd vQ Jk:=by
 refine az N0 (N:=vA) F (v7) (by kernel_rfl!) ?_
 rintro ds S W ⟨f,m,x,fa,mo,rfl,hfm,hf,hm,hlen,hx,hmo,hw⟩ hl
 have hfl:=(z0.mp hf).1
 have e0:S.set f (fzD fa)=S:=by
  refine List.ext_getElem? λ i=>?_
  by_cases e:f=i
  . subst e;rw[List.getElem?_set_self hfl,hf]
  . rw[List.getElem?_set_ne e]
 walk_at "b"
 refine⟨cZ mo,hm,Ef ⟨λ i Γ' T=>∃o3 o4,T=S.set f (fzD (cP fa x (mo.take i)))/\Γ'=[some (.dlo f),some (.int x),some (.dlo m),o3,o4],⟨_,_,by rw[List.take_zero];exact e0.symm,rfl⟩,?_,?_,?_⟩⟩
 . rintro i Γ' T ⟨o3,o4,rfl,rfl⟩
   rw[List.getElem?_set_ne hfm]
   exact hm
 . rintro i kv Γ' T hkv ⟨o3,o4,rfl,rfl⟩
   obtain⟨kv,hk,rfl⟩:=bH hkv
   have hl1:=Ln x (mo.take i) fa
   have hl2:(mo.take i).length≤mo.length:=by rw[List.length_take];omega
   have at_:(S.set f (fzD (cP fa x (mo.take i))))[f]? =some (fzD (cP fa x (mo.take i))):=List.getElem?_set_self hfl
   have hk2:=hmo kv (y4 hk)
   walk_at "b"
   refine⟨rfl,?_⟩
   walk_at "b"
   refine⟨by rw[List.length_set];exact hfl,?_⟩
   walk_at "b"
   refine⟨kv.1,cZ (cP fa x (mo.take i)),rfl,at_,?_⟩
   have elk:(aW (cZ (cP fa x (mo.take i))) kv.1).getD (D.int 0)=D.int ((cO (cP fa x (mo.take i)) kv.1).getD 0):=by
    rw[lZ]
    cases cO (cP fa x (mo.take i)) kv.1<;>rfl
   walk_at "n"
   refine⟨⟨hx,hk2⟩,?_⟩
   rw[elk]
   walk_at "b"
   refine⟨kv.1,cZ (cP fa x (mo.take i)),rfl,at_,?_⟩
   refine⟨by show(List.map _ _).length<1000000;rw[y7];omega,?_⟩
   refine⟨_,_,?_,rfl⟩
   rw[List.set_set,Jd hk,Kw]
   rfl
 . rintro Γ' T ⟨o3,o4,rfl,rfl⟩
   have e:(cZ mo).length=mo.length:=y7 ..
   rw[e,List.take_length]
   exact hw
def DK:Ct:=λ ds S W=>∃(c:Cel) (h:Nat) (kvs:Kc),ds=[cD c,.dlo h]/\S[h]? =some (.non::kvs.map encC)/\W ((aW kvs c).getD (.tup [.int 0,.dlo S.length])) (S++[fzD [(c,1)]])
theorem qY(F:Fun Ω.K "trace_held" "trace_held" eY f fd)(N0:Ω.cd=none):Ok Ω 1 f fd tL DK:=by
 refine az N0 (N:=tV) F (tW) (by kernel_rfl!) ?_
 rintro ds S W ⟨c,h,kvs,rfl,hh,hw⟩ hl
 have hhl:=(z0.mp hh).1
 walk_at "b"
 refine⟨hhl,?_⟩
 walk_at "b"
 refine⟨c,rfl,aX _ _,?_⟩
 rw[bN]
 walk_at "b"
 refine⟨c,kvs,rfl,by rw[x8 hhl];exact hh,?_⟩
 exact hw
structure FzOk(U:List Cel)(B:Nat)(fa:Fz):Prop where
 nd:(fa.map (·.1)).Nodup
 sub:∀kv∈fa,kv.1∈U
 bd:∀kv∈fa,kv.2.natAbs≤B
theorem FzOk.nil(U:List Cel)(B:Nat):FzOk U B []:=⟨List.nodup_nil,(λ _ h=>nomatch h),(λ _ h=>nomatch h)⟩
theorem FzOk.mono{U:List Cel}{A:Nat}{fa:Fz}(h:FzOk U A fa)(ab:A≤B):FzOk U B fa:=⟨h.nd,h.sub,λ kv hk=>Nat.le_trans (h.bd kv hk) ab⟩
theorem Oe{U:List Cel}{fa:Fz}{c:Cel}{v:Int}(h:FzOk U B fa)(hc:c∈U)(hv:v.natAbs≤B):FzOk U B (lK fa c v):=by
 unfold lK
 split
 . refine⟨?_,λ kv hk=>?_,λ kv hk=>?_⟩
   . rw[List.map_map]
     have e:fa.map ((λ x:Cel×Int=>x.1) ∘ λ kv=>if kv.1=c then(kv.1,v)else kv)=fa.map (·.1):=List.map_congr_left λ kv _=>by
      show(if kv.1=c then(kv.1,v)else kv).1=kv.1
      split<;>rfl
     rw[e]
     exact h.nd
   . obtain⟨z,hz,rfl⟩:=ZO.mp hk
     split
     . exact h.sub z hz
     . exact h.sub z hz
   . obtain⟨z,hz,rfl⟩:=ZO.mp hk
     split
     . exact hv
     . exact h.bd z hz
 . rename_i hn
   have hn:∀kv∈fa,kv.1≠c:=λ kv hk e=>hn (List.any_eq_true.mpr ⟨kv,hk,ZG e⟩)
   refine⟨?_,λ kv hk=>?_,λ kv hk=>?_⟩
   . rw[v3,List.nodup_append]
     refine⟨h.nd,by simp,λ a ha b hb e=>?_⟩
     obtain⟨kv,hk,rfl⟩:=ZO.mp ha
     rw[List.map_cons,List.map_nil,List.mem_singleton]at hb
     exact hn kv hk (e.trans hb)
   . rcases ZK.mp hk with hk | hk
     . exact h.sub kv hk
     . rw[ZL.mp hk];exact hc
   . rcases ZK.mp hk with hk | hk
     . exact h.bd kv hk
     . rw[ZL.mp hk];exact hv
theorem Lx{U:List Cel}{fa:Fz}(h:FzOk U B fa)(c:Cel):((cO fa c).getD 0).natAbs≤B:=by
 unfold cO
 cases q:fa.find? λ kv=>decide (kv.1=c)with
 | none=>exact Nat.zero_le _
 | some kv=>exact h.bd kv (List.mem_of_find?_eq_some q)
theorem HH{U:List Cel}{A:Nat}{fa:Fz}{x:Int}{kv:Cel×Int}(h:FzOk U A fa)(hc:kv.1∈U)(hx:x.natAbs≤X)(hv:kv.2.natAbs≤B):FzOk U (A+X*B) (jC x fa kv):=by
 refine Oe (h.mono (Nat.le_add_right _ _)) hc ?_
 have h1:=Lx h kv.1
 have h2:(x*kv.2).natAbs≤X*B:=by rw[Int.natAbs_mul];exact Nat.mul_le_mul hx hv
 have h3:=Int.natAbs_add_le ((cO fa kv.1).getD 0) (x*kv.2)
 omega
theorem PN{U:List Cel}{x:Int}(hx:x.natAbs≤X){mo:Fz}(hs:∀kv∈mo,kv.1∈U)(hb:∀kv∈mo,kv.2.natAbs≤B):∀{A:Nat}{fa:Fz},FzOk U A fa->FzOk U (A+mo.length*(X*B)) (cP fa x mo):=by
 induction mo with
 | nil=>intro A fa h;exact h.mono %[|0]
 | cons kv mo ih=>
   intro A fa h
   have h1:=HH h (hs kv x5) hx (hb kv x5)
   have h2:=ih (λ z hz=>hs z (x3 _ hz)) (λ z hz=>hb z (x3 _ hz)) h1
   refine h2.mono ?_
   rw[List.length_cons,Nat.succ_mul]
   omega
theorem sub_len{α:Type}[DecidableEq α]{l:List α}(nd:l.Nodup):∀{U:List α},(∀x∈l,x∈U)->l.length≤U.length:=by
 induction l with
 | nil=>intro U _;exact Nat.zero_le _
 | cons a l ih=>
   intro U h
   rw[List.nodup_cons]at nd
   have ha:=h a x5
   have:=ih nd.2 (U:=U.erase a) λ x hx=>(List.mem_erase_of_ne (λ e:x=a=>nd.1 (e▸hx))).mpr (h x (x3 _ hx))
   rw[List.length_erase_of_mem ha]at this
   have:0<U.length:=List.length_pos_of_mem ha
   rw[List.length_cons]
   omega
theorem FzOk.len{U:List Cel}{fa:Fz}(h:FzOk U B fa):fa.length≤U.length:=by
 have:=sub_len h.nd (U:=U) λ x hx=>by
  obtain⟨kv,hk,rfl⟩:=ZO.mp hx
  exact h.sub kv hk
 rw[y7]at this
 exact this
abbrev Tr:=Int×Fz
def trH(Hf:Cel->Option Tr)(c:Cel):Tr:=(Hf c).getD (0,[(c,1)])
def dR(Hf:Cel->Option Tr)(acc:Tr)(rc:Int×Cel):Tr:=(acc.1+rc.1*(trH Hf rc.2).1,cP acc.2 rc.1 (trH Hf rc.2).2)
def trS(st:Int)(Hf:Cel->Option Tr)(rs:List (Int×Cel)):Tr:=rs.foldl (dR Hf) (st,[])
structure TrOk(U:List Cel)(B:Nat)(t:Tr):Prop where
 n:t.1.natAbs≤B
 z:FzOk U B t.2
def qb(U:List Cel)(B:Nat)(Hf:Cel->Option Tr):Prop:=∀c t,Hf c=some t->TrOk U B t
theorem Ha{U:List Cel}{Hf:Cel->Option Tr}(h:qb U B Hf)(hB:1≤B){c:Cel}(hc:c∈U):TrOk U B (trH Hf c):=by
 unfold trH
 cases q:Hf c with
 | some t=>exact h c t q
 | none=>
   refine⟨Nat.zero_le _,by simp,λ kv hk=>?_,λ kv hk=>?_⟩
   . rw[ZL.mp hk];exact hc
   . rw[ZL.mp hk];exact hB
theorem HS{U:List Cel}{A:Nat}{Hf:Cel->Option Tr}(h:qb U B Hf)(hB:1≤B)(hU:U.length≤60){acc:Tr}(ha:TrOk U A acc){rc:Int×Cel}(hx:rc.1.natAbs≤X)(hc:rc.2∈U):TrOk U (A+60*(X*B)) (dR Hf acc rc):=by
 have t:=Ha h hB hc
 have hl:=t.z.len
 refine⟨?_,?_⟩
 . show(acc.1+rc.1*(trH Hf rc.2).1).natAbs≤_
   have h1:(rc.1*(trH Hf rc.2).1).natAbs≤X*B:=by rw[Int.natAbs_mul];exact Nat.mul_le_mul hx t.n
   have h2:=Int.natAbs_add_le acc.1 (rc.1*(trH Hf rc.2).1)
   have:=ha.n
   omega
 . refine(PN hx t.z.sub t.z.bd ha.z).mono ?_
   have:(trH Hf rc.2).2.length*(X*B)≤60*(X*B):=Nat.mul_le_mul_right _ %[|0]
   omega
theorem Ig{U:List Cel}{Hf:Cel->Option Tr}(h:qb U B Hf)(hB:1≤B)(hU:U.length≤60):∀(rs:List (Int×Cel)),(∀r∈rs,r.1.natAbs≤X/\r.2∈U)->∀{A:Nat}{acc:Tr},TrOk U A acc->TrOk U (A+rs.length*(60*(X*B))) (rs.foldl (dR Hf) acc):=by
 intro rs
 induction rs with
 | nil=>intro _ A acc ha;exact⟨Nat.le_trans ha.n %[|0],ha.z.mono %[|0]⟩
 | cons r rs ih=>
   intro hr A acc ha
   obtain⟨h1,h2⟩:=hr r x5
   have:=ih (λ z hz=>hr z (x3 _ hz)) (HS h hB hU ha h1 h2)
   have e:A+60*(X*B)+rs.length*(60*(X*B))=A+(r::rs).length*(60*(X*B)):=by rw[List.length_cons,Nat.add_mul,Nat.one_mul];omega
   rw[e]at this
   exact this
theorem Lq{st:Int}{Hf:Cel->Option Tr}{rs:List (Int×Cel)}{r:Int×Cel}(h:rs[i]? =some r):trS st Hf (rs.take (i+1))=dR Hf (trS st Hf (rs.take i)) r:=by
 unfold trS
 rw[aC h,List.foldl_append]
 rfl
theorem K3{a b:Cel}(h:ltC a b=true):ltC b a=false:=uE h
def Lf(l:List Cel):List Cel:=open Classical in if h:∃ks:List Cel,ks.Perm l/\ks.Pairwise (λ a b=>ltC a b=true)then h.choose else[]
theorem Ov{l ks:List Cel}(h1:ks.Perm l)(h2:ks.Pairwise λ a b=>ltC a b=true):ks=Lf l:=by
 unfold Lf
 have ex:∃ks:List Cel,ks.Perm l/\ks.Pairwise (λ a b=>ltC a b=true):=⟨ks,h1,h2⟩
 rw[dif_pos ex]
 obtain⟨g1,g2⟩:=ex.choose_spec
 refine List.Perm.eq_of_pairwise (le:=λ a b=>ltC a b=true) (λ a b _ _ x y=>?_) h2 g2 (h1.trans g1.symm)
 have:=K3 x
 rw[this]at y
 cases y
def tel(fz:Fz)(c:Cel):Option (Cel×Int):=if(cO fz c).getD 0=0 then none else some (c,(cO fz c).getD 0)
def telD(kv:Cel×Int):D:=.tup [cD kv.1,.int kv.2]
def tellZ(fz:Fz):List (Cel×Int):=(Lf (fz.map (·.1))).filterMap (tel fz)
def b8(t:Tr):D:=.tup [.int t.1,.lst ((tellZ t.2).map telD)]
theorem JN{i:Int}(h:i.natAbs≤2 ^ n)(hn:n<100000):Grt i:=Nat.lt_of_le_of_lt h (Nat.pow_lt_pow_right %[|3] hn)
def bC(x:Dd)(cs:%[|1]):List (Int×Cel):=x.rds.map λ r=>(r.fac,toC (spot r.tab r.pl cs))
structure HeldR(h:Nat)(S:Store)(held:Kc)(Hf:Cel->Option Tr):Prop where
 at_:∀kv∈held,∃(n:Int) (j:Nat) (fz:Fz),kv.2=.tup [.int n,.dlo j]/\S[j]? =some (fzD fz)/\Hf kv.1=some (n,fz)/\h≠j
 no:∀c,(∀kv∈held,kv.1≠c)->Hf c=none
 nd:(held.map (·.1)).Nodup
theorem HeldR.look{held:Kc}{Hf:Cel->Option Tr}(h:HeldR k S held Hf)(c:Cel):(aW held c=none/\Hf c=none)∨∃(n:Int) (j:Nat) (fz:Fz),aW held c=some (.tup [.int n,.dlo j])/\S[j]? =some (fzD fz)/\Hf c=some (n,fz):=by
 unfold aW
 cases q:held.find? λ kv=>decide (kv.1=c)with
 | none=>exact .inl ⟨rfl,h.no c λ kv hk e=>by have:=List.find?_eq_none.mp q kv hk;simp[e]at this⟩
 | some kv=>
   have e:kv.1=c:=by have:=List.find?_some q;simpa using this
   obtain⟨n,j,fz,e1,e2,e3,_⟩:=h.at_ kv (List.mem_of_find?_eq_some q)
   exact .inr ⟨n,j,fz,by show some kv.2=_;rw[e1],e2,by rw[←e];exact e3⟩
def CP:Ct:=λ ds S W=>∃(x:Dd) (cs:%[|1]) (h:Nat) (held:Kc) (Hf:Cel->Option Tr) (U:List Cel) (B:Nat),ds=[dDd x,dC cs,.lst (x.rds.map λ r=>aq (spot r.tab r.pl cs)),.dlo h]/\x.st.2.length≤1000/\C64 cs/\S[h]? =some (.non::held.map encC)/\HeldR h S held Hf/\qb U B Hf/\1≤B/\B≤2 ^ 50000/\U.length≤60/\(∀r∈bC x cs,r.1.natAbs≤2 ^ 100/\r.2∈U)/\x.rds.length≤3/\∀J:Store,W (.tup [.int (trS (atC x.st cs) Hf (bC x cs)).1,.dlo S.length]) (S++[fzD (trS (atC x.st cs) Hf (bC x cs)).2]++J)
theorem lW(F:Fun Ω.K "trace_of_step" "trace_of_step" dg f fd)(N0:Ω.cd=none)(B:Bi Ω.mg)(Cq16:Cal Ω "comes_to" 1 2 m8)(Cq43:Cal Ω "trace_held" 1 2 DK)(Cq12:Cal Ω "add_times" 1 3 Jk):Ok Ω 2 f fd oA CP:=by
 refine az N0 (N:=oF) F (oG B Cq16 Cq43 Cq12) (by kernel_rfl!) ?_
 rintro ds S W ⟨x,cs,h,held,Hf,U,B,rfl,hst,hcs,hh,hR,hO,hB,hB2,hU,hrs,h3,hw⟩ hl
 have hhl:=(z0.mp hh).1
 walk_at "b"
 refine⟨rfl,x.st.1,x.st.2,cs,rfl,hst,hcs,?_⟩
 walk_at "b"
 have ez:List.zipWith (λ x y=>D.tup [x,y]) (x.rds.map dRd) (x.rds.map λ r=>aq (spot r.tab r.pl cs))=x.rds.map λ r=>D.tup [dRd r,aq (spot r.tab r.pl cs)]:=by rw[List.zipWith_map,List.zipWith_self]
 rw[ez]
 have est:comesTo x.st.1 x.st.2 cs=atC x.st cs:=rfl
 rw[est]
 generalize atC x.st cs=st at*
 refine aZ ⟨λ i Γ' T=>∃J o6 o7 o8,T=S++[fzD (trS st Hf ((bC x cs).take i)).2]++J/\Γ'=[some (dDd x),some (dC cs),some (.lst (x.rds.map λ r=>aq (spot r.tab r.pl cs))),some (.dlo h),some (.int (trS st Hf ((bC x cs).take i)).1),some (.dlo S.length),o6,o7,o8],⟨[],_,_,_,by simp only[List.append_nil];rfl,rfl⟩,?_,?_⟩
 . rintro i e Γ' T he ⟨J,o6,o7,o8,rfl,rfl⟩
   obtain⟨r,hr,rfl⟩:=bH he
   have hrs':(bC x cs)[i]? =some (r.fac,toC (spot r.tab r.pl cs)):=by unfold bC;rw[y8,hr];rfl
   obtain⟨hf,hcU⟩:=hrs _ (y4 hrs')
   have tr:TrOk U B (trH Hf (toC (spot r.tab r.pl cs))):=Ha hO hB hcU
   have acc:FzOk U _ (trS st Hf ((bC x cs).take i)).2:=(Ig (X:=2 ^ 100) hO hB hU ((bC x cs).take i) (λ z hz=>hrs z (List.mem_of_mem_take hz)) (A:=st.natAbs) (acc:=(st,[])) ⟨y9 _,FzOk.nil _ _⟩).z
   have al:=acc.len
   have tl:=tr.z.len
   have et:=Lq (st:=st) (Hf:=Hf) hrs'
   generalize trS st Hf ((bC x cs).take i)=t0 at*
   rw[show D.tup [dRd r,aq (spot r.tab r.pl cs)]=D.tup [dRd r,cD (toC (spot r.tab r.pl cs))]from rfl]
   generalize toC (spot r.tab r.pl cs)=c at*
   have gf:Grt r.fac:=JN hf %[|3]
   have gB:∀z:Int,z.natAbs≤B->Grt z:=λ z hz=>JN (Nat.le_trans hz hB2) %[|3]
   have lT:(S++[fzD t0.2]++J).length=S.length+1+J.length:=by simp;omega
   walk_at "b"
   refine⟨rfl,?_⟩
   walk_at "b"
   refine⟨rfl,c,h,held,rfl,by rw[List.append_assoc,x8 hhl];exact hh,?_⟩
   obtain⟨n,j,e1,e2,e3,e4⟩:∃(n:Int) (j:Nat),(aW held c).getD (.tup [.int 0,.dlo (S++[fzD t0.2]++J).length])=.tup [.int n,.dlo j]/\(S++[fzD t0.2]++J++[fzD [(c,1)]])[j]? =some (fzD (trH Hf c).2)/\n=(trH Hf c).1/\S.length≠j:=by
    rcases hR.look c with⟨l1,l2⟩ | ⟨n,j,fz,l1,l2,l3⟩
    . rw[l1]
      refine⟨0,_,rfl,?_,?_,by rw[lT];omega⟩
      . rw[aX];unfold trH;rw[l2];rfl
      . unfold trH;rw[l2];rfl
    . have hj:=(z0.mp l2).1
      rw[l1]
      refine⟨n,j,rfl,?_,?_,%[|0]⟩
      . rw[List.append_assoc,List.append_assoc,x8 hj,l2];unfold trH;rw[l3];rfl
      . unfold trH;rw[l3];rfl
   rw[e1]
   walk_at "b"
   refine⟨⟨gf,gB n (by rw[e3];exact tr.n)⟩,?_⟩
   walk_at "b"
   have mid:∀A:List D,(S++[A]++J++[fzD [(c,1)]])[S.length]? =some A:=λ A=>by rw[List.append_assoc];exact dZ rfl
   refine⟨rfl,S.length,j,r.fac,t0.2,(trH Hf c).2,rfl,e4,mid _,e2,%[|0],gf,λ kv hk=>gB _ (tr.z.bd kv hk),?_⟩
   rw[List.append_assoc,nP rfl]
   refine⟨J++[fzD [(c,1)]],some (dRd r),some (cD c),some (.tup [.int n,.dlo j]),?_,?_⟩
   . rw[et];rfl
   . rw[et,e3];rfl
 . rintro Γ' T ⟨J,o6,o7,o8,rfl,rfl⟩
   have e:(x.rds.map λ r=>D.tup [dRd r,aq (spot r.tab r.pl cs)]).length=(bC x cs).length:=by unfold bC;rw[y7,y7]
   rw[e,List.take_length]
   walk_at "b"
   exact hw J
theorem JZ{fz:Fz}{c:Cel}(h:c∈fz.map (·.1)):∃v,cO fz c=some v:=by
 unfold cO
 cases q:fz.find? λ kv=>decide (kv.1=c)with
 | some kv=>exact⟨kv.2,rfl⟩
 | none=>
   obtain⟨kv,hk,rfl⟩:=ZO.mp h
   have:=List.find?_eq_none.mp q kv hk
   simp at this
def yL:Ct:=λ ds S W=>∃(n:Int) (j:Nat) (fz:Fz),ds=[.tup [.int n,.dlo j]]/\S[j]? =some (fzD fz)/\fz.length<64/\W (b8 (n,fz)) S
theorem qR(F:Fun Ω.K "told_trace" "told_trace" eO f fd)(N0:Ω.cd=none)(B:Bi Ω.mg):Ok Ω 1 f fd uf yL:=by
 refine az N0 (N:=sO) F (t8 B) (by kernel_rfl!) ?_
 rintro ds S W ⟨n,j,fz,rfl,hj,h64,hw⟩ hl
 walk_at "b"
 refine⟨j,cZ fz,rfl,hj,by show(List.map _ _).length<64;rw[y7];exact h64,λ ks k1 k2=>?_⟩
 have ek:(cZ fz).map (·.1)=fz.map (·.1):=by unfold cZ;rw[List.map_map];rfl
 rw[ek]at k1
 have es:=Ov k1 k2
 have kl:=k1.length_eq
 rw[y7]at kl
 walk_at "n"
 refine f9 ⟨by rw[y7];omega,λ i acc S'=>acc=((ks.take i).filterMap (tel fz)).map telD/\S=S',⟨rfl,rfl⟩,?_,?_⟩
 . rintro i e acc S' he ⟨rfl,rfl⟩
   obtain⟨c,hc,rfl⟩:=bH he
   obtain⟨v,hv⟩:=JZ (k1.mem_iff.mp (y4 hc))
   have et:tel fz c=if v=0 then none else some (c,v):=by unfold tel;rw[hv];rfl
   walk_at "b"
   refine⟨c,cZ fz,rfl,hj,.int v,by rw[lZ,hv];rfl,?_⟩
   walk_at "b"
   by_cases z:v=0
   . rw[ZG z]
     walk_at "b"
     refine⟨?_,rfl⟩
     rw[aC hc,List.filterMap_append,List.filterMap_cons,et,if_pos z]
     simp
   . rw[ZH z]
     walk_at "b"
     refine⟨c,cZ fz,rfl,hj,.int v,by rw[lZ,hv];rfl,?_⟩
     walk_at "b"
     refine⟨?_,rfl⟩
     rw[aC hc,List.filterMap_append,List.filterMap_cons,et,if_neg z,v3]
     rfl
 . rintro acc S' ⟨rfl,rfl⟩
   rw[y7,List.take_length,es]
   walk_at "b"
   exact hw
def dOf(p:Pg)(s:Stp):Option (Dd×%[|1]):=(p.nss[s.1]?).bind λ n=>(n.dds[s.2.2]?).map λ x=>(x,s.2.1)
theorem Kz{p:Pg}{n:Ns}(h:p.nss[i]? =some n):(cB i n).map (dOf p)=((cnt n.lps).flatMap λ cs=>n.dds.map λ x=>(x,cs)).map some:=by
 unfold cB
 rw[List.map_flatMap,List.map_flatMap]
 refine gC λ cs _=>?_
 rw[List.map_map,List.map_map]
 apply List.ext_getElem
 . simp
 . intro s h1 h2
   have hs:s<n.dds.length:=by simpa using h2
   rw[List.getElem_map,List.getElem_map,List.getElem_range]
   show dOf p (i,cs,s)=some (n.dds[s],cs)
   unfold dOf
   rw[h]
   show(n.dds[s]?).map _=_
   rw[y3 hs]
   rfl
theorem Uu(p:Pg):(aD p.nss).map (dOf p)=(aP p).map some:=by
 unfold aD aP
 rw[List.map_flatten,List.map_flatMap,List.flatMap_def]
 congr 1
 apply List.ext_getElem
 . simp
 . intro i h1 h2
   have hi:i<p.nss.length:=by simpa using h2
   rw[List.getElem_map,List.getElem_mapIdx,List.getElem_map]
   exact Kz (y3 hi)
theorem Fj{p:Pg}{x:Dd×%[|1]}(h:(aP p)[t]? =some x):∃(s:Stp) (n:Ns),(aD p.nss)[t]? =some s/\p.nss[s.1]? =some n/\n.dds[s.2.2]? =some x.1/\s.2.1=x.2:=by
 have e:((aD p.nss).map (dOf p))[t]? =some (some x):=by rw[Uu,y8,h];rfl
 obtain⟨s,hs,es⟩:=bH e
 obtain⟨n,h1,h2,h3⟩:=uQ (y4 hs)
 refine⟨s,n,hs,h1,?_⟩
 unfold dOf at es
 rw[h1]at es
 have es:some x=(n.dds[s.2.2]?).map λ x=>(x,s.2.1):=es
 rw[y3 h3]at es ⊢
 have es:=Option.some.inj es
 rw[es]
 exact⟨rfl,rfl⟩
def xNo:Dd×%[|1]:=(⟨0,[],(0,[]),[]⟩,[])
def xAt(p:Pg)(t:Nat):Dd×%[|1]:=((aP p)[t]?).getD xNo
theorem nF{p:Pg}(h:t<(aP p).length):(aP p)[t]? =some (xAt p t):=by
 unfold xAt
 rw[y3 h]
 rfl
def wrH(x:Dd×%[|1]):Cel:=toC (spot x.1.tab x.1.pl x.2)
def nxH(Hf:Cel->Option Tr)(x:Dd×%[|1]):Tr:=trS (atC x.1.st x.2) Hf (bC x.1 x.2)
def bw(Hf:Cel->Option Tr)(x:Dd×%[|1]):Cel->Option Tr:=λ c=>if c=wrH x then some (nxH Hf x)else Hf c
def bV(xs:List (Dd×%[|1])):Cel->Option Tr:=xs.foldl bw λ _=>none
structure XOk(U:List Cel)(x:Dd×%[|1]):Prop where
 n2:x.1.st.2.length≤1000
 c64:C64 x.2
 st:(atC x.1.st x.2).natAbs≤2 ^ 100
 rs:∀r∈bC x.1 x.2,r.1.natAbs≤2 ^ 100/\r.2∈U
 l3:x.1.rds.length≤3
theorem zq(x:Dd)(cs:%[|1]):(bC x cs).length=x.rds.length:=y7 _
theorem Ko{U:List Cel}{Hf:Cel->Option Tr}{x:Dd×%[|1]}(h:qb U B Hf)(hB:1≤B)(hU:U.length≤60)(hx:XOk U x):qb U (2 ^ 108*B) (bw Hf x):=by
 intro c t ht
 unfold bw at ht
 by_cases e:c=wrH x
 . rw[if_pos e]at ht
   cases ht
   have:=Ig (X:=2 ^ 100) h hB hU (bC x.1 x.2) hx.rs (A:=2 ^ 100) (acc:=(atC x.1.st x.2,[])) ⟨hx.st,FzOk.nil _ _⟩
   have l:(bC x.1 x.2).length*(60*(2 ^ 100*B))≤3*(60*(2 ^ 100*B)):=Nat.mul_le_mul_right _ (by rw[zq];exact hx.l3)
   have b:2 ^ 100+(bC x.1 x.2).length*(60*(2 ^ 100*B))≤2 ^ 108*B:=by
    have e8:2 ^ 108*B=256*(2 ^ 100*B):=by rw[←Nat.mul_assoc]
    have e1:2 ^ 100≤2 ^ 100*B:=Nat.le_mul_of_pos_right _ hB
    rw[e8]
    generalize 2 ^ 100*B=q at*
    omega
   exact⟨Nat.le_trans this.n b,this.z.mono b⟩
 . rw[if_neg e]at ht
   have:=h c t ht
   have b:B≤2 ^ 108*B:=Nat.le_mul_of_pos_left _ (Nat.pow_pos %[|3])
   exact⟨Nat.le_trans this.n b,this.z.mono b⟩
theorem fH(xs:List (Dd×%[|1]))(x:Dd×%[|1]):bV (xs++[x])=bw (bV xs) x:=by
 unfold bV
 rw[List.foldl_append]
 rfl
theorem Eb{U:List Cel}(hU:U.length≤60){xs:List (Dd×%[|1])}(h:∀x∈xs,XOk U x):∀i,qb U (2 ^ (108*i)) (bV (xs.take i)):=by
 intro i
 induction i with
 | zero=>intro c t ht;cases ht
 | succ i ih=>
   have hp:1≤2 ^ (108*i):=Nat.pow_pos %[|3]
   have e:2 ^ (108*(i+1))=2 ^ 108*2 ^ (108*i):=by rw[Nat.mul_succ,Nat.pow_add,Nat.mul_comm]
   rw[e]
   cases q:xs[i]? with
   | some x=>
     rw[aC q,fH]
     exact Ko ih hp hU (h x (y4 q))
   | none=>
     have hl:=List.getElem?_eq_none_iff.mp q
     rw[List.take_of_length_le %[|0]]
     rw[List.take_of_length_le hl]at ih
     intro c t ht
     have:=ih c t ht
     have b:2 ^ (108*i)≤2 ^ 108*2 ^ (108*i):=Nat.le_mul_of_pos_left _ (Nat.pow_pos %[|3])
     exact⟨Nat.le_trans this.n b,this.z.mono b⟩
def rdU(p:Pg):List Cel:=(aP p).flatMap λ x=>(bC x.1 x.2).map (·.2)
theorem Qy:∀{fs cs:%[|1]},(∀f∈fs,f.natAbs≤99)->(∀c∈cs,c.natAbs≤117)->(List.zipWith (λ a b=>a*b) fs cs).sum.natAbs≤fs.length*11583:=by
 intro fs
 induction fs with
 | nil=>intro cs _ _;simp
 | cons f fs ih=>
   intro cs hf hc
   cases cs with
   | nil=>simp
   | cons c cs=>
     rw[List.zipWith_cons_cons,List.sum_cons,List.length_cons]
     have h1:=ih (λ z hz=>hf z (x3 _ hz)) (λ z hz=>hc z (x3 _ hz))
     have h2:(f*c).natAbs≤99*117:=by rw[Int.natAbs_mul];exact Nat.mul_le_mul (hf f x5) (hc c x5)
     have h3:=Int.natAbs_add_le (f*c) (List.zipWith (λ a b=>a*b) fs cs).sum
     omega
theorem MK{p:Pg}{x:Dd×%[|1]}(h:x∈aP p):∃n∈p.nss,x.2∈cnt n.lps/\x.1∈n.dds:=by
 unfold aP at h
 obtain⟨n,hn,h⟩:=List.mem_flatMap.mp h
 obtain⟨cs,hc,h⟩:=List.mem_flatMap.mp h
 obtain⟨d,hd,rfl⟩:=ZO.mp h
 exact⟨n,hn,hc,hd⟩
theorem yh{p:Pg}(hP:PgB m p){x:Dd×%[|1]}(h:x∈aP p):XOk (rdU p) x:=by
 obtain⟨n,hn,hc,hd⟩:=MK h
 obtain⟨hL,_,_,_,hdd⟩:=hP.2.2.2 n hn
 obtain⟨_,⟨s1,s2,s3,s4⟩,h3,hr⟩:=hdd x.1 hd
 have l3:=hL.2.1
 have hcs:=jA hL n.lps.length (y9 _) x.2 (by rw[List.take_length];exact hc)
 have hb:=qp n.lps.length
 refine⟨by rw[s1];omega,hcs.c64,?_,λ r hr2=>?_,h3⟩
 . have z:=Qy (fs:=x.1.st.2) (cs:=x.2) (λ f hf=>by have:=s2 f hf;omega) (λ c hc=>by have:=hcs.2 c hc;omega)
   rw[s1]at z
   have e:atC x.1.st x.2=x.1.st.1+(List.zipWith (λ a b=>a*b) x.1.st.2 x.2).sum:=rfl
   rw[e]
   generalize (List.zipWith (λ a b=>a*b) x.1.st.2 x.2).sum=q at*
   have:n.lps.length*11583≤3*11583:=Nat.mul_le_mul_right _ l3
   have:(2:Nat) ^ 100=1267650600228229401496703205376:=%[|3]
   omega
 . refine⟨?_,List.mem_flatMap.mpr ⟨x,h,ZO.mpr ⟨r,hr2,rfl⟩⟩⟩
   unfold bC at hr2
   obtain⟨q,hq,rfl⟩:=ZO.mp hr2
   obtain⟨f1,f2,_⟩:=hr q hq
   show q.fac.natAbs≤_
   have:(2:Nat) ^ 100=1267650600228229401496703205376:=%[|3]
   omega
theorem Qp{p:Pg}(hP:PgB m p)(h12:12≤m)(h20:m≤20):(rdU p).length≤60:=by
 have h1:=hP.many h12
 rw[mL]at h1
 have h2:(rdU p).length≤(aP p).length*3:=qm λ x hx=>by
  rw[y7,zq]
  exact(yh hP hx).l3
 omega
theorem TX{p:Pg}(hP:PgB m p){o:List Nat}(hO:iB (aP p).length o):∀x∈o.map (xAt p),XOk (rdU p) x:=λ x hx=>by
 obtain⟨t,ht,rfl⟩:=ZO.mp hx
 exact yh hP (y4 (nF (hO.1 t ht)))
theorem Qs{kvs:Kc}{c:Cel}{kv:Cel×D}(h:kv∈putD kvs c d):(kv.1=c/\kv.2=d)∨(kv∈kvs/\kv.1≠c):=by
 unfold putD at h
 split at h
 . obtain⟨z,hz,rfl⟩:=ZO.mp h
   by_cases e:z.1=c
   . rw[if_pos e];exact .inl ⟨e,rfl⟩
   . rw[if_neg e];exact .inr ⟨hz,e⟩
 . rename_i hn
   rcases ZK.mp h with h | h
   . exact .inr ⟨h,λ e=>hn (List.any_eq_true.mpr ⟨kv,h,ZG e⟩)⟩
   . rw[ZL.mp h];exact .inl ⟨rfl,rfl⟩
theorem qi{kvs:Kc}{c:Cel}:(putD kvs c d).map (·.1)=if(kvs.any λ kv=>decide (kv.1=c))=true then kvs.map (·.1)else kvs.map (·.1)++[c]:=by
 unfold putD
 split
 . rw[List.map_map]
   refine List.map_congr_left λ kv _=>?_
   show(if kv.1=c then(kv.1,d)else kv).1=kv.1
   split<;>rfl
 . rw[v3];rfl
theorem Ri{kvs:Kc}{c:Cel}(h:(kvs.map (·.1)).Nodup):((putD kvs c d).map (·.1)).Nodup:=by
 rw[qi]
 split
 . exact h
 . rename_i hn
   rw[List.nodup_append]
   refine⟨h,by simp,λ a ha b hb e=>?_⟩
   obtain⟨kv,hk,rfl⟩:=ZO.mp ha
   rw[List.mem_singleton]at hb
   exact hn (List.any_eq_true.mpr ⟨kv,hk,ZG (e.trans hb)⟩)
theorem Ol{kvs:Kc}{c:Cel}:c∈(putD kvs c d).map (·.1):=by
 rw[qi]
 split
 . rename_i hn
   obtain⟨kv,hk,e⟩:=List.any_eq_true.mp hn
   exact ZO.mpr ⟨kv,hk,ZF e⟩
 . simp
theorem Qx{kvs:Kc}{c c':Cel}(h:c'∈kvs.map (·.1)):c'∈(putD kvs c d).map (·.1):=by
 rw[qi]
 split
 . exact h
 . exact List.mem_append_left _ h
theorem HeldR.put{held:Kc}{Hf:Cel->Option Tr}(h:HeldR k S held Hf)(hk:k<S.length){x:Dd×%[|1]}{t:Tr}(ht:t=nxH Hf x){X:List D}:HeldR k ((S++[fzD t.2]++J).set k X) (putD held (wrH x) (.tup [.int t.1,.dlo S.length])) (bw Hf x):=by
 refine⟨λ kv hkv=>?_,λ c hc=>?_,Ri h.nd⟩
 . rcases Qs hkv with⟨e1,e2⟩ | ⟨hm,hne⟩
   . refine⟨t.1,S.length,t.2,e2,?_,?_,%[|0]⟩
     . rw[List.getElem?_set_ne %[|0]];exact dZ rfl
     . unfold bw;rw[if_pos e1,ht]
   . obtain⟨n,j,fz,e1,e2,e3,e4⟩:=h.at_ kv hm
     refine⟨n,j,fz,e1,?_,?_,e4⟩
     . rw[List.getElem?_set_ne e4,List.append_assoc,x8 (z0.mp e2).1];exact e2
     . unfold bw;rw[if_neg hne];exact e3
 . have n1:c≠wrH x:=λ e=>by
    obtain⟨kv,hm,e2⟩:=ZO.mp (Ol (kvs:=held) (c:=wrH x) (d:=.tup [.int t.1,.dlo S.length]))
    exact hc kv hm (e2.trans e.symm)
   unfold bw
   rw[if_neg n1]
   refine h.no c λ kv hm e=>?_
   obtain⟨kv2,hm2,e2⟩:=ZO.mp (Qx (c:=wrH x) (d:=.tup [.int t.1,.dlo S.length]) (ZO.mpr ⟨kv,hm,rfl⟩))
   exact hc kv2 hm2 (e2.trans e)
def wV:Ct:=λ ds S W=>∃(p:Pg) (m:Nat) (o:List Nat),ds=[dPg p,.lst (dN o)]/\PgB m p/\12≤m/\m≤60/\flat S/\o.length≤60/\iB (aP p).length o/\W .non S
theorem lV(F:Fun Ω.K "refuse_no_row" "refuse_no_row" cY f fd)(N0:Ω.cd=none)(Cq30:Cal Ω "is_row" 5 2 Dr):Ok Ω 6 f fd nW wV:=by
 refine az N0 (N:=oh) F (nU Cq30) (by kernel_rfl!) ?_
 rintro ds S W ⟨p,m,o,rfl,hP,h12,h60,hS,ho,hO,hw⟩ hl
 walk_at "b"
 refine⟨rfl,p,m,o,rfl,hP,h12,h60,hS,ho,hO,?_⟩
 walk_at "b"
 exact hw
def tvH(Hf:Cel->Option Tr)(c:Cel):D:=b8 ((Hf c).getD (0,[]))
def tlH(Hf:Cel->Option Tr)(held:Kc):Kc:=held.map λ kv=>(kv.1,tvH Hf kv.1)
theorem yw(Hf:Cel->Option Tr)(held:Kc):(tlH Hf held).map (·.1)=held.map (·.1):=by
 unfold tlH
 rw[List.map_map]
 rfl
theorem PX{kvs:Kc}{c:Cel}(h:c∉kvs.map (·.1)):putD kvs c d=kvs++[(c,d)]:=by
 unfold putD
 rw[if_neg]
 intro e
 obtain⟨kv,hk,e⟩:=List.any_eq_true.mp e
 exact h (ZO.mpr ⟨kv,hk,ZF e⟩)
theorem N5{Hf:Cel->Option Tr}{held:Kc}(nd:(held.map (·.1)).Nodup){i:Nat}{kv:Cel×D}(h:held[i]? =some kv):putD (tlH Hf (held.take i)) kv.1 (tvH Hf kv.1)=tlH Hf (held.take (i+1)):=by
 rw[PX,aC h]
 . unfold tlH
   rw[v3]
   rfl
 . rw[yw]
   intro hm
   obtain⟨z,hz,e⟩:=ZO.mp hm
   obtain⟨j,hj⟩:=ZR hz
   have hi:=(z0.mp h).1
   rw[List.getElem?_take]at hj
   split at hj
   . refine Gu nd (by assumption) (by rw[y7];exact hi) ?_
     rw[y8,y8,hj,h]
     show some z.1=some kv.1
     rw[e]
   . cases hj
theorem Mf{Hf:Cel->Option Tr}{held:Kc}(hR:HeldR k S held Hf)(c:Cel):aW (tlH Hf held) c=(Hf c).map b8:=by
 have e:aW (tlH Hf held) c=(held.find? λ kv=>decide (kv.1=c)).map λ kv=>tvH Hf kv.1:=by
  unfold aW tlH
  rw[List.find?_map,Option.map_map]
  rfl
 rw[e]
 cases q:held.find? λ kv=>decide (kv.1=c)with
 | none=>
   rw[hR.no c λ kv hk e=>by have:=List.find?_eq_none.mp q kv hk;simp[e]at this]
   rfl
 | some kv=>
   have ec:kv.1=c:=by have:=List.find?_some q;simpa using this
   obtain⟨n,j,fz,e1,e2,e3,_⟩:=hR.at_ kv (List.mem_of_find?_eq_some q)
   show some (tvH Hf kv.1)=_
   rw[←ec]
   unfold tvH
   rw[e3]
   rfl
theorem j8(t:Tr):ak (b8 t)=true:=by
 have:aj ((tellZ t.2).map telD)=true:=jK (λ kv=>by
  show aj [cD kv.1,.int kv.2]=true
  simp only[aj,Bool.and_true]
  show(ak (cD kv.1)&&true)=true
  rw[Bool.and_true]
  show aj [.int kv.1.1,.tup (kv.1.2.map .int)]=true
  show(true&&(aj (kv.1.2.map .int)&&true))=true
  rw[bJ]
  rfl) _
 show(true&&(aj ((tellZ t.2).map telD)&&true))=true
 rw[this]
 rfl
theorem Ru(c:Cel):okD (cD c)=true:=by
 show(true&&(bR (c.2.map .int)&&true))=true
 rw[mX]
 rfl
theorem Dn(t:Tr):okD (b8 t)=true/\deep (b8 t)≤50:=by
 have h:∀l:List (Cel×Int),bR (l.map telD)=true/\aU (l.map telD)≤3:=by
  intro l
  induction l with
  | nil=>exact⟨rfl,Nat.zero_le _⟩
  | cons kv l ih=>
    constructor
    . show((okD (cD kv.1)&&(true&&true))&&bR (l.map telD))=true
      rw[Ru,ih.1]
      rfl
    . show max (max (deep (cD kv.1)) 0+1) (aU (l.map telD))≤3
      have:deep (cD kv.1)=2:=by
       show max 0 (max (aU (kv.1.2.map .int)+1) 0)+1=2
       rw[jU]
       rfl
      have:=ih.2
      omega
 obtain⟨h1,h2⟩:=h (tellZ t.2)
 constructor
 . show(true&&(bR ((tellZ t.2).map telD)&&true))=true
   rw[h1]
   rfl
 . show max 0 (max (aU ((tellZ t.2).map telD)+1) 0)+1≤50
   omega
structure Told(Hf:Cel->Option Tr)(tl:Kc):Prop where
 nd:(tl.map (·.1)).Nodup
 lk:∀c,aW tl c=(Hf c).map b8
 vl:∀kv∈tl,(Hf kv.1).map b8=some kv.2
 ok:jJ tl
 nl:aj (.non::tl.map encC)=true
theorem Qm{Hf:Cel->Option Tr}{held:Kc}(hR:HeldR k S held Hf):Told Hf (tlH Hf held):=by
 refine⟨by rw[yw];exact hR.nd,Mf hR,λ kv hk=>?_,λ kv hk=>?_,?_⟩
 . unfold tlH at hk
   obtain⟨z,hz,rfl⟩:=ZO.mp hk
   obtain⟨n,j,fz,_,_,e3,_⟩:=hR.at_ z hz
   show(Hf z.1).map b8=some (tvH Hf z.1)
   unfold tvH
   rw[e3]
   rfl
 . unfold tlH at hk
   obtain⟨z,_,rfl⟩:=ZO.mp hk
   exact Dn _
 . show(true&&aj ((tlH Hf held).map encC))=true
   rw[Bool.true_and]
   refine Fo λ d hd=>?_
   obtain⟨kv,hk,rfl⟩:=ZO.mp hd
   unfold tlH at hk
   obtain⟨z,_,rfl⟩:=ZO.mp hk
   show(ak (cD z.1)&&(ak (b8 _)&&true))=true
   rw[j8]
   have:ak (cD z.1)=true:=by
    show(true&&(aj (z.1.2.map .int)&&true))=true
    rw[bJ]
    rfl
   rw[this]
   rfl
def yq:Ct:=λ ds S W=>∃(p:Pg) (m:Nat) (o:List Nat),ds=[dPg p,.lst (dN o)]/\PgB m p/\12≤m/\m≤20/\flat S/\iB (aP p).length o/\∀tl:Kc,Told (bV (o.map (xAt p))) tl->W (.dlo S.length) (S++[.non::tl.map encC])
theorem Bw(F:Fun Ω.K "traced" "traced" jG f fd)(N0:Ω.cd=none)(Cq39:Cal Ω "steps_of" 4 1 nG)(Cq18:Cal Ω "deed_of" 1 2 pg)(Cq14:Cal Ω "cells_of" 5 1 iD)(Cq38:Cal Ω "refuse_no_row" 6 2 wV)(Cq44:Cal Ω "trace_of_step" 2 4 CP)(Cq40:Cal Ω "told_trace" 1 1 yL):Ok Ω 7 f fd Fw yq:=by
 refine az N0 (N:=Ej) F (Bl.owq (FN Cq39 Cq18 Cq14 Cq38 Cq44 Cq40)) (by kernel_rfl!) ?_
 rintro ds S W ⟨p,m,o,rfl,hP,h12,h20,hS,hO,hw⟩ hl
 have h60:m≤60:=%[|0]
 have hN:=qT hP h12 h60
 have ho:o.length≤60:=by
  have:=sub_len hO.2 (U:=List.range (aP p).length) λ t ht=>List.mem_range.mpr (hO.1 t ht)
  rw[List.length_range]at this
  omega
 have hU:=Qp hP h12 h20
 have hX:=TX hP hO
 walk_at "b"
 refine⟨rfl,p,m,o,rfl,hP,h12,h60,hS,ho,hO,?_⟩
 walk_at "b"
 refine⟨rfl,Jg hP h12 h60 hS (.inl ?_)⟩
 walk_at "b"
 refine⟨rfl,uJ hP h12 h60 hS ?_⟩
 rw[iy]
 walk_at "b"
 refine aZ ⟨λ i Γ' T=>∃J held o5 o6,T=S++[.non::held.map encC]++J/\HeldR S.length T held (bV ((o.map (xAt p)).take i))/\held.length≤i/\Γ'=[some (dPg p),some (.lst (dN o)),some (.lst ((aD p.nss).map dSt)),some (.lst ((aP p).map λ x=>dCR (crs x))),some (.dlo S.length),o5,o6,none,none,none],⟨[],[],_,_,by simp,⟨(λ _ h=>nomatch h),λ _ _=>rfl,List.nodup_nil⟩,y9 _,rfl⟩,?_,?_⟩
 . rintro i e Γ' T he ⟨J,held,o5,o6,rfl,hR,hhl,rfl⟩
   obtain⟨t,ht,rfl⟩:=Rw he
   have htl:=hO.1 t (y4 ht)
   have hi:=(z0.mp ht).1
   have hx:=nF htl
   have hxo:=hX (xAt p t) (ZO.mpr ⟨t,y4 ht,rfl⟩)
   have hHf:=Eb hU hX i
   have hB2:2 ^ (108*i)≤2 ^ 50000:=Nat.pow_le_pow_right %[|3] %[|0]
   have et:bV ((o.map (xAt p)).take (i+1))=bw (bV ((o.map (xAt p)).take i)) (xAt p t):=by
    rw[aC (by rw[y8,ht];rfl),fH]
   obtain⟨⟨si,sc,sd⟩,n,k1,k2,k3,k4⟩:=Fj hx
   have k4:sc=(xAt p t).2:=k4
   subst k4
   have a1:atI ((aD p.nss).map dSt) ((t:Nat):Int)=some (dSt (si,(xAt p t).2,sd)):=bA (by rw[y8,k1];rfl)
   have a2:atI ((aP p).map λ x=>dCR (crs x)) ((t:Nat):Int)=some (dCR (crs (xAt p t))):=bA (by rw[y8,hx];rfl)
   generalize bV ((o.map (xAt p)).take i)=Hf at hR hHf et
   generalize xAt p t=x at hx hxo et k1 k2 k3 a1 a2
   have hat:(S++[.non::held.map encC]++J)[S.length]? =some (.non::held.map encC):=dZ rfl
   walk_at "b"
   refine⟨_,a1,?_⟩
   walk_at "b"
   refine⟨rfl,p,(si,x.2,sd),n,x.1,rfl,k2,k3,?_⟩
   walk_at "b"
   refine⟨_,a2,?_⟩
   walk_at "b"
   refine⟨rfl,x.1,x.2,S.length,held,Hf,rdU p,2 ^ (108*i),?_,hxo.n2,hxo.c64,hat,hR,hHf,Nat.pow_pos %[|3],hB2,hU,hxo.rs,hxo.l3,λ J2=>?_⟩
   . have e:(crs x).2.map aq=x.1.rds.map λ r=>aq (spot r.tab r.pl x.2):=by unfold crs;rw[List.map_map];rfl
     rw[e]
   have hR2:=hR.put (J:=J2) (x:=x) (t:=nxH Hf x) (X:=.non::(putD held (wrH x) (.tup [.int (nxH Hf x).1,.dlo (S++[.non::held.map encC]++J).length])).map encC) (z0.mp hat).1 rfl
   have hpl:=NZ held (wrH x) (.tup [.int (nxH Hf x).1,.dlo (S++[.non::held.map encC]++J).length])
   have est:(S++[.non::held.map encC]++J++[fzD (nxH Hf x).2]++J2).set S.length (.non::(putD held (wrH x) (.tup [.int (nxH Hf x).1,.dlo (S++[.non::held.map encC]++J).length])).map encC)=S++[.non::(putD held (wrH x) (.tup [.int (nxH Hf x).1,.dlo (S++[.non::held.map encC]++J).length])).map encC]++(J++[fzD (nxH Hf x).2]++J2):=by
    rw[List.append_assoc,List.append_assoc (S++[.non::held.map encC]),nP rfl,List.append_assoc J]
   walk_at "b"
   refine⟨_,a2,?_⟩
   walk_at "b"
   refine⟨wrH x,held,rfl,?_,%[|0],J++[fzD (nxH Hf x).2]++J2,putD held (wrH x) (.tup [.int (nxH Hf x).1,.dlo (S++[.non::held.map encC]++J).length]),_,_,est,?_,%[|0],rfl⟩
   . rw[List.append_assoc,List.append_assoc (S++[.non::held.map encC])];exact dZ rfl
   . rw[et]
     exact hR2
 . rintro Γ' T ⟨J,held,o5,o6,rfl,hR,hhl,rfl⟩
   have eo:(o.map (xAt p)).take (dN o).length=o.map (xAt p):=by rw[dW,List.take_of_length_le (by rw[y7];exact y9 _)]
   have hHf:=Eb hU hX o.length
   rw[List.take_of_length_le (by rw[y7];exact y9 _)]at hHf
   rw[eo]at hR
   generalize bV (o.map (xAt p))=Hf at hR hHf hw
   have hT:=Qm hR
   have hat:(S++[.non::held.map encC]++J)[S.length]? =some (.non::held.map encC):=dZ rfl
   have hSl:S.length<(S++[.non::held.map encC]++J).length:=(z0.mp hat).1
   have hsl:S.length≤(S++[.non::held.map encC]++J).length:=Nat.le_of_lt hSl
   have hSJ:∃J2,S++[.non::held.map encC]++J=S++J2:=⟨_,by rw[List.append_assoc]⟩
   walk_at "b"
   generalize S++[.non::held.map encC]++J=T at*
   refine⟨held,by rw[x8 hSl];exact hat,Ef ⟨λ i Γ' T'=>∃o8 o9,T'=T++[.non::(tlH Hf (held.take i)).map encC]/\Γ'=[some (dPg p),some (.lst (dN o)),some (.lst ((aD p.nss).map dSt)),some (.lst ((aP p).map λ x=>dCR (crs x))),some (.dlo S.length),o5,o6,some (.dlo T.length),o8,o9],⟨_,_,rfl,rfl⟩,?_,?_,?_⟩⟩
   . rintro i Γ' T' ⟨o8,o9,rfl,rfl⟩
     rw[x8 hSl]
     exact hat
   . rintro i kv Γ' T' hkv ⟨o8,o9,rfl,rfl⟩
     obtain⟨n,j,fz,e1,e2,e3,e4⟩:=hR.at_ kv (y4 hkv)
     have hj:=(z0.mp e2).1
     have hfl:fz.length≤(rdU p).length:=(hHf _ _ e3).z.len
     have ev:tvH Hf kv.1=b8 (n,fz):=by unfold tvH;rw[e3];rfl
     have hp:=N5 (Hf:=Hf) hR.nd hkv
     rw[ev]at hp
     have tll:(tlH Hf (held.take i)).length≤60:=by
      unfold tlH
      rw[y7,List.length_take]
      rw[dW]at hhl
      omega
     have ek:encC kv=.tup [cD kv.1,.tup [.int n,.dlo j]]:=by show D.tup [cD kv.1,kv.2]=_;rw[e1]
     rw[ek]
     walk_at "b"
     refine⟨rfl,?_⟩
     walk_at "b"
     refine⟨rfl,n,j,fz,rfl,by rw[x8 hj];exact e2,%[|0],?_⟩
     walk_at "b"
     refine⟨kv.1,tlH Hf (held.take i),rfl,aX _ _,%[|0],?_⟩
     rw[bN,hp]
     exact⟨_,_,rfl,rfl⟩
   . rintro Γ' T' ⟨o8,o9,rfl,rfl⟩
     rw[List.take_length]
     obtain⟨J2,rfl⟩:=hSJ
     walk_at "b"
     exact .inr ⟨true,J2++[.non::(tlH Hf held).map encC],S,(S++J2).length,.non::(tlH Hf held).map encC,rfl,by rw[List.append_assoc],y9 _,hsl,aX _ _,hT.nl,hS,hw _ hT⟩
def swp(o:List Nat)(v a b:Nat):List Nat:=o.take v++[b,a]++o.drop (v+2)
theorem Ny{v a b:Nat}(h1:o[v]? =some a)(h2:o[v+1]? =some b):(dN o).take v++[D.int (b:Int),D.int (a:Int)]++(dN o).drop (v+2)=dN (swp o v a b):=by
 unfold swp dN
 rw[v3,v3,List.map_take,List.map_drop];rfl
theorem swap_perm{v a b:Nat}(h1:o[v]? =some a)(h2:o[v+1]? =some b)(hO:o.Perm (List.range n)):(swp o v a b).Perm (List.range n):=by
 refine List.Perm.trans ?_ hO
 obtain⟨l1,e1⟩:=z0.mp h1
 obtain⟨l2,e2⟩:=z0.mp h2
 have e:o=o.take v++[a,b]++o.drop (v+2):=by
  rw[List.append_assoc]
  show o=o.take v++(a::b::o.drop (v+1+1))
  rw[←e2,←List.drop_eq_getElem_cons l2,←e1,←List.drop_eq_getElem_cons l1,List.take_append_drop]
 unfold swp
 conv=>rhs;rw[e]
 exact List.Perm.append_right _ (List.Perm.append_left _ (List.Perm.swap _ _ _))
theorem QB{Hf Hg:Cel->Option Tr}:∀(rs:List (Int×Cel))(acc:Tr),(∀r∈rs,Hf r.2=Hg r.2)->rs.foldl (dR Hf) acc=rs.foldl (dR Hg) acc:=by
 intro rs
 induction rs with
 | nil=>intro _ _;rfl
 | cons r rs ih=>
   intro acc h
   have e:dR Hf acc r=dR Hg acc r:=by unfold dR trH;rw[h r x5]
   rw[List.foldl_cons,List.foldl_cons,e]
   exact ih _ λ z hz=>h z (x3 _ hz)
theorem tQ{Hf:Cel->Option Tr}{x y:Dd×%[|1]}(h:∀r∈bC y.1 y.2,r.2≠wrH x):nxH (bw Hf x) y=nxH Hf y:=by
 unfold nxH trS
 refine QB _ _ λ r hr=>?_
 unfold bw
 rw[if_neg (h r hr)]
theorem HJ{Hf:Cel->Option Tr}{x y:Dd×%[|1]}(h1:wrH x≠wrH y)(h2:∀r∈bC y.1 y.2,r.2≠wrH x)(h3:∀r∈bC x.1 x.2,r.2≠wrH y):bw (bw Hf x) y=bw (bw Hf y) x:=by
 funext c
 show(if c=wrH y then some (nxH (bw Hf x) y)else if c=wrH x then some (nxH Hf x)else Hf c)=(if c=wrH x then some (nxH (bw Hf y) x)else if c=wrH y then some (nxH Hf y)else Hf c)
 rw[tQ h2,tQ h3]
 by_cases e1:c=wrH y
 . rw[if_pos e1,if_pos e1,if_neg (λ e=>h1 (e.symm.trans e1))]
 . rw[if_neg e1,if_neg e1]
theorem MP{a b:List (Dd×%[|1])}{x y:Dd×%[|1]}(h1:wrH x≠wrH y)(h2:∀r∈bC y.1 y.2,r.2≠wrH x)(h3:∀r∈bC x.1 x.2,r.2≠wrH y):bV (a++[y,x]++b)=bV (a++[x,y]++b):=by
 unfold bV
 rw[List.foldl_append,List.foldl_append,List.foldl_append,List.foldl_append]
 show b.foldl bw (bw (bw _ y) x)=b.foldl bw (bw (bw _ x) y)
 rw[HJ h1 h2 h3]
theorem Dc{a b:Cell}(h:toC a=toC b):a=b:=by
 unfold toC at h
 have h1:=congrArg Prod.fst h
 have h2:=congrArg Prod.snd h
 exact Prod.ext (Int.ofNat.inj h1) h2
theorem Gr{x:Dd×%[|1]}{c:Cell}(h:c∉(crs x).2):∀r∈bC x.1 x.2,r.2≠toC c:=by
 intro r hr e
 unfold bC at hr
 obtain⟨q,hq,rfl⟩:=ZO.mp hr
 have e:=Dc e
 exact h (by unfold crs;rw[←e];exact ZO.mpr ⟨q,hq,rfl⟩)
theorem Q7{x y:Dd×%[|1]}(h:rY (crs x) (crs y)=false):(crs x).1≠(crs y).1/\(crs x).1∉(crs y).2/\(crs y).1∉(crs x).2:=by
 unfold rY at h
 rw[Bool.or_eq_false_iff,Bool.or_eq_false_iff]at h
 exact⟨of_decide_eq_false h.1.1,of_decide_eq_false h.1.2,of_decide_eq_false h.2⟩
theorem Mz(t:Tr):eqD (b8 t) (b8 t)=true:=jT _ (j8 t)
theorem K8{kvs:Kc}{c:Cel}(h:aW kvs c=some d):c∈kvs.map (·.1):=by
 unfold aW at h
 cases q:kvs.find? λ kv=>decide (kv.1=c)with
 | none=>rw[q]at h;cases h
 | some kv=>
   have e:kv.1=c:=by have:=List.find?_some q;simpa using this
   exact ZO.mpr ⟨kv,List.mem_of_find?_eq_some q,e⟩
theorem zU{Hf:Cel->Option Tr}{ta tb:Kc}(a:Told Hf ta)(b:Told Hf tb):ta.length≤tb.length:=by
 have:=sub_len a.nd (U:=tb.map (·.1)) λ c hc=>by
  obtain⟨kv,hk,rfl⟩:=ZO.mp hc
  exact K8 (d:=kv.2) (by rw[b.lk,a.vl kv hk])
 rw[y7,y7]at this
 exact this
theorem QC{Hf:Cel->Option Tr}{ta tb:Kc}(a:Told Hf ta)(b:Told Hf tb):sZ ta tb=true:=by
 unfold sZ
 rw[Bool.and_eq_true]
 constructor
 . rw[Nat.le_antisymm (zU a b) (zU b a)]
   exact beq_self_eq_true _
 . rw[List.all_eq_true]
   intro kv hk
   unfold sr
   have e:=a.vl kv hk
   rw[b.lk,e]
   show eqD kv.2 kv.2=true
   cases q:Hf kv.1 with
   | none=>rw[q]at e;cases e
   | some t=>rw[q]at e;rw[←Option.some.inj e];exact Mz t
theorem J1{c:Cell}{l:List Cell}{W:Bool->%[|4]}(w:W (!decide (c∈l)) S):aQ .NotIn (aq c) (.lst (l.map aq)) S W:=by
 rw[←yR]at w
 exact Rc (ds:=l.map aq) rfl (eG c) (j4 l) (Nat.le_trans (je l) %[|3]) w
theorem Ht{c:Cell}{x:Dd×%[|1]}{W:Bool->%[|4]}(w:W (!decide (c∈(crs x).2)) S):aQ .NotIn (aq c) (.lst (x.1.rds.map λ r=>aq (spot r.tab r.pl x.2))) S W:=by
 have e:(x.1.rds.map λ r=>aq (spot r.tab r.pl x.2))=(crs x).2.map aq:=by unfold crs;rw[List.map_map];rfl
 rw[e]
 exact J1 w
theorem Qw{t:Tr}{W:Bool->%[|4]}(w:W false S):aQ .NotEq (b8 t) (b8 t) S W:=by
 unfold aQ
 exact .inr ⟨rfl,j8 t,(Dn t).2,w⟩
theorem Mg{p:Pg}(hP:PgB m p):∀z∈aP p,z.1.rds.length≤1000:=λ z hz=>by
 have:=(yh hP hz).l3
 omega
theorem Jx{a b:Nat}(h1:o[i]? =some a)(h2:o[i+1]? =some b):o=o.take i++[a,b]++o.drop (i+2):=by
 obtain⟨l1,e1⟩:=z0.mp h1
 obtain⟨l2,e2⟩:=z0.mp h2
 rw[List.append_assoc]
 show o=o.take i++(a::b::o.drop (i+1+1))
 rw[←e2,←List.drop_eq_getElem_cons l2,←e1,←List.drop_eq_getElem_cons l1,List.take_append_drop]
theorem Cz{q:List Nat}(h:iB n o)(hs:q.Sublist o):iB n q:=⟨λ t ht=>h.1 t (hs.mem ht),h.2.sublist hs⟩
theorem Tw(F:Fun Ω.K "law" "law" kj f fd)(N0:Ω.cd=none)(B:Bi Ω.mg)(Cq37:Cal Ω "program_of" 10 2 xU)(Cq42:Cal Ω "touches" 6 3 uU)(Cq45:Cal Ω "traced" 7 2 yq)(Cq7:Cal Ω "_law_pen" 2 2 Ji)(Cq8:Cal Ω "_law_program" 5 2 Dp)(Cq10:Cal Ω "_law_steps" 3 1 zQ)(Cq6:Cal Ω "_law_order" 3 2 Dw):Ok Ω 11 f fd M9 nD:=by
 refine az N0 (N:=Vm) F (Va B Cq37 Cq42 Cq45 Cq7 Cq8 Cq10 Cq6) (by kernel_rfl!) ?_
 rintro ds S W ⟨ns,rfl,hn,hw,hS0⟩ hl
 subst hS0
 walk_at "b"
 refine⟨rfl,ns,1,rfl,%[|3],λ c=>?_⟩
 have p0:aJ ([]++[iY ns c 1]) 0:=⟨ns,c,1,by simp,%[|3]⟩
 have f0:flat ([]++[iY ns c 1]):=cg (λ l hl=>by cases hl) (oY ..)
 generalize ([]++[iY ns c 1]:Store)=S0 at*
 walk_at "b"
 refine⟨rfl,0,16,rfl,p0,f0,%[|3],%[|3],λ p S2 hP u2 p2 f2=>?_⟩
 walk_at "b"
 refine⟨rfl,p,16,rfl,hP,%[|3],f2,.inl ?_⟩
 walk_at "b"
 refine⟨rfl,Lk hP %[|3] %[|3] f2 ?_⟩
 have hN:=qT hP %[|3] %[|3]
 have hr:=Mg hP
 rw[Kv]
 walk_at "b"
 rw[y7]
 refine⟨rfl,0,(aP p).length,rfl,p2,hN,f2,λ o S3 hO u3 p3=>?_⟩
 have f3:=u3.flat f2
 have hol:o.length=(aP p).length:=zA hO
 have hOk:=Dh hO
 walk_at "b"
 refine⟨rfl,p,16,o,rfl,hP,%[|3],%[|3],f3,hOk,λ tl hT=>?_⟩
 have f4:flat (S3++[.non::tl.map encC]):=cg f3 hT.nl
 have at4:(S3++[.non::tl.map encC])[S3.length]? =some (.non::tl.map encC):=aX _ _
 generalize S3++[.non::tl.map encC]=S4 at*
 generalize S3.length=K at*
 have hK:=(z0.mp at4).1
 walk_at "b"
 rw[dW]
 refine⟨⟨%[|0],%[|0]⟩,aZ ⟨λ i Γ' T=>∃J o7 o8 o9 o10 o11 o12 o13 o14 o15,T=S4++J/\flat T/\Γ'=[some (.lst (ns.map .int)),some (.loc 0),some (dPg p),some (.lst ((aP p).map λ x=>dj x.2 x.1)),some (dPg p),some (.lst (dN o)),some (.dlo K),o7,o8,o9,o10,o11,o12,o13,o14,o15],⟨[],_,_,_,_,_,_,_,_,_,by rw[List.append_nil],f4,rfl⟩,?_,?_⟩⟩
 . rintro i e Γ' T he ⟨J,o7,o8,o9,o10,o11,o12,o13,o14,o15,rfl,fT,rfl⟩
   obtain⟨hi,rfl⟩:=bO he
   have e0:(0+(i:Int))=((i:Nat):Int):=%[|0]
   rw[e0]
   refine qU ?_
   simp only[List.set_cons_succ,List.set_cons_zero]
   have g1:o[i]? =some o[i]:=y3 %[|0]
   have g2:o[i+1]? =some o[i+1]:=y3 %[|0]
   generalize o[i]=a at g1
   generalize o[i+1]=b at g2
   have es:=Jx g1 g2
   suffices body:∀Wf:DL.Fin,(∀Γ' T,(∃J o7 o8 o9 o10 o11 o12 o13 o14 o15,T=S4++J/\flat T/\Γ'=[some (.lst (ns.map .int)),some (.loc 0),some (dPg p),some (.lst ((aP p).map λ x=>dj x.2 x.1)),some (dPg p),some (.lst (dN o)),some (.dlo K),o7,o8,o9,o10,o11,o12,o13,o14,o15])->Wf.nx Γ' T)->(zO B Cq37 Cq42 Cq45 Cq7 Cq8 Cq10 Cq6).wp [some (.lst (ns.map .int)),some (.loc 0),some (dPg p),some (.lst ((aP p).map λ x=>dj x.2 x.1)),some (dPg p),some (.lst (dN o)),some (.dlo K),some (.int (i:Int)),o8,o9,o10,o11,o12,o13,o14,o15] (S4++J) Wf from body _ λ _ _ h=>h
   intro Wf hf
   have hab:a≠b:=λ e=>Gu hOk.2 (Nat.lt_succ_self i) %[|0] (by rw[g1,e];exact g2.symm)
   have hx:=nF (hOk.1 a (y4 g1))
   have hy:=nF (hOk.1 b (y4 g2))
   have ax:atI ((aP p).map λ x=>dj x.2 x.1) ((a:Nat):Int)=some (dj (xAt p a).2 (xAt p a).1):=bA (by rw[y8,hx];rfl)
   have ay:atI ((aP p).map λ x=>dj x.2 x.1) ((b:Nat):Int)=some (dj (xAt p b).2 (xAt p b).1):=bA (by rw[y8,hy];rfl)
   have hrx:=hr _ (y4 hx)
   have hry:=hr _ (y4 hy)
   have key:∀(J:Store)(o10 o11 o12 o13 o14 o15:Option D),flat (S4++J)->(qw B Cq37 Cq42 Cq45 Cq7 Cq8 Cq10 Cq6).wp [some (.lst (ns.map .int)),some (.loc 0),some (dPg p),some (.lst ((aP p).map λ x=>dj x.2 x.1)),some (dPg p),some (.lst (dN o)),some (.dlo K),some (.int (i:Int)),some (.int (a:Int)),some (.int (b:Int)),o10,o11,o12,o13,o14,o15] (S4++J) Wf:=by
    intro J o10 o11 o12 o13 o14 o15 fT
    walk_at "b"
    refine⟨_,ay,?_⟩
    walk_at "b"
    refine⟨rfl,?_⟩
    walk_at "b"
    refine⟨_,ax,?_⟩
    walk_at "b"
    refine cell_eq (a:=(crs (xAt p a)).1) (b:=(crs (xAt p b)).1) ?_
    by_cases h:(crs (xAt p a)).1=(crs (xAt p b)).1
    . rw [ZG h]
      walk_at "b"
      refine gP (λ r:Rd=>aq (spot r.tab r.pl (xAt p b).2)) %[|0] ?_ ?_
      . intro k r hr Q hq
        walk_at "b"
        refine⟨rfl,?_⟩
        walk_at "b"
        exact hq
      refine Ht (c:=(crs (xAt p b)).1) (x:=xAt p b) ?_
      by_cases h2:(crs (xAt p b)).1∈(crs (xAt p b)).2
      . rw[ZG h2]
        walk_at "b"
        exact hf _ _ ⟨J,_,_,_,_,_,_,_,_,_,rfl,fT,rfl⟩
      . rw[ZH h2]
        walk_at "b"
        rw[yz %[|0],show((i:Int)+2).toNat=i+2 from %[|0]]
        have eT:(dN o).take (i+2)=dN (o.take (i+2)):=by unfold dN;rw[List.map_take]
        rw[eT]
        refine⟨rfl,p,16,o.take (i+2),rfl,hP,%[|3],%[|3],fT,Cz hOk (List.take_sublist _ _),λ t1 hT1=>?_⟩
        have fT1:flat (S4++J++[.non::t1.map encC]):=cg fT hT1.nl
        walk_at "b"
        rw[yz %[|0],Int.toNat_natCast]
        refine⟨by rw[List.length_take,dW];show _+1≤_;omega,?_⟩
        have eT2:(dN o).take i++[D.int (b:Int)]=dN (o.take i++[b]):=by unfold dN;rw[v3,List.map_take];rfl
        rw[eT2]
        have sub:(o.take i++[b]).Sublist o:=by
         have e:(o.take i++[b]).Sublist (o.take i++[a,b]++o.drop (i+2)):=by
          rw[List.append_assoc]
          exact List.Sublist.append_left (List.Sublist.cons _ (List.Sublist.cons_cons _ (List.nil_sublist _))) _
         rw[←es]at e
         exact e
        walk_at "b"
        refine⟨rfl,p,16,o.take i++[b],rfl,hP,%[|3],%[|3],fT1,Cz hOk sub,λ tz hTz=>?_⟩
        have fT2:flat (S4++J++[.non::t1.map encC]++[.non::tz.map encC]):=cg fT1 hTz.nl
        have exy:wrH (xAt p a)=wrH (xAt p b):=congrArg toC h
        have r1:bV ((o.take (i+2)).map (xAt p)) (wrH (xAt p b))=some (nxH (bV ((o.take i).map (xAt p))) (xAt p b)):=by
         rw[aC g2,aC g1,v3,v3]
         show bV ((o.take i).map (xAt p)++[xAt p a]++[xAt p b]) _=_
         rw[fH,fH]
         show(if wrH (xAt p b)=wrH (xAt p b)then _ else _)=_
         rw[if_pos rfl,tQ]
         rw[exy]
         exact Gr h2
        have r2:bV ((o.take i++[b]).map (xAt p)) (wrH (xAt p b))=some (nxH (bV ((o.take i).map (xAt p))) (xAt p b)):=by
         rw[v3]
         show bV ((o.take i).map (xAt p)++[xAt p b]) _=_
         rw[fH]
         show(if wrH (xAt p b)=wrH (xAt p b)then _ else _)=_
         rw[if_pos rfl]
        generalize nxH (bV ((o.take i).map (xAt p))) (xAt p b)=tr at r1 r2
        walk_at "b"
        refine⟨wrH (xAt p b),t1,rfl,by rw[dZ rfl],b8 tr,by rw[hT1.lk,r1];rfl,?_⟩
        walk_at "b"
        refine⟨wrH (xAt p b),tz,rfl,by rw[aX],b8 tr,by rw[hTz.lk,r2];rfl,?_⟩
        refine Qw ?_
        walk_at "b"
        refine hf _ _ ⟨J++[.non::t1.map encC]++[.non::tz.map encC],_,_,_,_,_,_,_,_,_,by rw[List.append_assoc,List.append_assoc,List.append_assoc],fT2,rfl⟩
    . rw[ZH h]
      walk_at "b"
      exact hf _ _ ⟨J,_,_,_,_,_,_,_,_,_,rfl,fT,rfl⟩
   walk_at "b"
   refine⟨_,bA (M6 g1),?_⟩
   walk_at "b"
   refine⟨_,bA (j:=i+1) (M6 g2),?_⟩
   walk_at "b"
   rw[yz %[|0],Int.toNat_natCast]
   refine⟨by rw[List.length_take,dW];show _+2≤_;omega,?_⟩
   walk_at "b"
   rw[J9 %[|0],show((i:Int)+2).toNat=i+2 from %[|0]]
   refine⟨by rw[x6,List.length_take,List.length_drop,dW];show _+2+_≤_;omega,?_⟩
   rw[Ny g1 g2]
   walk_at "b"
   refine⟨rfl,p,16,a,b,xAt p a,xAt p b,rfl,hP,%[|3],%[|3],fT,hx,hy,?_⟩
   rw[ZH hab]
   cases ht:rY (crs (xAt p a)) (crs (xAt p b))with
   | true=>
     walk_at "n"
     refine⟨λ e=>(y6 e).elim,λ _=>?_⟩
     walk_at "n"
     refine⟨λ e=>(y6 e).elim,λ _=>?_⟩
     walk_at "n"
     simp only[List.set_cons_succ,List.set_cons_zero]
     exact key J _ o11 o12 o13 o14 o15 fT
   | false=>
     walk_at "b"
     obtain⟨t1,t2,t3⟩:=Q7 ht
     have hSw:iB (aP p).length (swp o i a b):=Dh (swap_perm g1 g2 hO)
     refine⟨rfl,p,16,swp o i a b,rfl,hP,%[|3],%[|3],fT,hSw,λ tb hTb=>?_⟩
     have eR:bV ((swp o i a b).map (xAt p))=bV (o.map (xAt p)):=by
      have e1:(swp o i a b).map (xAt p)=(o.take i).map (xAt p)++[xAt p b,xAt p a]++(o.drop (i+2)).map (xAt p):=by unfold swp;rw[v3,v3];rfl
      have e2:o.map (xAt p)=(o.take i).map (xAt p)++[xAt p a,xAt p b]++(o.drop (i+2)).map (xAt p):=by
       have e:=congrArg (List.map (xAt p)) es
       rw[v3,v3]at e
       exact e
      rw[e1,e2]
      exact MP (λ e=>t1 (Dc e)) (Gr t2) (Gr t3)
     rw[eR]at hTb
     have fT2:flat (S4++J++[.non::tb.map encC]):=cg fT hTb.nl
     walk_at "n"
     refine⟨(S4++J).length,K,tb,tl,rfl,rfl,aX _ _,?_,hTb.ok,hT.ok,?_⟩
     . rw[List.append_assoc,x8 hK];exact at4
     rw[QC hTb hT]
     walk_at "n"
     refine⟨λ e=>(y6 e).elim,λ _=>?_⟩
     walk_at "n"
     simp only[List.set_cons_succ,List.set_cons_zero]
     rw[List.append_assoc]at fT2 ⊢
     exact key _ _ o11 o12 o13 o14 o15 fT2
 . rintro Γ' T ⟨J,o7,o8,o9,o10,o11,o12,o13,o14,o15,rfl,fT,rfl⟩
   walk_at "b"
   exact hw _
end K18
namespace K18
open PySem PySem.Spec L2 DL RF
open PyProof.Rows
variable {Ω : Wd} {f : Addr} {fd : FuncData}
theorem by1{G:List Value->Prop}(h:∀a0:Value,G [a0])(us:List Value)(e:us.length=1):G us:=by
 obtain⟨a0,us,rfl⟩:=List.exists_cons_of_length_eq_add_one e
 replace e:=Nat.succ.inj e
 obtain rfl:=List.eq_nil_of_length_eq_zero e
 exact h a0
theorem by2{G:List Value->Prop}(h:∀a0 a1:Value,G [a0,a1])(us:List Value)(e:us.length=2):G us:=by
 obtain⟨a0,us,rfl⟩:=List.exists_cons_of_length_eq_add_one e
 replace e:=Nat.succ.inj e
 obtain⟨a1,us,rfl⟩:=List.exists_cons_of_length_eq_add_one e
 replace e:=Nat.succ.inj e
 obtain rfl:=List.eq_nil_of_length_eq_zero e
 exact h a0 a1
theorem by3{G:List Value->Prop}(h:∀a0 a1 a2:Value,G [a0,a1,a2])(us:List Value)(e:us.length=3):G us:=by
 obtain⟨a0,us,rfl⟩:=List.exists_cons_of_length_eq_add_one e
 replace e:=Nat.succ.inj e
 obtain⟨a1,us,rfl⟩:=List.exists_cons_of_length_eq_add_one e
 replace e:=Nat.succ.inj e
 obtain⟨a2,us,rfl⟩:=List.exists_cons_of_length_eq_add_one e
 replace e:=Nat.succ.inj e
 obtain rfl:=List.eq_nil_of_length_eq_zero e
 exact h a0 a1 a2
theorem by4{G:List Value->Prop}(h:∀a0 a1 a2 a3:Value,G [a0,a1,a2,a3])(us:List Value)(e:us.length=4):G us:=by
 obtain⟨a0,us,rfl⟩:=List.exists_cons_of_length_eq_add_one e
 replace e:=Nat.succ.inj e
 obtain⟨a1,us,rfl⟩:=List.exists_cons_of_length_eq_add_one e
 replace e:=Nat.succ.inj e
 obtain⟨a2,us,rfl⟩:=List.exists_cons_of_length_eq_add_one e
 replace e:=Nat.succ.inj e
 obtain⟨a3,us,rfl⟩:=List.exists_cons_of_length_eq_add_one e
 replace e:=Nat.succ.inj e
 obtain rfl:=List.eq_nil_of_length_eq_zero e
 exact h a0 a1 a2 a3
def FI(K:PySem.W.Frag)(x:Str)(t:Stmt):Prop:=∃(f:Addr) (oc:Value) (od:Option Addr) (kV dc pm:Value) (an:Option Addr) (cd ct:Value) (sl:Array (Option Value)),PySem.W.nsIn K mainGlobals x=some (some (.ref f))/\K.lookup f=some ⟨oc,od,.func (PySem.W.fnOf x x (eV t) (cA t) (aL t) .none kV dc pm an cd ct),sl⟩/\PySem.W.codeIn K cd x=true/\PySem.W.keepIn K (.ref f)=true
theorem FI.mk{K:PySem.W.Frag}{x:Str}{t:Stmt}{f:Addr}{oc:Value}{od:Option Addr}{kV dc pm:Value}{an:Option Addr}{cd ct:Value}{sl:Array (Option Value)}(a:PySem.W.nsIn K mainGlobals x=some (some (.ref f)))(l:K.lookup f=some ⟨oc,od,.func (PySem.W.fnOf x x (eV t) (cA t) (aL t) .none kV dc pm an cd ct),sl⟩)(c:PySem.W.codeIn K cd x=true)(k:PySem.W.keepIn K (.ref f)=true):FI K x t:=⟨f,oc,od,kV,dc,pm,an,cd,ct,sl,a,l,c,k⟩
abbrev FU(Ω:Wd)(x:Str)(t:Stmt):Prop:=∃f fd,Fun Ω.K x x t f fd/\Ω.mg x=some (.ref f)
theorem FI.use{Ω:Wd}{h:Heap}{x:Str}{t:Stmt}(X:Ω.K.In h)(G:h.Ns mainGlobals Ω.mg)(q:FI Ω.K x t):FU Ω x t:=by
 obtain⟨f,oc,od,kV,dc,pm,an,cd,ct,sl,a,l,c,k⟩:=q
 exact⟨f,_,Hb (st:=t) l c k,PySem.W.mg_of X G a⟩
theorem Tq{Ω:Wd}(B:Bi Ω.mg)
(u0:FU Ω "is_whole" ie)
(u1:FU Ω "is_tuple_of" d7)
(u2:FU Ω "is_widths" fQ)
(u3:FU Ω "is_form" iJ)
(u4:FU Ω "is_bound" ig)
(u5:FU Ω "is_loop" jh)
(u6:FU Ω "is_loops" gK)
(u7:FU Ω "has_few_figures" cM)
(u8:FU Ω "is_start" gq)
(u9:FU Ω "is_place_form" dh)
(u10:FU Ω "is_table_with_place" bU)
(u11:FU Ω "is_read" iR)
(u12:FU Ω "is_reads" gV)
(u13:FU Ω "is_deed" iM)
(u14:FU Ω "is_nest" iQ)
(u15:FU Ω "is_nests" gJ)
(u16:FU Ω "comes_to" gQ)
(u17:FU Ω "with_next_count" cN)
(u18:FU Ω "counts_of" fP)
(u19:FU Ω "number_of_steps" cL)
(u20:FU Ω "program_of" eU)
(u21:FU Ω "steps_of" gY)
(u22:FU Ω "deed_of" iU)
(u23:FU Ω "cell_at" iI)
(u24:FU Ω "cells_of_step" cX)
(u25:FU Ω "cells_of" gW)
(u26:FU Ω "touched_cells" di)
(u27:FU Ω "touches" jb)
(u28:FU Ω "is_row" jQ)
(u29:FU Ω "refuse_no_row" cY)
(u30:FU Ω "trace_held" eY)
(u31:FU Ω "add_times" fM)
(u32:FU Ω "trace_of_step" dg)
(u33:FU Ω "told_trace" eO)
(u34:FU Ω "traced" jG)
(u35:FU Ω "_law_cell" pX)
(u36:FU Ω "_law_pen" sV)
(u37:FU Ω "_law_take" qg)
(u38:FU Ω "_law_loops" lR)
(u39:FU Ω "_law_form" pq)
(u40:FU Ω "_law_deed" pK)
(u41:FU Ω "_law_program" iV)
(u42:FU Ω "_law_at" zY)
(u43:FU Ω "_law_counts" j5)
(u44:FU Ω "_law_spot" pY)
(u45:FU Ω "_law_steps" mj)
(u46:FU Ω "_law_order" lO)
{f:Addr}{fd:FuncData}(F:Fun Ω.K "law" "law" kj f fd)(N0:Ω.cd=none):Ok Ω 11 f fd M9 nD:=by
 obtain⟨_,_,F0,g0⟩:=u0
 have Cq34:=callee F0 (vo F0 N0 B) g0 (F0.binds λ _ _ _ _ _ _=>by1 λ _=>rfl)
 obtain⟨_,_,F0,g0⟩:=u1
 have Cq33:=callee F0 (pP F0 N0 B) g0 (F0.binds λ _ _ _ _ _ _=>by3 λ _ _ _=>rfl)
 obtain⟨_,_,F0,g0⟩:=u2
 have Cq35:=callee F0 (tY F0 N0 B Cq34 Cq33) g0 (F0.binds λ _ _ _ _ _ _=>by1 λ _=>rfl)
 obtain⟨_,_,F0,g0⟩:=u3
 have Cq22:=callee F0 (zx F0 N0 B Cq34 Cq33) g0 (F0.binds λ _ _ _ _ _ _=>by2 λ _ _=>rfl)
 obtain⟨_,_,F0,g0⟩:=u4
 have Cq20:=callee F0 (vh F0 N0 B Cq22) g0 (F0.binds λ _ _ _ _ _ _=>by2 λ _ _=>rfl)
 obtain⟨_,_,F0,g0⟩:=u5
 have Cq23:=callee F0 (Aa F0 N0 Cq33 Cq20) g0 (F0.binds λ _ _ _ _ _ _=>by2 λ _ _=>rfl)
 obtain⟨_,_,F0,g0⟩:=u6
 have Cq24:=callee F0 (wg F0 N0 B Cq33 Cq23) g0 (F0.binds λ _ _ _ _ _ _=>by1 λ _=>rfl)
 obtain⟨_,_,F0,g0⟩:=u7
 have Cq19:=callee F0 (jY F0 N0 B) g0 (F0.binds λ _ _ _ _ _ _=>by1 λ _=>rfl)
 obtain⟨_,_,F0,g0⟩:=u8
 have Cq31:=callee F0 (vM F0 N0 B Cq22 Cq19) g0 (F0.binds λ _ _ _ _ _ _=>by2 λ _ _=>rfl)
 obtain⟨_,_,F0,g0⟩:=u9
 have Cq27:=callee F0 (mz F0 N0 B Cq22) g0 (F0.binds λ _ _ _ _ _ _=>by2 λ _ _=>rfl)
 obtain⟨_,_,F0,g0⟩:=u10
 have Cq32:=callee F0 (gZ F0 N0 B Cq34 Cq33 Cq27) g0 (F0.binds λ _ _ _ _ _ _=>by4 λ _ _ _ _=>rfl)
 obtain⟨_,_,F0,g0⟩:=u11
 have Cq28:=callee F0 (yj F0 N0 Cq34 Cq33 Cq19 Cq32) g0 (F0.binds λ _ _ _ _ _ _=>by3 λ _ _ _=>rfl)
 obtain⟨_,_,F0,g0⟩:=u12
 have Cq29:=callee F0 (vq F0 N0 B Cq33 Cq28) g0 (F0.binds λ _ _ _ _ _ _=>by3 λ _ _ _=>rfl)
 obtain⟨_,_,F0,g0⟩:=u13
 have Cq21:=callee F0 (xG F0 N0 Cq33 Cq31 Cq32 Cq29) g0 (F0.binds λ _ _ _ _ _ _=>by3 λ _ _ _=>rfl)
 obtain⟨_,_,F0,g0⟩:=u14
 have Cq25:=callee F0 (wI F0 N0 B Cq33 Cq24 Cq21) g0 (F0.binds λ _ _ _ _ _ _=>by2 λ _ _=>rfl)
 obtain⟨_,_,F0,g0⟩:=u15
 have Cq26:=callee F0 (vD F0 N0 B Cq33 Cq25) g0 (F0.binds λ _ _ _ _ _ _=>by2 λ _ _=>rfl)
 obtain⟨_,_,F0,g0⟩:=u16
 have Cq16:=callee F0 (vL F0 N0 B) g0 (F0.binds λ _ _ _ _ _ _=>by2 λ _ _=>rfl)
 obtain⟨_,_,F0,g0⟩:=u17
 have Cq46:=callee F0 (jP F0 N0 B Cq16) g0 (F0.binds λ _ _ _ _ _ _=>by3 λ _ _ _=>rfl)
 obtain⟨_,_,F0,g0⟩:=u18
 have Cq17:=callee F0 (rN F0 N0 Cq46) g0 (F0.binds λ _ _ _ _ _ _=>by1 λ _=>rfl)
 obtain⟨_,_,F0,g0⟩:=u19
 have Cq36:=callee F0 (jH F0 N0 B Cq17) g0 (F0.binds λ _ _ _ _ _ _=>by1 λ _=>rfl)
 obtain⟨_,_,F0,g0⟩:=u20
 have Cq37:=callee F0 (qK F0 N0 B Cq35 Cq26 Cq36) g0 (F0.binds λ _ _ _ _ _ _=>by2 λ _ _=>rfl)
 obtain⟨_,_,F0,g0⟩:=u21
 have Cq39:=callee F0 (v5 F0 N0 B Cq17) g0 (F0.binds λ _ _ _ _ _ _=>by1 λ _=>rfl)
 obtain⟨_,_,F0,g0⟩:=u22
 have Cq18:=callee F0 (yt F0 N0) g0 (F0.binds λ _ _ _ _ _ _=>by2 λ _ _=>rfl)
 obtain⟨_,_,F0,g0⟩:=u23
 have Cq13:=callee F0 (zK F0 N0 B Cq16) g0 (F0.binds λ _ _ _ _ _ _=>by3 λ _ _ _=>rfl)
 obtain⟨_,_,F0,g0⟩:=u24
 have Cq15:=callee F0 (mH F0 N0 Cq18 Cq13) g0 (F0.binds λ _ _ _ _ _ _=>by2 λ _ _=>rfl)
 obtain⟨_,_,F0,g0⟩:=u25
 have Cq14:=callee F0 (vC F0 N0 Cq39 Cq15) g0 (F0.binds λ _ _ _ _ _ _=>by1 λ _=>rfl)
 obtain⟨_,_,F0,g0⟩:=u26
 have Cq41:=callee F0 (mW F0 N0 B) g0 (F0.binds λ _ _ _ _ _ _=>by2 λ _ _=>rfl)
 obtain⟨_,_,F0,g0⟩:=u27
 have Cq42:=callee F0 (zf F0 N0 Cq14 Cq41) g0 (F0.binds λ _ _ _ _ _ _=>by3 λ _ _ _=>rfl)
 obtain⟨_,_,F0,g0⟩:=u28
 have Cq30:=callee F0 (BP F0 N0 B Cq34 Cq36) g0 (F0.binds λ _ _ _ _ _ _=>by2 λ _ _=>rfl)
 obtain⟨_,_,F0,g0⟩:=u29
 have Cq38:=callee F0 (lV F0 N0 Cq30) g0 (F0.binds λ _ _ _ _ _ _=>by2 λ _ _=>rfl)
 obtain⟨_,_,F0,g0⟩:=u30
 have Cq43:=callee F0 (qY F0 N0) g0 (F0.binds λ _ _ _ _ _ _=>by2 λ _ _=>rfl)
 obtain⟨_,_,F0,g0⟩:=u31
 have Cq12:=callee F0 (su F0 N0) g0 (F0.binds λ _ _ _ _ _ _=>by3 λ _ _ _=>rfl)
 obtain⟨_,_,F0,g0⟩:=u32
 have Cq44:=callee F0 (lW F0 N0 B Cq16 Cq43 Cq12) g0 (F0.binds λ _ _ _ _ _ _=>by4 λ _ _ _ _=>rfl)
 obtain⟨_,_,F0,g0⟩:=u33
 have Cq40:=callee F0 (qR F0 N0 B) g0 (F0.binds λ _ _ _ _ _ _=>by1 λ _=>rfl)
 obtain⟨_,_,F0,g0⟩:=u34
 have Cq45:=callee F0 (Bw F0 N0 Cq39 Cq18 Cq14 Cq38 Cq44 Cq40) g0 (F0.binds λ _ _ _ _ _ _=>by2 λ _ _=>rfl)
 obtain⟨_,_,F0,g0⟩:=u35
 have Cq1:=callee F0 (Jc F0 N0 B) g0 (F0.binds λ _ _ _ _ _ _=>by2 λ _ _=>rfl)
 obtain⟨_,_,F0,g0⟩:=u36
 have Cq7:=callee F0 (Lw F0 N0 Cq1) g0 (F0.binds λ _ _ _ _ _ _=>by2 λ _ _=>rfl)
 obtain⟨_,_,F0,g0⟩:=u37
 have Cq11:=callee F0 (JB F0 N0 Cq1) g0 (F0.binds λ _ _ _ _ _ _=>by2 λ _ _=>rfl)
 obtain⟨_,_,F0,g0⟩:=u38
 have Cq5:=callee F0 (GD F0 N0 B Cq11) g0 (F0.binds λ _ _ _ _ _ _=>by2 λ _ _=>rfl)
 obtain⟨_,_,F0,g0⟩:=u39
 have Cq4:=callee F0 (Jf F0 N0 B Cq11) g0 (F0.binds λ _ _ _ _ _ _=>by3 λ _ _ _=>rfl)
 obtain⟨_,_,F0,g0⟩:=u40
 have Cq3:=callee F0 (HD F0 N0 B Cq11 Cq4) g0 (F0.binds λ _ _ _ _ _ _=>by3 λ _ _ _=>rfl)
 obtain⟨_,_,F0,g0⟩:=u41
 have Cq8:=callee F0 (wW F0 N0 B Cq11 Cq5 Cq3) g0 (F0.binds λ _ _ _ _ _ _=>by2 λ _ _=>rfl)
 obtain⟨_,_,F0,g0⟩:=u42
 have Cq0:=callee F0 (N8 F0 N0 B) g0 (F0.binds λ _ _ _ _ _ _=>by2 λ _ _=>rfl)
 obtain⟨_,_,F0,g0⟩:=u43
 have Cq2:=callee F0 (Cg F0 N0 B Cq0) g0 (F0.binds λ _ _ _ _ _ _=>by1 λ _=>rfl)
 obtain⟨_,_,F0,g0⟩:=u44
 have Cq9:=callee F0 (IW F0 N0 B Cq0) g0 (F0.binds λ _ _ _ _ _ _=>by3 λ _ _ _=>rfl)
 obtain⟨_,_,F0,g0⟩:=u45
 have Cq10:=callee F0 (FW F0 N0 Cq0 Cq2 Cq9) g0 (F0.binds λ _ _ _ _ _ _=>by1 λ _=>rfl)
 obtain⟨_,_,F0,g0⟩:=u46
 have Cq6:=callee F0 (Er F0 N0 B Cq11) g0 (F0.binds λ _ _ _ _ _ _=>by2 λ _ _=>rfl)
 exact Tw F N0 B Cq37 Cq42 Cq45 Cq7 Cq8 Cq10 Cq6
theorem all_mk{l:PySem.W.OpenLaw}{w:World}{K:PySem.W.Frag}{h:Heap}{mg:Str->Option Value}{fa:Addr}(X:K.In h)(G:h.Ns mainGlobals mg)(hfa:mg "law"=some (.ref fa))(q:FI K "law" kj)
(q0:FI K "is_whole" ie)
(q1:FI K "is_tuple_of" d7)
(q2:FI K "is_widths" fQ)
(q3:FI K "is_form" iJ)
(q4:FI K "is_bound" ig)
(q5:FI K "is_loop" jh)
(q6:FI K "is_loops" gK)
(q7:FI K "has_few_figures" cM)
(q8:FI K "is_start" gq)
(q9:FI K "is_place_form" dh)
(q10:FI K "is_table_with_place" bU)
(q11:FI K "is_read" iR)
(q12:FI K "is_reads" gV)
(q13:FI K "is_deed" iM)
(q14:FI K "is_nest" iQ)
(q15:FI K "is_nests" gJ)
(q16:FI K "comes_to" gQ)
(q17:FI K "with_next_count" cN)
(q18:FI K "counts_of" fP)
(q19:FI K "number_of_steps" cL)
(q20:FI K "program_of" eU)
(q21:FI K "steps_of" gY)
(q22:FI K "deed_of" iU)
(q23:FI K "cell_at" iI)
(q24:FI K "cells_of_step" cX)
(q25:FI K "cells_of" gW)
(q26:FI K "touched_cells" di)
(q27:FI K "touches" jb)
(q28:FI K "is_row" jQ)
(q29:FI K "refuse_no_row" cY)
(q30:FI K "trace_held" eY)
(q31:FI K "add_times" fM)
(q32:FI K "trace_of_step" dg)
(q33:FI K "told_trace" eO)
(q34:FI K "traced" jG)
(q35:FI K "_law_cell" pX)
(q36:FI K "_law_pen" sV)
(q37:FI K "_law_take" qg)
(q38:FI K "_law_loops" lR)
(q39:FI K "_law_form" pq)
(q40:FI K "_law_deed" pK)
(q41:FI K "_law_program" iV)
(q42:FI K "_law_at" zY)
(q43:FI K "_law_counts" j5)
(q44:FI K "_law_spot" pY)
(q45:FI K "_law_steps" mj)
(q46:FI K "_law_order" lO)
 {t_MOST_STEPS:Tok}(z_MOST_STEPS:PySem.W.nsIn K mainGlobals "MOST_STEPS"=some (some (.int 60 t_MOST_STEPS)))
 (z_abs:PySem.W.nsIn K mainGlobals "abs"=some none)
 (z_all:PySem.W.nsIn K mainGlobals "all"=some none)
 (z_bool:PySem.W.nsIn K mainGlobals "bool"=some none)
 (z_enumerate:PySem.W.nsIn K mainGlobals "enumerate"=some none)
 (z_int:PySem.W.nsIn K mainGlobals "int"=some none)
 (z_isinstance:PySem.W.nsIn K mainGlobals "isinstance"=some none)
 (z_len:PySem.W.nsIn K mainGlobals "len"=some none)
 (z_list:PySem.W.nsIn K mainGlobals "list"=some none)
 (z_max:PySem.W.nsIn K mainGlobals "max"=some none)
 (z_min:PySem.W.nsIn K mainGlobals "min"=some none)
 (z_range:PySem.W.nsIn K mainGlobals "range"=some none)
 (z_set:PySem.W.nsIn K mainGlobals "set"=some none)
 (z_sorted:PySem.W.nsIn K mainGlobals "sorted"=some none)
 (z_sum:PySem.W.nsIn K mainGlobals "sum"=some none)
 (z_tuple:PySem.W.nsIn K mainGlobals "tuple"=some none)
 (z_zip:PySem.W.nsIn K mainGlobals "zip"=some none)
 :∃fd:FuncData,(∀(s:Shared)(v:Value),BindsTo s fd ⟨[v],[]⟩ [("_law_script",v)])/\∀base:Heap,K.In base->base.Ns mainGlobals mg->FnOk l.prog w K mg base CX0 11 fa fd ["_law_script"] (spC K 1 nD):=by
 obtain⟨f,oc,od,kV,dc,pm,an,cd,ct,sl,a,l',c,k⟩:=q
 have e:=hfa.symm.trans (PySem.W.mg_of X G a)
 cases e
 refine⟨PySem.W.fnOf "law" "law" (eV kj) (cA kj) (aL kj) .none kV dc pm an cd ct,λ s v=>.of_eq rfl,λ base _ _=>?_⟩
 have B:Bi mg:=⟨⟨_,PySem.W.mg_of X G z_MOST_STEPS⟩,PySem.W.mg_none_of X G z_abs,PySem.W.mg_none_of X G z_all,PySem.W.mg_none_of X G z_bool,PySem.W.mg_none_of X G z_enumerate,PySem.W.mg_none_of X G z_int,PySem.W.mg_none_of X G z_isinstance,PySem.W.mg_none_of X G z_len,PySem.W.mg_none_of X G z_list,PySem.W.mg_none_of X G z_max,PySem.W.mg_none_of X G z_min,PySem.W.mg_none_of X G z_range,PySem.W.mg_none_of X G z_set,PySem.W.mg_none_of X G z_sorted,PySem.W.mg_none_of X G z_sum,PySem.W.mg_none_of X G z_tuple,PySem.W.mg_none_of X G z_zip⟩
 exact Tq (Ω:=⟨_,w,K,mg,base,none⟩) B (q0.use X G) (q1.use X G) (q2.use X G) (q3.use X G) (q4.use X G) (q5.use X G) (q6.use X G) (q7.use X G) (q8.use X G) (q9.use X G) (q10.use X G) (q11.use X G) (q12.use X G) (q13.use X G) (q14.use X G) (q15.use X G) (q16.use X G) (q17.use X G) (q18.use X G) (q19.use X G) (q20.use X G) (q21.use X G) (q22.use X G) (q23.use X G) (q24.use X G) (q25.use X G) (q26.use X G) (q27.use X G) (q28.use X G) (q29.use X G) (q30.use X G) (q31.use X G) (q32.use X G) (q33.use X G) (q34.use X G) (q35.use X G) (q36.use X G) (q37.use X G) (q38.use X G) (q39.use X G) (q40.use X G) (q41.use X G) (q42.use X G) (q43.use X G) (q44.use X G) (q45.use X G) (q46.use X G) (Hb (st:=kj) l' c k) rfl
end K18
local macro_rules|`(universe $[$x]*)=>do return Lean.mkNullNode (←x.mapM fun i=>do
 let n:=Lean.mkIdent (.mkSimple s!"tw{i.getId.toString.toList.tail.foldl (fun a c=>a*62+c.toNat-if c.isDigit then 48 else if c.isUpper then 55 else 61) 0}")
 `(def $n:ident:=()))
namespace PySem.W.Fast
universe uHrLv584eyc2 uIhXU2M9diaf uVowDYnPos u6eGHXt5Nd1m uDrlRA3yNub1 uHlSgiHnReH2 uBph8hpv6eWZ u1fHzpHF9C0U uGTLIs0WjCow u9Xx9Ud47daK u4uXaaxBemJE uLv6vQeMltRT uJZwsUT2Z0UH uASS8HQbPPBV u1P3Eg5GBHvl uEeLpe6VHnfP u3yg6sCm5Xvb u6EpCpl6Fi4d uFCcOEL3lrff u8bnUOEAHmlI uFBY7GRRZ1xT uDAbmKZ7XpBV u5i5g9IvVEp4 uKB27anwLKhP uD5dgTLn5NiJ uC1EvwJCpz4S uBJm8fCYIjMr u8RNekd0AJVM uG6mFhIDTlsX u2uMwG4doeyd u9RMJjEqkixb uEFX4cXzQyC8 uGpB7WnAWAgf uHg5NPiyFMH2 ueB8kbMpNYC uBZPnfQHEABM u7O5CuX9Re7g u26g0v73j75f uKqPV45pQV5X u4RiyKLd7yZ6 uIpcHjjCz1uM u94Nn7fvKR4E uHSM8NZ6qHN1 uD0YEdyiDZDp uB96cZ3Gcckk u5A6WaDOHrPF u3iz2GksliRw uCb7hoeaO6Ur u6zKrZct8UNu u8TVtDh4LQo5 u1f1N6oYwrdX uD8drsoqMQ65 u3Zm8VJYt07N u2xVtQXWpkOd uDhWn2FuY2ik u3KHBxZ89LMo u9EG0KcxB2jL uKP2SECxt9yO uEM1WAWIMJ0q u9qClix68htc u7HqJQtQWGJS uFGS1enlmvU1 u3abmM8ihbM6 uAoOAx54xzqa u40KnMlaCSIe uJuPdzeay0Yw uuAr7ZJmZCp uDhAkJabyIox u63oJR6n9H2m uCiCOfT4mDUa uHV4oZC5RPgY uGg8uvyeGknO u8hDZpkAtDWF uJnne8Jts2EY u9sGmfTPxoUr u2JnPe2fyXvJ uBfPOZygByWa uI98Tghj4e6j uJ5GZYq4aqBi uF5cKpelgotE u79glk9LtzfN uBMjkD6Kc4s uH2WXLuHmvBs uHGt32ef0QMq uJutlKLkCZXJ uIM6A1IXy4sv uBnoMBujOQXO u2QICxDHi0aW u5ruboIT4nLj uD66M7c28QwO u9m2a994R5Y5 uBVkEIVZIZHb u6Gfobfic4Zl uC4hPEwpqiFf uGpWOVjfi7DJ u8VXAhzWveDK uKWD8eh9l1tf uCe3xSFphWBX uAC0ZWed5HSS u5DkBdPKlrlj u3UGYOsqwilo u6ISZRKxZP2S u6fuz4r9Uhkp uFpdeyF8OPTo u3WW7XxpW5In u97hy0DmvMt1 uhRyguJ3ZHg uDYZqLcW7cYH u2gcQVILfTd4 uFPJ8d5XntnU u1DCCLnTx2Bj u5YY2YBQAroP uCP4VQRoHOSO uFxmIY51RQM5 u53YeXWBUoEF uL96E96AAKDO u1cHzWru6WbU u49Eotj9Sn0i uGaU2BzY8DzD uJkDiOzGzRcK uJz0UlV9r1k6 uCnuXPwIbiZS uIoCSQ9kVyMi uHiqNNES9yZH u5a3ncjCGBhi u9oUx9aajvTL uJJOEPcmRhiC u5IJbNf7v7Z5 uATKon6Totaa u7mZRumZJFbf u5WssIX5O5Ro u2513yWywSLo uJOEvj8t9q97 uDYjSr3LNrlU u95fo4MhSC3Z u1pwCNiSILc5 uADG1jKxR7Ub uFXvXHCDc8LE uF4N3tQOZM54 u8e5KbASxoBN u19j94GLgo8j uEJdd47BkzyA u6YgexBMmHHF uIRMY84M4jUq u38iJXuatIjl u3JKwm5HvnOr uEL0ke2O3plf uChzw5Mzi2qD u9HO9xN6nonw u1vx9g7hn5pf uERiRiVsmdk2 uE4BTSuMD7Lj uCWMqkvo2obE uDzg4UT38ZCu uAQPRiFOJ3sw uEfFdyFGOI7b uCzQ7e9V797y uAAKyaBNvj60 u8tqHWVQNSJb uI3hYGtYzFal utqtxr4SXHU u8fHHQVZmwe6 uB9FbqThbY8N uBnjnNhQFZAF u79daa3XUhvs u1SlkhwyZaFt uG3fXpyIM6MW uCe78aUVqT6w uLntz5W6mjTd u7CBovJ6Exfv u35eMjV2v1du u9GLnhRiGseF u9wAgZJ7wri1 uBi6IzvhyZGU uHK3Mu1DqquM uLU4fYgXbmAG uGNsQeGCAKCp uBZD4hOZCoHZ uBBDAUoO7T9W u97gadkUKfJM uJIfpwXDQIrb u2ZpgRN0VjAy u273RzCxVK9I uJghXjzd3frJ uGFdRZjc3sBs uKzyTenbb3wR uCq4lbO0jg1C uCTiAovjiaXq uDjFmXRtEfFb u1mvKkdJnNtq uEufIMCHShb uLvhqmxm4kIc uDjwi2xLkiDt u6lEXo2odmJG uJqIMZiE4oM0 uHBm3Y1phuiU uJIyEKKZIrmt u2tkSkXLWuF0 uGndae9IEYv1 u2Cku6pzlx5y uEOCIMVxXlmE uB1ZmxAgCo9e u3bNDzZILKN4 uKyVO3WgFQVv uGtQ3eUGjTqP uIuGrLYsKC01 u1B5RwfTnL57 uIa45VzKAs4f uJdiG58ijGjd uHZNMU1DNV2y uBc6nnTSVt6v uFNnmKYZckfV uDzhhsVxV4lp uK3UQc4HT4EO uHuFemd9jOAK u1cxEVajFErZ u43zDwFtMPqM uH98csaFYyuO uFAPu6cuHjGL uCJ41ddX366l uAvUp82xSDy6 uDznzrtTvZ5p uO8Slm15fO4 u1yn7IT3QCBD u1H7nqrPdvHo uimQDwMxyyW u2PD9vE4bEad uIF7AiiS5SNN uEBaFKFuaa9E u2Sgw5FhiIoH uLhOBQ1rhL2N u9WrDimS0GVH u6wQgR2YAbD7 u4gZNMzcUNfK u5YRAOqAyJyf uKOfBbqVbcA4 uHbZKsHPRj9P uE8PVf77N1y0 uJ3nsxsKW1yT uDTqJFjIqCj uD1WDSmaj1wm u5uloFfyqGrg u2urlsNEvGEW u5CffOU4iUg5 uBaSmXQwJjbO uEYE9rolRv30 u54XH8xk9PSx uCaSzSvBT86r uLtFftFwtNOV u4PBZrLXgv5k uEw2uYRIyUTT uGIYmTJd7u4 uwGuh5cGYQp u9jzQ80NVUql uKM8HHghwT1T uKRyQJgKiynP u3ZpBgsYOTK7 u1oWN9XESWpf u4UD8SM8e5vp u6wiiBMSCXf4 u6jnF1jjHywT uB0jc4DdWWyw usRRj4ur6xL uLVodIbuOf8j uKH1G6ioPar6 u7JwK46G4ENe uEh0dYCMJVSk uKRvFhjEpkUn uInw7yHKb3Lk u5HZJxAtB6sE uGkk9zI6iPQt u5XW8QXT2EsG uF9f0KSLLD0z u81gjLbjDBJM u3ZKkVpjgBJx uD9X0Ht0PVe8 uE52yeDTXjqO uLkVR2zHkWuc u7gGOrXEy0Ru u9uwatdVE35X uLqZP6wL1BO3 u1up88MVVg0g uCEk9KjYL2Dh uKRLED5bkKkR uBhXFdKA88cs u3zA6ZJnW21n uIklJLnEdDTJ u16IMUN4e4lB u1D3pLIwj7bc uAJTMntHSMiq u65TNscCV9Sb uIjpin1qy3of uJdjYYTsY4sJ u2yKd2929iSV uDwKZvV3eO1a uKBBr4ma4tUD uKKFc1wiFoP u59WrMOnQg0c uBobJy1jjNXu u6YvbbBNZTIW u1jGaNgl1kTM uBSSNcolBqhF uJLCuc6ZRWa9 uAUfd8ZPTM2q u8axQSw0cRpA u1NBps2y7Ua9 upBcLLhPGvQ u3Hd5PAxailb u951p9WRwWv u47KdpZKERAJ uIeYTMUeoQit u7hZsH5cZZjy u8KRkV5utnor u8mT5nonH3pb uBuCgcUZHtP6 uJbgb2WjZ3oZ u9bhI1DU9eE5 uCtlCDYrK127 u7bCo2aCF4PY uLIbKIwe2GhM u7XxATIWcUkH u6nYa00cFFA1 u5lwwIjBzJmO
end PySem.W.Fast
open PySem PySem.W PyProof.Rows
set_option maxRecDepth 100000 in
set_option maxHeartbeats 0 in
theorem PySem.Challenge.cw_nestturn_k18_whole_neighbours_change_pla_holds : PySem.Challenge.rw_nestturn_k18_whole_neighbours_change_pla.Holds := by
 w_on; o_law; k_head; (case hw => w_witness2)
 k_fill
 refine RF.walk (l := PySem.Challenge.rw_nestturn_k18_whole_neighbours_change_pla) (lev := 11) (x := "_law_script") rfl rfl ⟨rfl, %[|3], %[|3]⟩ (λ w h Y => by first | exact PySem.W.kIn_of Y | exact PySem.W.km_in_of Y) ?F
 case F =>
  intro w mg fa h KX G hmg
  refine' K18.all_mk KX G hmg ?_ ?_ ?_ ?_ ?_ ?_ ?_ ?_ ?_ ?_ ?_ ?_ ?_ ?_ ?_ ?_ ?_ ?_ ?_ ?_ ?_ ?_ ?_ ?_ ?_ ?_ ?_ ?_ ?_ ?_ ?_ ?_ ?_ ?_ ?_ ?_ ?_ ?_ ?_ ?_ ?_ ?_ ?_ ?_ ?_ ?_ ?_ ?_ ?_ ?_ ?_ ?_ ?_ ?_ ?_ ?_ ?_ ?_ ?_ ?_ ?_ ?_ ?_ ?_ ?_
  all_goals try first | (refine' K18.FI.mk ?a ?l ?c ?k; (case a => k_is); (case l => k_is); (case c => k_is); (case k => k_is)) | (show _ = _; k_is)
